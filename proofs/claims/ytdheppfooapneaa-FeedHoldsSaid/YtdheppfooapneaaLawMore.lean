import Derived.Test.YtdheppfooapneaaLaw
import Derived.Test.YtdheppfooapneaaCrc
import Derived.Deep.Matrix
import Derived.SizedLaws
import Derived.Test.YtdheppfooapneaaBase
import Derived.Deep.Slices
import Derived.Deep.Fields
import Derived.ChangeSame
import Derived.Lib.SmallJoins
import Derived.JoinedCond
/- A slice of rows of bytes that came in, with the form's own reach. -/
namespace Go.Proofs.Ytdheppfooapneaa
open Go.ChangeShapes Go.WideShapes Go.ChangeAt Go.RowKit

theorem weights_all_mem {H : Type} {P : Program} {e : TypeId} {l : List (DataW H)} {d : DataW H} (h : d ∈ l) : ∀ n ∈ d.weights P e, n ∈ DataW.weightsAll P e l := by
  intro n hn
  induction l with
  | nil => cases h
  | cons x l ih =>
    rw [DataW.weightsAll, List.mem_append]
    rcases List.mem_cons.1 h with rfl | h
    · exact Or.inl hn
    · exact Or.inr (ih h)
theorem open_parts {H : Type} {enc : TypeId × Value → H} {W : World} {base : Nat} {v : Value} {d : DataW H} {p : List MemPlace} (hv : Value.okWide Try.prog W .any base 29 v)
    (h : DataW.Trod enc Try.prog W 0 (fun _ => true) true 29 v d p) (hw : ∀ m ∈ d.weights Try.prog 29, m ≤ reachBytes) :
    ∃ A n c ls, v = .slice A n c ∧ Parts W A n c ls ∧ (∀ l ∈ ls, ∀ x ∈ l, x < 256) ∧ n ≤ 140737488355328 ∧ ∀ l ∈ ls, l.length ≤ 140737488355328 := by
  obtain ⟨A, n, c, rfl⟩ := okWide_slice Try.underlying29 hv
  obtain ⟨fuel, hf⟩ := h
  rcases Deep.open_int_rows Try.underlying29 Try.underlying22 Try.underlying5 (by kernel_rfl) (by kernel_rfl) hf with ⟨hcs, _⟩ | ⟨a, len, cap, A', L, C, Z, hcs, _, hl, hm, hx, hrow⟩
  · simp [Value.cells] at hcs
    obtain ⟨rfl, rfl, rfl⟩ := hcs
    exact ⟨_, _, _, [], rfl, Parts.none _, by simp, by omega, by simp⟩
  · simp [Value.cells] at hcs
    obtain ⟨rfl, rfl, rfl⟩ := hcs
    simp only [Prod.mk.injEq] at hx
    obtain ⟨rfl, _⟩ := hx
    have hR : ∀ r, r < n → Has W (A' r) (L r) (C r) (u8s (((Z r).take (L r)).map Int.toNat)) ∧ ∀ x ∈ ((Z r).take (L r)).map Int.toNat, x < 256 := fun r hr => by
      obtain ⟨_, h1, _, h3, h4, h5, h6⟩ := hrow r (by omega)
      exact row_has h1 h3 h4 h5 (fun a' ha j hj => (h6 a' ha).2 j hj)
    refine ⟨_, n, c, (List.range n).map fun r => ((Z r).take (L r)).map Int.toNat, rfl, ⟨(List.range n).map fun r => .slice (A' r) (L r) (C r), ⟨by simp, hl, (fun h => by cases h), fun hn => ?_⟩, by simp, fun i hi => ?_⟩, ?_, ?_, ?_⟩
    · obtain ⟨b, off, spot⟩ := a
      have h0 := (hrow 0 (by omega)).1
      have hspot : spot = none := by simpa [Addr.add] using World.cell?_spot h0
      subst hspot
      refine ⟨b, off, rfl, World.block_lt_of_cell? W _ h0, fun j u hu => ?_⟩
      have hj : j < n := by
        rcases Nat.lt_or_ge j n with hj | hj
        · exact hj
        · rw [List.getElem?_eq_none (by simp; omega)] at hu; cases hu
      have h1 := (hrow j (by omega)).1
      rw [add_plain] at h1
      simp [hj] at hu
      rw [h1, hu]
    · have hi' : i < n := by simpa using hi
      refine ⟨A' i, L i, C i, by simp [hi'], ?_⟩
      simpa using (hR i hi').1
    · intro l hl' x hx
      obtain ⟨r, hr, rfl⟩ := List.mem_map.1 hl'
      exact (hR r (List.mem_range.1 hr)).2 x hx
    · have hb : Try.prog.bytesOf 22 = 24 := by kernel_rfl
      have := hw (((List.range n).map fun r => (Deep.intRow .u8 (A' r) (L r) (Z r) : DataW H)).length * 24 + (c - n) * 24) (by
        simp only [DataW.weights, Try.underlying29, hb]
        rw [← Nat.add_mul]
        simp)
      simp only [List.length_map, List.length_range] at this
      have hrb := reachBytes_lt
      have e : (2 : Nat) ^ 47 = 140737488355328 := by decide
      omega
    · intro l hl'
      obtain ⟨r, hr, rfl⟩ := List.mem_map.1 hl'
      have hr' := List.mem_range.1 hr
      obtain ⟨_, h1, _, h3, _, h5, _⟩ := hrow r (by omega)
      simp only [List.length_map, List.length_take]
      cases hA : A' r with
      | none => have := h5 hA; omega
      | some a' =>
        have hin : (Deep.intRow .u8 (A' r) (L r) (Z r) : DataW H) ∈ (List.range n).map fun r => (Deep.intRow .u8 (A' r) (L r) (Z r) : DataW H) := List.mem_map.2 ⟨r, hr, rfl⟩
        have hin2 : ((Z r).take (L r)).length + ((Z r).drop (L r)).length ∈ (Deep.intRow .u8 (A' r) (L r) (Z r) : DataW H).weights Try.prog 22 := by
          have hb : Try.prog.bytesOf 5 = 1 := by kernel_rfl
          rw [hA]
          simp [Deep.intRow, DataW.weights, Try.underlying22, hb, lits]
        have := hw _ (by
          simp only [DataW.weights, Try.underlying29]
          exact List.mem_cons_of_mem _ (List.mem_append_left _ (weights_all_mem hin _ hin2)))
        have hrb := reachBytes_lt
        simp only [List.length_take, List.length_drop] at this
        have e : (2 : Nat) ^ 47 = 140737488355328 := by decide
        omega
end Go.Proofs.Ytdheppfooapneaa

/- Sections that came in, in a slice or by value; how much there is of them. -/
namespace Go.Proofs.Ytdheppfooapneaa
open Go.ChangeShapes Go.WideShapes Go.ChangeAt Go.RowKit Go.Deep Go.Joins

theorem bulk_pos {H : Type} (d : DataW H) : 1 ≤ Rows.uptoBulk d := by
  cases d with
  | lit l => cases l <;> simp [Rows.uptoBulk]
  | nil => simp [Rows.uptoBulk]
  | ptr d => simp [Rows.uptoBulk]
  | slice elems spare => simp [Rows.uptoBulk]
  | agg parts => simp [Rows.uptoBulk]
  | iface t d => simp [Rows.uptoBulk]
  | map entries => simp [Rows.uptoBulk]
  | held h => simp [Rows.uptoBulk]
theorem bulk_len {H : Type} (l : List (DataW H)) : l.length ≤ Rows.uptoBulkAll l := by
  induction l with
  | nil => simp [Rows.uptoBulkAll]
  | cons x r ih => have := bulk_pos x; simp only [Rows.uptoBulkAll, List.length_cons]; omega

theorem upto_part {H : Type} {l : List (DataW H)} {d : DataW H} (hk : Rows.uptoSmall H l = true) (h : d ∈ l) : Rows.uptoBulk d ≤ 1048576 := by
  have hb : Rows.uptoBulkAll l ≤ 1048576 := of_decide_eq_true hk
  have hp : Rows.uptoBulk d ≤ Rows.uptoBulkAll l := by
    clear hk hb
    induction l with
    | nil => cases h
    | cons x r ih =>
      simp only [Rows.uptoBulkAll]
      rcases List.mem_cons.1 h with e | e
      · subst e; omega
      · have := ih e; omega
  omega
/-- A row of bytes that was read: where it lies, how long it is. -/
theorem open_row {H : Type} {enc : TypeId × Value → H} {W : World} {fuel : Nat} {v : Value} {y : DataW H × List MemPlace} (h : DataW.trod enc Try.prog W 0 (fun _ => true) true fuel 22 [v] = some y) :
    ∃ A n c bs, v = .slice A n c ∧ Has W A n c (u8s bs) ∧ (∀ x ∈ bs, x < 256) ∧ n ≤ 9223372036854775807 ∧ bs.length + 1 ≤ Rows.uptoBulk y.1 := by
  rcases open_ints Try.underlying22 Try.underlying5 (by kernel_rfl) h with ⟨hcs, hx⟩ | ⟨a, len', cap', zs, hcs, _, hl, hm, hz, hx, hcell, hwz⟩
  · simp at hcs
    subst hcs
    exact ⟨_, _, _, [], rfl, Has.none _ _ _ (fun _ => rfl), by simp, by omega, by simpa using bulk_pos y.1⟩
  · simp at hcs
    subst hcs
    simp only [if_true] at hz
    obtain ⟨h1, h2⟩ := row_has (A := some a) hl hz hwz (fun h => by cases h) (fun a' ha j hj => by cases ha; exact hcell j (by omega))
    refine ⟨_, _, _, _, rfl, h1, h2, by unfold maxLen at hm; omega, ?_⟩
    have hl1 := h1.len
    rw [u8s_len] at hl1
    rw [hl1, hx]
    have := bulk_len (lits (H := H) .u8 (zs.take len'))
    simp only [Rows.uptoBulk]
    simp only [lits, List.length_map, List.length_take] at this
    have e : min len' zs.length = len' := by omega
    rw [e] at this
    show len' + 1 ≤ _
    simp only [lits] at *
    omega

theorem sec_under : ∃ f0 f1 : Field, Try.prog.underlying 48 = some (.struct #[f0, f1]) ∧ f0.type = 3 ∧ f1.type = 22 ∧ oneCellFields Try.prog #[f0, f1] = true ∧ Try.prog.cellsOf 48 = 2 :=
  ⟨_, _, Try.underlying48, rfl, rfl, by kernel_rfl, by kernel_rfl⟩
/-- A section by value. -/
theorem open_sec {H : Type} {enc : TypeId × Value → H} {W : World} {base : Nat} {v : Value} {d : DataW H} {p : List MemPlace} (hv : Value.okWide Try.prog W .any base 48 v)
    (h : DataW.Trod enc Try.prog W 0 (fun _ => true) true 48 v d p) :
    ∃ k A n c bs, v = .agg #[.int .i64 k, .slice A n c] ∧ Has W A n c (u8s bs) ∧ (∀ x ∈ bs, x < 256) ∧ n ≤ 9223372036854775807 ∧ (-9223372036854775808 ≤ k ∧ k ≤ 9223372036854775807) := by
  obtain ⟨f0, f1, hu, e0, e1, hone, hC⟩ := sec_under
  obtain ⟨v0, v1, y0, y1, n, rfl, _, _, t0, t1⟩ := open_agg2 hu hone hC hv h
  rw [e0] at t0
  rw [e1] at t1
  obtain ⟨k, hk, _, hw⟩ := DataW.trod_int Try.underlying3 t0
  simp at hk
  subst hk
  obtain ⟨A, n', c, bs, rfl, h1, h2, h3, _⟩ := open_row t1
  exact ⟨k, A, n', c, bs, rfl, h1, h2, h3, wf_i64 hw⟩
/-- A slice of sections. -/
theorem open_secs {H : Type} {enc : TypeId × Value → H} {W : World} {base : Nat} {v : Value} {d : DataW H} {p : List MemPlace} (hv : Value.okWide Try.prog W .any base 26 v)
    (h : DataW.Trod enc Try.prog W 0 (fun _ => true) true 26 v d p) :
    ∃ A n c l, v = .slice A n c ∧ Secs W A n c l ∧ (∀ s ∈ l, ∀ x ∈ s.2, x < 256) ∧ (∀ s ∈ l, -9223372036854775808 ≤ s.1 ∧ s.1 ≤ 9223372036854775807) ∧ l.length + (l.map fun s => s.2.length).sum ≤ Rows.uptoBulk d ∧ n ≤ 9223372036854775807 ∧ ∀ s ∈ l, s.2.length ≤ 9223372036854775807 := by
  obtain ⟨A, n, c, rfl⟩ := okWide_slice Try.underlying26 hv
  obtain ⟨fuel, hf⟩ := h
  obtain ⟨f0, f1, hu, e0, e1, hone, hC⟩ := sec_under
  rcases open_slice Try.underlying26 hf with ⟨hcs, _⟩ | ⟨a, len, cap, m, fu, D, Pl, hcs, _, hl, hm, hmm, hx, hi⟩
  · simp [Value.cells] at hcs
    obtain ⟨rfl, rfl, rfl⟩ := hcs
    exact ⟨_, _, _, [], rfl, Secs.none _, by simp, by simp, by simp, by omega, by simp⟩
  · simp [Value.cells] at hcs
    obtain ⟨rfl, rfl, rfl⟩ := hcs
    simp only [if_true] at hmm
    subst hmm
    simp only [Prod.mk.injEq] at hx
    obtain ⟨rfl, _⟩ := hx
    have each : ∀ i, i < n → ∃ y : Int × Option Addr × Nat × Nat × List Nat, W.cell? (a.add (i * 2)) = some (.int .i64 y.1) ∧ W.cell? (a.add (i * 2 + 1)) = some (.slice y.2.1 y.2.2.1 y.2.2.2.1) ∧ Has W y.2.1 y.2.2.1 y.2.2.2.1 (u8s y.2.2.2.2) ∧ (∀ x ∈ y.2.2.2.2, x < 256) ∧
        (-9223372036854775808 ≤ y.1 ∧ y.1 ≤ 9223372036854775807) ∧ y.2.2.2.2.length + 1 ≤ Rows.uptoBulk (D i) ∧ y.2.2.2.2.length ≤ 9223372036854775807 := by
      intro i hin
      obtain ⟨cs', hc, ht'⟩ := hi i (by omega)
      rw [hC] at hc
      obtain ⟨xs, n', hn', hy, hlen, hyl, hfl⟩ := DataW.trod_struct hu ht'
      obtain ⟨_, hcl, hat⟩ := World.cells?_some hc
      simp only [Prod.mk.injEq] at hy
      match cs', hcl, xs, hyl with
      | [c0, c1], _, [y0, y1], _ =>
        obtain ⟨o0, k0⟩ := hone_of hone 0 f0 rfl
        obtain ⟨o1, k1⟩ := hone_of hone 1 f1 rfl
        have t0 := hfl 0 f0 rfl
        have t1 := hfl 1 f1 rfl
        rw [o0, k0, e0] at t0
        rw [o1, k1, e1] at t1
        simp at t0 t1
        obtain ⟨k, hk, _, hw⟩ := DataW.trod_int Try.underlying3 t0
        simp at hk
        subst hk
        obtain ⟨A', n'', c', bs, rfl, h1, h2, h3, h4⟩ := open_row t1
        have hc0 := hat 0 (by omega)
        have hc1 := hat 1 (by omega)
        rw [Go.Deep.add_add] at hc0 hc1
        simp at hc0 hc1
        refine ⟨(k, A', n'', c', bs), hc0, hc1, h1, h2, wf_i64 hw, ?_, by have := h1.len; rw [u8s_len] at this; simp only; omega⟩
        rw [hy.1]
        simp only [List.map_cons, List.map_nil, Rows.uptoBulk, Rows.uptoBulkAll]
        omega
    obtain ⟨y, hy⟩ := choose_lt each
    refine ⟨_, n, _, (List.range n).map fun i => ((y i).1, (y i).2.2.2.2), rfl, ⟨(List.range n).map fun i => ((y i).1, .slice (y i).2.1 (y i).2.2.1 (y i).2.2.2.1), ⟨by rw [secCells_len]; simp, hl, (fun h => by cases h), fun hn => ?_⟩, by simp, fun i hi' => ?_⟩, ?_, ?_, ?_, by unfold maxLen at hm; omega, ?_⟩
    · obtain ⟨b, off, spot⟩ := a
      have h0 := (hy 0 hn).1
      have hspot : spot = none := by simpa [Addr.add] using World.cell?_spot h0
      subst hspot
      refine ⟨b, off, rfl, World.block_lt_of_cell? W _ h0, fun j u hu' => ?_⟩
      have hj : j < (secCells ((List.range n).map fun i => ((y i).1, Value.slice (y i).2.1 (y i).2.2.1 (y i).2.2.2.1))).length := by
        rcases Nat.lt_or_ge j (secCells ((List.range n).map fun i => ((y i).1, Value.slice (y i).2.1 (y i).2.2.1 (y i).2.2.2.1))).length with hj | hj
        · exact hj
        · rw [List.getElem?_eq_none hj] at hu'; cases hu'
      rw [secCells_len, List.length_map, List.length_range] at hj
      have hq : ((List.range n).map fun i => ((y i).1, Value.slice (y i).2.1 (y i).2.2.1 (y i).2.2.2.1))[j / 2]? = some ((y (j / 2)).1, .slice (y (j / 2)).2.1 (y (j / 2)).2.2.1 (y (j / 2)).2.2.2.1) := by
        simp [show j / 2 < n by omega]
      obtain ⟨q0, q1⟩ := secCells_at hq
      obtain ⟨z0, z1, _⟩ := hy (j / 2) (by omega)
      rw [add_plain] at z0 z1
      rcases Nat.mod_two_eq_zero_or_one j with e | e
      · have ej : j / 2 * 2 = j := by omega
        rw [ej] at q0 z0
        rw [q0] at hu'
        rw [z0, ← hu']
      · have ej : j / 2 * 2 + 1 = j := by omega
        rw [ej] at q1 z1
        rw [q1] at hu'
        rw [z1, ← hu']
    · have hin : i < n := by simpa using hi'
      refine ⟨(y i).2.1, (y i).2.2.1, (y i).2.2.2.1, by simp [hin], ?_⟩
      simpa using (hy i hin).2.2.1
    · intro s hs x hx
      obtain ⟨i, hi', rfl⟩ := List.mem_map.1 hs
      exact (hy i (List.mem_range.1 hi')).2.2.2.1 x hx
    · intro s hs
      obtain ⟨i, hi', rfl⟩ := List.mem_map.1 hs
      exact (hy i (List.mem_range.1 hi')).2.2.2.2.1
    · have key : ∀ q, q ≤ n → q + ((List.range q).map fun i => (y i).2.2.2.2.length).sum ≤ Rows.uptoBulkAll ((List.range q).map D) := by
        intro q
        induction q with
        | zero => intro _; simp
        | succ q ih =>
          intro hq
          have h1 := ih (by omega)
          have h2 := (hy q (by omega)).2.2.2.2.2.1
          rw [List.range_succ, List.map_append, List.map_append, List.sum_append]
          have e : ∀ (a b : List (DataW H)), Rows.uptoBulkAll (a ++ b) = Rows.uptoBulkAll a + Rows.uptoBulkAll b := by
            intro a b
            induction a with
            | nil => simp [Rows.uptoBulkAll]
            | cons x a ih => simp only [List.cons_append, Rows.uptoBulkAll, ih]; omega
          rw [e]
          simp only [List.map_cons, List.map_nil, Rows.uptoBulkAll, List.sum_cons, List.sum_nil]
          omega
      have h1 := key n (Nat.le_refl _)
      simp only [Rows.uptoBulk, List.length_map, List.length_range, List.map_map, Function.comp_def]
      omega
    · intro s hs
      obtain ⟨i, hi', rfl⟩ := List.mem_map.1 hs
      exact (hy i (List.mem_range.1 hi')).2.2.2.2.2.2
theorem wf_u16 {z : Int} (h : (Lit.int .u16 z).wf = true) : 0 ≤ z ∧ z ≤ 65535 := by
  simp [Lit.wf, IntKind.min, IntKind.max, IntKind.signed, IntKind.bits] at h; omega
end Go.Proofs.Ytdheppfooapneaa
