import Derived.Test.YthjmojglcfmkmaaDoorBase
import Derived.ProofKit
import Derived.OpenShut
import Derived.SizedLaws
/- From a law's walk to its row: whatever the arguments are, they read behind the call as before. -/
namespace Go.Proofs.YthjmojglcfmkmaaDoor
open Go.ChangeShapes Go.WideShapes Go.ChangeAt Go.RowKit

theorem Tryd.own : ownKnob Tryd.prog.godebug = none := by kernel_rfl
theorem Tryd.laidOut : laidOutB Tryd.prog = true := by kernel_rfl

def Plain (t : TypeId) : Prop := Tryd.prog.readableRec t = true ∧ t < Tryd.prog.types.size

theorem trodAll_below {H : Type} {enc : TypeId × Value → H} {W W' : World} (hb : Below W.heap.size W W') :
    ∀ {ts : List TypeId} {vs : List Value} {ds : List (DataW H)} {ps : List MemPlace}, (∀ t ∈ ts, Plain t) → DataW.TrodAll enc Tryd.prog W 0 (fun _ => true) true ts vs ds ps → (∀ x ∈ ps, x.block < W.heap.size) →
      DataW.TrodAll enc Tryd.prog W' 0 (fun b => decide (b < W.heap.size)) true ts vs ds ps
  | [], [], [], _, _, h, _ => h
  | t :: _, _ :: _, _ :: _, _, ht, ⟨p, q, h1, h2, e⟩, hlt => ⟨p, q,
      Below.trod Tryd.laidOut (ht t (List.mem_cons.2 (Or.inl rfl))).1 (ht t (List.mem_cons.2 (Or.inl rfl))).2 h1 hb (fun x hx => hlt x (by rw [e]; exact List.mem_append_left _ hx)),
      trodAll_below hb (fun t' ht' => ht t' (List.mem_cons.2 (Or.inr ht'))) h2 (fun x hx => hlt x (by rw [e]; exact List.mem_append_right _ hx)), e⟩

/-- What a law's walk gives is what its row asks. -/
theorem law_post {H : Type} {enc : TypeId × Value → H} {s : ChangeSpec} {fn : Func} {W : World} {args : Array Value} {ds gs : List (DataW H)} {before : List MemPlace}
    (hv : s.vars = []) (hr : fn.resultTypes = #[4]) (hts : ∀ t ∈ fn.params.toList, Plain t)
    (hW : DataW.Whole enc Tryd.prog fn.params.toList s.vars false W args.toList ds gs before) (hfn : s.fn H (ds ++ gs) = { results := [.lit (.bool true)], args := ds })
    {e : Ending} {W' : World} (h : e = .returned (.bool true) ∧ Below W.heap.size W W') :
    ∃ v, e = .returned v ∧ s.post enc Tryd.prog fn false true false false W args v W' := by
  obtain ⟨rfl, hb⟩ := h
  have hW' := hW
  obtain ⟨p, q, hA, hV, rfl, _, _⟩ := hW
  have hlt : ∀ x ∈ p, x.block < W.heap.size := fun x hx => hW'.lt x (List.mem_append_left _ hx)
  refine ⟨_, rfl, ds, gs, _, [], p, [], hW', ?_, ?_, ?_, hb.frame _, fun h => by cases h⟩
  · rw [hfn, hr]
    exact trodAll_mk1 (shut_bool Tryd.underlying4 _)
  · rw [hfn]
    exact trodAll_below hb hts hA hlt
  · rw [hfn, hv]
    exact rfl

set_option maxRecDepth 100000 in
/-- A slice of unsigned numbers that came in. -/
theorem open_nums {H : Type} {enc : TypeId × Value → H} {W : World} {base : Nat} {v : Value} {d : DataW H} {p : List MemPlace} {t e : TypeId} {k : IntKind} {M : Nat}
    (ht : Tryd.prog.underlying t = some (.slice e)) (he : Tryd.prog.underlying e = some (.int k)) (hc1 : Tryd.prog.cellsOf e = 1) (hk : ∀ z : Int, (Lit.int k z).wf = true → 0 ≤ z ∧ z < M)
    (hv : Value.okWide Tryd.prog W .any base t v) (h : DataW.Trod enc Tryd.prog W 0 (fun _ => true) true t v d p) :
    ∃ A n c, ∃ bs : List Nat, v = .slice A n c ∧ Has W A n c (bs.map fun (x : Nat) => Value.int k (x : Int)) ∧ (∀ x ∈ bs, x < M) ∧ n ≤ 9223372036854775807 := by
  obtain ⟨A, n, c, rfl⟩ := okWide_slice ht hv
  obtain ⟨fuel, hf⟩ := h
  rcases open_ints ht he hc1 hf with ⟨hcs, hx⟩ | ⟨a, len', cap', zs, hcs, _, hl, hm, hz, hx, hcell, hwz⟩
  · simp [Value.cells] at hcs
    obtain ⟨rfl, rfl, rfl⟩ := hcs
    exact ⟨_, _, _, [], rfl, Has.none _ _ _ (fun _ => rfl), (fun x hx => by cases hx), by omega⟩
  · simp [Value.cells] at hcs
    obtain ⟨rfl, rfl, rfl⟩ := hcs
    simp only [if_true] at hz
    refine ⟨_, _, _, (zs.take n).map Int.toNat, rfl, ⟨?_, hl, (fun h => by cases h), fun hn => ?_⟩, fun x hx => ?_, by unfold maxLen at hm; omega⟩
    · simp; omega
    · obtain ⟨b, off, spot⟩ := a
      have hspot : spot = none := by simpa [Addr.add] using World.cell?_spot (hcell 0 (by omega))
      subst hspot
      refine ⟨b, off, rfl, ?_, fun j u hu => ?_⟩
      · exact World.block_lt_of_cell? W _ (hcell 0 (by omega))
      · have hj : j < n := by
          rcases Nat.lt_or_ge j n with hj | hj
          · exact hj
          · rw [List.getElem?_eq_none (by simp; omega)] at hu; cases hu
        have hjz : j < zs.length := by omega
        have h0 := (hk _ (hwz zs[j] (List.getElem_mem hjz))).1
        rw [← add_plain, hcell j hjz]
        simp [hj, hjz] at hu
        rw [← hu]
        simp [hjz]; omega
    · obtain ⟨z, hz', rfl⟩ := List.mem_map.1 hx
      have := hk z (hwz z (List.mem_of_mem_take hz'))
      omega
theorem wf_i64 {z : Int} (h : (Lit.int .i64 z).wf = true) : -9223372036854775808 ≤ z ∧ z ≤ 9223372036854775807 := by
  simp [Lit.wf, IntKind.min, IntKind.max, IntKind.signed, IntKind.bits] at h; omega
theorem wf_i32 {z : Int} (h : (Lit.int .i32 z).wf = true) : -2147483648 ≤ z ∧ z ≤ 2147483647 := by
  simp [Lit.wf, IntKind.min, IntKind.max, IntKind.signed, IntKind.bits] at h; omega
theorem wf_u64 {z : Int} (h : (Lit.int .u64 z).wf = true) : 0 ≤ z ∧ z ≤ 18446744073709551615 := by
  simp [Lit.wf, IntKind.min, IntKind.max, IntKind.signed, IntKind.bits] at h; omega
theorem wf_u16 {z : Int} (h : (Lit.int .u16 z).wf = true) : 0 ≤ z ∧ z ≤ 65535 := by
  simp [Lit.wf, IntKind.min, IntKind.max, IntKind.signed, IntKind.bits] at h; omega
theorem wf_u8 {z : Int} (h : (Lit.int .u8 z).wf = true) : 0 ≤ z ∧ z ≤ 255 := by
  simp [Lit.wf, IntKind.min, IntKind.max, IntKind.signed, IntKind.bits] at h; omega
end Go.Proofs.YthjmojglcfmkmaaDoor

/- A row of bytes out of its numbers. -/
namespace Go.Proofs.YthjmojglcfmkmaaDoor
open Go.ChangeShapes Go.WideShapes Go.ChangeAt Go.RowKit

theorem row_has {W : World} {A : Option Addr} {n c : Nat} {zs : List Int} (hl : n ≤ c) (hz : zs.length = c) (hwf : ∀ z ∈ zs, (Lit.int .u8 z).wf = true) (h0 : A = none → c = 0)
    (hc : ∀ a, A = some a → ∀ j, j < c → W.cell? (a.add j) = some (.int .u8 (zs.getD j 0))) : Has W A n c (u8s ((zs.take n).map Int.toNat)) ∧ ∀ x ∈ (zs.take n).map Int.toNat, x < 256 := by
  have hk : ∀ z : Int, (Lit.int .u8 z).wf = true → 0 ≤ z ∧ z < 256 := fun z hz => by simp [Lit.wf, IntKind.min, IntKind.max, IntKind.signed, IntKind.bits] at hz; omega
  refine ⟨⟨by rw [u8s_len]; simp; omega, hl, h0, fun hn => ?_⟩, fun x hx => ?_⟩
  · cases A with
    | none => have := h0 rfl; omega
    | some a =>
      have hcell := hc a rfl
      obtain ⟨b, off, spot⟩ := a
      have hspot : spot = none := by simpa [Addr.add] using World.cell?_spot (hcell 0 (by omega))
      subst hspot
      refine ⟨b, off, rfl, World.block_lt_of_cell? W _ (hcell 0 (by omega)), fun j u hu => ?_⟩
      have hj : j < n := by
        rcases Nat.lt_or_ge j n with hj | hj
        · exact hj
        · rw [List.getElem?_eq_none (by rw [u8s_len]; simp; omega)] at hu; cases hu
      have hjz : j < zs.length := by omega
      have h0 := (hk _ (hwf zs[j] (List.getElem_mem hjz))).1
      rw [← add_plain, hcell j (by omega)]
      simp [u8s, hj, hjz] at hu
      rw [← hu]
      simp [hjz]; omega
  · obtain ⟨z, hz', rfl⟩ := List.mem_map.1 hx
    have := hk z (hwf z (List.mem_of_mem_take hz'))
    omega
end Go.Proofs.YthjmojglcfmkmaaDoor
