/- The landed grower: what is wrong with a step. -/
import Derived.Test.YthjmojglcfmkmaaDoorGrowCodeH
namespace Go.Proofs.YthjmojglcfmkmaaDoor
open Go.RowKit

def nT : Nat → Int
  | 0 => 1
  | 1 => 0
  | _ => 1
def nV : Nat → Int
  | 0 => 3
  | 2 => 1
  | _ => 0
/-- The tables hold how many triangles and vertices each kind of step makes. -/
def NewW (w : World) : Prop := (∀ k : Nat, k < 4 → w.cell? ⟨0, k, none⟩ = some (.int .i64 (nT k))) ∧ ∀ k : Nat, k < 4 → w.cell? ⟨1, k, none⟩ = some (.int .i64 (nV k))
theorem NewW.kept {w w' : World} (h : NewW w) (hb : Below w.heap.size w w') : NewW w' := ⟨fun k hk => cell_stays w w' hb (h.1 k hk), fun k hk => cell_stays w w' hb (h.2 k hk)⟩
/-- What is wrong with a step. -/
def refF (N : Int) (T : List P3) (P U : List D2) (x : Int × Int) : Int :=
  if formG P x then 11 else if (x.1 ≠ 1 ∧ 8000 ≤ T.length) ∨ (x.1 = 0 ∧ 3997 < N) ∨ (x.1 = 2 ∧ 3999 < N) then 3
  else if x.1 = 3 then (match P.getLast? with | some d => refV N U d.1 d.2 x.2 | none => 0) else 0
theorem ref_form {N : Int} {T : List P3} {P U : List D2} {x : Int × Int} (h : formG P x) : refF N T P U x = 11 := if_pos h
theorem ref_long {N : Int} {T : List P3} {P U : List D2} {x : Int × Int} (h : ¬ formG P x) (hl : (x.1 ≠ 1 ∧ 8000 ≤ T.length) ∨ (x.1 = 0 ∧ 3997 < N) ∨ (x.1 = 2 ∧ 3999 < N)) : refF N T P U x = 3 := by
  unfold refF
  rw [if_neg h, if_pos hl]
theorem ref_fine {N : Int} {T : List P3} {P U : List D2} {x : Int × Int} (h : ¬ formG P x) (hl : ¬ ((x.1 ≠ 1 ∧ 8000 ≤ T.length) ∨ (x.1 = 0 ∧ 3997 < N) ∨ (x.1 = 2 ∧ 3999 < N))) (h3 : x.1 ≠ 3) : refF N T P U x = 0 := by
  unfold refF
  rw [if_neg h, if_neg hl, if_neg h3]
theorem ref_known {N : Int} {T : List P3} {l U : List D2} {p q v : Int} (h : ¬ formG (l ++ [(p, q)]) (3, v)) (hl : ¬ 8000 ≤ T.length) : refF N T (l ++ [(p, q)]) U (3, v) = refV N U p q v := by
  unfold refF
  rw [if_neg h, if_neg (fun e => by rcases e with ⟨_, e⟩ | ⟨e, _⟩ | ⟨e, _⟩; exact hl e; cases e; cases e), if_pos rfl]
  simp only [List.getLast?_concat]
set_option maxRecDepth 100000 in
set_option maxHeartbeats 2000000 in
theorem refusal_any (F : Nat → Prop) (g : Nat) (N E : Int) (T : List P3) (P U : List D2) (k v : Int) (w : World) (hnw : NewW w) (h : GR w F g N E T P U) (hU : P ≠ [] → U ≠ []) (hr : ∀ d ∈ P, (0 ≤ d.1 ∧ d.1 ≤ 100000) ∧ 0 ≤ d.2 ∧ d.2 ≤ 100000) (hP : P.length ≤ 10000000) (hT : T.length ≤ 8000) (hN : 0 ≤ N ∧ N ≤ 4000) :
    Calls Tryd.prog 28 #[.pointer (some ⟨g, 0, none⟩), .agg #[.int .i64 k, .int .i64 v]] w fun e w' => e = .returned (.int .i64 (refF N T P U (k, v))) ∧ Below w.heap.size w w' := by
  have h0 := h
  obtain ⟨a, d, mp, h⟩ := h
  obtain ⟨A, ca, rfl, _⟩ := h.rT.has
  obtain ⟨B, cb, rfl, _⟩ := h.rG.has
  obtain ⟨n, hn⟩ : ∃ n, P.length = n := ⟨_, rfl⟩
  have HB := Lib.hid (new_alloc (Below.refl w.heap.size w) (.cells #[.int .i64 k, .int .i64 v] 33))
  have HX := Lib.hid (h.next HB.out)
  have HS := Lib.hid (Blk.new w 33 #[.int .i64 k, .int .i64 v])
  have HNW := Lib.hid (hnw.kept HB.out)
  have HP := Lib.hid hP
  have HU := Lib.hid hU
  have HR := Lib.hid hr
  have HL := Lib.hid hn
  rw [hn] at HX
  have y0 := HS.out.cell 0
  have y1 := HS.out.cell 1
  have x0 := HX.out.box.cell 0
  have x1 := HX.out.box.cell 1
  have x2 := HX.out.box.cell 2
  have HF := Lib.hid (form_ways P k v)
  rw [hn] at HF
  clear h h0 hnw hU hr hP
  go_enter Tryd.func28, Tryd.ntmps28
  go_upto_region 1 with (with_reducible fail)
  generalize w.alloc (.cells #[.int .i64 k, .int .i64 v] 33) = W1 at *
  rcases HF.out with ⟨h1, hf⟩ | ⟨h1, h2, hf⟩ | ⟨h1, h2, h3, h4, hf⟩ | ⟨rfl, rfl, h3, hf⟩ | ⟨rfl, rfl, h3, hf⟩ | ⟨h1, rfl, h3, hf⟩ | ⟨h1, rfl, h3, hf⟩ | ⟨rfl, h3, hf⟩ | ⟨rfl, h3, hf⟩
  all_goals clear HF
  · cases hk : (k == 0)
    all_goals
      have t1 : decide (k < 0) = true := decide_eq_true h1
      have HE : Hid (refF N T P U (k, v) = 11) := ref_form hf
      clear hf h1
      go_wp2
      go_ret
      exact ⟨by rw [HE.out]; rfl, HB.out⟩
  · cases hk : (k == 0)
    all_goals
      have t1 : decide (k < 0) = false := decide_eq_false h1
      have t2 : decide (4 ≤ k) = true := decide_eq_true (by omega)
      have HE : Hid (refF N T P U (k, v) = 11) := ref_form hf
      clear hf h1 h2
      go_wp2
      go_ret
      exact ⟨by rw [HE.out]; rfl, HB.out⟩
  · cases hk : (k == 0)
    all_goals
      have t1 : decide (k < 0) = false := decide_eq_false h1
      have t2 : decide (4 ≤ k) = false := decide_eq_false (by omega)
      have t3 : (v != 0) = true := bne_iff_ne.2 h4
      have t4 : (k != 3) = true := bne_iff_ne.2 (by omega)
      have HE : Hid (refF N T P U (k, v) = 11) := ref_form hf
      clear hf h1 h2 h3 h4
      go_wp2
      go_ret
      exact ⟨by rw [HE.out]; rfl, HB.out⟩
  · have t1 : decide ((0 : Int) < (n : Int)) = true := decide_eq_true (by omega)
    have t2 : (0 : Int) < (n : Int) := by omega
    have HE : Hid (refF N T P U (0, 0) = 11) := ref_form hf
    clear hf
    go_wp2
    go_ret
    exact ⟨by rw [HE.out]; rfl, HB.out⟩
  · subst h3
    have t6 : W1.cell? ⟨0, 0, none⟩ = some (.int .i64 1) := HNW.out.1 0 (by decide)
    have t7 : W1.cell? ⟨1, 0, none⟩ = some (.int .i64 3) := HNW.out.2 0 (by decide)
    have p1 : IntKind.wrap .i64 ((T.length : Int) + 1) = (T.length : Int) + 1 := by rw [IntKind.wrap_i64]; omega
    have p2 : IntKind.wrap .i64 (N + 3) = N + 3 := by rw [IntKind.wrap_i64]; omega
    go_wp2
    go_region
    generalize hW : W1.drew = W2
    have HB2 : Hid (Below w.heap.size w W2) := by show Below _ _ _; rw [← hW]; exact HB.out.drew
    have HG2 : Hid (GR W2 F g N E T P U) := by show GR _ _ _ _ _ _ _ _; rw [← hW]; exact ⟨_, _, _, HX.out.next (Below.refl _ _).drew⟩
    have y0' : W2.cell? ⟨w.heap.size, 0, none⟩ = some (.int .i64 0) := by rw [← hW]; exact y0
    have y1' : W2.cell? ⟨w.heap.size, 1, none⟩ = some (.int .i64 0) := by rw [← hW]; exact y1
    have x1' : W2.cell? ⟨g, 1, none⟩ = some (.int .i64 N) := by rw [← hW]; exact x1
    have t7' : W2.cell? ⟨1, 0, none⟩ = some (.int .i64 3) := by rw [← hW]; exact t7
    clear hW y0 y1 x0 x1 x2 t6 t7 HX HB HS HNW p1
    by_cases hl : 8000 ≤ T.length
    · have t8 : decide ((8000 : Int) < (T.length : Int) + 1) = true := decide_eq_true (by omega)
      have HE : Hid (refF N T P U (0, 0) = 3) := ref_long hf (Or.inl ⟨by decide, hl⟩)
      clear hf
      go_wp2
      go_ret
      exact ⟨by rw [HE.out]; rfl, HB2.out⟩
    · have t8 : decide ((8000 : Int) < (T.length : Int) + 1) = false := decide_eq_false (by omega)
      go_wp2
      go_region
      generalize hW : W2.drew = W3
      have HB3 : Hid (Below w.heap.size w W3) := by show Below _ _ _; rw [← hW]; exact HB2.out.drew
      have HG3 : Hid (GR W3 F g N E T P U) := by show GR _ _ _ _ _ _ _ _; rw [← hW]; exact HG2.out.next (Below.refl _ _).drew
      have y0 : W3.cell? ⟨w.heap.size, 0, none⟩ = some (.int .i64 0) := by rw [← hW]; exact y0'
      have y1 : W3.cell? ⟨w.heap.size, 1, none⟩ = some (.int .i64 0) := by rw [← hW]; exact y1'
      clear hW y0' y1' x1' t7' HG2 HB2 p2
      by_cases hl2 : 3997 < N
      · have t9 : decide ((4000 : Int) < N + 3) = true := decide_eq_true (by omega)
        have HE : Hid (refF N T P U (0, 0) = 3) := ref_long hf (Or.inr (Or.inl ⟨rfl, hl2⟩))
        clear hf
        go_wp2
        go_ret
        exact ⟨by rw [HE.out]; rfl, HB3.out⟩
      · have t9 : decide ((4000 : Int) < N + 3) = false := decide_eq_false (by omega)
        have HE : Hid (refF N T P U (0, 0) = 0) := ref_fine hf (fun e => by rcases e with ⟨_, e⟩ | ⟨_, e⟩ | ⟨e, _⟩; exact hl e; exact hl2 e; cases e) (by decide)
        clear hf
        go_wp2
        go_ret
        exact ⟨by rw [HE.out]; rfl, HB3.out⟩
  · subst h3
    rcases h1 with rfl | rfl
    all_goals
      have HE : Hid (refF N T P U (_, 0) = 11) := ref_form hf
      clear hf
      go_wp2
      go_ret
      exact ⟨by rw [HE.out]; rfl, HB.out⟩
  · have u1 : decide ((0 : Int) < (n : Int)) = true := decide_eq_true (by omega)
    have u2 : (0 : Int) < (n : Int) := by omega
    rcases h1 with rfl | rfl
    · have t6 : W1.cell? ⟨0, 1, none⟩ = some (.int .i64 0) := HNW.out.1 1 (by decide)
      have t7 : W1.cell? ⟨1, 1, none⟩ = some (.int .i64 0) := HNW.out.2 1 (by decide)
      have p1 : IntKind.wrap .i64 ((T.length : Int)) = (T.length : Int) := by rw [IntKind.wrap_i64]; omega
      have p2 : IntKind.wrap .i64 (N) = N := by rw [IntKind.wrap_i64]; omega
      go_wp2
      go_region
      generalize hW : W1.drew = W2
      have HB2 : Hid (Below w.heap.size w W2) := by show Below _ _ _; rw [← hW]; exact HB.out.drew
      have HG2 : Hid (GR W2 F g N E T P U) := by show GR _ _ _ _ _ _ _ _; rw [← hW]; exact ⟨_, _, _, HX.out.next (Below.refl _ _).drew⟩
      have y0' : W2.cell? ⟨w.heap.size, 0, none⟩ = some (.int .i64 1) := by rw [← hW]; exact y0
      have y1' : W2.cell? ⟨w.heap.size, 1, none⟩ = some (.int .i64 0) := by rw [← hW]; exact y1
      have x1' : W2.cell? ⟨g, 1, none⟩ = some (.int .i64 N) := by rw [← hW]; exact x1
      have t7' : W2.cell? ⟨1, 1, none⟩ = some (.int .i64 0) := by rw [← hW]; exact t7
      clear hW y0 y1 x0 x1 x2 t6 t7 HX HB HS HNW p1
      have t8 : decide ((8000 : Int) < (T.length : Int)) = false := decide_eq_false (by omega)
      go_wp2
      go_region
      generalize hW : W2.drew = W3
      have HB3 : Hid (Below w.heap.size w W3) := by show Below _ _ _; rw [← hW]; exact HB2.out.drew
      have HG3 : Hid (GR W3 F g N E T P U) := by show GR _ _ _ _ _ _ _ _; rw [← hW]; exact HG2.out.next (Below.refl _ _).drew
      have y0 : W3.cell? ⟨w.heap.size, 0, none⟩ = some (.int .i64 1) := by rw [← hW]; exact y0'
      have y1 : W3.cell? ⟨w.heap.size, 1, none⟩ = some (.int .i64 0) := by rw [← hW]; exact y1'
      clear hW y0' y1' x1' t7' HG2 HB2 p2
      have t9 : decide ((4000 : Int) < N) = false := decide_eq_false (by omega)
      have HE : Hid (refF N T P U (1, 0) = 0) := ref_fine hf (fun e => by rcases e with ⟨e, _⟩ | ⟨e, _⟩ | ⟨e, _⟩; exact e rfl; cases e; cases e) (by decide)
      clear hf
      go_wp2
      go_ret
      exact ⟨by rw [HE.out]; rfl, HB3.out⟩
    · have t6 : W1.cell? ⟨0, 2, none⟩ = some (.int .i64 1) := HNW.out.1 2 (by decide)
      have t7 : W1.cell? ⟨1, 2, none⟩ = some (.int .i64 1) := HNW.out.2 2 (by decide)
      have p1 : IntKind.wrap .i64 ((T.length : Int) + 1) = (T.length : Int) + 1 := by rw [IntKind.wrap_i64]; omega
      have p2 : IntKind.wrap .i64 (N + 1) = N + 1 := by rw [IntKind.wrap_i64]; omega
      go_wp2
      go_region
      generalize hW : W1.drew = W2
      have HB2 : Hid (Below w.heap.size w W2) := by show Below _ _ _; rw [← hW]; exact HB.out.drew
      have HG2 : Hid (GR W2 F g N E T P U) := by show GR _ _ _ _ _ _ _ _; rw [← hW]; exact ⟨_, _, _, HX.out.next (Below.refl _ _).drew⟩
      have y0' : W2.cell? ⟨w.heap.size, 0, none⟩ = some (.int .i64 2) := by rw [← hW]; exact y0
      have y1' : W2.cell? ⟨w.heap.size, 1, none⟩ = some (.int .i64 0) := by rw [← hW]; exact y1
      have x1' : W2.cell? ⟨g, 1, none⟩ = some (.int .i64 N) := by rw [← hW]; exact x1
      have t7' : W2.cell? ⟨1, 2, none⟩ = some (.int .i64 1) := by rw [← hW]; exact t7
      clear hW y0 y1 x0 x1 x2 t6 t7 HX HB HS HNW p1
      by_cases hl : 8000 ≤ T.length
      · have t8 : decide ((8000 : Int) < (T.length : Int) + 1) = true := decide_eq_true (by omega)
        have HE : Hid (refF N T P U (2, 0) = 3) := ref_long hf (Or.inl ⟨by decide, hl⟩)
        clear hf
        go_wp2
        go_ret
        exact ⟨by rw [HE.out]; rfl, HB2.out⟩
      · have t8 : decide ((8000 : Int) < (T.length : Int) + 1) = false := decide_eq_false (by omega)
        go_wp2
        go_region
        generalize hW : W2.drew = W3
        have HB3 : Hid (Below w.heap.size w W3) := by show Below _ _ _; rw [← hW]; exact HB2.out.drew
        have HG3 : Hid (GR W3 F g N E T P U) := by show GR _ _ _ _ _ _ _ _; rw [← hW]; exact HG2.out.next (Below.refl _ _).drew
        have y0 : W3.cell? ⟨w.heap.size, 0, none⟩ = some (.int .i64 2) := by rw [← hW]; exact y0'
        have y1 : W3.cell? ⟨w.heap.size, 1, none⟩ = some (.int .i64 0) := by rw [← hW]; exact y1'
        clear hW y0' y1' x1' t7' HG2 HB2 p2
        by_cases hl2 : 3999 < N
        · have t9 : decide ((4000 : Int) < N + 1) = true := decide_eq_true (by omega)
          have HE : Hid (refF N T P U (2, 0) = 3) := ref_long hf (Or.inr (Or.inr ⟨rfl, hl2⟩))
          clear hf
          go_wp2
          go_ret
          exact ⟨by rw [HE.out]; rfl, HB3.out⟩
        · have t9 : decide ((4000 : Int) < N + 1) = false := decide_eq_false (by omega)
          have HE : Hid (refF N T P U (2, 0) = 0) := ref_fine hf (fun e => by rcases e with ⟨_, e⟩ | ⟨e, _⟩ | ⟨_, e⟩; exact hl e; cases e; exact hl2 e) (by decide)
          clear hf
          go_wp2
          go_ret
          exact ⟨by rw [HE.out]; rfl, HB3.out⟩
  · subst h3
    cases hv : (v != 0)
    all_goals
      have HE : Hid (refF N T P U (3, v) = 11) := ref_form hf
      clear hf
      go_wp2
      go_ret
      exact ⟨by rw [HE.out]; rfl, HB.out⟩
  · have u1 : decide ((0 : Int) < (n : Int)) = true := decide_eq_true (by omega)
    have u2 : (0 : Int) < (n : Int) := by omega
    cases hv : (v != 0)
    all_goals
      have t6 : W1.cell? ⟨0, 3, none⟩ = some (.int .i64 1) := HNW.out.1 3 (by decide)
      have t7 : W1.cell? ⟨1, 3, none⟩ = some (.int .i64 0) := HNW.out.2 3 (by decide)
      have p1 : IntKind.wrap .i64 ((T.length : Int) + 1) = (T.length : Int) + 1 := by rw [IntKind.wrap_i64]; omega
      have p2 : IntKind.wrap .i64 (N) = N := by rw [IntKind.wrap_i64]; omega
      go_wp2
      go_region
      generalize hW : W1.drew = W2
      have HB2 : Hid (Below w.heap.size w W2) := by show Below _ _ _; rw [← hW]; exact HB.out.drew
      have HG2 : Hid (GR W2 F g N E T P U) := by show GR _ _ _ _ _ _ _ _; rw [← hW]; exact ⟨_, _, _, HX.out.next (Below.refl _ _).drew⟩
      have y0' : W2.cell? ⟨w.heap.size, 0, none⟩ = some (.int .i64 3) := by rw [← hW]; exact y0
      have y1' : W2.cell? ⟨w.heap.size, 1, none⟩ = some (.int .i64 v) := by rw [← hW]; exact y1
      have x1' : W2.cell? ⟨g, 1, none⟩ = some (.int .i64 N) := by rw [← hW]; exact x1
      have t7' : W2.cell? ⟨1, 3, none⟩ = some (.int .i64 0) := by rw [← hW]; exact t7
      clear hW y0 y1 x0 x1 x2 t6 t7 HX HB HS HNW p1
      by_cases hl : 8000 ≤ T.length
      · have t8 : decide ((8000 : Int) < (T.length : Int) + 1) = true := decide_eq_true (by omega)
        have HE : Hid (refF N T P U (3, v) = 3) := ref_long hf (Or.inl ⟨(by show (3 : Int) ≠ 1; decide), hl⟩)
        clear hf
        go_wp2
        go_ret
        exact ⟨by rw [HE.out]; rfl, HB2.out⟩
      · have t8 : decide ((8000 : Int) < (T.length : Int) + 1) = false := decide_eq_false (by omega)
        go_wp2
        go_region
        generalize hW : W2.drew = W3
        have HB3 : Hid (Below w.heap.size w W3) := by show Below _ _ _; rw [← hW]; exact HB2.out.drew
        have HG3 : Hid (GR W3 F g N E T P U) := by show GR _ _ _ _ _ _ _ _; rw [← hW]; exact HG2.out.next (Below.refl _ _).drew
        have y0 : W3.cell? ⟨w.heap.size, 0, none⟩ = some (.int .i64 3) := by rw [← hW]; exact y0'
        have y1 : W3.cell? ⟨w.heap.size, 1, none⟩ = some (.int .i64 v) := by rw [← hW]; exact y1'
        clear hW y0' y1' x1' t7' HG2 HB2 p2
        have t9 : decide ((4000 : Int) < N) = false := decide_eq_false (by omega)
        have hne : P ≠ [] := fun e => by rw [e] at hn; simp at hn; omega
        obtain ⟨l, ⟨p, q⟩, rfl⟩ := last_form hne
        obtain ⟨r1, r2⟩ := HR.out (p, q) (List.mem_append_right _ (List.mem_singleton.2 rfl))
        have HE : Hid (refF N T (l ++ [(p, q)]) U (3, v) = refV N U p q v) := ref_known hf hl
        have HRf := Lib.hid (refusalOf_any F g N E T U l p q v W3 HG3.out (HU.out hne) (by have := HP.out; rw [List.length_append] at this; omega) (by omega) r1 r2)
        clear hf hne r1 r2 HR HU
        go_wp2_with fail
        refine HRf.out.mono ?_
        rintro e w4 ⟨rfl, hb⟩
        have HB4 := Lib.hid (new_call HB3.out hb)
        clear hb
        go_wp2
        go_ret
        exact ⟨by rw [HE.out]; rfl, HB4.out⟩
end Go.Proofs.YthjmojglcfmkmaaDoor
