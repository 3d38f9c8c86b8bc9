/- lapidaryref06: Encode. -/
import Derived.Test.YtfkmcjlapigapaaCoderDoc
namespace Go.Proofs.Ytfkmcjlapigapaa
open Go.RowKit

/-- Symbols as cells. -/
def codCells (l : List Cod) : List Value := secCells (l.map fun x => (x.1, Value.int .i64 x.2))
theorem codCells_len (l : List Cod) : (codCells l).length = l.length * 2 := by unfold codCells; rw [secCells_len]; simp
/-- What Encode tells. -/
def encC (sizes : List Int) (l : List Cod) : List Nat × Nat := if okS sizes = false then ([], 2) else match runC (beginC sizes) l with
  | none => ([], 2)
  | some u => if 65536 < l.length then ([], 3) else (digC u.D u.N, 0)
def Coded (w : World) (r : List Nat × Nat) (e : Ending) (w' : World) : Prop := ∃ A c, e = .returned (.tuple #[.slice A r.1.length c, .int .i64 (r.2 : Int)]) ∧ Has w' A r.1.length c (u8s r.1) ∧ Below w.heap.size w w'
theorem run_snoc (l : List Cod) : ∀ (t : Cdr) (x : Cod), runC t (l ++ [x]) = (runC t l).bind fun u => stepC u x := by
  induction l with
  | nil =>
    intro t x
    show (stepC t x).bind (fun u => runC u []) = stepC t x
    cases stepC t x <;> rfl
  | cons y l ih =>
    intro t x
    simp only [List.cons_append, runC]
    cases stepC t y with
    | none => rfl
    | some v => exact ih v x
theorem run_app (l m : List Cod) : ∀ (t : Cdr), runC t (l ++ m) = (runC t l).bind fun u => runC u m := by
  induction l with
  | nil => intro t; rfl
  | cons y l ih =>
    intro t
    simp only [List.cons_append, runC]
    cases stepC t y with
    | none => rfl
    | some v => exact ih v
theorem step_shape {t u : Cdr} {x : Cod} (ht : COk t) (h : stepC t x = some u) : u.D ≤ t.D + 3 ∧ u.C.length = t.C.length := by
  obtain ⟨j, q, lo, n, h1⟩ := stepC_is ht h
  unfold stepC at h
  split at h
  · cases h
  · cases h
    obtain ⟨j', hj, e, _⟩ := norm_is 3 { t with N := t.N + t.R / wholeC t.C x.1 * (shareC t.C x).1, R := t.R / wholeC t.C x.1 * (shareC t.C x).2 }
    simp only [e]
    refine ⟨by omega, ?_⟩
    unfold seenC
    split <;> simp

theorem cod_at {l : List Cod} {i : Nat} (h : i < l.length) : (codCells l)[i * 2]? = some (.int .i64 l[i].1) ∧ (codCells l)[i * 2 + 1]? = some (.int .i64 l[i].2) :=
  secCells_at (vs := l.map fun x => (x.1, Value.int .i64 x.2)) (p := (l[i].1, .int .i64 l[i].2)) (by simp [h])

set_option maxRecDepth 100000 in
set_option maxHeartbeats 1000000 in
theorem ref6Enc_any (A : Option Addr) (n c : Nat) (sizes : List Int) (B : Option Addr) (m d : Nat) (l : List Cod) (w : World) (h : Has w A n c (intVs sizes)) (hl : HasK 2 w B m d (codCells l)) (hn : n ≤ 1000) (hm : m ≤ 10000) :
    Calls Try.prog 13 #[.slice A n c, .slice B m d] w (Coded w (encC sizes l)) := by
  have HL : Hid (l.length = m) := by have := hl.len; rw [codCells_len] at this; show _ = _; omega
  have HLs : Hid (sizes.length = n) := by have := h.len; rw [intVs_len] at this; exact this
  have HB := Lib.hid (ref6Begun_any A n c sizes w h hn)
  have HH := Lib.hid hl
  clear h hl
  by_cases ho : okS sizes = true
  · have HE : Hid (encC sizes l = match runC (beginC sizes) l with | none => ([], 2) | some u => if 65536 < l.length then ([], 3) else (digC u.D u.N, 0)) := by
      show _ = _
      unfold encC
      rw [if_neg (by rw [ho]; decide)]
    have HSz : Hid (∀ s ∈ sizes, 1 ≤ s ∧ s ≤ 256) := (of_decide_eq_true ho).1
    rw [ho] at HB
    clear ho
    go_enter Try.func13, Try.ntmps13
    go_wp2_with fail
    refine HB.out.mono ?_
    rintro e w1 ⟨v, t', rfl, htr, htt, hb1⟩
    obtain rfl := htt rfl
    have HT1 := Lib.hid htr
    have HB1 := Lib.hid hb1
    obtain ⟨AC, cC, AN, cN, vs, rfl, _⟩ := htr
    clear hb1 htt HB
    go_wp2
    go_loopg [8] m (fun g s8 wx => ∃ (i : Nat) (t : Cdr) (AC : Option Addr) (cC : Nat) (AN : Option Addr) (cN : Nat), i + g = m ∧ s8 = .int .i64 i ∧ t.D ≤ 5 + 3 * i ∧ Hid (t.C.length = n) ∧ Hid (Blk wx w1.heap.size 68 #[.slice AC t.C.length cC, .slice AN t.D cN, .int .i64 (t.R : Int)]) ∧ Hid (TR (fun k => k = w1.heap.size) wx t (.agg #[.slice AC t.C.length cC, .slice AN t.D cN, .int .i64 (t.R : Int)])) ∧ Hid (COk t) ∧ Hid (runC (beginC sizes) (l.take i) = some t) ∧ Hid (Below w.heap.size w wx))
    case atStart =>
      refine ⟨0, beginC sizes, AC, cC, AN, cN, by omega, rfl, by simp [beginC], by show _ = _; simp [beginC]; exact HLs.out, Blk.new _ _ _, ?_, begin_ok HSz.out, rfl, new_alloc HB1.out _⟩
      exact HT1.out.more (new_alloc (Below.refl _ _) _) fun k hk => Or.inr (by omega)
    case round =>
      obtain ⟨i, t, AC, cC, AN, cN, hig, rfl, hD, HCl, HBl, HT, HOk, HRn, HBe⟩ := hrel
      have hblt := HBl.out.lt
      by_cases hi : i < m
      · have ti : decide ((i : Int) < (m : Int)) = true := by simp; omega
        have hil : i < l.length := by rw [HL.out]; exact hi
        obtain ⟨b, off, rfl, hlt, hc⟩ := (HH.out.kept HBe.out).spot (by omega)
        obtain ⟨hx1, hx2⟩ := cod_at hil
        have hcx := hc _ _ hx1
        have hcy := hc _ _ hx2
        clear hx1 hx2
        have HTk : Hid (l.take (i + 1) = l.take i ++ [l[i]]) := List.take_succ_eq_append_getElem hil
        have HDr : Hid (l = l.take i ++ l[i] :: l.drop (i + 1)) := by show _ = _; rw [← List.drop_eq_getElem_cons hil, List.take_append_drop]
        generalize l[i] = xy at *
        obtain ⟨x, y⟩ := xy
        simp only at hcx hcy
        rw [← Nat.add_assoc] at hcy
        have x0 : wr.cell? ⟨w1.heap.size, 0, none⟩ = some (.slice AC t.C.length cC) := HBl.out.cell 0
        have x1 : wr.cell? ⟨w1.heap.size, 1, none⟩ = some (.slice AN t.D cN) := HBl.out.cell 1
        have x2 : wr.cell? ⟨w1.heap.size, 2, none⟩ = some (.int .i64 (t.R : Int)) := HBl.out.cell 2
        clear hc
        have HSt : Hid (∀ W, Below wr.heap.size wr W → Calls Try.prog 29 #[.agg #[.slice AC t.C.length cC, .slice AN t.D cN, .int .i64 (t.R : Int)], .agg #[.int .i64 x, .int .i64 y]] W (Stept (fun k => k = w1.heap.size ∨ wr.heap.size ≤ k ∧ k < W.heap.size) W t (stepC t (x, y)))) := fun W hW =>
          ref6Step_any t _ x y W _ (fun k hk => by have := hW.size; rcases hk with h | h <;> omega) (HT.out.more hW fun k hk => by rcases hk with h | h; exact Or.inl h; exact Or.inr h.1) HOk.out (by omega) (by have := HCl.out; omega)
        go_wp2
        obtain ⟨o, hso⟩ : ∃ o, stepC t (x, y) = o := ⟨_, rfl⟩
        rw [hso] at HSt
        have HSo := Lib.hid hso
        clear hso
        have HKp : Hid (∀ W, Below wr.heap.size wr W → W.cell? ⟨w1.heap.size, 0, none⟩ = some (.slice AC t.C.length cC) ∧ W.cell? ⟨w1.heap.size, 1, none⟩ = some (.slice AN t.D cN) ∧ W.cell? ⟨w1.heap.size, 2, none⟩ = some (.int .i64 (t.R : Int)) ∧ W.cell? ⟨b, off + i * 2, none⟩ = some (.int .i64 x) ∧ W.cell? ⟨b, off + i * 2 + 1, none⟩ = some (.int .i64 y)) := fun W hB => ⟨(hB.cell (p := ⟨w1.heap.size, 0, none⟩) hblt).trans x0, (hB.cell (p := ⟨w1.heap.size, 1, none⟩) hblt).trans x1, (hB.cell (p := ⟨w1.heap.size, 2, none⟩) hblt).trans x2, (hB.cell (p := ⟨b, off + i * 2, none⟩) hlt).trans hcx, (hB.cell (p := ⟨b, off + i * 2 + 1, none⟩) hlt).trans hcy⟩
        cases o with
        | none =>
          have HEn : Hid (encC sizes l = ([], 2)) := by
            show _ = _
            rw [HE.out, HDr.out, run_app, HRn.out]
            simp only [Option.bind_some, runC, HSo.out, Option.bind_none]
          go_region_held3 (fun W => W.cell? ⟨w1.heap.size, 0, none⟩ = some (.slice AC t.C.length cC) ∧ W.cell? ⟨w1.heap.size, 1, none⟩ = some (.slice AN t.D cN) ∧ W.cell? ⟨w1.heap.size, 2, none⟩ = some (.int .i64 (t.R : Int)) ∧ W.cell? ⟨b, off + i * 2, none⟩ = some (.int .i64 x) ∧ W.cell? ⟨b, off + i * 2 + 1, none⟩ = some (.int .i64 y)) (first | exact ⟨x0, x1, x2, hcx, hcy⟩ | exact HKp.out _ HB3.out | exact HKp.out _ (new_alloc HB3.out _) | exact HKp.out _ (new_alloc (Below.refl _ _) _).drew | exact HKp.out _ (set3_below HB3.out (Nat.le_refl _) _ _ _)) (first
            | (go_at_call 29; refine Calls.mono (HSt.out _ ?_) ?_; (first | exact (Below.refl _ _).drew | exact (new_alloc (Below.refl _ _) _).drew); rintro e w3 ⟨v3, rfl, htr3, hb3⟩; have HB3 : Hid (Below wr.heap.size wr w3) := (by first | exact new_call (Below.refl _ _).drew hb3 | exact new_call (new_alloc (Below.refl _ _) _).drew hb3); obtain ⟨A3, c3, N3, e3, vs3, rfl, _⟩ := htr3; (try (have HU : Hid (Blk w3 wr.heap.size 68 #[.slice none 0 0, .slice none 0 0, .int .i64 0]) := Blk.below (show Blk (wr.alloc (.cells #[.slice none 0 0, .slice none 0 0, .int .i64 0] 68)).drew wr.heap.size 68 #[.slice none 0 0, .slice none 0 0, .int .i64 0] from Blk.new wr _ _) hb3 (by show _ < (wr.heap.push _).size; simp); have u0 : w3.cell? ⟨wr.heap.size, 0, none⟩ = some (.slice none 0 0) := HU.out.cell 0; have u1 : w3.cell? ⟨wr.heap.size, 1, none⟩ = some (.slice none 0 0) := HU.out.cell 1; have u2 : w3.cell? ⟨wr.heap.size, 2, none⟩ = some (.int .i64 0) := HU.out.cell 2; have p0 := HU.out.frozen 0; have p1 := HU.out.frozen 1; have p2 := HU.out.frozen 2)); clear hb3))
          all_goals
            have HB5 : Hid (Below w.heap.size w w3) := HBe.out.trans (HB3.out.mono HBe.out.size)
            go_wp2
            go_ret2
            rw [HEn.out]
            first
              | exact ⟨none, 0, rfl, Has.none _ _ _ fun _ => rfl, new_alloc HB5.out _⟩
              | exact ⟨none, 0, rfl, Has.none _ _ _ fun _ => rfl, set3_below HB5.out HBe.out.size _ _ _⟩
        | some u =>
          have HOk2 := Lib.hid (stepC_ok HOk.out HSo.out)
          obtain ⟨hD2, hC2⟩ := step_shape HOk.out HSo.out
          have HC2 : Hid (u.C.length = n) := hC2.trans HCl.out
          have HRn2 : Hid (runC (beginC sizes) (l.take (i + 1)) = some u) := by
            show _ = _
            rw [HTk.out, run_snoc, HRn.out]
            exact HSo.out
          clear hC2
          go_region_held3 (fun W => W.cell? ⟨w1.heap.size, 0, none⟩ = some (.slice AC t.C.length cC) ∧ W.cell? ⟨w1.heap.size, 1, none⟩ = some (.slice AN t.D cN) ∧ W.cell? ⟨w1.heap.size, 2, none⟩ = some (.int .i64 (t.R : Int)) ∧ W.cell? ⟨b, off + i * 2, none⟩ = some (.int .i64 x) ∧ W.cell? ⟨b, off + i * 2 + 1, none⟩ = some (.int .i64 y)) (first | exact ⟨x0, x1, x2, hcx, hcy⟩ | exact HKp.out _ HB3.out | exact HKp.out _ (new_alloc HB3.out _) | exact HKp.out _ (new_alloc (Below.refl _ _) _).drew | exact HKp.out _ (set3_below HB3.out (Nat.le_refl _) _ _ _)) (first
            | (go_at_call 29; refine Calls.mono (HSt.out _ ?_) ?_; (first | exact (Below.refl _ _).drew | exact (new_alloc (Below.refl _ _) _).drew); rintro e w3 ⟨v3, rfl, htr3, hb3⟩; have HB3 : Hid (Below wr.heap.size wr w3) := (by first | exact new_call (Below.refl _ _).drew hb3 | exact new_call (new_alloc (Below.refl _ _) _).drew hb3); have HT3 := Lib.hid htr3; obtain ⟨A3, c3, N3, e3, vs3, rfl, _⟩ := htr3; (try (have HU : Hid (Blk w3 wr.heap.size 68 #[.slice none 0 0, .slice none 0 0, .int .i64 0]) := Blk.below (show Blk (wr.alloc (.cells #[.slice none 0 0, .slice none 0 0, .int .i64 0] 68)).drew wr.heap.size 68 #[.slice none 0 0, .slice none 0 0, .int .i64 0] from Blk.new wr _ _) hb3 (by show _ < (wr.heap.push _).size; simp); have u0 : w3.cell? ⟨wr.heap.size, 0, none⟩ = some (.slice none 0 0) := HU.out.cell 0; have u1 : w3.cell? ⟨wr.heap.size, 1, none⟩ = some (.slice none 0 0) := HU.out.cell 1; have u2 : w3.cell? ⟨wr.heap.size, 2, none⟩ = some (.int .i64 0) := HU.out.cell 2; have p0 := HU.out.frozen 0; have p1 := HU.out.frozen 1; have p2 := HU.out.frozen 2)); clear hb3))
          · have HB5 : Hid (Below wr.heap.size wr (w3.alloc (.cells #[.slice A3 u.C.length c3, .slice N3 u.D e3, .int .i64 (u.R : Int)] 68))) := new_alloc HB3.out _
            have HBu := Lib.hid (Blk.new w3 68 #[.slice A3 u.C.length c3, .slice N3 u.D e3, .int .i64 (u.R : Int)])
            have HT5 : Hid (TR (fun k => k = w1.heap.size) (w3.alloc (.cells #[.slice A3 u.C.length c3, .slice N3 u.D e3, .int .i64 (u.R : Int)] 68)) u (.agg #[.slice A3 u.C.length c3, .slice N3 u.D e3, .int .i64 (u.R : Int)])) := HT3.out.more (new_alloc (Below.refl _ _) _) fun k hk => Or.inl (Or.inl hk)
            generalize w3.alloc (.cells #[.slice A3 u.C.length c3, .slice N3 u.D e3, .int .i64 (u.R : Int)] 68) = W5 at *
            have HBo : Hid (Blk W5 w1.heap.size 68 #[.slice AC t.C.length cC, .slice AN t.D cN, .int .i64 (t.R : Int)]) := Blk.below HBl.out HB5.out hblt
            have n0 : W5.cell? ⟨w3.heap.size, 0, none⟩ = some (.slice A3 u.C.length c3) := HBu.out.cell 0
            have n1 : W5.cell? ⟨w3.heap.size, 1, none⟩ = some (.slice N3 u.D e3) := HBu.out.cell 1
            have n2 : W5.cell? ⟨w3.heap.size, 2, none⟩ = some (.int .i64 (u.R : Int)) := HBu.out.cell 2
            have o0 : W5.cell? ⟨w1.heap.size, 0, none⟩ = some (.slice AC t.C.length cC) := HBo.out.cell 0
            have o1 : W5.cell? ⟨w1.heap.size, 1, none⟩ = some (.slice AN t.D cN) := HBo.out.cell 1
            have o2 : W5.cell? ⟨w1.heap.size, 2, none⟩ = some (.int .i64 (t.R : Int)) := HBo.out.cell 2
            have r0 := HBo.out.frozen 0
            have r1 := HBo.out.frozen 1
            have r2 := HBo.out.frozen 2
            have HB6 : Hid (Below w.heap.size w W5) := HBe.out.trans (HB5.out.mono HBe.out.size)
            have hw1 := HB1.out.size
            clear HB5 HBu HSt HKp
            go_wp2
            go_roundg (gk - 1)
            case measure => omega
            case rel => exact ⟨i + 1, u, A3, c3, N3, e3, by omega, by go_num, by omega, HC2, set3g HBo.out, HT5.out.far (set3_far _ _ _ _ _), HOk2, HRn2, set3_below HB6.out hw1 _ _ _⟩
          · have HB5 := Lib.hid (set3_below HB3.out (Nat.le_refl _) (.slice A3 u.C.length c3) (.slice N3 u.D e3) (.int .i64 (u.R : Int)))
            have HBu := Lib.hid (set3g (c0 := .slice A3 u.C.length c3) (c1 := .slice N3 u.D e3) (c2 := .int .i64 (u.R : Int)) HU.out)
            have HT5 := Lib.hid (((HT3.out.less (D := fun k => k = w1.heap.size ∨ k = wr.heap.size) fun k hk => by
              rcases hk with h | h
              · exact Or.inl h
              · exact Or.inr ⟨Nat.le_of_eq h.symm, by rw [h]; show _ < (wr.heap.push _).size; simp⟩).far (Far1.farD (G := wr.heap.size) ((((Far1.refl wr.heap.size w3).set 0 (.slice A3 u.C.length c3)).set 1 (.slice N3 u.D e3)).set 2 (.int .i64 (u.R : Int))) (Or.inr rfl))).less (D := fun k => k = w1.heap.size) fun k hk => Or.inl hk)
            generalize ((w3.setCell ⟨wr.heap.size, 0, none⟩ (.slice A3 u.C.length c3)).setCell ⟨wr.heap.size, 1, none⟩ (.slice N3 u.D e3)).setCell ⟨wr.heap.size, 2, none⟩ (.int .i64 (u.R : Int)) = W5 at *
            have HBo : Hid (Blk W5 w1.heap.size 68 #[.slice AC t.C.length cC, .slice AN t.D cN, .int .i64 (t.R : Int)]) := Blk.below HBl.out HB5.out hblt
            have n0 : W5.cell? ⟨wr.heap.size, 0, none⟩ = some (.slice A3 u.C.length c3) := HBu.out.cell 0
            have n1 : W5.cell? ⟨wr.heap.size, 1, none⟩ = some (.slice N3 u.D e3) := HBu.out.cell 1
            have n2 : W5.cell? ⟨wr.heap.size, 2, none⟩ = some (.int .i64 (u.R : Int)) := HBu.out.cell 2
            have o0 : W5.cell? ⟨w1.heap.size, 0, none⟩ = some (.slice AC t.C.length cC) := HBo.out.cell 0
            have o1 : W5.cell? ⟨w1.heap.size, 1, none⟩ = some (.slice AN t.D cN) := HBo.out.cell 1
            have o2 : W5.cell? ⟨w1.heap.size, 2, none⟩ = some (.int .i64 (t.R : Int)) := HBo.out.cell 2
            have r0 := HBo.out.frozen 0
            have r1 := HBo.out.frozen 1
            have r2 := HBo.out.frozen 2
            have HB6 : Hid (Below w.heap.size w W5) := HBe.out.trans (HB5.out.mono HBe.out.size)
            have hw1 := HB1.out.size
            clear HB5 HBu HSt HKp
            go_wp2
            go_roundg (gk - 1)
            case measure => omega
            case rel => exact ⟨i + 1, u, A3, c3, N3, e3, by omega, by go_num, by omega, HC2, set3g HBo.out, HT5.out.far (set3_far _ _ _ _ _), HOk2, HRn2, set3_below HB6.out hw1 _ _ _⟩
      · have ti : decide ((i : Int) < (m : Int)) = false := by simp; omega
        have t6 : decide ((65536 : Int) < (m : Int)) = false := by simp; omega
        obtain rfl : i = m := by omega
        have HF : Hid (encC sizes l = (digC t.D t.N, 0)) := by
          show _ = _
          have h1 := HRn.out
          rw [List.take_of_length_le (by rw [HL.out]; exact Nat.le_refl _)] at h1
          rw [HE.out, h1]
          simp only
          rw [if_neg (by rw [HL.out]; omega)]
        have x1 : wr.cell? ⟨w1.heap.size, 1, none⟩ = some (.slice AN t.D cN) := HBl.out.cell 1
        obtain ⟨AC2, cC2, AN2, cN2, vs2, ev, hM⟩ := HT.out
        cases ev
        have HDg := Lib.hid (ref6Digits_any AN t.D cN (digC t.D t.N) wr hM.here.dig (digC_byte _ _) (by omega))
        clear hM
        go_wp2_with fail
        refine HDg.out.mono ?_
        rintro e w9 ⟨A9, c9, rfl, hh9, _, hb9⟩
        have HH9 := Lib.hid hh9
        have HB9 := Lib.hid (new_call HBe.out hb9)
        clear hh9 hb9
        go_wp2
        go_ret2
        rw [HF.out]
        exact ⟨A9, c9, rfl, HH9.out, HB9.out⟩
  · have ho : okS sizes = false := by simpa using ho
    rw [ho] at HB
    have HE : Hid (encC sizes l = ([], 2)) := if_pos ho
    rw [HE.out]
    clear ho
    go_enter Try.func13, Try.ntmps13
    go_wp2_with fail
    refine HB.out.mono ?_
    rintro e w1 ⟨v, t', rfl, htr, _, hb1⟩
    have HB1 := Lib.hid hb1
    obtain ⟨AC, cC, AN, cN, vs, rfl, _⟩ := htr
    clear hb1
    go_wp2
    go_ret2
    exact ⟨none, 0, rfl, Has.none _ _ _ fun _ => rfl, new_alloc HB1.out _⟩
end Go.Proofs.Ytfkmcjlapigapaa
