/- lapidaryref06: the struct T in memory; whole, share, Step. -/
import Derived.Test.YtfkmcjlapigapaaCoderRef
import Derived.Deep.RegionHeld3
import Derived.Deep.QuietTactic
import Derived.BigQuiet
import Derived.StillTailTactics
namespace Go.Proofs.Ytfkmcjlapigapaa
open Go.RowKit

/-- Rows of counts. -/
def RowsI (w : World) (vs : List Value) (ls : List (List Nat)) : Prop := vs.length = ls.length ∧ ∀ i (hi : i < ls.length), ∃ A n c, vs[i]? = some (.slice A n c) ∧ Has w A n c (i64s ls[i])
theorem RowsI.kept {w w' : World} {vs : List Value} {ls : List (List Nat)} (h : RowsI w vs ls) (hb : Below w.heap.size w w') : RowsI w' vs ls :=
  ⟨h.1, fun i hi => by obtain ⟨A, n, c, e, hh⟩ := h.2 i hi; exact ⟨A, n, c, e, hh.kept hb⟩⟩
/-- What one has come to, in memory: rows of counts, digits, the range. -/
structure TM (w : World) (t : Cdr) (AC : Option Addr) (cC : Nat) (AN : Option Addr) (cN : Nat) (vs : List Value) : Prop where
  row : Has w AC t.C.length cC vs
  rows : RowsI w vs t.C
  dig : Has w AN t.D cN (i64s (digC t.D t.N))
theorem TM.kept {w w' : World} {t : Cdr} {AC : Option Addr} {cC : Nat} {AN : Option Addr} {cN : Nat} {vs : List Value} (h : TM w t AC cC AN cN vs) (hb : Below w.heap.size w w') : TM w' t AC cC AN cN vs := ⟨h.row.kept hb, h.rows.kept hb, h.dig.kept hb⟩
def tv (t : Cdr) (AC : Option Addr) (cC : Nat) (AN : Option Addr) (cN : Nat) : Array Value := #[.slice AC t.C.length cC, .slice AN t.D cN, .int .i64 (t.R : Int)]
/-- As a value, whatever becomes of D's blocks. -/
def TR (D : Nat → Prop) (w : World) (t : Cdr) (v : Value) : Prop := ∃ AC cC AN cN vs, v = .agg #[.slice AC t.C.length cC, .slice AN t.D cN, .int .i64 (t.R : Int)] ∧ Rob D w fun W => TM W t AC cC AN cN vs
theorem TR.far {D : Nat → Prop} {w w' : World} {t : Cdr} {v : Value} (h : TR D w t v) (hf : FarD D w w') : TR D w' t v := by
  obtain ⟨AC, cC, AN, cN, vs, e, h1⟩ := h
  exact ⟨AC, cC, AN, cN, vs, e, h1.far hf⟩
theorem TR.chg {D D' : Nat → Prop} {w w' : World} {t : Cdr} {v : Value} (h : TR D w t v) (hc : Chg D w w') (hg : ∀ k, k < w.heap.size → D' k → D k) : TR D' w' t v := by
  obtain ⟨AC, cC, AN, cN, vs, e, h1⟩ := h
  exact ⟨AC, cC, AN, cN, vs, e, Rob.chg (fun _ _ hb h => h.kept hb) h1 hc hg⟩
theorem TR.more {D D' : Nat → Prop} {w w' : World} {t : Cdr} {v : Value} (h : TR D w t v) (hb : Below w.heap.size w w') (hd : ∀ k, D' k → D k ∨ w.heap.size ≤ k) : TR D' w' t v := by
  obtain ⟨AC, cC, AN, cN, vs, e, h1⟩ := h
  exact ⟨AC, cC, AN, cN, vs, e, Rob.more (fun _ _ hb h => h.kept hb) h1 hb hd⟩

theorem whole_neg {C : List (List Nat)} {n : Nat} (h1 : 1 ≤ n) (h2 : n ≤ 16) : wholeC C (-(n : Int)) = 2 ^ n := by
  unfold wholeC
  rw [if_pos (by omega), show (-(-(n : Int))).toNat = n by omega]
theorem whole_at {C : List (List Nat)} {k : Nat} (h : k < C.length) : wholeC C (k : Int) = C[k].sum := by
  unfold wholeC
  rw [if_neg (by omega), if_pos (by omega), List.getD_eq_getElem?_getD, Int.toNat_natCast, List.getElem?_eq_getElem h]; rfl
theorem whole_out {C : List (List Nat)} {k : Int} (h : k < -16 ∨ (C.length : Int) ≤ k) : wholeC C k = 0 := by
  unfold wholeC
  rw [if_neg (by omega), if_neg (by omega)]

set_option maxRecDepth 100000 in
set_option maxHeartbeats 1000000 in
theorem ref6Whole_any (t : Cdr) (AC : Option Addr) (cC : Nat) (AN : Option Addr) (cN : Nat) (vs : List Value) (k : Int) (w : World) (h : TM w t AC cC AN cN vs) (hC : ∀ c ∈ t.C, Cnts c) :
    Calls Try.prog 35 #[.agg #[.slice AC t.C.length cC, .slice AN t.D cN, .int .i64 (t.R : Int)], .int .i64 k] w fun e w' => e = .returned (.int .i64 (wholeC t.C k : Int)) ∧ Below w.heap.size w w' := by
  have HM := Lib.hid h
  have HC := Lib.hid hC
  clear h hC
  by_cases h0 : k < 0
  · have t0 : decide (k < 0) = true := by simpa using h0
    by_cases h1 : -16 ≤ k
    · have t1 : decide (-16 ≤ k) = true := by simpa using h1
      obtain ⟨n, rfl⟩ : ∃ n : Nat, k = -(n : Int) := ⟨(-k).toNat, by omega⟩
      have HE : Hid (wholeC t.C (-(n : Int)) = 2 ^ n) := whole_neg (by omega) (by omega)
      rw [HE.out]
      have HT := Lib.hid (fun W => ref6Two_any n W (by omega))
      go_enter Try.func35, Try.ntmps35
      go_wp2_with (go_at_call 54; refine (HT.out _).mono ?_; rintro e w' ⟨rfl, rfl⟩)
      go_ret
      exact ⟨rfl, new_alloc (Below.refl _ _) _⟩
    · have t1 : decide (-16 ≤ k) = false := by simpa using h1
      have HE : Hid (wholeC t.C k = 0) := whole_out (by omega)
      rw [HE.out]
      go_enter Try.func35, Try.ntmps35
      go_wp2
      go_ret
      exact ⟨rfl, new_alloc (Below.refl _ _) _⟩
  · have t0 : decide (k < 0) = false := by simpa using h0
    obtain ⟨n, rfl⟩ := Int.eq_ofNat_of_zero_le (show 0 ≤ k by omega)
    by_cases h1 : t.C.length ≤ n
    · have t1 : decide (t.C.length ≤ n) = true := by simpa using h1
      have HE : Hid (wholeC t.C (n : Int) = 0) := whole_out (by omega)
      rw [HE.out]
      go_enter Try.func35, Try.ntmps35
      go_wp2
      go_ret
      exact ⟨rfl, new_alloc (Below.refl _ _) _⟩
    · have t1 : decide (t.C.length ≤ n) = false := by simpa using h1
      have hn : n < t.C.length := by omega
      have HE : Hid (wholeC t.C (n : Int) = t.C[n].sum) := whole_at hn
      rw [HE.out]
      have hcn := HC.out _ (List.getElem_mem hn)
      have hM := HM.out.kept (new_alloc (Below.refl _ _) (.cells #[.slice AC t.C.length cC, .slice AN t.D cN, .int .i64 (t.R : Int)] 68))
      obtain ⟨b, off, rfl, hlt, hc⟩ := hM.row.spot (by omega)
      obtain ⟨A1, n1, c1, e1, hh1⟩ := hM.rows.2 n hn
      have hcell := hc n _ e1
      have hl1 : t.C[n].length = n1 := by have := hh1.len; rw [i64s_len] at this; exact this
      have hs1 := hcn.sum
      have hf1 := hcn.few
      have HS := Lib.hid (fun j => (ref5Sum_any A1 n1 c1 t.C[n] n1 _ (hh1.kept (quiet_below (w.alloc (.cells #[.slice (some ⟨b, off, none⟩) t.C.length cC, .slice AN t.D cN, .int .i64 (t.R : Int)] 68)) j)) (Nat.le_refl _) (by omega) (by omega)).mono fun _ _ ⟨p, q⟩ => And.intro p q.symm)
      rw [List.take_of_length_le (by omega)] at HS
      clear hc hM hh1 e1 hcn hl1
      generalize t.C[n].sum = q at *
      go_enter Try.func35, Try.ntmps35
      go_wp2_with fail
      go_quiet ((go_at_call 55; exact Calls.quiet_of_same (HS.out _)))
      go_wp2
      go_ret
      exact ⟨rfl, (new_alloc (Below.refl _ _) _).trans ((quiet_below _ _).mono (by simp))⟩

theorem share_none {C : List (List Nat)} {x : Cod} (hC : ∀ c ∈ C, Cnts c) (h : wholeC C x.1 = 0) : shareC C x = (0, 0) := by
  unfold wholeC at h
  unfold shareC
  by_cases h1 : -16 ≤ x.1 ∧ x.1 < 0
  · rw [if_pos h1] at h
    have := Nat.two_pow_pos (-x.1).toNat
    omega
  · rw [if_neg h1] at h ⊢
    by_cases h2 : 0 ≤ x.1 ∧ x.1 < (C.length : Int)
    · rw [if_pos h2] at h
      have hl : x.1.toNat < C.length := by omega
      have hc := hC _ (List.getElem_mem hl)
      rw [List.getD_eq_getElem?_getD, List.getElem?_eq_getElem hl] at h
      have h3 : C[x.1.toNat].sum = 0 := h
      have h4 := hc.some_
      have h5 := hc.pos (C[x.1.toNat][0]'h4) (List.getElem_mem h4)
      have h6 := sum_snoc5 (i := 0) h4
      have h7 := sum_take5 C[x.1.toNat] (0 + 1)
      omega
    · rw [if_neg h2]
theorem share_plain {C : List (List Nat)} {n : Nat} {y : Int} (h1 : 1 ≤ n) (h2 : n ≤ 16) : shareC C (-(n : Int), y) = if 0 ≤ y ∧ y < ((2 ^ n : Nat) : Int) then (y.toNat, 1) else (0, 0) := by
  unfold shareC
  rw [if_pos (show -16 ≤ (-(n : Int), y).1 ∧ (-(n : Int), y).1 < 0 by simp only; omega), show (-(-(n : Int), y).1).toNat = n by simp only; omega]
theorem share_at {C : List (List Nat)} {k : Nat} {y : Int} (h : k < C.length) : shareC C ((k : Int), y) = if (shareN C[k] y).2.2 = 0 then ((shareN C[k] y).1, (shareN C[k] y).2.1) else (0, 0) := by
  unfold shareC
  rw [if_neg (by simp only; omega), if_pos (by simp only; omega)]
  simp only [Int.toNat_natCast, List.getD_eq_getElem?_getD, List.getElem?_eq_getElem h, Option.getD_some]
theorem quiet_more {P : Program} {f : FuncId} {args : Array Value} {w : World} {n : Nat} {v : Value} (h : Calls P f args (w.drewN n) fun e w' => e = .returned v ∧ ∃ m, w' = (w.drewN n).drewN m) : Calls P f args (w.drewN n) fun e w'' => e = .returned v ∧ ∃ m, w'' = w.drewN m :=
  h.mono fun _ _ ⟨he, m, hm⟩ => ⟨he, n + m, by rw [hm, World.drewN_drewN]⟩
theorem blk_second (w : World) (o : Obj) (t : TypeId) (cs : Array Value) : Blk ((w.alloc o).alloc (.cells cs t)) (w.heap.size + 1) t cs := by
  have := Blk.new (w.alloc o) t cs
  rw [show (w.alloc o).heap.size = w.heap.size + 1 by simp] at this
  exact this
theorem below_two (w : World) (o o' : Obj) : Below w.heap.size w ((w.alloc o).alloc o') := new_alloc (new_alloc (Below.refl _ _) _) _

set_option maxRecDepth 100000 in
set_option maxHeartbeats 1000000 in
theorem ref6Share_any (t : Cdr) (AC : Option Addr) (cC : Nat) (AN : Option Addr) (cN : Nat) (vs : List Value) (x y : Int) (w : World) (h : TM w t AC cC AN cN vs) (hC : ∀ c ∈ t.C, Cnts c) :
    Calls Try.prog 46 #[.agg #[.slice AC t.C.length cC, .slice AN t.D cN, .int .i64 (t.R : Int)], .agg #[.int .i64 x, .int .i64 y]] w fun e w' => e = .returned (.tuple #[.int .i64 ((shareC t.C (x, y)).1 : Int), .int .i64 ((shareC t.C (x, y)).2 : Int)]) ∧ Below w.heap.size w w' := by
  have HM := Lib.hid h
  have HC := Lib.hid hC
  have HB1 := Lib.hid (below_two w (.cells #[.slice AC t.C.length cC, .slice AN t.D cN, .int .i64 (t.R : Int)] 68) (.cells #[.int .i64 x, .int .i64 y] 41))
  have HW := Lib.hid (ref6Whole_any t AC cC AN cN vs x _ (HM.out.kept HB1.out) HC.out)
  have y0 : ((w.alloc (.cells #[.slice AC t.C.length cC, .slice AN t.D cN, .int .i64 (t.R : Int)] 68)).alloc (.cells #[.int .i64 x, .int .i64 y] 41)).heap.size = w.heap.size + 2 := by simp
  have HY := Lib.hid y0
  have HXb := Lib.hid (blk_second w (.cells #[.slice AC t.C.length cC, .slice AN t.D cN, .int .i64 (t.R : Int)] 68) 41 #[.int .i64 x, .int .i64 y])
  have HTb := Lib.hid ((Blk.new w 68 #[.slice AC t.C.length cC, .slice AN t.D cN, .int .i64 (t.R : Int)]).alloc (.cells #[.int .i64 x, .int .i64 y] 41))
  clear h hC y0
  by_cases h0 : wholeC t.C x = 0
  · have HE : Hid (shareC t.C (x, y) = (0, 0)) := share_none HC.out h0
    rw [HE.out]
    rw [h0] at HW
    clear h0
    go_enter Try.func46, Try.ntmps46
    go_wp2_with (go_at_call 35; refine HW.out.mono ?_; rintro e w' ⟨rfl, hb⟩; have HB := Lib.hid (new_call HB1.out hb); clear hb)
    go_ret2
    exact ⟨rfl, HB.out⟩
  · have hw0 : ((wholeC t.C x : Int) == 0) = false := by simpa using h0
    have hw1 : decide ((wholeC t.C x : Int) = 0) = false := by simpa using h0
    by_cases hx : x < 0
    · have tx : decide (x < 0) = true := by simpa using hx
      obtain ⟨n, rfl⟩ : ∃ n : Nat, x = -(n : Int) := ⟨(-x).toNat, by omega⟩
      have hn2 : n ≤ 16 := by
        rcases Nat.lt_or_ge 16 n with h | h
        · exact absurd (whole_out (by omega)) h0
        · exact h
      have HE := Lib.hid (share_plain (C := t.C) (n := n) (y := y) (by omega) hn2)
      have HT := Lib.hid (fun W => ref6Two_any n W hn2)
      have hp : 2 ^ n ≤ 2 ^ 16 := Nat.pow_le_pow_right (by decide) hn2
      generalize 2 ^ n = p2 at *
      clear h0
      generalize (wholeC t.C (-(n : Int))) = q at *
      by_cases hy0 : y < 0
      · have ty : decide (y < 0) = true := by simpa using hy0
        rw [if_neg (by omega)] at HE
        rw [HE.out]
        go_enter Try.func46, Try.ntmps46
        go_wp2_with fail
        refine HW.out.mono ?_
        rintro e w2 ⟨rfl, hb⟩
        have x0 : w2.cell? ⟨w.heap.size + 1, 0, none⟩ = some (.int .i64 (-(n : Int))) := (HXb.out.below hb (by rw [HY.out]; omega)).cell 0
        have x1 : w2.cell? ⟨w.heap.size + 1, 1, none⟩ = some (.int .i64 y) := (HXb.out.below hb (by rw [HY.out]; omega)).cell 1
        have HB2 := Lib.hid (new_call HB1.out hb)
        clear hb HW HM HB1 HC
        go_wp2
        go_quiet (fail)
        go_wp2
        go_ret2
        exact ⟨rfl, new_call HB2.out (quiet_below _ _)⟩
      · have ty : decide (y < 0) = false := by simpa using hy0
        obtain ⟨m, rfl⟩ := Int.eq_ofNat_of_zero_le (show 0 ≤ y by omega)
        by_cases hy1 : p2 ≤ m
        · have tz : decide (p2 ≤ m) = true := by simpa using hy1
          rw [if_neg (by omega)] at HE
          rw [HE.out]
          go_enter Try.func46, Try.ntmps46
          go_wp2_with fail
          refine HW.out.mono ?_
          rintro e w2 ⟨rfl, hb⟩
          have x0 : w2.cell? ⟨w.heap.size + 1, 0, none⟩ = some (.int .i64 (-(n : Int))) := (HXb.out.below hb (by rw [HY.out]; omega)).cell 0
          have x1 : w2.cell? ⟨w.heap.size + 1, 1, none⟩ = some (.int .i64 (m : Int)) := (HXb.out.below hb (by rw [HY.out]; omega)).cell 1
          have HB2 := Lib.hid (new_call HB1.out hb)
          have HT2 := Lib.hid (fun j => (HT.out (w2.drewN j)).mono fun _ _ ⟨p, q⟩ => And.intro p q.symm)
          clear hb HW HM HB1 HC HT
          go_wp2
          go_quiet ((go_at_call 54; exact Calls.quiet_of_same (HT2.out _)))
          go_wp2
          go_ret2
          exact ⟨rfl, new_call HB2.out (quiet_below _ _)⟩
        · have tz : decide (p2 ≤ m) = false := by simpa using hy1
          rw [if_pos (by omega)] at HE
          rw [HE.out]
          go_enter Try.func46, Try.ntmps46
          go_wp2_with fail
          refine HW.out.mono ?_
          rintro e w2 ⟨rfl, hb⟩
          have x0 : w2.cell? ⟨w.heap.size + 1, 0, none⟩ = some (.int .i64 (-(n : Int))) := (HXb.out.below hb (by rw [HY.out]; omega)).cell 0
          have x1 : w2.cell? ⟨w.heap.size + 1, 1, none⟩ = some (.int .i64 (m : Int)) := (HXb.out.below hb (by rw [HY.out]; omega)).cell 1
          have HB2 := Lib.hid (new_call HB1.out hb)
          have HT2 := Lib.hid (fun j => (HT.out (w2.drewN j)).mono fun _ _ ⟨p, q⟩ => And.intro p q.symm)
          clear hb HW HM HB1 HC HT
          go_wp2
          go_quiet ((go_at_call 54; exact Calls.quiet_of_same (HT2.out _)))
          go_wp2
          go_ret2
          exact ⟨rfl, new_call HB2.out (quiet_below _ _)⟩
    · have tx : decide (x < 0) = false := by simpa using hx
      obtain ⟨n, rfl⟩ := Int.eq_ofNat_of_zero_le (show 0 ≤ x by omega)
      have hn : n < t.C.length := by
        rcases Nat.lt_or_ge n t.C.length with h | h
        · exact h
        · exact absurd (whole_out (by omega)) h0
      have HE := Lib.hid (share_at (C := t.C) (y := y) hn)
      clear h0
      generalize (wholeC t.C (n : Int)) = q at *
      have hcn := HC.out _ (List.getElem_mem hn)
      obtain ⟨A1, n1, c1, e1, hh1⟩ := HM.out.rows.2 n hn
      have hl1 : t.C[n].length = n1 := by have := hh1.len; rw [i64s_len] at this; exact this
      have hs1 := hcn.sum
      have hf1 := hcn.few
      obtain ⟨b, off, rfl, hlt, hc⟩ := HM.out.row.spot (by omega)
      have hcell := hc n _ e1
      have HSh := Lib.hid (fun W (hW : Has W A1 n1 c1 (i64s t.C[n])) => ref5Share_q A1 n1 c1 t.C[n] y W hW (by omega) (by omega))
      have HH1 := Lib.hid hh1
      clear hc hcn hl1 e1 hs1 hf1 hh1
      obtain ⟨s1, s2, s3, hs⟩ : ∃ s1 s2 s3, shareN t.C[n] y = (s1, s2, s3) := ⟨_, _, _, rfl⟩
      rw [hs] at HE HSh
      clear hs
      by_cases hs3 : s3 = 0
      · subst hs3
        rw [if_pos rfl] at HE
        rw [HE.out]
        go_enter Try.func46, Try.ntmps46
        go_wp2_with fail
        refine HW.out.mono ?_
        rintro e w2 ⟨rfl, hb⟩
        have x0 : w2.cell? ⟨w.heap.size + 1, 0, none⟩ = some (.int .i64 (n : Int)) := (HXb.out.below hb (by rw [HY.out]; omega)).cell 0
        have x1 : w2.cell? ⟨w.heap.size + 1, 1, none⟩ = some (.int .i64 y) := (HXb.out.below hb (by rw [HY.out]; omega)).cell 1
        have x2 : w2.cell? ⟨w.heap.size, 0, none⟩ = some (.slice (some ⟨b, off, none⟩) t.C.length cC) := (HTb.out.below hb (by rw [HY.out]; omega)).cell 0
        have HB2 := Lib.hid (new_call HB1.out hb)
        have x3 := (HB2.out.cell (p := ⟨b, off + n, none⟩) hlt).trans hcell
        have HS2 := Lib.hid (fun j => HSh.out (w2.drewN j) ((HH1.out.kept HB2.out).kept (quiet_below w2 j)))
        clear hb HW HM HB1 HC HSh HH1 hcell
        go_wp2
        go_quiet ((go_at_call 60; exact quiet_more (HS2.out _)))
        go_wp2
        go_ret2
        exact ⟨rfl, new_call HB2.out (quiet_below _ _)⟩
      · rw [if_neg hs3] at HE
        rw [HE.out]
        have t3 : decide ((s3 : Int) = 0) = false := by simpa using hs3
        go_enter Try.func46, Try.ntmps46
        go_wp2_with fail
        refine HW.out.mono ?_
        rintro e w2 ⟨rfl, hb⟩
        have x0 : w2.cell? ⟨w.heap.size + 1, 0, none⟩ = some (.int .i64 (n : Int)) := (HXb.out.below hb (by rw [HY.out]; omega)).cell 0
        have x1 : w2.cell? ⟨w.heap.size + 1, 1, none⟩ = some (.int .i64 y) := (HXb.out.below hb (by rw [HY.out]; omega)).cell 1
        have x2 : w2.cell? ⟨w.heap.size, 0, none⟩ = some (.slice (some ⟨b, off, none⟩) t.C.length cC) := (HTb.out.below hb (by rw [HY.out]; omega)).cell 0
        have HB2 := Lib.hid (new_call HB1.out hb)
        have x3 := (HB2.out.cell (p := ⟨b, off + n, none⟩) hlt).trans hcell
        have HS2 := Lib.hid (fun j => HSh.out (w2.drewN j) ((HH1.out.kept HB2.out).kept (quiet_below w2 j)))
        clear hb HW HM HB1 HC HSh HH1 hcell
        go_wp2
        go_quiet ((go_at_call 60; exact quiet_more (HS2.out _)))
        go_wp2
        go_ret2
        exact ⟨rfl, new_call HB2.out (quiet_below _ _)⟩

theorem tInfo : (Try.prog.info? 68).map (·.size) = some 3 := by kernel_rfl
theorem t_load {W : World} {g : Nat} {c0 c1 c2 : Value} (h : Blk W g 68 #[c0, c1, c2]) : (loadVar 68 ⟨g, 0, none⟩).run Try.prog W = .ok (.agg #[c0, c1, c2]) W :=
  run_loadVar_row _ _ _ _ _ _ _ h Try.underlying68 rfl (by rw [tInfo]; rfl)
theorem results_pair {fn : Func} {p u : Tmp} {ty : TypeId} (h : fn.results = #[.cell p ty, .tmp u]) {tmps : Array Value} {P : Program} {w : World} {a : Addr} {v : Value} (hp : tmps.getD p undef = .pointer (some a))
    (hl : (loadVar ty a).run P w = .ok v w) : (results fn tmps).run P w = .ok (.tuple #[v, tmps.getD u undef]) w := by
  have hp' : tmps[p]?.getD undef = .pointer (some a) := by rw [← hp]; simp
  simp only [results, h]
  simp [hp', asAddr, hl]
/-- What Step leaves. -/
def Stept (D : Nat → Prop) (w : World) (t : Cdr) (o : Option Cdr) (e : Ending) (w' : World) : Prop := ∃ v, e = .returned (.tuple #[v, .bool o.isSome]) ∧ TR D w' (o.getD t) v ∧ Below w.heap.size w w'
theorem step6_end {D : Nat → Prop} {w W : World} {a : Act} {g : Nat} {c0 c1 c2 : Value} {t : Cdr} {o : Option Cdr} (hb : Blk W g 68 #[c0, c1, c2]) (hp : a.tmps.getD 4 undef = .pointer (some ⟨g, 0, none⟩)) (h5 : a.tmps.getD 5 undef = .bool o.isSome) (hd : a.defers = [])
    (hv : TR D W (o.getD t) (.agg #[c0, c1, c2])) (hB : Below w.heap.size w W) : bodyPost Try.prog Try.f29 (Stept D w t o) Exit.ret a W :=
  bodyPost_ret (results_pair Try.results29 hp (t_load hb)) hd ⟨_, by rw [h5], hv, hB⟩
theorem set3g {W : World} {g : Nat} {t : TypeId} {z0 z1 z2 c0 c1 c2 : Value} (h : Blk W g t #[z0, z1, z2]) : Blk (((W.setCell ⟨g, 0, none⟩ c0).setCell ⟨g, 1, none⟩ c1).setCell ⟨g, 2, none⟩ c2) g t #[c0, c1, c2] := ((h.set_ 0 c0).set_ 1 c1).set_ 2 c2
theorem set3_below {w W : World} {g B : Nat} (hb : Below B w W) (hg : B ≤ g) (c0 c1 c2 : Value) : Below B w (((W.setCell ⟨g, 0, none⟩ c0).setCell ⟨g, 1, none⟩ c1).setCell ⟨g, 2, none⟩ c2) :=
  ((hb.setCell (p := ⟨g, 0, none⟩) hg c0).setCell (p := ⟨g, 1, none⟩) hg c1).setCell (p := ⟨g, 2, none⟩) hg c2
theorem blk_third (w : World) (o o' : Obj) (t : TypeId) (cs : Array Value) : Blk (((w.alloc o).alloc o').alloc (.cells cs t)) (w.heap.size + 2) t cs := by
  have := Blk.new ((w.alloc o).alloc o') t cs
  rw [show ((w.alloc o).alloc o').heap.size = w.heap.size + 2 by simp] at this
  exact this
theorem below_three (w : World) (o o' o2 : Obj) : Below w.heap.size w (((w.alloc o).alloc o').alloc o2) := new_alloc (below_two w o o') _
/-- While Step goes on: the three new blocks, the digits that are its own. -/
structure SR (w : World) (x y : Int) (t : Cdr) (AC : Option Addr) (cC : Nat) (nv : Value) (wx : World) : Prop where
  b0 : Blk wx w.heap.size 68 #[.slice AC t.C.length cC, nv, .int .i64 (t.R : Int)]
  b1 : Blk wx (w.heap.size + 1) 41 #[.int .i64 x, .int .i64 y]
  b2 : Blk wx (w.heap.size + 2) 68 #[.slice none 0 0, .slice none 0 0, .int .i64 0]
  bel : Below w.heap.size w wx
theorem SR.sz {w wx : World} {x y : Int} {t : Cdr} {AC : Option Addr} {cC : Nat} {nv : Value} (h : SR w x y t AC cC nv wx) : w.heap.size + 3 ≤ wx.heap.size := by have := h.b2.lt; omega
theorem SR.next {w wx w' : World} {x y : Int} {t : Cdr} {AC : Option Addr} {cC : Nat} {nv : Value} {B : Nat} (h : SR w x y t AC cC nv wx) (hb : Below B wx w') (hB : w.heap.size + 3 ≤ B) : SR w x y t AC cC nv w' :=
  ⟨h.b0.below hb (by omega), h.b1.below hb (by omega), h.b2.below hb (by omega), h.bel.trans (hb.mono (by omega))⟩
theorem SR.setN {w wx : World} {x y : Int} {t : Cdr} {AC : Option Addr} {cC : Nat} {nv : Value} (h : SR w x y t AC cC nv wx) (nv' : Value) (N D : Nat) : SR w x y { t with N := N, D := D } AC cC nv' (wx.setCell ⟨w.heap.size, 1, none⟩ nv') :=
  ⟨h.b0.set_ 1 nv', h.b1.far (by simp) _, h.b2.far (by simp) _, h.bel.setCell (Nat.le_refl _) _⟩
theorem SR.setR {w wx : World} {x y : Int} {t : Cdr} {AC : Option Addr} {cC : Nat} {nv : Value} (h : SR w x y t AC cC nv wx) (R : Nat) : SR w x y { t with R := R } AC cC nv (wx.setCell ⟨w.heap.size, 2, none⟩ (.int .i64 (R : Int))) :=
  ⟨h.b0.set_ 2 _, h.b1.far (by simp) _, h.b2.far (by simp) _, h.bel.setCell (Nat.le_refl _) _⟩
theorem SR.start (w : World) (x y : Int) (t : Cdr) (AC : Option Addr) (cC : Nat) (nv : Value) : SR w x y t AC cC nv (((w.alloc (.cells #[.slice AC t.C.length cC, nv, .int .i64 (t.R : Int)] 68)).alloc (.cells #[.int .i64 x, .int .i64 y] 41)).alloc (.cells #[.slice none 0 0, .slice none 0 0, .int .i64 0] 68)) :=
  ⟨((Blk.new _ _ _).alloc _).alloc _, (blk_second _ _ _ _).alloc _, blk_third _ _ _ _ _, below_three _ _ _ _⟩
theorem own_set {wx : World} {e : TypeId} {v : Value} {xs : List Value} {B : Nat} (h : Own wx B e v xs) {g : Nat} (hg : g < B) (i : Nat) (u : Value) : Own (wx.setCell ⟨g, i, none⟩ u) B e v xs := by
  have := (Rob.row (D := fun k => k = g) h (fun k hk => by rw [hk]; exact hg)) _ (Far1.farD ((Far1.refl g wx).set i u) rfl)
  exact this

set_option maxRecDepth 100000 in
set_option maxHeartbeats 1000000 in
theorem ref6Step_none (t : Cdr) (AC : Option Addr) (cC : Nat) (AN : Option Addr) (cN : Nat) (vs : List Value) (x y : Int) (w : World) (D : Nat → Prop) (h : Rob D w fun W => TM W t AC cC AN cN vs) (hC : ∀ c ∈ t.C, Cnts c) (hn : (shareC t.C (x, y)).2 = 0) :
    Calls Try.prog 29 #[.agg #[.slice AC t.C.length cC, .slice AN t.D cN, .int .i64 (t.R : Int)], .agg #[.int .i64 x, .int .i64 y]] w (Stept D w t none) := by
  have HS := Lib.hid (SR.start w x y t AC cC (.slice AN t.D cN))
  have HSh := Lib.hid (ref6Share_any t AC cC AN cN vs x y _ (h.here.kept HS.out.bel) hC)
  have HM := Lib.hid h
  rw [hn] at HSh
  clear h hn hC
  go_enter Try.func29, Try.ntmps29
  go_wp2_with fail
  refine HSh.out.mono ?_
  rintro e w2 ⟨rfl, hb⟩
  have HS2 := Lib.hid (HS.out.next hb HS.out.sz)
  have x0 : w2.cell? ⟨w.heap.size, 0, none⟩ = some (.slice AC t.C.length cC) := HS2.out.b0.cell 0
  have x1 : w2.cell? ⟨w.heap.size, 1, none⟩ = some (.slice AN t.D cN) := HS2.out.b0.cell 1
  have x2 : w2.cell? ⟨w.heap.size, 2, none⟩ = some (.int .i64 (t.R : Int)) := HS2.out.b0.cell 2
  have z0 : w2.cell? ⟨w.heap.size + 2, 0, none⟩ = some (.slice none 0 0) := HS2.out.b2.cell 0
  have z1 : w2.cell? ⟨w.heap.size + 2, 1, none⟩ = some (.slice none 0 0) := HS2.out.b2.cell 1
  have z2 : w2.cell? ⟨w.heap.size + 2, 2, none⟩ = some (.int .i64 0) := HS2.out.b2.cell 2
  have q0 := HS2.out.b2.frozen 0
  have q1 := HS2.out.b2.frozen 1
  have q2 := HS2.out.b2.frozen 2
  clear hb HS HSh
  go_wp2
  refine step6_end (set3g HS2.out.b2) rfl rfl rfl ?_ (set3_below HS2.out.bel (by omega) _ _ _)
  exact ⟨_, _, _, _, vs, rfl, Rob.more (fun _ _ hb h => h.kept hb) HM.out (set3_below HS2.out.bel (by omega) _ _ _) fun k hk => Or.inl hk⟩

theorem dig_more (D N : Nat) : i64s (digC D N) ++ i64s [0] = i64s (digC (D + 1) (N * 256)) := by
  rw [digC, Nat.mul_div_cancel _ (by decide), Nat.mul_mod_left, i64s_app]
theorem norm_done {g : Nat} {t : Cdr} (h : 16777216 ≤ t.R) : norm g t = t := by
  cases g with
  | zero => rfl
  | succ g => rw [norm, if_neg (by omega)]

end Go.Proofs.Ytfkmcjlapigapaa
