/- The landed grid: what its calls keep. -/
import Derived.Test.YtilekfappdlooaaGridPlain
namespace Go.Proofs.Ytilekfappdlooaa
open Go.RowKit

/-- What a call finds of the pieces that lie in a block of its own. -/
def PcAt (g : Nat) (s : Bool) (p d : Nat) (W : World) : Prop := Blk W g 62 #[.bool s, .int .i64 (p : Int), .int .u64 (d : Int)]
theorem PcAt.new (w : World) (s : Bool) (p d : Nat) : PcAt w.heap.size s p d (w.alloc (.cells #[.bool s, .int .i64 (p : Int), .int .u64 (d : Int)] 62)) := Blk.new w _ _
theorem PcAt.kept {g : Nat} {s : Bool} {p d : Nat} {W W' : World} (h : PcAt g s p d W) (hb : Below W.heap.size W W') : PcAt g s p d W' := Blk.below h hb (Blk.lt h)
theorem PcAt.c0 {g : Nat} {s : Bool} {p d : Nat} {W : World} (h : PcAt g s p d W) : W.cell? ⟨g, 0, none⟩ = some (.bool s) := Blk.cell h 0
theorem PcAt.c1 {g : Nat} {s : Bool} {p d : Nat} {W : World} (h : PcAt g s p d W) : W.cell? ⟨g, 1, none⟩ = some (.int .i64 (p : Int)) := Blk.cell h 1
theorem PcAt.c2 {g : Nat} {s : Bool} {p d : Nat} {W : World} (h : PcAt g s p d W) : W.cell? ⟨g, 2, none⟩ = some (.int .u64 (d : Int)) := Blk.cell h 2
theorem kind_by (b : Nat) : kindF b = if kindF b = 0 then 0 else if upF b + 1 = 2047 then (if negF b then 2 else 1) else if magF b = 0 then (if negF b then 4 else 3) else if magF b < 4503599627370496 then 5 else 6 := by
  have hf := fracF_lt b
  have he := expF_lt b
  have hm : magF b = if expF b = 0 then fracF b else 4503599627370496 + fracF b := rfl
  have hu : upF b = expF b - 1 := rfl
  by_cases h0 : kindF b = 0
  · rw [if_pos h0]; exact h0
  · rw [if_neg h0]
    by_cases h1 : expF b = 2047
    · rw [if_pos (show upF b + 1 = 2047 by omega)]
      unfold kindF at h0 ⊢
      rw [if_pos h1] at h0 ⊢
      by_cases h2 : fracF b ≠ 0
      · rw [if_pos h2] at h0; exact absurd rfl h0
      · rw [if_neg h2]
    · rw [if_neg (show ¬ upF b + 1 = 2047 by omega)]
      unfold kindF
      rw [if_neg h1]
      by_cases h2 : expF b = 0
      · rw [if_pos h2] at hm ⊢
        rw [hm]
        by_cases h3 : fracF b = 0
        · rw [if_pos h3, if_pos h3]
        · rw [if_neg h3, if_neg h3, if_pos hf]
      · rw [if_neg h2] at hm ⊢
        rw [hm, if_neg (by omega), if_neg (by omega)]
set_option maxRecDepth 100000 in
set_option maxHeartbeats 400000 in
theorem gridKind_any (b : Nat) (w : World) (hb : b < 18446744073709551616) : Calls Try.prog 19 #[.float .f64 b] w fun e w' => e = .returned (.int .i64 (kindF b : Int)) ∧ Below w.heap.size w w' := by
  have HAp := Lib.hid (gridApart_any b w hb)
  have HNa := Lib.hid (fun W => gridNaN_any b W hb)
  have HIn := Lib.hid (fun W => gridInf_any (negF b) (upF b + 1) (magF b) W)
  have HNo := Lib.hid (fun W => gridNought_any (negF b) (upF b + 1) (magF b) W)
  have HSm := Lib.hid (fun W => gridSmall_any (negF b) (upF b + 1) (magF b) W)
  have HK : Hid (kindF b = if decide (kindF b = 0) = true then 0 else if decide (upF b + 1 = 2047) = true then (if negF b then 2 else 1) else if decide (magF b = 0) = true then (if negF b then 4 else 3) else if decide (magF b < 4503599627370496) = true then 5 else 6) := by
    show _ = _
    simp only [decide_eq_true_eq]
    exact kind_by b
  clear hb
  generalize decide (kindF b = 0) = na at *
  generalize decide (upF b + 1 = 2047) = i at *
  generalize decide (magF b = 0) = no at *
  generalize decide (magF b < 4503599627370496) = sm at *
  generalize upF b + 1 = p at *
  generalize magF b = d at *
  generalize negF b = s at *
  go_enter Try.func19, Try.ntmps19
  go_wp2_with fail
  refine HAp.out.mono ?_
  rintro e w1 ⟨rfl, hb1⟩
  unfold pcV
  have HB1 := Lib.hid (new_alloc hb1 (.cells #[.bool s, .int .i64 (p : Int), .int .u64 (d : Int)] 62))
  have HP1 := Lib.hid (PcAt.new w1 s p d)
  clear hb1 HAp
  go_wp2_with fail
  refine (HNa.out _).mono ?_
  rintro e w2 ⟨rfl, rfl⟩
  cases na
  · go_wp2_with fail
    refine (HIn.out _).mono ?_
    rintro e w3 ⟨rfl, hb3⟩
    have HB3 := Lib.hid (new_call HB1.out hb3)
    have HP3 := Lib.hid (HP1.out.kept hb3)
    have hx3 := HP3.out.c0
    have hy3 := HP3.out.c1
    have hz3 := HP3.out.c2
    clear hb3
    cases i
    · go_wp2_with fail
      refine (HIn.out _).mono ?_
      rintro e w4 ⟨rfl, hb4⟩
      have HB4 := Lib.hid (new_call HB3.out hb4)
      have HP4 := Lib.hid (HP3.out.kept hb4)
      have hx4 := HP4.out.c0
      have hy4 := HP4.out.c1
      have hz4 := HP4.out.c2
      clear hb4
      go_wp2_with fail
      refine (HNo.out _).mono ?_
      rintro e w5 ⟨rfl, hb5⟩
      have HB5 := Lib.hid (new_call HB4.out hb5)
      have HP5 := Lib.hid (HP4.out.kept hb5)
      have hx5 := HP5.out.c0
      have hy5 := HP5.out.c1
      have hz5 := HP5.out.c2
      clear hb5
      cases no
      · go_wp2_with fail
        refine (HNo.out _).mono ?_
        rintro e w6 ⟨rfl, hb6⟩
        have HB6 := Lib.hid (new_call HB5.out hb6)
        have HP6 := Lib.hid (HP5.out.kept hb6)
        have hx6 := HP6.out.c0
        have hy6 := HP6.out.c1
        have hz6 := HP6.out.c2
        clear hb6
        go_wp2_with fail
        refine (HSm.out _).mono ?_
        rintro e w7 ⟨rfl, hb7⟩
        have HB7 := Lib.hid (new_call HB6.out hb7)
        have HP7 := Lib.hid (HP6.out.kept hb7)
        have hx7 := HP7.out.c0
        have hy7 := HP7.out.c1
        have hz7 := HP7.out.c2
        clear hb7
        cases sm
        · go_wp2_with fail
          go_ret
          rw [HK.out]
          exact ⟨rfl, HB7.out⟩
        · go_wp2_with fail
          go_ret
          rw [HK.out]
          exact ⟨rfl, HB7.out⟩
      · cases s
        · go_wp2_with fail
          go_ret
          rw [HK.out]
          exact ⟨rfl, HB5.out⟩
        · go_wp2_with fail
          refine (HNo.out _).mono ?_
          rintro e w6 ⟨rfl, hb6⟩
          have HB6 := Lib.hid (new_call HB5.out hb6)
          have HP6 := Lib.hid (HP5.out.kept hb6)
          have hx6 := HP6.out.c0
          have hy6 := HP6.out.c1
          have hz6 := HP6.out.c2
          clear hb6
          go_wp2_with fail
          go_ret
          rw [HK.out]
          exact ⟨rfl, HB6.out⟩
    · cases s
      · go_wp2_with fail
        go_ret
        rw [HK.out]
        exact ⟨rfl, HB3.out⟩
      · go_wp2_with fail
        refine (HIn.out _).mono ?_
        rintro e w4 ⟨rfl, hb4⟩
        have HB4 := Lib.hid (new_call HB3.out hb4)
        have HP4 := Lib.hid (HP3.out.kept hb4)
        have hx4 := HP4.out.c0
        have hy4 := HP4.out.c1
        have hz4 := HP4.out.c2
        clear hb4
        go_wp2_with fail
        go_ret
        rw [HK.out]
        exact ⟨rfl, HB4.out⟩
  · go_wp2_with fail
    go_ret
    rw [HK.out]
    exact ⟨rfl, HB1.out⟩
set_option maxRecDepth 100000 in
theorem gridSame_any (a b : Nat) (w : World) (ha : a < 18446744073709551616) (hb : b < 18446744073709551616) : Calls Try.prog 21 #[.float .f64 a, .float .f64 b] w fun e w' => e = .returned (.bool (sameF a b)) ∧ Below w.heap.size w w' := by
  have HNa := Lib.hid (fun W => gridNaN_any a W ha)
  have HNb := Lib.hid (fun W => gridNaN_any b W hb)
  have hba := fun W => bits_run a W
  have hbb := fun W => bits_run b W
  have HE : Hid (sameF a b = (decide (kindF a = 0) && decide (kindF b = 0) || decide (a = b))) := by
    show _ = _
    unfold sameF
    rw [← Bool.decide_and, ← Bool.decide_or]
    exact dec_nat Or.comm
  have HQ := Lib.hid (beq_nat a b)
  clear ha hb
  generalize decide (kindF a = 0) = na at *
  generalize decide (kindF b = 0) = nb at *
  go_enter Try.func21, Try.ntmps21
  go_wp2_with fail
  refine (HNa.out _).mono ?_
  rintro e w2 ⟨rfl, rfl⟩
  cases na
  · go_wp2_with fail
    go_ret
    rw [HE.out]
    exact ⟨ret_bool HQ.out, Below.refl _ _⟩
  · go_wp2_with fail
    refine (HNb.out _).mono ?_
    rintro e w2 ⟨rfl, rfl⟩
    cases nb
    · go_wp2_with fail
      go_ret
      rw [HE.out]
      exact ⟨ret_bool HQ.out, Below.refl _ _⟩
    · go_wp2_with fail
      go_ret
      rw [HE.out]
      exact ⟨rfl, Below.refl _ _⟩
set_option maxRecDepth 100000 in
set_option maxHeartbeats 400000 in
theorem gridScaled_any (b : Nat) (up : Int) (w : World) (hb : b < 18446744073709551616) : Calls Try.prog 13 #[.float .f64 b, .int .i64 up] w fun e w' => e = .returned (.tuple #[.int .i64 (scaledF b up).1, .int .i64 ((scaledF b up).2 : Int)]) ∧ Below w.heap.size w w' := by
  have HUp := Lib.hid (fun W => gridUp_any up W)
  by_cases hu : 0 ≤ up ∧ up ≤ 30
  · rw [decide_eq_true hu] at HUp
    have HNa := Lib.hid (fun W => gridNaN_any b W hb)
    by_cases k0 : kindF b = 0
    · rw [decide_eq_true k0] at HNa
      have HE : Hid (scaledF b up = (0, 70)) := by show _ = _; unfold scaledF; rw [if_neg (by omega), if_pos k0]
      clear hu k0
      go_enter Try.func13, Try.ntmps13
      go_wp2_with fail
      refine (HUp.out _).mono ?_
      rintro e w2 ⟨rfl, rfl⟩
      go_wp2_with fail
      refine (HNa.out _).mono ?_
      rintro e w2 ⟨rfl, rfl⟩
      go_wp2_with fail
      go_ret2
      rw [HE.out]
      exact ⟨rfl, Below.refl _ _⟩
    · rw [decide_eq_false k0] at HNa
      have HE := Lib.hid (scaled_by hu k0)
      have HAp := Lib.hid (fun W => gridApart_any b W hb)
      have hup : upF b + 1 ≤ 2047 := by have := expF_lt b; unfold upF; omega
      have hwl := (upone_lt (p := upF b + 1) (d := magF b) (up := up) (magF_lt b)).1
      have HSp := Lib.hid (fun W => gridSplit_any (negF b) (upF b + 1) (magF b) up W hup hu (magF_lt b))
      have HSg := Lib.hid (fun W => gridSigned_any (negF b) (upF b + 1) (magF b) (splitF (upF b + 1) (magF b) up).1 W (by omega))
      have HNo := Lib.hid (fun W => gridNought_any (negF b) (upF b + 1) (magF b) W)
      have HCo := Lib.hid (fun W => gridCoord_any (sgn (negF b) (splitF (upF b + 1) (magF b) up).1) W)
      clear hu k0 hup hb hwl
      generalize hss : splitF (upF b + 1) (magF b) up = ss at *
      clear hss
      obtain ⟨q, r, hh⟩ := ss
      simp only at HSp HSg HCo HE
      generalize coordF (sgn (negF b) q) = co at *
      generalize sgn (negF b) q = n at *
      have HE2 : Hid (scaledF b up = if (decide (magF b = 0) && negF b || !decide (r = 0) || !co) = true then (0, 71) else (n, 0)) := by
        show _ = _
        rw [HE.out]
        by_cases h : (magF b = 0 ∧ negF b = true) ∨ r ≠ 0 ∨ co = false
        · rw [if_pos h, if_pos]
          revert h
          cases co <;> cases negF b <;> simp
          all_goals omega
        · rw [if_neg h, if_neg]
          revert h
          cases co <;> cases negF b <;> simp
          all_goals omega
      clear HE
      generalize decide (magF b = 0) = no at *
      generalize upF b + 1 = p at *
      generalize magF b = d at *
      generalize negF b = s at *
      unfold tri at HSp
      go_enter Try.func13, Try.ntmps13
      go_wp2_with fail
      refine (HUp.out _).mono ?_
      rintro e w2 ⟨rfl, rfl⟩
      go_wp2_with fail
      refine (HNa.out _).mono ?_
      rintro e w2 ⟨rfl, rfl⟩
      go_wp2_with fail
      refine (HAp.out _).mono ?_
      rintro e w1 ⟨rfl, hb1⟩
      unfold pcV
      have HB1 := Lib.hid (new_alloc hb1 (.cells #[.bool s, .int .i64 (p : Int), .int .u64 (d : Int)] 62))
      have HP1 := Lib.hid (PcAt.new w1 s p d)
      clear hb1 HAp
      go_wp2_with fail
      refine (HSp.out _).mono ?_
      rintro e w3 ⟨rfl, hb3⟩
      have HB3 := Lib.hid (new_call HB1.out hb3)
      have HP3 := Lib.hid (HP1.out.kept hb3)
      have hx3 := HP3.out.c0
      have hy3 := HP3.out.c1
      have hz3 := HP3.out.c2
      clear hb3
      go_wp2_with fail
      refine (HSg.out _).mono ?_
      rintro e w4 ⟨rfl, hb4⟩
      have HB4 := Lib.hid (new_call HB3.out hb4)
      have HP4 := Lib.hid (HP3.out.kept hb4)
      have hx4 := HP4.out.c0
      have hy4 := HP4.out.c1
      have hz4 := HP4.out.c2
      clear hb4
      go_wp2_with fail
      refine (HNo.out _).mono ?_
      rintro e w5 ⟨rfl, hb5⟩
      have HB5 := Lib.hid (new_call HB4.out hb5)
      have HP5 := Lib.hid (HP4.out.kept hb5)
      have hx5 := HP5.out.c0
      have hy5 := HP5.out.c1
      have hz5 := HP5.out.c2
      clear hb5
      cases no
      · by_cases hr : r = 0
        · have hr2 : decide ((r : Int) = 0) = true := by simp; omega
          have hr3 : ((r : Int) == 0) = true := beq_iff_eq.2 (by omega)
          have hr4 : ((r : Int) != 0) = false := bne_eq_false_iff_eq.2 (by omega)
          rw [decide_eq_true hr] at HE2
          go_wp2_with fail
          refine (HCo.out _).mono ?_
          rintro e w6 ⟨rfl, rfl⟩
          cases co
          · go_wp2_with fail
            go_ret2
            rw [HE2.out]
            exact ⟨rfl, HB5.out⟩
          · go_wp2_with fail
            go_ret2
            rw [HE2.out]
            exact ⟨rfl, HB5.out⟩
        · have hr2 : decide ((r : Int) = 0) = false := by simp; omega
          have hr3 : ((r : Int) == 0) = false := beq_eq_false_iff_ne.2 (by omega)
          have hr4 : ((r : Int) != 0) = true := bne_iff_ne.2 (by omega)
          rw [decide_eq_false hr] at HE2
          rw [show ∀ x : Bool, (x || !false || !co) = true from fun x => by cases x <;> cases co <;> rfl] at HE2
          go_wp2_with fail
          go_ret2
          rw [HE2.out]
          exact ⟨rfl, HB5.out⟩
      · cases s
        · by_cases hr : r = 0
          · have hr2 : decide ((r : Int) = 0) = true := by simp; omega
            have hr3 : ((r : Int) == 0) = true := beq_iff_eq.2 (by omega)
            have hr4 : ((r : Int) != 0) = false := bne_eq_false_iff_eq.2 (by omega)
            rw [decide_eq_true hr] at HE2
            go_wp2_with fail
            refine (HCo.out _).mono ?_
            rintro e w6 ⟨rfl, rfl⟩
            cases co
            · go_wp2_with fail
              go_ret2
              rw [HE2.out]
              exact ⟨rfl, HB5.out⟩
            · go_wp2_with fail
              go_ret2
              rw [HE2.out]
              exact ⟨rfl, HB5.out⟩
          · have hr2 : decide ((r : Int) = 0) = false := by simp; omega
            have hr3 : ((r : Int) == 0) = false := beq_eq_false_iff_ne.2 (by omega)
            have hr4 : ((r : Int) != 0) = true := bne_iff_ne.2 (by omega)
            rw [decide_eq_false hr] at HE2
            rw [show ∀ x : Bool, (x || !false || !co) = true from fun x => by cases x <;> cases co <;> rfl] at HE2
            go_wp2_with fail
            go_ret2
            rw [HE2.out]
            exact ⟨rfl, HB5.out⟩
        · rw [show ∀ y : Bool, (true && true || y || !co) = true from fun x => by cases x <;> cases co <;> rfl] at HE2
          go_wp2_with fail
          go_ret2
          rw [HE2.out]
          exact ⟨rfl, HB5.out⟩
  · rw [decide_eq_false hu] at HUp
    have HE : Hid (scaledF b up = (0, 2)) := if_pos (by omega)
    clear hu
    go_enter Try.func13, Try.ntmps13
    go_wp2_with fail
    refine (HUp.out _).mono ?_
    rintro e w2 ⟨rfl, rfl⟩
    go_wp2_with fail
    go_ret2
    rw [HE.out]
    exact ⟨rfl, Below.refl _ _⟩
theorem gridInt_any (b : Nat) (w : World) (hb : b < 18446744073709551616) : Calls Try.prog 15 #[.float .f64 b] w fun e w' => e = .returned (.tuple #[.int .i64 (scaledF b 0).1, .int .i64 ((scaledF b 0).2 : Int)]) ∧ Below w.heap.size w w' := by
  have HS := Lib.hid (gridScaled_any b 0 w hb)
  generalize scaledF b 0 = r at *
  clear hb
  go_enter Try.func15, Try.ntmps15
  go_wp2_with fail
  refine HS.out.mono ?_
  rintro e w2 ⟨rfl, hb2⟩
  go_wp2_with fail
  go_ret2
  exact ⟨rfl, hb2⟩
set_option maxRecDepth 100000 in
theorem gridFloat_any (n up : Int) (w : World) : Calls Try.prog 23 #[.int .i64 n, .int .i64 up] w fun e w' => e = .returned (.tuple #[.float .f64 (floatF n up).1, .int .i64 ((floatF n up).2 : Int)]) ∧ Below w.heap.size w w' := by
  have HUp := Lib.hid (fun W => gridUp_any up W)
  by_cases hu : 0 ≤ up ∧ up ≤ 30
  · rw [decide_eq_true hu] at HUp
    have HCo := Lib.hid (fun W => gridCoord_any n W)
    cases hc : coordF n with
    | false =>
      rw [hc] at HCo
      have HE : Hid (floatF n up = (0, 2)) := if_pos (Or.inr (Or.inr hc))
      clear hu hc
      go_enter Try.func23, Try.ntmps23
      go_wp2_with fail
      refine (HUp.out _).mono ?_
      rintro e w2 ⟨rfl, rfl⟩
      go_wp2_with fail
      refine (HCo.out _).mono ?_
      rintro e w2 ⟨rfl, rfl⟩
      go_wp2_with fail
      go_ret2
      rw [HE.out]
      exact ⟨rfl, Below.refl _ _⟩
    | true =>
      rw [hc] at HCo
      obtain ⟨K, rfl⟩ := Int.eq_ofNat_of_zero_le hu.1
      have hK : K ≤ 30 := by omega
      have HE : Hid (floatF n (K : Int) = (fbits n K, 0)) := if_neg (by rw [hc]; simp; omega)
      have hco := of_decide_eq_true hc
      have hn : n.natAbs < 9007199254740992 := by omega
      have Hz := Lib.hid (fbits_zero hn)
      have hcv : ∀ W, (convert 3 23 (.int .i64 n)).run Try.prog W = .ok (.float .f64 (fbits n 0)) W := fun W => by
        rw [run_convert_int_float (P := Try.prog) W 3 23 .i64 .f64 n (by rw [Try.underlying3]; rfl) Try.underlying23]
        unfold floatOfInt
        rw [Hz.out]
      have hp : 2 ^ K ≤ 2 ^ 30 := Nat.pow_le_pow_right (by decide) hK
      rw [show (2 : Nat) ^ 30 = 1073741824 from rfl] at hp
      have hpos := Nat.two_pow_pos K
      have Hz2 := Lib.hid (fbits_zero (n := ((2 ^ K : Nat) : Int)) (by omega))
      have hcast : ((2 : Int) ^ K) = ((2 ^ K : Nat) : Int) := by simp
      have hq : ∀ W, (binOp .quo 23 (.float .f64 (fbits n 0)) (.float .f64 (floatOfInt .f64 (wrap64 ((2 : Int) ^ K))))).run Try.prog W = .ok (.float .f64 (fbits n K)) W := fun W => by
        rw [hcast, show wrap64 ((2 ^ K : Nat) : Int) = ((2 ^ K : Nat) : Int) by unfold wrap64; omega]
        unfold floatOfInt
        rw [Hz2.out]
        exact run_float_arith W .quo _ .f64 _ _ _ (fbits_pow hn hK)
      clear hc hn hco hp hpos hcast
      go_enter Try.func23, Try.ntmps23
      go_wp2_with fail
      refine (HUp.out _).mono ?_
      rintro e w2 ⟨rfl, rfl⟩
      go_wp2_with fail
      refine (HCo.out _).mono ?_
      rintro e w2 ⟨rfl, rfl⟩
      go_wp2_with fail
      go_ret2
      rw [HE.out]
      exact ⟨rfl, Below.refl _ _⟩
  · rw [decide_eq_false hu] at HUp
    have HE : Hid (floatF n up = (0, 2)) := if_pos (by omega)
    clear hu
    go_enter Try.func23, Try.ntmps23
    go_wp2_with fail
    refine (HUp.out _).mono ?_
    rintro e w2 ⟨rfl, rfl⟩
    go_wp2_with fail
    go_ret2
    rw [HE.out]
    exact ⟨rfl, Below.refl _ _⟩
set_option maxRecDepth 100000 in
set_option maxHeartbeats 400000 in
theorem gridRound_any (b : Nat) (w : World) (hb : b < 18446744073709551616) : Calls Try.prog 17 #[.float .f64 b] w fun e w' => e = .returned (.tuple #[.int .i64 (roundF b).1, .int .i64 ((roundF b).2 : Int)]) ∧ Below w.heap.size w w' := by
  have HNa := Lib.hid (fun W => gridNaN_any b W hb)
  by_cases k0 : kindF b = 0
  · rw [decide_eq_true k0] at HNa
    have HE : Hid (roundF b = (0, 70)) := if_pos k0
    clear k0
    go_enter Try.func17, Try.ntmps17
    go_wp2_with fail
    refine (HNa.out _).mono ?_
    rintro e w2 ⟨rfl, rfl⟩
    go_wp2_with fail
    go_ret2
    rw [HE.out]
    exact ⟨rfl, Below.refl _ _⟩
  · rw [decide_eq_false k0] at HNa
    have HE := Lib.hid (round_by k0)
    have HAp := Lib.hid (fun W => gridApart_any b W hb)
    have hup : upF b + 1 ≤ 2047 := by have := expF_lt b; unfold upF; omega
    obtain ⟨hwl, hwu⟩ := upone_lt (p := upF b + 1) (d := magF b) (up := 0) (magF_lt b)
    have HSp := Lib.hid (fun W => gridSplit_any (negF b) (upF b + 1) (magF b) 0 W hup (by decide) (magF_lt b))
    have HSg := Lib.hid (fun W => gridSigned_any (negF b) (upF b + 1) (magF b) (upone (splitF (upF b + 1) (magF b) 0)) W hwu)
    have HCo := Lib.hid (fun W => gridCoord_any (sgn (negF b) (upone (splitF (upF b + 1) (magF b) 0))) W)
    clear k0 hup hb hwu
    generalize hss : splitF (upF b + 1) (magF b) 0 = ss at *
    clear hss
    obtain ⟨q, r, hh⟩ := ss
    simp only at HSp HSg HCo HE hwl
    generalize coordF (sgn (negF b) (upone (q, r, hh))) = co at *
    generalize sgn (negF b) (upone (q, r, hh)) = n at *
    generalize upF b + 1 = p at *
    generalize magF b = d at *
    generalize negF b = s at *
    unfold tri at HSp
    go_enter Try.func17, Try.ntmps17
    go_wp2_with fail
    refine (HNa.out _).mono ?_
    rintro e w2 ⟨rfl, rfl⟩
    go_wp2_with fail
    refine (HAp.out _).mono ?_
    rintro e w1 ⟨rfl, hb1⟩
    unfold pcV
    have HB1 := Lib.hid (new_alloc hb1 (.cells #[.bool s, .int .i64 (p : Int), .int .u64 (d : Int)] 62))
    have HP1 := Lib.hid (PcAt.new w1 s p d)
    clear hb1 HAp
    go_wp2_with fail
    refine (HSp.out _).mono ?_
    rintro e w3 ⟨rfl, hb3⟩
    have HB3 := Lib.hid (new_call HB1.out hb3)
    have HP3 := Lib.hid (HP1.out.kept hb3)
    have hx3 := HP3.out.c0
    have hy3 := HP3.out.c1
    have hz3 := HP3.out.c2
    clear hb3
    by_cases h1 : hh < r
    · have g1 : decide (hh < r) = true := by simpa using h1
      have g1b : decide ((hh : Int) < (r : Int)) = true := by simp; omega
      have HU : Hid (upone (q, r, hh) = q + 1) := if_pos (show hh < r ∨ (r = hh ∧ q % 2 ≠ 0) by omega)
      rw [HU.out] at HSg
      have ec : ((q + 1 : Nat) : Int) = (q : Int) + 1 := by omega
      rw [ec] at HSg
      go_wp2_with fail
      refine (HSg.out _).mono ?_
      rintro e w4 ⟨rfl, hb4⟩
      have HB4 := Lib.hid (new_call HB3.out hb4)
      have HP4 := Lib.hid (HP3.out.kept hb4)
      have hx4 := HP4.out.c0
      have hy4 := HP4.out.c1
      have hz4 := HP4.out.c2
      clear hb4
      go_wp2_with fail
      refine (HCo.out _).mono ?_
      rintro e w6 ⟨rfl, rfl⟩
      cases co
      · go_wp2_with fail
        go_ret2
        rw [HE.out]
        exact ⟨rfl, HB4.out⟩
      · go_wp2_with fail
        go_ret2
        rw [HE.out]
        exact ⟨rfl, HB4.out⟩
    · have g1 : decide (hh < r) = false := by simpa using h1
      have g1b : decide ((hh : Int) < (r : Int)) = false := by simp; omega
      by_cases h2 : r = hh
      · have g2 : ((r : Int) == (hh : Int)) = true := beq_iff_eq.2 (by omega)
        by_cases h3 : q % 2 = 0
        · have g3 : ((q : Int) % 2 == 0) = true := beq_iff_eq.2 (by omega)
          have g4 : ((q : Int) % 2 != 0) = false := bne_eq_false_iff_eq.2 (by omega)
          have HU : Hid (upone (q, r, hh) = q) := if_neg (show ¬ (hh < r ∨ (r = hh ∧ q % 2 ≠ 0)) by omega)
          rw [HU.out] at HSg
          go_wp2_with fail
          refine (HSg.out _).mono ?_
          rintro e w4 ⟨rfl, hb4⟩
          have HB4 := Lib.hid (new_call HB3.out hb4)
          have HP4 := Lib.hid (HP3.out.kept hb4)
          have hx4 := HP4.out.c0
          have hy4 := HP4.out.c1
          have hz4 := HP4.out.c2
          clear hb4
          go_wp2_with fail
          refine (HCo.out _).mono ?_
          rintro e w6 ⟨rfl, rfl⟩
          cases co
          · go_wp2_with fail
            go_ret2
            rw [HE.out]
            exact ⟨rfl, HB4.out⟩
          · go_wp2_with fail
            go_ret2
            rw [HE.out]
            exact ⟨rfl, HB4.out⟩
        · have g3 : ((q : Int) % 2 == 0) = false := beq_eq_false_iff_ne.2 (by omega)
          have g4 : ((q : Int) % 2 != 0) = true := bne_iff_ne.2 (by omega)
          have HU : Hid (upone (q, r, hh) = q + 1) := if_pos (show hh < r ∨ (r = hh ∧ q % 2 ≠ 0) by omega)
          rw [HU.out] at HSg
          have ec : ((q + 1 : Nat) : Int) = (q : Int) + 1 := by omega
          rw [ec] at HSg
          go_wp2_with fail
          refine (HSg.out _).mono ?_
          rintro e w4 ⟨rfl, hb4⟩
          have HB4 := Lib.hid (new_call HB3.out hb4)
          have HP4 := Lib.hid (HP3.out.kept hb4)
          have hx4 := HP4.out.c0
          have hy4 := HP4.out.c1
          have hz4 := HP4.out.c2
          clear hb4
          go_wp2_with fail
          refine (HCo.out _).mono ?_
          rintro e w6 ⟨rfl, rfl⟩
          cases co
          · go_wp2_with fail
            go_ret2
            rw [HE.out]
            exact ⟨rfl, HB4.out⟩
          · go_wp2_with fail
            go_ret2
            rw [HE.out]
            exact ⟨rfl, HB4.out⟩
      · have g2 : ((r : Int) == (hh : Int)) = false := beq_eq_false_iff_ne.2 (by omega)
        have HU : Hid (upone (q, r, hh) = q) := if_neg (show ¬ (hh < r ∨ (r = hh ∧ q % 2 ≠ 0)) by omega)
        rw [HU.out] at HSg
        go_wp2_with fail
        refine (HSg.out _).mono ?_
        rintro e w4 ⟨rfl, hb4⟩
        have HB4 := Lib.hid (new_call HB3.out hb4)
        have HP4 := Lib.hid (HP3.out.kept hb4)
        have hx4 := HP4.out.c0
        have hy4 := HP4.out.c1
        have hz4 := HP4.out.c2
        clear hb4
        go_wp2_with fail
        refine (HCo.out _).mono ?_
        rintro e w6 ⟨rfl, rfl⟩
        cases co
        · go_wp2_with fail
          go_ret2
          rw [HE.out]
          exact ⟨rfl, HB4.out⟩
        · go_wp2_with fail
          go_ret2
          rw [HE.out]
          exact ⟨rfl, HB4.out⟩
end Go.Proofs.Ytilekfappdlooaa
