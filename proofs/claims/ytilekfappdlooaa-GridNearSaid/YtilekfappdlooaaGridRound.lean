/- lapidaryref07: Round. -/
import Derived.Test.YtilekfappdlooaaGridFloat
namespace Go.Proofs.Ytilekfappdlooaa
open Go.RowKit

def halfU : Nat := 2 ^ (lowF - 1)
theorem unit_half : unitF = 2 * halfU := by
  unfold unitF halfU
  have := lowF_nat
  rw [show lowF = (lowF - 1) + 1 by omega, Nat.pow_succ, Nat.mul_comm, Nat.add_sub_cancel]
theorem half_pos : 0 < halfU := by unfold halfU; exact Nat.two_pow_pos _
theorem cmp_gt {x y : Nat} (hx : x < 18446744073709551616) (hy : y < 18446744073709551616) (fx : expF x ≠ 2047) (fy : expF y ≠ 2047) : (Ieee.double.order x y == some .gt) = decide (valF y < valF x) := by
  rw [order_fin hx hy fx fy]
  generalize valF x = a
  generalize valF y = b
  rcases Int.lt_trichotomy a b with h | h | h
  · rw [show compare a b = .lt by simp [compare, compareOfLessAndEq, h], decide_eq_false (by omega)]; rfl
  · subst h; rw [show compare a a = .eq by simp [compare, compareOfLessAndEq], decide_eq_false (by omega)]; rfl
  · rw [show compare a b = .gt by simp only [compare, compareOfLessAndEq]; rw [if_neg (by omega), if_neg (by omega)], decide_eq_true h]; rfl
theorem cmp_lt {x y : Nat} (hx : x < 18446744073709551616) (hy : y < 18446744073709551616) (fx : expF x ≠ 2047) (fy : expF y ≠ 2047) : (Ieee.double.order x y == some .lt) = decide (valF x < valF y) := by
  rw [order_fin hx hy fx fy]
  generalize valF x = a
  generalize valF y = b
  rcases Int.lt_trichotomy a b with h | h | h
  · rw [show compare a b = .lt by simp [compare, compareOfLessAndEq, h], decide_eq_true h]; rfl
  · subst h; rw [show compare a a = .eq by simp [compare, compareOfLessAndEq], decide_eq_false (by omega)]; rfl
  · rw [show compare a b = .gt by simp only [compare, compareOfLessAndEq]; rw [if_neg (by omega), if_neg (by omega)], decide_eq_false (by omega)]; rfl
theorem cmp_eq {x y : Nat} (hx : x < 18446744073709551616) (hy : y < 18446744073709551616) (fx : expF x ≠ 2047) (fy : expF y ≠ 2047) : (Ieee.double.order x y == some .eq) = decide (valF x = valF y) := by
  rw [order_fin hx hy fx fy]
  generalize valF x = a
  generalize valF y = b
  rcases Int.lt_trichotomy a b with h | h | h
  · rw [show compare a b = .lt by simp [compare, compareOfLessAndEq, h], decide_eq_false (by omega)]; rfl
  · subst h; rw [show compare a a = .eq by simp [compare, compareOfLessAndEq], decide_eq_true rfl]; rfl
  · rw [show compare a b = .gt by simp only [compare, compareOfLessAndEq]; rw [if_neg (by omega), if_neg (by omega)], decide_eq_false (by omega)]; rfl
theorem val_half : valF 4602678819172646912 = (halfU : Int) := by
  have h1 : negF 4602678819172646912 = false := by decide
  have h2 : magF 4602678819172646912 = 2 ^ 52 := by decide
  have h3 : upF 4602678819172646912 = lowF - 53 := by decide
  unfold valF sgn halfU
  rw [h1, h2, h3, ← Nat.pow_add, show 52 + (lowF - 53) = lowF - 1 by rw [lowF_nat]]
  rfl
theorem val_mhalf : valF 13826050856027422720 = -(halfU : Int) := by
  have h1 : negF 13826050856027422720 = true := by decide
  have h2 : magF 13826050856027422720 = 2 ^ 52 := by decide
  have h3 : upF 13826050856027422720 = lowF - 53 := by decide
  unfold valF sgn halfU
  rw [h1, h2, h3, ← Nat.pow_add, show 52 + (lowF - 53) = lowF - 1 by rw [lowF_nat]]
  rfl
theorem val_two32 : valF 4751297606875873280 = 4294967296 * (unitF : Int) := by
  have h1 : negF 4751297606875873280 = false := by decide
  have h2 : magF 4751297606875873280 = 2 ^ 52 := by decide
  have h3 : upF 4751297606875873280 = lowF - 20 := by decide
  unfold valF sgn unitF
  rw [h1, h2, h3, ← Nat.pow_add, show 52 + (lowF - 20) = 32 + lowF by rw [lowF_nat], Nat.pow_add, Int.natCast_mul]
  rfl
theorem val_mtwo32 : valF 13974669643730649088 = -(4294967296 * (unitF : Int)) := by
  have h1 : negF 13974669643730649088 = true := by decide
  have h2 : magF 13974669643730649088 = 2 ^ 52 := by decide
  have h3 : upF 13974669643730649088 = lowF - 20 := by decide
  unfold valF sgn unitF
  rw [h1, h2, h3, ← Nat.pow_add, show 52 + (lowF - 20) = 32 + lowF by rw [lowF_nat], Nat.pow_add, Int.natCast_mul]
  rfl
/-- How much a double is, without its sign. -/
def absF (b : Nat) : Nat := magF b * 2 ^ upF b
/-- The whole number next to it, without the sign. -/
def nearF (b : Nat) : Nat := if unitF < 2 * (absF b % unitF) ∨ (unitF = 2 * (absF b % unitF) ∧ absF b / unitF % 2 = 1) then absF b / unitF + 1 else absF b / unitF
/-- What Round tells. -/
def roundF (b : Nat) : Int × Nat :=
  if kindF b = 0 then (0, 70) else if kindF b = 1 ∨ kindF b = 2 ∨ 4294967296 * unitF < absF b then (0, 3)
  else if coordF (sgn (negF b) (nearF b)) = true then (sgn (negF b) (nearF b), 0) else (0, 3)
/-- What is left behind the whole part is a double. -/
theorem rest_fit {x : Nat} (h : absF x % unitF ≠ 0) : FitF (absF x % unitF) := by
  have hm := magF_lt x
  have hl := lowF_nat
  unfold absF unitF at *
  generalize magF x = m at *
  generalize upF x = a at *
  by_cases ha : lowF ≤ a
  · exfalso
    apply h
    rw [show m * 2 ^ a = m * 2 ^ (a - lowF) * 2 ^ lowF by rw [Nat.mul_assoc, ← Nat.pow_add, Nat.sub_add_cancel ha], Nat.mul_mod_left]
  · have e : m * 2 ^ a % 2 ^ lowF = m % 2 ^ (lowF - a) * 2 ^ a := by
      rw [show (2 : Nat) ^ lowF = 2 ^ (lowF - a) * 2 ^ a by rw [← Nat.pow_add, Nat.sub_add_cancel (by omega)], Nat.mul_mod_mul_right]
    rw [e] at h ⊢
    exact fit_of (fun e => h (by rw [e, Nat.zero_mul])) (Nat.lt_of_le_of_lt (Nat.mod_le _ _) hm) (by omega)
theorem val_parts (x : Nat) : valF x = sgn (negF x) (absF x / unitF) * (unitF : Int) + sgn (negF x) (absF x % unitF) := by
  have h := Nat.div_add_mod (absF x) unitF
  show sgn (negF x) (absF x) = _
  rw [← sgn_mul]
  generalize hq : absF x / unitF * unitF = q
  generalize absF x % unitF = r at *
  rw [Nat.mul_comm, hq] at h
  unfold sgn
  split <;> omega

theorem sub_rest {b : Nat} (hb : b < 18446744073709551616) (fb : expF b ≠ 2047) (hq : absF b / unitF ≤ 4294967296) : ∃ r, Ieee.double.sub b (fbits (sgn (negF b) (absF b / unitF)) 0) = some r ∧ r < 18446744073709551616 ∧ expF r ≠ 2047 ∧ valF r = sgn (negF b) (absF b % unitF) := by
  have hn : (sgn (negF b) (absF b / unitF)).natAbs < 9007199254740992 := by rw [sgn_abs]; omega
  obtain ⟨a1, a2, _, a4⟩ := fbits_is (k := 0) hn
  rw [Nat.sub_zero] at a4
  have e : valF b - valF (fbits (sgn (negF b) (absF b / unitF)) 0) = sgn (negF b) (absF b % unitF) := by
    rw [a4, val_parts b]
    show _ + _ - _ * (unitF : Int) = _
    omega
  obtain ⟨r, h1, h2, h3, h4⟩ := sub_exact hb a1 fb a2 (fun h => by
    rw [e] at h ⊢
    rw [sgn_abs]
    exact rest_fit fun h' => h (by rw [h', sgn_zero]))
  exact ⟨r, h1, h2, h3, by rw [h4, e]⟩
theorem trunc_val {b : Nat} (hb : b < 18446744073709551616) (fb : expF b ≠ 2047) (hq : absF b / unitF ≤ 4294967296) : floatToIntVal .f64 b .i64 = some (sgn (negF b) (absF b / unitF)) := by
  unfold floatToIntVal
  show (match (Ieee.double.read b).toInt .zero with | some n => _ | none => none) = _
  rw [trunc_is hb fb]
  show (if IntKind.i64.min ≤ sgn (negF b) (absF b / unitF) ∧ sgn (negF b) (absF b / unitF) ≤ IntKind.i64.max then some (sgn (negF b) (absF b / unitF)) else none) = _
  have h1 : IntKind.i64.min = -9223372036854775808 := rfl
  have h2 : IntKind.i64.max = 9223372036854775807 := rfl
  rw [h1, h2, if_pos]
  generalize absF b / unitF = q at *
  unfold sgn
  split <;> omega
theorem tmod2 (s : Bool) (q : Nat) : (sgn s q).tmod 2 = sgn s (q % 2) := by
  cases s
  · rfl
  · show (-(q : Int)).tmod 2 = -((q % 2 : Nat) : Int)
    rw [Int.neg_tmod]; rfl
set_option maxRecDepth 100000 in
set_option maxHeartbeats 1000000 in
theorem ref7Round_any (b : Nat) (w : World) (hb : b < 18446744073709551616) : Calls Try.prog 18 #[.float .f64 b] w fun e w' => e = .returned (.tuple #[.int .i64 (roundF b).1, .int .i64 ((roundF b).2 : Int)]) ∧ w = w' := by
  have HKi := Lib.hid (ref7Kind_any b w hb)
  have HR : Hid (roundF b = if kindF b = 0 then (0, 70) else if kindF b = 1 ∨ kindF b = 2 ∨ 4294967296 * unitF < absF b then (0, 3) else if coordF (sgn (negF b) (nearF b)) = true then (sgn (negF b) (nearF b), 0) else (0, 3)) := by show _ = _; rfl
  by_cases k0 : kindF b = 0
  · rw [k0] at HKi HR
    clear k0
    go_enter Try.func18, Try.ntmps18
    go_wp2_with (go_at_call 20; refine HKi.out.mono ?_; rintro e w' ⟨rfl, rfl⟩)
    go_ret2
    rw [HR.out]
    exact ⟨rfl, rfl⟩
  by_cases k1 : kindF b = 1
  · rw [k1] at HKi
    have HE : Hid (roundF b = (0, 3)) := by show _ = _; rw [HR.out, if_neg k0, if_pos (Or.inl k1)]
    clear k0 k1 HR
    go_enter Try.func18, Try.ntmps18
    go_wp2_with (go_at_call 20; refine HKi.out.mono ?_; rintro e w' ⟨rfl, rfl⟩)
    go_ret2
    rw [HE.out]
    exact ⟨rfl, rfl⟩
  by_cases k2 : kindF b = 2
  · rw [k2] at HKi
    have HE : Hid (roundF b = (0, 3)) := by show _ = _; rw [HR.out, if_neg k0, if_pos (Or.inr (Or.inl k2))]
    clear k0 k1 k2 HR
    go_enter Try.func18, Try.ntmps18
    go_wp2_with (go_at_call 20; refine HKi.out.mono ?_; rintro e w' ⟨rfl, rfl⟩)
    go_ret2
    rw [HE.out]
    exact ⟨rfl, rfl⟩
  have fb : expF b ≠ 2047 := fun e => by
    unfold kindF at k0 k1 k2
    rw [if_pos e] at k0 k1 k2
    revert k0 k1 k2
    (repeat' split) <;> simp
  have hk6 := kindF_lt b
  rw [if_neg k0] at HR
  have f1 : (FloatKind.f64.format.order b 4751297606875873280 == some .gt) = decide (4294967296 * (unitF : Int) < valF b) := by
    have := cmp_gt (y := 4751297606875873280) hb (by decide) fb (by decide)
    rw [val_two32] at this
    exact this
  have f2 : (FloatKind.f64.format.order b 13974669643730649088 == some .lt) = decide (valF b < -(4294967296 * (unitF : Int))) := by
    have := cmp_lt (y := 13974669643730649088) hb (by decide) fb (by decide)
    rw [val_mtwo32] at this
    exact this
  have hva : valF b = sgn (negF b) (absF b) := rfl
  generalize hkk : kindF b = k at *
  have tk0 : ((k : Int) == 0) = false := beq_eq_false_iff_ne.2 (by omega)
  have tk1 : ((k : Int) == 1) = false := beq_eq_false_iff_ne.2 (by omega)
  have tk2 : ((k : Int) == 2) = false := beq_eq_false_iff_ne.2 (by omega)
  have hup := unit_pos
  by_cases hbig : 4294967296 * unitF < absF b
  · have HE : Hid (roundF b = (0, 3)) := by show _ = _; rw [HR.out, if_pos (Or.inr (Or.inr hbig))]
    cases hs : negF b
    · have h1 : 4294967296 * (unitF : Int) < valF b := by rw [hva, hs]; show _ < (absF b : Int); omega
      rw [decide_eq_true h1] at f1
      clear h1 hva hbig hkk HR
      go_enter Try.func18, Try.ntmps18
      go_wp2_with (go_at_call 20; refine HKi.out.mono ?_; rintro e w' ⟨rfl, rfl⟩)
      go_ret2
      rw [HE.out]
      exact ⟨rfl, rfl⟩
    · have h1 : ¬ 4294967296 * (unitF : Int) < valF b := by rw [hva, hs]; show ¬ _ < -(absF b : Int); omega
      have h2 : valF b < -(4294967296 * (unitF : Int)) := by rw [hva, hs]; show -(absF b : Int) < _; omega
      rw [decide_eq_false h1] at f1
      rw [decide_eq_true h2] at f2
      clear h1 h2 hva hbig hkk HR
      go_enter Try.func18, Try.ntmps18
      go_wp2_with (go_at_call 20; refine HKi.out.mono ?_; rintro e w' ⟨rfl, rfl⟩)
      go_ret2
      rw [HE.out]
      exact ⟨rfl, rfl⟩
  · have h1 : ¬ 4294967296 * (unitF : Int) < valF b := by rw [hva]; unfold sgn; split <;> omega
    have h2 : ¬ valF b < -(4294967296 * (unitF : Int)) := by rw [hva]; unfold sgn; split <;> omega
    rw [decide_eq_false h1] at f1
    rw [decide_eq_false h2] at f2
    have HR2 : Hid (roundF b = if coordF (sgn (negF b) (nearF b)) = true then (sgn (negF b) (nearF b), 0) else (0, 3)) := by show _ = _; rw [HR.out, if_neg (by omega)]
    have hq : absF b / unitF ≤ 4294967296 := Nat.le_trans (Nat.div_le_div_right (Nat.le_of_not_lt hbig)) (Nat.le_of_eq (Nat.mul_div_cancel _ hup))
    have hr := Nat.mod_lt (absF b) hup
    obtain ⟨d, hd1, hd2, hd3, hd4⟩ := sub_rest hb fb hq
    have htr := trunc_val hb fb hq
    have g1 : (FloatKind.f64.format.order d 4602678819172646912 == some .gt) = decide ((halfU : Int) < valF d) := by
      have := cmp_gt (y := 4602678819172646912) hd2 (by decide) hd3 (by decide)
      rw [val_half] at this
      exact this
    have g2 : (FloatKind.f64.format.order d 4602678819172646912 == some .eq) = decide (valF d = (halfU : Int)) := by
      have := cmp_eq (y := 4602678819172646912) hd2 (by decide) hd3 (by decide)
      rw [val_half] at this
      exact this
    have g3 : (FloatKind.f64.format.order d 13826050856027422720 == some .lt) = decide (valF d < -(halfU : Int)) := by
      have := cmp_lt (y := 13826050856027422720) hd2 (by decide) hd3 (by decide)
      rw [val_mhalf] at this
      exact this
    have g4 : (FloatKind.f64.format.order d 13826050856027422720 == some .eq) = decide (valF d = -(halfU : Int)) := by
      have := cmp_eq (y := 13826050856027422720) hd2 (by decide) hd3 (by decide)
      rw [val_mhalf] at this
      exact this
    rw [hd4] at g1 g2 g3 g4
    have HNear : Hid (nearF b = if unitF < 2 * (absF b % unitF) ∨ (unitF = 2 * (absF b % unitF) ∧ absF b / unitF % 2 = 1) then absF b / unitF + 1 else absF b / unitF) := by show _ = _; rfl
    rw [unit_half] at HNear
    rw [← unit_half] at HNear
    have huh := unit_half
    have hhp := half_pos
    generalize absF b % unitF = r at *
    generalize absF b / unitF = q at *
    obtain ⟨nn, hnn⟩ : ∃ nn, sgn (negF b) q = nn := ⟨_, rfl⟩
    rw [hnn] at htr hd1
    have hcv : ∀ W, (convert 23 3 (.float .f64 b)).run Try.prog W = .ok (.int .i64 nn) W := fun W => run_convert_float_int (P := Try.prog) W 23 3 .f64 .i64 b nn (by rw [Try.underlying23]; rfl) Try.underlying3 htr
    have hnl : nn.natAbs < 9007199254740992 := by rw [← hnn, sgn_abs]; omega
    have Hz := Lib.hid (fbits_zero hnl)
    have hcf : ∀ W, (convert 3 23 (.int .i64 nn)).run Try.prog W = .ok (.float .f64 (fbits nn 0)) W := fun W => by
      rw [run_convert_int_float (P := Try.prog) W 3 23 .i64 .f64 nn (by rw [Try.underlying3]; rfl) Try.underlying23]
      unfold floatOfInt
      rw [Hz.out]
    have hsu : ∀ W, (binOp .sub 23 (.float .f64 b) (.float .f64 (fbits nn 0))).run Try.prog W = .ok (.float .f64 d) W := fun W => run_float_arith W .sub _ .f64 _ _ _ hd1
    have hnb : -4294967296 ≤ nn ∧ nn ≤ 4294967296 := by rw [← hnn]; unfold sgn; split <;> omega
    have HC := Lib.hid (fun z => ref7Coord_any z w)
    have HNn := Lib.hid hnn
    have HZ : Hid (∀ z : Int, sgn (negF b) (nearF b) = z → roundF b = if coordF z = true then (z, 0) else (0, 3)) := fun z hz => by rw [HR2.out, hz]
    have hqn : nn.natAbs = q := by rw [← hnn, sgn_abs]
    clear hkk hva h1 h2 HR HR2 hbig htr hd1 hd2 hd3 hd4 fb hup hnn Hz hnl
    generalize negF b = sg at *
    cases sg
    · have hnq : nn = (q : Int) := HNn.out.symm
      by_cases hgt : halfU < r
      · have hgt' := hgt
        have HF := Lib.hid (HZ.out (nn + 1) (by rw [HNear.out, if_pos (by omega)]; show ((q + 1 : Nat) : Int) = _; rw [hnq]; omega))
        rw [decide_eq_true (show (halfU : Int) < sgn false r by unfold sgn; simp only [if_false, Bool.false_eq_true]; omega)] at g1
        rw [decide_eq_false (show ¬ sgn false r = (halfU : Int) by unfold sgn; simp only [if_false, Bool.false_eq_true]; omega)] at g2
        rw [decide_eq_false (show ¬ sgn false r < -(halfU : Int) by unfold sgn; simp only [if_false, Bool.false_eq_true]; omega)] at g3
        rw [decide_eq_false (show ¬ sgn false r = -(halfU : Int) by unfold sgn; simp only [if_false, Bool.false_eq_true]; omega)] at g4
        have HCn := Lib.hid (HC.out (nn + 1))
        clear HZ HNear HC hnq hqn huh
        generalize coordF (nn + 1) = co at *
        cases co
        all_goals
          go_enter Try.func18, Try.ntmps18
          go_wp2_with fail
          refine HKi.out.mono ?_
          rintro e w' ⟨rfl, rfl⟩
          go_wp2_with (go_at_call 39; refine HCn.out.mono ?_; rintro e w' ⟨rfl, rfl⟩)
          go_ret2
          rw [HF.out]
          exact ⟨rfl, rfl⟩
      by_cases heq : r = halfU
      · by_cases hod : q % 2 = 1
        · have hod' := hod
          have HF := Lib.hid (HZ.out (nn + 1) (by rw [HNear.out, if_pos (by omega)]; show ((q + 1 : Nat) : Int) = _; rw [hnq]; omega))
          rw [decide_eq_false (show ¬ (halfU : Int) < sgn false r by unfold sgn; simp only [if_false, Bool.false_eq_true]; omega)] at g1
          rw [decide_eq_true (show sgn false r = (halfU : Int) by unfold sgn; simp only [if_false, Bool.false_eq_true]; omega)] at g2
          rw [decide_eq_false (show ¬ sgn false r < -(halfU : Int) by unfold sgn; simp only [if_false, Bool.false_eq_true]; omega)] at g3
          rw [decide_eq_false (show ¬ sgn false r = -(halfU : Int) by unfold sgn; simp only [if_false, Bool.false_eq_true]; omega)] at g4
          have p1 : (nn.tmod 2 == 0) = false := by rw [← HNn.out, tmod2, hod]; rfl
          have p2 : decide (nn.tmod 2 = 0) = false := by rw [← HNn.out, tmod2, hod]; rfl
          have HCn := Lib.hid (HC.out (nn + 1))
          clear HZ HNear HC hnq hqn huh
          generalize coordF (nn + 1) = co at *
          cases co
          all_goals
            go_enter Try.func18, Try.ntmps18
            go_wp2_with fail
            refine HKi.out.mono ?_
            rintro e w' ⟨rfl, rfl⟩
            go_wp2_with (go_at_call 39; refine HCn.out.mono ?_; rintro e w' ⟨rfl, rfl⟩)
            go_ret2
            rw [HF.out]
            exact ⟨rfl, rfl⟩
        · have hod' := hod
          have HF := Lib.hid (HZ.out nn (by rw [HNear.out, if_neg (by omega)]; exact HNn.out))
          rw [decide_eq_false (show ¬ (halfU : Int) < sgn false r by unfold sgn; simp only [if_false, Bool.false_eq_true]; omega)] at g1
          rw [decide_eq_true (show sgn false r = (halfU : Int) by unfold sgn; simp only [if_false, Bool.false_eq_true]; omega)] at g2
          rw [decide_eq_false (show ¬ sgn false r < -(halfU : Int) by unfold sgn; simp only [if_false, Bool.false_eq_true]; omega)] at g3
          rw [decide_eq_false (show ¬ sgn false r = -(halfU : Int) by unfold sgn; simp only [if_false, Bool.false_eq_true]; omega)] at g4
          have p1 : (nn.tmod 2 == 0) = true := by rw [← HNn.out, tmod2, show q % 2 = 0 by omega]; rfl
          have p2 : decide (nn.tmod 2 = 0) = true := by rw [← HNn.out, tmod2, show q % 2 = 0 by omega]; rfl
          have HCn := Lib.hid (HC.out (nn))
          clear HZ HNear HC hnq hqn huh
          generalize coordF (nn) = co at *
          cases co
          all_goals
            go_enter Try.func18, Try.ntmps18
            go_wp2_with fail
            refine HKi.out.mono ?_
            rintro e w' ⟨rfl, rfl⟩
            go_wp2_with (go_at_call 39; refine HCn.out.mono ?_; rintro e w' ⟨rfl, rfl⟩)
            go_ret2
            rw [HF.out]
            exact ⟨rfl, rfl⟩
      · have heq' := heq
        have HF := Lib.hid (HZ.out nn (by rw [HNear.out, if_neg (by omega)]; exact HNn.out))
        rw [decide_eq_false (show ¬ (halfU : Int) < sgn false r by unfold sgn; simp only [if_false, Bool.false_eq_true]; omega)] at g1
        rw [decide_eq_false (show ¬ sgn false r = (halfU : Int) by unfold sgn; simp only [if_false, Bool.false_eq_true]; omega)] at g2
        rw [decide_eq_false (show ¬ sgn false r < -(halfU : Int) by unfold sgn; simp only [if_false, Bool.false_eq_true]; omega)] at g3
        rw [decide_eq_false (show ¬ sgn false r = -(halfU : Int) by unfold sgn; simp only [if_false, Bool.false_eq_true]; omega)] at g4
        have HCn := Lib.hid (HC.out (nn))
        clear HZ HNear HC hnq hqn huh
        generalize coordF (nn) = co at *
        cases co
        all_goals
          go_enter Try.func18, Try.ntmps18
          go_wp2_with fail
          refine HKi.out.mono ?_
          rintro e w' ⟨rfl, rfl⟩
          go_wp2_with (go_at_call 39; refine HCn.out.mono ?_; rintro e w' ⟨rfl, rfl⟩)
          go_ret2
          rw [HF.out]
          exact ⟨rfl, rfl⟩
    · have hnq : nn = -(q : Int) := HNn.out.symm
      by_cases hgt : halfU < r
      · have hgt' := hgt
        have HF := Lib.hid (HZ.out (nn - 1) (by rw [HNear.out, if_pos (by omega)]; show -((q + 1 : Nat) : Int) = _; rw [hnq]; omega))
        rw [decide_eq_false (show ¬ (halfU : Int) < sgn true r by unfold sgn; simp only [if_true]; omega)] at g1
        rw [decide_eq_false (show ¬ sgn true r = (halfU : Int) by unfold sgn; simp only [if_true]; omega)] at g2
        rw [decide_eq_true (show sgn true r < -(halfU : Int) by unfold sgn; simp only [if_true]; omega)] at g3
        rw [decide_eq_false (show ¬ sgn true r = -(halfU : Int) by unfold sgn; simp only [if_true]; omega)] at g4
        have HCn := Lib.hid (HC.out (nn - 1))
        clear HZ HNear HC hnq hqn huh
        generalize coordF (nn - 1) = co at *
        cases co
        all_goals
          go_enter Try.func18, Try.ntmps18
          go_wp2_with fail
          refine HKi.out.mono ?_
          rintro e w' ⟨rfl, rfl⟩
          go_wp2_with (go_at_call 39; refine HCn.out.mono ?_; rintro e w' ⟨rfl, rfl⟩)
          go_ret2
          rw [HF.out]
          exact ⟨rfl, rfl⟩
      by_cases heq : r = halfU
      · by_cases hod : q % 2 = 1
        · have hod' := hod
          have HF := Lib.hid (HZ.out (nn - 1) (by rw [HNear.out, if_pos (by omega)]; show -((q + 1 : Nat) : Int) = _; rw [hnq]; omega))
          rw [decide_eq_false (show ¬ (halfU : Int) < sgn true r by unfold sgn; simp only [if_true]; omega)] at g1
          rw [decide_eq_false (show ¬ sgn true r = (halfU : Int) by unfold sgn; simp only [if_true]; omega)] at g2
          rw [decide_eq_false (show ¬ sgn true r < -(halfU : Int) by unfold sgn; simp only [if_true]; omega)] at g3
          rw [decide_eq_true (show sgn true r = -(halfU : Int) by unfold sgn; simp only [if_true]; omega)] at g4
          have p1 : (nn.tmod 2 == 0) = false := by rw [← HNn.out, tmod2, hod]; rfl
          have p2 : decide (nn.tmod 2 = 0) = false := by rw [← HNn.out, tmod2, hod]; rfl
          have HCn := Lib.hid (HC.out (nn - 1))
          clear HZ HNear HC hnq hqn huh
          generalize coordF (nn - 1) = co at *
          cases co
          all_goals
            go_enter Try.func18, Try.ntmps18
            go_wp2_with fail
            refine HKi.out.mono ?_
            rintro e w' ⟨rfl, rfl⟩
            go_wp2_with (go_at_call 39; refine HCn.out.mono ?_; rintro e w' ⟨rfl, rfl⟩)
            go_ret2
            rw [HF.out]
            exact ⟨rfl, rfl⟩
        · have hod' := hod
          have HF := Lib.hid (HZ.out nn (by rw [HNear.out, if_neg (by omega)]; exact HNn.out))
          rw [decide_eq_false (show ¬ (halfU : Int) < sgn true r by unfold sgn; simp only [if_true]; omega)] at g1
          rw [decide_eq_false (show ¬ sgn true r = (halfU : Int) by unfold sgn; simp only [if_true]; omega)] at g2
          rw [decide_eq_false (show ¬ sgn true r < -(halfU : Int) by unfold sgn; simp only [if_true]; omega)] at g3
          rw [decide_eq_true (show sgn true r = -(halfU : Int) by unfold sgn; simp only [if_true]; omega)] at g4
          have p1 : (nn.tmod 2 == 0) = true := by rw [← HNn.out, tmod2, show q % 2 = 0 by omega]; rfl
          have p2 : decide (nn.tmod 2 = 0) = true := by rw [← HNn.out, tmod2, show q % 2 = 0 by omega]; rfl
          have HCn := Lib.hid (HC.out (nn))
          clear HZ HNear HC hnq hqn huh
          generalize coordF (nn) = co at *
          cases co
          all_goals
            go_enter Try.func18, Try.ntmps18
            go_wp2_with fail
            refine HKi.out.mono ?_
            rintro e w' ⟨rfl, rfl⟩
            go_wp2_with (go_at_call 39; refine HCn.out.mono ?_; rintro e w' ⟨rfl, rfl⟩)
            go_ret2
            rw [HF.out]
            exact ⟨rfl, rfl⟩
      · have heq' := heq
        have HF := Lib.hid (HZ.out nn (by rw [HNear.out, if_neg (by omega)]; exact HNn.out))
        rw [decide_eq_false (show ¬ (halfU : Int) < sgn true r by unfold sgn; simp only [if_true]; omega)] at g1
        rw [decide_eq_false (show ¬ sgn true r = (halfU : Int) by unfold sgn; simp only [if_true]; omega)] at g2
        rw [decide_eq_false (show ¬ sgn true r < -(halfU : Int) by unfold sgn; simp only [if_true]; omega)] at g3
        rw [decide_eq_false (show ¬ sgn true r = -(halfU : Int) by unfold sgn; simp only [if_true]; omega)] at g4
        have HCn := Lib.hid (HC.out (nn))
        clear HZ HNear HC hnq hqn huh
        generalize coordF (nn) = co at *
        cases co
        all_goals
          go_enter Try.func18, Try.ntmps18
          go_wp2_with fail
          refine HKi.out.mono ?_
          rintro e w' ⟨rfl, rfl⟩
          go_wp2_with (go_at_call 39; refine HCn.out.mono ?_; rintro e w' ⟨rfl, rfl⟩)
          go_ret2
          rw [HF.out]
          exact ⟨rfl, rfl⟩
end Go.Proofs.Ytilekfappdlooaa
