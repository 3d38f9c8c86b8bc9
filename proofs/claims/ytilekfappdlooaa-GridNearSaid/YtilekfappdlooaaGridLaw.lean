/- What the laws of layer 7 ask, in plain numbers. -/
import Derived.Test.YtilekfappdlooaaGridPts
namespace Go.Proofs.Ytilekfappdlooaa
open Go.RowKit

theorem kind_six {b : Nat} (h0 : expF b ≠ 0) (h1 : expF b ≠ 2047) : kindF b = 6 := by unfold kindF; rw [if_neg h1, if_neg h0]
/-- What is on the grid is so many of its steps. -/
theorem scaled_val {z k : Nat} {j : Int} (hk : k ≤ 30) (hz : z < 18446744073709551616) (h : scaledF z (k : Int) = (j, 0)) : coordF j = true ∧ ((j = 0 ∧ z = 0) ∨ (j ≠ 0 ∧ expF z ≠ 2047 ∧ valF z = j * ((2 ^ (lowF - k) : Nat) : Int))) := by
  unfold scaledF at h
  rw [if_neg (by omega)] at h
  by_cases k0 : kindF z = 0
  · rw [if_pos k0] at h; cases h
  rw [if_neg k0] at h
  by_cases k3 : kindF z = 3
  · rw [if_pos k3] at h
    cases h
    refine ⟨by decide, Or.inl ⟨rfl, ?_⟩⟩
    have hs := bits_split z hz
    unfold kindF at k3
    by_cases e1 : expF z = 2047
    · rw [if_pos e1] at k3; revert k3; (repeat' split) <;> simp
    · rw [if_neg e1] at k3
      by_cases e0 : expF z = 0
      · rw [if_pos e0] at k3
        by_cases m0 : fracF z = 0
        · rw [if_pos m0] at k3
          cases hn : negF z
          · rw [hn, e0, m0] at hs; simpa using hs
          · rw [hn] at k3; simp at k3
        · rw [if_neg m0] at k3; simp at k3
      · rw [if_neg e0] at k3; simp at k3
  rw [if_neg k3] at h
  by_cases k6 : kindF z = 6
  · rw [if_neg (by simp [k6])] at h
    obtain ⟨e0, e1⟩ := kindF_six k6
    split at h
    · rename_i hc
      obtain ⟨c1, c2, c3⟩ := hc
      have hj : sgn (negF z) ((4503599627370496 + fracF z) / 2 ^ (-((expF z : Int) - 1075 + (k : Int))).toNat) = j := by
        have := congrArg Prod.fst h
        exact this
      rw [hj] at c3
      refine ⟨c3, Or.inr ⟨?_, e1, ?_⟩⟩
      · intro e
        have h1 : (4503599627370496 + fracF z) / 2 ^ (-((expF z : Int) - 1075 + (k : Int))).toNat = 0 := by
          have := sgn_abs (negF z) ((4503599627370496 + fracF z) / 2 ^ (-((expF z : Int) - 1075 + (k : Int))).toNat)
          rw [hj, e] at this
          exact this.symm
        have h2 := Nat.div_add_mod (4503599627370496 + fracF z) (2 ^ (-((expF z : Int) - 1075 + (k : Int))).toNat)
        rw [h1, c2] at h2
        omega
      · have hm : magF z = 4503599627370496 + fracF z := if_neg e0
        have hl := lowF_nat
        have hu : upF z + (-((expF z : Int) - 1075 + (k : Int))).toNat = lowF - k := by unfold upF; omega
        have hd : (4503599627370496 + fracF z) / 2 ^ (-((expF z : Int) - 1075 + (k : Int))).toNat * 2 ^ (-((expF z : Int) - 1075 + (k : Int))).toNat = 4503599627370496 + fracF z := Nat.div_mul_cancel (Nat.dvd_of_mod_eq_zero c2)
        unfold valF
        rw [hm, ← hd, Nat.mul_assoc, ← Nat.pow_add, Nat.add_comm _ (upF z), hu, sgn_mul, hj]
    · cases h
  · rw [if_pos k6] at h; cases h
theorem scaled_of {z k : Nat} {j : Int} (hk : k ≤ 30) (hj0 : j ≠ 0) (hj : coordF j = true) (f : expF z ≠ 2047) (hn : negF z = decide (j < 0)) (hv : valF z = j * ((2 ^ (lowF - k) : Nat) : Int)) : scaledF z (k : Int) = (j, 0) := by
  have hl := lowF_nat
  have hco := of_decide_eq_true hj
  have ha : magF z * 2 ^ upF z = j.natAbs * 2 ^ (lowF - k) := by rw [← val_abs, hv, Int.natAbs_mul, Int.natAbs_natCast]
  have hfr := fracF_lt z
  have e0 : expF z ≠ 0 := fun e => by
    have h1 : magF z = fracF z := if_pos e
    have h2 : upF z = 0 := by unfold upF; omega
    rw [h1, h2, Nat.pow_zero, Nat.mul_one] at ha
    have h3 : 2 ^ 52 ≤ 2 ^ (lowF - k) := Nat.pow_le_pow_right (by decide) (by omega)
    have h4 : 2 ^ (lowF - k) ≤ j.natAbs * 2 ^ (lowF - k) := Nat.le_mul_of_pos_left _ (by omega)
    rw [show (2 : Nat) ^ 52 = 4503599627370496 from rfl] at h3
    omega
  have hm : magF z = 4503599627370496 + fracF z := if_neg e0
  have k6 := kind_six e0 f
  have hlt : upF z < lowF - k := by
    rcases Nat.lt_or_ge (upF z) (lowF - k) with h | h
    · exact h
    · have h1 : magF z * 2 ^ (lowF - k) ≤ magF z * 2 ^ upF z := Nat.mul_le_mul_left _ (Nat.pow_le_pow_right (by decide) h)
      rw [ha] at h1
      have h2 := Nat.le_of_mul_le_mul_right h1 (Nat.two_pow_pos _)
      omega
  obtain ⟨t, ht⟩ : ∃ t, lowF - k = upF z + t := ⟨lowF - k - upF z, by omega⟩
  have hM : 4503599627370496 + fracF z = j.natAbs * 2 ^ t := by
    rw [ht, Nat.pow_add, Nat.mul_comm (2 ^ upF z), ← Nat.mul_assoc, hm] at ha
    exact Nat.eq_of_mul_eq_mul_right (Nat.two_pow_pos _) ha
  have hs : -((expF z : Int) - 1075 + (k : Int)) = (t : Int) := by unfold upF at ht hlt; omega
  have hq : j.natAbs * 2 ^ t / 2 ^ t = j.natAbs := Nat.mul_div_cancel _ (Nat.two_pow_pos t)
  unfold scaledF
  rw [if_neg (by omega), if_neg (by omega), if_neg (by omega), if_neg (by simp [k6]), hs, Int.toNat_natCast, hM, hq, hn, sgn_natAbs, if_pos ⟨by unfold upF at ht hlt; omega, Nat.mul_mod_left _ _, hj⟩]
theorem scaled_fbits {n : Int} {k : Nat} (hk : k ≤ 30) (hn : coordF n = true) : scaledF (fbits n k) (k : Int) = (n, 0) := by
  have hco := of_decide_eq_true hn
  obtain ⟨h1, h2, h3, h4⟩ := fbits_is (n := n) (k := k) (by omega)
  by_cases h0 : n = 0
  · subst h0
    show scaledF 0 (k : Int) = (0, 0)
    unfold scaledF
    rw [if_neg (by omega)]
    rfl
  · exact scaled_of hk h0 hn h2 h3 h4
theorem scaled_back {z k : Nat} {j : Int} (hk : k ≤ 30) (hz : z < 18446744073709551616) (h : scaledF z (k : Int) = (j, 0)) : floatF j (k : Int) = (z, 0) := by
  obtain ⟨hc, h⟩ := scaled_val hk hz h
  have hco := of_decide_eq_true hc
  unfold floatF
  rw [if_neg (by rw [hc]; simp; omega), Int.toNat_natCast]
  rcases h with ⟨rfl, rfl⟩ | ⟨h0, f, hv⟩
  · rfl
  · obtain ⟨b1, b2, b3, b4⟩ := fbits_is (n := j) (k := k) (by omega)
    have hp := Nat.two_pow_pos (lowF - k)
    rw [val_same b1 hz b2 f (by rw [b4]; exact Int.mul_ne_zero h0 (by omega)) (by rw [b4, hv])]
theorem same_refl (a : Nat) : sameF a a = true := by unfold sameF; simp
theorem same_comm (a b : Nat) : sameF a b = sameF b a := by
  unfold sameF
  by_cases h : a = b
  · subst h; rfl
  · simp [h, Ne.symm h, And.comm]
/-- The other sign. -/
theorem flip_parts {b : Nat} (hb : b < 18446744073709551616) : (b ^^^ 9223372036854775808) < 18446744073709551616 ∧ expF (b ^^^ 9223372036854775808) = expF b ∧ fracF (b ^^^ 9223372036854775808) = fracF b ∧ negF (b ^^^ 9223372036854775808) = !negF b := by
  have h1 : (b ^^^ 9223372036854775808) % 2 ^ 63 = b % 2 ^ 63 := by rw [Nat.xor_mod_two_pow]; simp
  have h2 : (b ^^^ 9223372036854775808) / 2 ^ 63 = b / 2 ^ 63 ^^^ 1 := by rw [Nat.xor_div_two_pow]
  rw [show (2 : Nat) ^ 63 = 9223372036854775808 from rfl] at h1 h2
  generalize b ^^^ 9223372036854775808 = c at *
  have h3 : b / 9223372036854775808 = 0 ∨ b / 9223372036854775808 = 1 := by omega
  unfold expF fracF negF
  rcases h3 with h3 | h3
  · rw [h3] at h2
    have h4 : c / 9223372036854775808 = 1 := h2
    refine ⟨by omega, by omega, by omega, ?_⟩
    rw [h3, h4]; rfl
  · rw [h3] at h2
    have h4 : c / 9223372036854775808 = 0 := h2
    refine ⟨by omega, by omega, by omega, ?_⟩
    rw [h3, h4]; rfl
theorem kind_flip {b : Nat} (hb : b < 18446744073709551616) : kindF (b ^^^ 9223372036854775808) = [0, 2, 1, 4, 3, 5, 6].getD (kindF b) 0 := by
  obtain ⟨_, h2, h3, h4⟩ := flip_parts hb
  unfold kindF
  rw [h2, h3, h4]
  cases negF b <;> (repeat' split) <;> simp_all

theorem or_2047 : ∀ y < 2048, 2047 ||| y = 2047 := by decide +kernel
/-- Whatever is added to it, no number stays none. -/
theorem nan_parts {r : Nat} (hr : r < 18446744073709551616) : (9218868437227405313 ||| r) < 18446744073709551616 ∧ expF (9218868437227405313 ||| r) = 2047 ∧ fracF (9218868437227405313 ||| r) ≠ 0 := by
  refine ⟨Nat.or_lt_two_pow (n := 64) (by decide) hr, ?_, ?_⟩
  · unfold expF
    have h1 : (9218868437227405313 ||| r) / 2 ^ 52 = 2047 ||| r / 2 ^ 52 := by rw [Nat.or_div_two_pow]
    have h2 : (2047 ||| r / 2 ^ 52) % 2 ^ 11 = 2047 ||| r / 2 ^ 52 % 2 ^ 11 := by rw [Nat.or_mod_two_pow]
    rw [show (4503599627370496 : Nat) = 2 ^ 52 from rfl, show (2048 : Nat) = 2 ^ 11 from rfl, h1, h2]
    exact or_2047 _ (Nat.mod_lt _ (by decide))
  · unfold fracF
    have h1 : (9218868437227405313 ||| r) % 2 ^ 52 = 1 ||| r % 2 ^ 52 := by rw [Nat.or_mod_two_pow]
    rw [show (4503599627370496 : Nat) = 2 ^ 52 from rfl, h1]
    intro h
    have := (Nat.or_eq_zero_iff.1 h).1
    cases this
theorem kind_nan {b : Nat} (h1 : expF b = 2047) (h2 : fracF b ≠ 0) : kindF b = 0 := by unfold kindF; rw [if_pos h1, if_pos h2]
theorem scaled_kind {b k : Nat} (hk : k ≤ 30) {t : Nat} (ht : kindF b = t) : (t = 0 → scaledF b (k : Int) = (0, 70)) ∧ (t = 3 → scaledF b (k : Int) = (0, 0)) ∧ (t = 1 ∨ t = 2 ∨ t = 4 ∨ t = 5 → scaledF b (k : Int) = (0, 71)) := by
  unfold scaledF
  rw [if_neg (by omega), ht]
  refine ⟨fun h => if_pos h, fun h => ?_, fun h => ?_⟩
  · rw [if_neg (by omega), if_pos h]
  · rw [if_neg (by omega), if_neg (by omega), if_pos (by omega)]
theorem round_kind {b t : Nat} (ht : kindF b = t) : (t = 0 → roundF b = (0, 70)) ∧ (t = 1 ∨ t = 2 → roundF b = (0, 3)) := by
  unfold roundF
  rw [ht]
  refine ⟨fun h => if_pos h, fun h => ?_⟩
  rw [if_neg (by omega), if_pos (by omega)]
theorem round_nought {b : Nat} (ht : kindF b = 3 ∨ kindF b = 4) (h : absF b = 0) : roundF b = (0, 0) := by
  have hp := unit_pos
  have hn : nearF b = 0 := by
    unfold nearF
    rw [h, Nat.zero_mod, Nat.zero_div, if_neg (by omega)]
  unfold roundF
  rw [if_neg (by omega), if_neg (by rw [h]; omega), hn, sgn_zero]
  rfl
theorem round_fbits {n : Int} (hn : coordF n = true) : roundF (fbits n 0) = (n, 0) := by
  have hco := of_decide_eq_true hn
  have hp := unit_pos
  obtain ⟨h1, h2, h3, h4⟩ := fbits_is (n := n) (k := 0) (by omega)
  rw [Nat.sub_zero] at h4
  have ha : absF (fbits n 0) = n.natAbs * unitF := by
    show magF _ * 2 ^ upF _ = _
    rw [← val_abs, h4, Int.natAbs_mul, Int.natAbs_natCast]
    rfl
  have hk : kindF (fbits n 0) = 3 ∨ kindF (fbits n 0) = 4 ∨ kindF (fbits n 0) = 5 ∨ kindF (fbits n 0) = 6 := by
    unfold kindF
    rw [if_neg h2]
    (repeat' split) <;> simp
  have hnear : nearF (fbits n 0) = n.natAbs := by
    unfold nearF
    rw [ha, Nat.mul_mod_left, Nat.mul_div_cancel _ hp, if_neg (by omega)]
  have hbig : ¬ 4294967296 * unitF < absF (fbits n 0) := by
    rw [ha]
    have : n.natAbs * unitF ≤ 4294967296 * unitF := Nat.mul_le_mul_right _ (by omega)
    omega
  unfold roundF
  rw [if_neg (by omega), if_neg (by omega), hnear, h3, sgn_natAbs, if_pos hn]
/-- What is left to the next whole number is a double, too. -/
theorem rest_up {x : Nat} (h : halfU ≤ absF x % unitF) : FitF (unitF - absF x % unitF) := by
  have hm := magF_lt x
  have hl := lowF_nat
  have hh := unit_half
  have hhp := half_pos
  unfold absF at h ⊢
  generalize magF x = m at *
  generalize upF x = a at *
  by_cases ha : lowF ≤ a
  · exfalso
    have e : m * 2 ^ a % unitF = 0 := by
      unfold unitF
      rw [show m * 2 ^ a = m * 2 ^ (a - lowF) * 2 ^ lowF by rw [Nat.mul_assoc, ← Nat.pow_add, Nat.sub_add_cancel ha], Nat.mul_mod_left]
    omega
  · have e : m * 2 ^ a % unitF = m % 2 ^ (lowF - a) * 2 ^ a := by
      unfold unitF
      rw [show (2 : Nat) ^ lowF = 2 ^ (lowF - a) * 2 ^ a by rw [← Nat.pow_add, Nat.sub_add_cancel (by omega)], Nat.mul_mod_mul_right]
    have e2 : unitF = 2 ^ (lowF - a) * 2 ^ a := by unfold unitF; rw [← Nat.pow_add, Nat.sub_add_cancel (by omega)]
    have hlt := Nat.mod_lt m (Nat.two_pow_pos (lowF - a))
    rw [e] at h ⊢
    rw [e2, ← Nat.sub_mul]
    refine fit_of (by omega) ?_ (by omega)
    by_cases hb : lowF - a ≤ 53
    · have : 2 ^ (lowF - a) ≤ 2 ^ 53 := Nat.pow_le_pow_right (by decide) hb
      rw [show (2 : Nat) ^ 53 = 9007199254740992 from rfl] at this
      have h2 : m % 2 ^ (lowF - a) ≠ 0 := fun e' => by rw [e', Nat.zero_mul] at h; omega
      omega
    · exfalso
      have h1 : 2 ^ 53 ≤ 2 ^ (lowF - a - 1) := Nat.pow_le_pow_right (by decide) (by omega)
      have h2 : halfU = 2 ^ (lowF - a - 1) * 2 ^ a := by unfold halfU; rw [← Nat.pow_add, show lowF - a - 1 + a = lowF - 1 by omega]
      rw [h2] at h
      have h3 := Nat.le_of_mul_le_mul_right h (Nat.two_pow_pos a)
      have h4 := Nat.mod_le m (2 ^ (lowF - a))
      rw [show (2 : Nat) ^ 53 = 9007199254740992 from rfl] at h1
      omega
/-- What is rounded is no further than a half from it. -/
theorem round_near {x : Nat} {k : Int} (hx : x < 18446744073709551616) (h : roundF x = (k, 0)) : coordF k = true ∧ ∃ r, Ieee.double.sub x (fbits k 0) = some r ∧ r < 18446744073709551616 ∧ expF r ≠ 2047 ∧ -(halfU : Int) ≤ valF r ∧ valF r ≤ (halfU : Int) ∧ (valF r = (halfU : Int) ∨ valF r = -(halfU : Int) → k % 2 = 0) := by
  unfold roundF at h
  by_cases k0 : kindF x = 0
  · rw [if_pos k0] at h; cases h
  rw [if_neg k0] at h
  split at h
  · cases h
  rename_i hk
  have f : expF x ≠ 2047 := fun e => by
    apply hk
    unfold kindF at k0 ⊢
    rw [if_pos e] at k0 ⊢
    revert k0
    (repeat' split) <;> simp
  split at h
  · rename_i hc
    have hkk : sgn (negF x) (nearF x) = k := congrArg Prod.fst h
    rw [hkk] at hc
    refine ⟨hc, ?_⟩
    have hco := of_decide_eq_true hc
    obtain ⟨b1, b2, _, b4⟩ := fbits_is (n := k) (k := 0) (by omega)
    rw [Nat.sub_zero] at b4
    have hp := unit_pos
    have hh := unit_half
    have hhp := half_pos
    have hr := Nat.mod_lt (absF x) hp
    have hv := val_parts x
    have hn : nearF x = if unitF < 2 * (absF x % unitF) ∨ (unitF = 2 * (absF x % unitF) ∧ absF x / unitF % 2 = 1) then absF x / unitF + 1 else absF x / unitF := rfl
    by_cases hup : unitF < 2 * (absF x % unitF) ∨ (unitF = 2 * (absF x % unitF) ∧ absF x / unitF % 2 = 1)
    · rw [if_pos hup] at hn
      have hf := rest_up (x := x) (by omega)
      have e : valF x - valF (fbits k 0) = -sgn (negF x) (unitF - absF x % unitF) := by
        rw [b4, hv, ← hkk, hn]
        show _ - sgn (negF x) (absF x / unitF + 1) * (unitF : Int) = _
        rw [← sgn_mul, ← sgn_mul, Nat.add_mul, Nat.one_mul]
        generalize absF x / unitF * unitF = q
        generalize absF x % unitF = r at *
        unfold sgn
        split <;> omega
      obtain ⟨r, c1, c2, c3, c4⟩ := sub_exact hx b1 f b2 (fun _ => by rw [e, Int.natAbs_neg, sgn_abs]; exact hf)
      refine ⟨r, c1, c2, c3, ?_⟩
      rw [c4, e, ← hkk, hn]
      generalize absF x / unitF = q at *
      generalize absF x % unitF = r at *
      unfold sgn
      split <;> refine ⟨by omega, by omega, fun h' => by omega⟩
    · rw [if_neg hup] at hn
      have e : valF x - valF (fbits k 0) = sgn (negF x) (absF x % unitF) := by
        rw [b4, hv, ← hkk, hn]
        show _ + _ - _ * (unitF : Int) = _
        omega
      obtain ⟨r, c1, c2, c3, c4⟩ := sub_exact hx b1 f b2 (fun h' => by
        rw [e] at h' ⊢
        rw [sgn_abs]
        exact rest_fit fun h2 => h' (by rw [h2, sgn_zero]))
      refine ⟨r, c1, c2, c3, ?_⟩
      rw [c4, e, ← hkk, hn]
      generalize absF x / unitF = q at *
      generalize absF x % unitF = r at *
      unfold sgn
      split <;> refine ⟨by omega, by omega, fun h' => by omega⟩
  · cases h
end Go.Proofs.Ytilekfappdlooaa
