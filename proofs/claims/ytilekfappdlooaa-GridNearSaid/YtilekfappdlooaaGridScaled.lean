/- lapidaryref07: coord, Scaled. -/
import Derived.Test.YtilekfappdlooaaGridRef
namespace Go.Proofs.Ytilekfappdlooaa
open Go.RowKit

/-- A coordinate. -/
def coordF (n : Int) : Bool := decide (-2147483648 ≤ n ∧ n ≤ 2147483647)
/-- What Scaled tells. -/
def scaledF (b : Nat) (up : Int) : Int × Nat :=
  if up < 0 ∨ 30 < up then (0, 2) else if kindF b = 0 then (0, 70) else if kindF b = 3 then (0, 0) else if kindF b ≠ 6 then (0, 71)
  else if (expF b : Int) - 1075 + up < 0 ∧ (4503599627370496 + fracF b) % 2 ^ (-((expF b : Int) - 1075 + up)).toNat = 0 ∧ coordF (sgn (negF b) ((4503599627370496 + fracF b) / 2 ^ (-((expF b : Int) - 1075 + up)).toNat)) = true
  then (sgn (negF b) ((4503599627370496 + fracF b) / 2 ^ (-((expF b : Int) - 1075 + up)).toNat), 0) else (0, 71)
theorem ref7Coord_any (n : Int) (w : World) : Calls Try.prog 39 #[.int .i64 n] w fun e w' => e = .returned (.bool (coordF n)) ∧ w = w' := by
  by_cases h1 : -2147483648 ≤ n
  · have t1 : decide (-2147483648 ≤ n) = true := by simpa using h1
    have HE : Hid (coordF n = decide (n ≤ 2147483647)) := by show _ = _; unfold coordF; simp [h1]
    go_enter Try.func39, Try.ntmps39
    go_wp2
    go_ret
    exact ⟨ret_bool (by rw [HE.out]), rfl⟩
  · have t1 : decide (-2147483648 ≤ n) = false := by simpa using h1
    have HE : Hid (coordF n = false) := by show _ = _; unfold coordF; simp [h1]
    go_enter Try.func39, Try.ntmps39
    go_wp2
    go_ret
    exact ⟨ret_bool (by rw [HE.out]), rfl⟩
theorem kindF_lt (b : Nat) : kindF b ≤ 6 := by unfold kindF; (repeat' split) <;> decide
theorem kindF_six {b : Nat} (h : kindF b = 6) : expF b ≠ 0 ∧ expF b ≠ 2047 := by
  unfold kindF at h
  constructor
  · intro e; rw [e] at h; simp at h; revert h; (repeat' split) <;> simp
  · intro e; rw [e] at h; simp at h; revert h; (repeat' split) <;> simp
theorem odd_not {m i j : Nat} (hm : m % 2 = 1) (hij : i < j) : m * 2 ^ i % 2 ^ j ≠ 0 := by
  intro h
  have h1 : 2 ^ j ∣ m * 2 ^ i := Nat.dvd_of_mod_eq_zero h
  have h2 : 2 ^ (j - i) * 2 ^ i ∣ m * 2 ^ i := by rw [← Nat.pow_add, Nat.sub_add_cancel (by omega)]; exact h1
  have h3 : 2 ^ (j - i) ∣ m := Nat.dvd_of_mul_dvd_mul_right (Nat.two_pow_pos i) h2
  have h4 : 2 ∣ m := Nat.dvd_trans (by rw [show j - i = (j - i - 1) + 1 by omega, Nat.pow_succ]; exact Nat.dvd_mul_left _ _) h3
  omega
set_option maxRecDepth 100000 in
set_option maxHeartbeats 1000000 in
theorem ref7Scaled_any (b : Nat) (up : Int) (w : World) (hb : b < 18446744073709551616) : Calls Try.prog 14 #[.float .f64 b, .int .i64 up] w fun e w' => e = .returned (.tuple #[.int .i64 (scaledF b up).1, .int .i64 ((scaledF b up).2 : Int)]) ∧ w = w' := by
  by_cases h0 : up < 0
  · have t0 : decide (up < 0) = true := by simpa using h0
    have HE : Hid (scaledF b up = (0, 2)) := if_pos (Or.inl h0)
    go_enter Try.func14, Try.ntmps14
    go_wp2
    go_ret2
    rw [HE.out]
    exact ⟨rfl, rfl⟩
  have t0 : decide (up < 0) = false := by simpa using h0
  by_cases h30 : 30 < up
  · have t1 : decide (30 < up) = true := by simpa using h30
    have HE : Hid (scaledF b up = (0, 2)) := if_pos (Or.inr h30)
    go_enter Try.func14, Try.ntmps14
    go_wp2
    go_ret2
    rw [HE.out]
    exact ⟨rfl, rfl⟩
  have t1 : decide (30 < up) = false := by simpa using h30
  have HE0 : Hid (scaledF b up = if kindF b = 0 then (0, 70) else if kindF b = 3 then (0, 0) else if kindF b ≠ 6 then (0, 71)
    else if (expF b : Int) - 1075 + up < 0 ∧ (4503599627370496 + fracF b) % 2 ^ (-((expF b : Int) - 1075 + up)).toNat = 0 ∧ coordF (sgn (negF b) ((4503599627370496 + fracF b) / 2 ^ (-((expF b : Int) - 1075 + up)).toNat)) = true
    then (sgn (negF b) ((4503599627370496 + fracF b) / 2 ^ (-((expF b : Int) - 1075 + up)).toNat), 0) else (0, 71)) := if_neg (by omega)
  have HKi := Lib.hid (ref7Kind_any b w hb)
  have HPa := Lib.hid (ref7Parts_any b w hb)
  have hk6 := kindF_lt b
  by_cases k6 : kindF b = 6
  · obtain ⟨ke0, ke1⟩ := kindF_six k6
    rw [k6] at HKi HE0
    rw [if_neg (by decide), if_neg (by decide), if_neg (by decide)] at HE0
    have he := expF_lt b
    have hf := fracF_lt b
    generalize expF b = e at *
    generalize fracF b = m0 at *
    generalize negF b = sg at *
    obtain ⟨M, hM⟩ : ∃ M, 4503599627370496 + m0 = M := ⟨_, rfl⟩
    obtain ⟨s, hs⟩ : ∃ s : Int, (e : Int) - 1075 + up = s := ⟨_, rfl⟩
    rw [hM, hs] at HE0
    have hM1 : 4503599627370496 ≤ M := by omega
    have hM2 : M < 9007199254740992 := by omega
    have eM : (m0 : Int) + 4503599627370496 = (M : Int) := by omega
    have hs1 : -1075 ≤ s ∧ s ≤ 2000 := by omega
    clear k6 hk6 hM ke0 ke1
    go_enter Try.func14, Try.ntmps14
    go_wp2_with fail
    refine HKi.out.mono ?_
    rintro e' w' ⟨rfl, rfl⟩
    go_wp2_with fail
    refine HPa.out.mono ?_
    rintro e' w' ⟨rfl, rfl⟩
    go_wp2
    go_loopg [9, 10] 53 (fun gh s9 s10 wx => ∃ (i m : Nat), i + gh = 53 ∧ s9 = .int .u64 (m : Int) ∧ s10 = .int .i64 (s + (i : Int)) ∧ Hid (m * 2 ^ i = M) ∧ (i = 0 ∨ s + (i : Int) ≤ 0) ∧ m ≤ M ∧ 1 ≤ m ∧ w = wx)
    case atStart => exact ⟨0, M, by omega, rfl, by simp, by show _ = _; simp, Or.inl rfl, by omega, by omega, rfl⟩
    case round =>
      obtain ⟨i, m, hig, rfl, rfl, Hm, hi0, hmM, hm1, rfl⟩ := hrel
      have hpw : 2 ^ i ≤ M := by rw [← Hm.out]; exact Nat.le_mul_of_pos_left _ hm1
      by_cases hs0 : s + (i : Int) < 0
      · have q0 : decide (s + (i : Int) < 0) = true := by simpa using hs0
        by_cases hev : m % 2 = 0
        · have q1 : ((m : Int) % 2 == 0) = true := beq_iff_eq.2 (by omega)
          have q2 : decide ((m : Int) % 2 = 0) = true := by simp; omega
          have q3 : decide ((0 : Int) < (m : Int)) = true := by simp; omega
          have Hm2 : Hid (m / 2 * 2 ^ (i + 1) = M) := by
            show _ = _
            rw [Nat.pow_succ, Nat.mul_comm (2 ^ i) 2, ← Nat.mul_assoc, Nat.div_mul_cancel (Nat.dvd_of_mod_eq_zero hev)]
            exact Hm.out
          have hi52 : i < 53 := by
            rcases Nat.lt_or_ge i 53 with h | h
            · exact h
            · have : 2 ^ 53 ≤ 2 ^ i := Nat.pow_le_pow_right (by decide) h
              rw [show (2 : Nat) ^ 53 = 9007199254740992 from rfl] at this
              omega
          have HD : Hid ((m : Int) / 2 = ((m / 2 : Nat) : Int)) := by show _ = _; omega
          have hm2 : 1 ≤ m / 2 ∧ m / 2 ≤ M := by omega
          go_wp2
          go_roundg (gk - 1)
          case measure => omega
          case rel => exact ⟨i + 1, m / 2, by omega, by first | rfl | rw [HD.out], by go_num, Hm2, Or.inr (by omega), hm2.2, hm2.1, rfl⟩
        · have q1 : ((m : Int) % 2 == 0) = false := beq_eq_false_iff_ne.2 (by omega)
          have q2 : decide ((m : Int) % 2 = 0) = false := by simp; omega
          have HR : Hid (scaledF b up = (0, 71)) := by
            show _ = _
            rw [HE0.out, if_neg]
            rintro ⟨_, h, _⟩
            rw [← Hm.out] at h
            exact odd_not (by omega) (show i < (-s).toNat by omega) h
          go_wp2
          go_ret2
          rw [HR.out]
          exact ⟨rfl, rfl⟩
      · have q0 : decide (s + (i : Int) < 0) = false := by simpa using hs0
        by_cases hsp : 0 < s + (i : Int)
        · have hm52 : 4503599627370496 ≤ m := by
            have h1 := Hm.out
            rw [show i = 0 by omega, Nat.pow_zero, Nat.mul_one] at h1
            omega
          have q4 : decide ((0 : Int) < s + (i : Int)) = true := by simpa using hsp
          have q5 : decide ((m : Int) < 8589934592) = false := by simp; omega
          have HR : Hid (scaledF b up = (0, 71)) := by
            show _ = _
            rw [HE0.out, if_neg]
            rintro ⟨h, _⟩
            omega
          go_wp2
          go_loopg [9, 10] 0 (fun gh s9 s10 wx => s9 = .int .u64 (m : Int) ∧ s10 = .int .i64 (s + (i : Int)) ∧ w = wx)
          case atStart => exact ⟨rfl, rfl, rfl⟩
          case round =>
            obtain ⟨rfl, rfl, rfl⟩ := hrel
            go_wp2
            go_ret2
            rw [HR.out]
            exact ⟨rfl, rfl⟩
        · have HSi : Hid (s + (i : Int) = 0) := by show _ = _; omega
          have q4 : decide ((0 : Int) < s + (i : Int)) = false := by simpa using hsp
          go_wp2
          go_loopg [9, 10] 0 (fun gh s9 s10 wx => s9 = .int .u64 (m : Int) ∧ s10 = .int .i64 (s + (i : Int)) ∧ w = wx)
          case atStart => exact ⟨rfl, rfl, rfl⟩
          case round =>
            obtain ⟨rfl, rfl, rfl⟩ := hrel
            have hM31 : i = 0 → 4503599627370496 ≤ m := fun h => by
              have := Hm.out
              rw [h, Nat.pow_zero, Nat.mul_one] at this
              omega
            by_cases hbig : 2147483648 < m
            · have q6 : decide ((2147483648 : Int) < (m : Int)) = true := by simp; omega
              have HR : Hid (scaledF b up = (0, 71)) := by
                show _ = _
                rw [HE0.out, if_neg]
                rintro ⟨h, _, h2⟩
                rw [show (-s).toNat = i by have := HSi.out; omega, ← Hm.out, Nat.mul_div_cancel _ (Nat.two_pow_pos i)] at h2
                have h3 := of_decide_eq_true h2
                unfold sgn at h3
                split at h3 <;> omega
              go_wp2
              go_ret2
              rw [HR.out]
              exact ⟨rfl, rfl⟩
            · have q6 : decide ((2147483648 : Int) < (m : Int)) = false := by simp; omega
              have HR : Hid (scaledF b up = if coordF (sgn sg m) = true then (sgn sg m, 0) else (0, 71)) := by
                show _ = _
                have h0 := HSi.out
                have h1 : s < 0 := by
                  rcases Nat.eq_zero_or_pos i with h | h
                  · have := hM31 h; omega
                  · omega
                rw [HE0.out, show (-s).toNat = i by omega, ← Hm.out, Nat.mul_div_cancel _ (Nat.two_pow_pos i), Nat.mul_mod_left]
                by_cases h2 : coordF (sgn sg m) = true
                · rw [if_pos ⟨h1, rfl, h2⟩, if_pos h2]
                · rw [if_neg (fun h => h2 h.2.2), if_neg h2]
              have HCo := Lib.hid (fun n => ref7Coord_any n w)
              cases sg
              · have HCn := Lib.hid (HCo.out (m : Int))
                have eS : sgn false m = (m : Int) := rfl
                rw [eS] at HR
                generalize coordF (m : Int) = co at *
                cases co
                · go_wp2_with (go_at_call 39; refine HCn.out.mono ?_; rintro e w' ⟨rfl, rfl⟩)
                  go_ret2
                  rw [HR.out]
                  exact ⟨rfl, rfl⟩
                · go_wp2_with (go_at_call 39; refine HCn.out.mono ?_; rintro e w' ⟨rfl, rfl⟩)
                  go_ret2
                  rw [HR.out]
                  exact ⟨rfl, rfl⟩
              · have HCn := Lib.hid (HCo.out (-(m : Int)))
                have eS : sgn true m = -(m : Int) := rfl
                rw [eS] at HR
                generalize coordF (-(m : Int)) = co at *
                cases co
                · go_wp2_with (go_at_call 39; refine HCn.out.mono ?_; rintro e w' ⟨rfl, rfl⟩)
                  go_ret2
                  rw [HR.out]
                  exact ⟨rfl, rfl⟩
                · go_wp2_with (go_at_call 39; refine HCn.out.mono ?_; rintro e w' ⟨rfl, rfl⟩)
                  go_ret2
                  rw [HR.out]
                  exact ⟨rfl, rfl⟩
  · have HE6 : Hid (scaledF b up = if kindF b = 0 then (0, 70) else if kindF b = 3 then (0, 0) else (0, 71)) := by show _ = _; rw [HE0.out, if_pos k6]
    generalize kindF b = k at *
    by_cases k0 : k = 0
    · subst k0
      go_enter Try.func14, Try.ntmps14
      go_wp2_with (go_at_call 20; refine HKi.out.mono ?_; rintro e w' ⟨rfl, rfl⟩)
      go_ret2
      rw [HE6.out]
      exact ⟨rfl, rfl⟩
    · by_cases k3 : k = 3
      · subst k3
        go_enter Try.func14, Try.ntmps14
        go_wp2_with (go_at_call 20; refine HKi.out.mono ?_; rintro e w' ⟨rfl, rfl⟩)
        go_ret2
        rw [HE6.out]
        exact ⟨rfl, rfl⟩
      · rw [if_neg k0, if_neg k3] at HE6
        have hk : k = 1 ∨ k = 2 ∨ k = 4 ∨ k = 5 := by omega
        clear k0 k3 k6 hk6 HE0
        rcases hk with rfl | rfl | rfl | rfl
        all_goals
          go_enter Try.func14, Try.ntmps14
          go_wp2_with (go_at_call 20; refine HKi.out.mono ?_; rintro e w' ⟨rfl, rfl⟩)
          go_ret2
          rw [HE6.out]
          exact ⟨rfl, rfl⟩
end Go.Proofs.Ytilekfappdlooaa
