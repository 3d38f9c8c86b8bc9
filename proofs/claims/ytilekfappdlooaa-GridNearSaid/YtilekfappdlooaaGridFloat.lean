/- lapidaryref07: Same, Float. -/
import Derived.Test.YtilekfappdlooaaGridScaled
namespace Go.Proofs.Ytilekfappdlooaa
open Go.RowKit

def sameF (a b : Nat) : Bool := decide (a = b ∨ (kindF a = 0 ∧ kindF b = 0))
set_option maxRecDepth 100000 in
set_option maxHeartbeats 400000 in
theorem ref7Same_any (a b : Nat) (w : World) (ha : a < 18446744073709551616) (hb : b < 18446744073709551616) : Calls Try.prog 22 #[.float .f64 a, .float .f64 b] w fun e w' => e = .returned (.bool (sameF a b)) ∧ w = w' := by
  have hb1 := fun W => bits_run a W
  have hb2 := fun W => bits_run b W
  have HK1 := Lib.hid (ref7Kind_any a w ha)
  have HK2 := Lib.hid (ref7Kind_any b w hb)
  have HS : Hid (sameF a b = decide (a = b ∨ (kindF a = 0 ∧ kindF b = 0))) := by show _ = _; rfl
  generalize kindF a = k at *
  generalize kindF b = j at *
  by_cases h : a = b
  · have t1 : ((a : Int) == (b : Int)) = true := by rw [h]; exact beq_self_eq_true _
    have t2 : decide ((a : Int) = (b : Int)) = true := by rw [h]; simp
    have HR : Hid (sameF a b = true) := by show _ = _; rw [HS.out]; simp [h]
    clear h
    go_enter Try.func22, Try.ntmps22
    go_wp2
    go_ret
    rw [HR.out]
    exact ⟨rfl, rfl⟩
  · have t1 : ((a : Int) == (b : Int)) = false := beq_eq_false_iff_ne.2 (by omega)
    have t2 : decide ((a : Int) = (b : Int)) = false := by simp; omega
    by_cases hk : k = 0
    · subst hk
      by_cases hj : j = 0
      · subst hj
        have HR : Hid (sameF a b = true) := by show _ = _; rw [HS.out]; simp
        clear h
        go_enter Try.func22, Try.ntmps22
        go_wp2_with fail
        refine HK1.out.mono ?_
        rintro e w' ⟨rfl, rfl⟩
        go_wp2_with fail
        refine HK2.out.mono ?_
        rintro e w' ⟨rfl, rfl⟩
        go_wp2
        go_ret
        rw [HR.out]
        exact ⟨rfl, rfl⟩
      · have t3 : ((j : Int) == 0) = false := beq_eq_false_iff_ne.2 (by omega)
        have HR : Hid (sameF a b = false) := by show _ = _; rw [HS.out]; simp [h, hj]
        clear h
        go_enter Try.func22, Try.ntmps22
        go_wp2_with fail
        refine HK1.out.mono ?_
        rintro e w' ⟨rfl, rfl⟩
        go_wp2_with fail
        refine HK2.out.mono ?_
        rintro e w' ⟨rfl, rfl⟩
        go_wp2
        go_ret
        rw [HR.out]
        exact ⟨rfl, rfl⟩
    · have t3 : ((k : Int) == 0) = false := beq_eq_false_iff_ne.2 (by omega)
      have HR : Hid (sameF a b = false) := by show _ = _; rw [HS.out]; simp [h, hk]
      clear h
      go_enter Try.func22, Try.ntmps22
      go_wp2_with fail
      refine HK1.out.mono ?_
      rintro e w' ⟨rfl, rfl⟩
      go_wp2
      go_ret
      rw [HR.out]
      exact ⟨rfl, rfl⟩

/-- n, halved so often. -/
def fbits (n : Int) (k : Nat) : Nat := if n = 0 then 0 else Ieee.double.word (decide (n < 0)) (rungF (n.natAbs * 2 ^ (lowF - k)))
def floatF (n up : Int) : Nat × Nat := if up < 0 ∨ 30 < up ∨ coordF n = false then (0, 2) else (fbits n up.toNat, 0)
theorem pos_zero {x : Nat} (hx : x < 18446744073709551616) (hn : negF x = false) (hv : valF x = 0) : x = 0 := by
  obtain ⟨h1, h2⟩ := val_zero7 hv
  have := bits_split x hx
  rw [hn, h1, h2] at this
  simpa using this
theorem fbits_is {n : Int} {k : Nat} (hn : n.natAbs < 9007199254740992) : fbits n k < 18446744073709551616 ∧ expF (fbits n k) ≠ 2047 ∧ negF (fbits n k) = decide (n < 0) ∧ valF (fbits n k) = n * ((2 ^ (lowF - k) : Nat) : Int) := by
  unfold fbits
  by_cases h : n = 0
  · subst h
    rw [if_pos rfl, Int.zero_mul]
    decide
  · rw [if_neg h]
    have hl := lowF_nat
    have hX : n.natAbs * 2 ^ (lowF - k) ≠ 0 := Nat.mul_ne_zero (by omega) (by have := Nat.two_pow_pos (lowF - k); omega)
    obtain ⟨h1, h2, h3, h4⟩ := word_val (decide (n < 0)) hX (fit_of (by omega) hn (by omega))
    refine ⟨h1, h2, h3, ?_⟩
    rw [h4, sgn_mul, sgn_natAbs]
theorem fbits_zero {n : Int} (hn : n.natAbs < 9007199254740992) : FloatKind.nearest .f64 n = fbits n 0 := by
  obtain ⟨a1, a2, a3, a4⟩ := float_int hn
  obtain ⟨b1, b2, b3, b4⟩ := fbits_is (k := 0) hn
  rw [Nat.sub_zero] at b4
  have e : valF (FloatKind.nearest .f64 n) = valF (fbits n 0) := by
    rw [a4, b4]
    unfold unitF
    rfl
  by_cases h : n = 0
  · subst h
    have z1 := pos_zero a1 (by rw [a3]; rfl) (by rw [a4, Int.zero_mul])
    rw [z1]
    rfl
  · refine val_same a1 b1 a2 b2 ?_ e
    rw [a4]
    have := unit_pos
    exact Int.mul_ne_zero h (by omega)
theorem fbits_half {n : Int} {k : Nat} (hn : n.natAbs < 9007199254740992) (hk : k < 1000) : Ieee.double.div (fbits n k) 4611686018427387904 = some (fbits n (k + 1)) := by
  obtain ⟨a1, a2, a3, a4⟩ := fbits_is (k := k) hn
  obtain ⟨b1, b2, b3, b4⟩ := fbits_is (k := k + 1) hn
  have hl := lowF_nat
  have hX : magF (fbits n k) * 2 ^ upF (fbits n k) = 2 * (n.natAbs * 2 ^ (lowF - (k + 1))) := by
    rw [← val_abs, a4, Int.natAbs_mul, Int.natAbs_natCast, show lowF - k = (lowF - (k + 1)) + 1 by omega, Nat.pow_succ]
    rw [Nat.mul_comm 2, Nat.mul_assoc]
  obtain ⟨r, c1, c2, c3, c4, c5⟩ := half_exact a1 a2 hX (fun h => fit_of (fun e => h (by rw [e, Nat.zero_mul])) hn (by omega))
  have e : valF r = valF (fbits n (k + 1)) := by rw [c5, a3, sgn_mul, sgn_natAbs, b4]
  rw [c1]
  congr 1
  by_cases h : n = 0
  · subst h
    have z1 := pos_zero c2 (by rw [c4, a3]; rfl) (by rw [e, b4, Int.zero_mul])
    rw [z1]
    rfl
  · refine val_same c2 b1 c3 b2 ?_ e
    rw [e, b4]
    exact Int.mul_ne_zero h (by have := Nat.two_pow_pos (lowF - (k + 1)); omega)
set_option maxRecDepth 100000 in
set_option maxHeartbeats 400000 in
theorem ref7Float_any (n up : Int) (w : World) : Calls Try.prog 24 #[.int .i64 n, .int .i64 up] w fun e w' => e = .returned (.tuple #[.float .f64 (floatF n up).1, .int .i64 ((floatF n up).2 : Int)]) ∧ w = w' := by
  by_cases h0 : up < 0
  · have t0 : decide (up < 0) = true := by simpa using h0
    have HE : Hid (floatF n up = (0, 2)) := if_pos (Or.inl h0)
    go_enter Try.func24, Try.ntmps24
    go_wp2
    go_ret2
    rw [HE.out]
    exact ⟨rfl, rfl⟩
  have t0 : decide (up < 0) = false := by simpa using h0
  by_cases h30 : 30 < up
  · have t1 : decide (30 < up) = true := by simpa using h30
    have HE : Hid (floatF n up = (0, 2)) := if_pos (Or.inr (Or.inl h30))
    go_enter Try.func24, Try.ntmps24
    go_wp2
    go_ret2
    rw [HE.out]
    exact ⟨rfl, rfl⟩
  have t1 : decide (30 < up) = false := by simpa using h30
  have HC := Lib.hid (ref7Coord_any n w)
  cases hc : coordF n with
  | false =>
    have HE : Hid (floatF n up = (0, 2)) := if_pos (Or.inr (Or.inr hc))
    rw [hc] at HC
    clear hc
    go_enter Try.func24, Try.ntmps24
    go_wp2_with (go_at_call 39; refine HC.out.mono ?_; rintro e w' ⟨rfl, rfl⟩)
    go_ret2
    rw [HE.out]
    exact ⟨rfl, rfl⟩
  | true =>
    obtain ⟨K, rfl⟩ := Int.eq_ofNat_of_zero_le (show 0 ≤ up by omega)
    have HE : Hid (floatF n (K : Int) = (fbits n K, 0)) := if_neg (by rw [hc]; simp; omega)
    have hco := of_decide_eq_true hc
    have hn : n.natAbs < 9007199254740992 := by omega
    have Hz := Lib.hid (fbits_zero hn)
    have hcv : ∀ W, (convert 3 23 (.int .i64 n)).run Try.prog W = .ok (.float .f64 (fbits n 0)) W := fun W => by
      rw [run_convert_int_float (P := Try.prog) W 3 23 .i64 .f64 n (by rw [Try.underlying3]; rfl) Try.underlying23]
      unfold floatOfInt
      rw [Hz.out]
    have HN := Lib.hid hn
    rw [hc] at HC
    clear hc hn hco
    go_enter Try.func24, Try.ntmps24
    go_wp2_with (go_at_call 39; refine HC.out.mono ?_; rintro e w' ⟨rfl, rfl⟩)
    go_loopg [6, 7] K (fun gh s6 s7 wx => ∃ i : Nat, i + gh = K ∧ s7 = .int .i64 i ∧ s6 = .float .f64 (fbits n i) ∧ w = wx)
    case atStart => exact ⟨0, by omega, rfl, rfl, rfl⟩
    case round =>
      obtain ⟨i, hig, rfl, rfl, rfl⟩ := hrel
      by_cases hi : i < K
      · have ti : decide (i < K) = true := by simpa using hi
        have hq : ∀ W, (binOp .quo 23 (.float .f64 (fbits n i)) (.float .f64 4611686018427387904)).run Try.prog W = .ok (.float .f64 (fbits n (i + 1))) W := fun W => run_float_arith W .quo _ .f64 _ _ _ (fbits_half HN.out (by omega))
        go_wp2
        go_roundg (gk - 1)
        case measure => omega
        case rel => exact ⟨i + 1, by omega, by go_num, rfl, rfl⟩
      · have ti : decide (i < K) = false := by simpa using hi
        obtain rfl : i = K := by omega
        go_wp2
        go_ret2
        rw [HE.out]
        exact ⟨rfl, rfl⟩
end Go.Proofs.Ytilekfappdlooaa
