/- lapidaryref07: parts, Kind, Same, coord, Scaled. -/
import Derived.Test.YtilekfappdlooaaGridMath
import Derived.Test.YtilekfappdlooaaBase
import Derived.Laws.Externs
import Derived.Deep.LoopGhost
namespace Go.Proofs.Ytilekfappdlooaa
open Go.RowKit

theorem bits_run (b : Nat) (W : World) : (callFunc 25 #[.float .f64 b]).run Try.prog W = .ok (.value (.int .u64 (b : Int))) W := by
  rw [run_callFunc_extern (P := Try.prog) (f := 25) (fn := Try.f25) (e := Extern.MathFloatBits.float64bits) Try.func25 (by kernel_rfl) (by kernel_rfl) (by kernel_rfl) (by kernel_rfl)]
  rfl
theorem from_run (n : Int) (W : World) : (callFunc 12 #[.int .u64 n]).run Try.prog W = .ok (.value (.float .f64 n.toNat)) W := by
  rw [run_callFunc_extern (P := Try.prog) (f := 12) (fn := Try.f12) (e := Extern.MathFloatBits.float64frombits) Try.func12 (by kernel_rfl) (by kernel_rfl) (by kernel_rfl) (by kernel_rfl)]
  rfl
theorem ret_parts {a a' : Bool} {b b' c c' : Int} (h1 : a = a') (h2 : b = b') (h3 : c = c') : Ending.returned (.tuple #[.bool a, .int .i64 b, .int .u64 c]) = .returned (.tuple #[.bool a', .int .i64 b', .int .u64 c']) := by rw [h1, h2, h3]
set_option maxRecDepth 100000 in
theorem ref7Parts_any (b : Nat) (w : World) (hb : b < 18446744073709551616) : Calls Try.prog 38 #[.float .f64 b] w fun e w' => e = .returned (.tuple #[.bool (negF b), .int .i64 (expF b : Int), .int .u64 (fracF b : Int)]) ∧ w = w' := by
  have hbits := fun W => bits_run b W
  have e1 : ((b : Int) / 4503599627370496) % 2048 = (expF b : Int) := by unfold expF; omega
  have e2 : (b : Int) % 4503599627370496 = (fracF b : Int) := by unfold fracF; omega
  have HN : Hid (((b : Int) / 9223372036854775808 == 1) = negF b) := by
    show _ = _
    unfold negF
    by_cases h : b / 9223372036854775808 = 1
    · rw [h]; exact beq_iff_eq.2 (by omega)
    · rw [beq_eq_false_iff_ne.2 h]; exact beq_eq_false_iff_ne.2 (by omega)
  have he := expF_lt b
  go_enter Try.func38, Try.ntmps38
  go_wp2
  go_ret3
  exact ⟨ret_parts HN.out rfl e2, rfl⟩
set_option maxRecDepth 100000 in
set_option maxHeartbeats 1000000 in
theorem ref7Kind_any (b : Nat) (w : World) (hb : b < 18446744073709551616) : Calls Try.prog 20 #[.float .f64 b] w fun e w' => e = .returned (.int .i64 (kindF b : Int)) ∧ w = w' := by
  have HP := Lib.hid (ref7Parts_any b w hb)
  have HK : Hid (kindF b = if expF b = 2047 then (if fracF b ≠ 0 then 0 else if negF b then 2 else 1) else if expF b = 0 then (if fracF b = 0 then (if negF b then 4 else 3) else 5) else 6) := by show _ = _; rfl
  generalize expF b = e at *
  generalize fracF b = m at *
  generalize negF b = s at *
  by_cases h1 : e = 2047
  · subst h1
    by_cases h2 : m = 0
    · subst h2
      cases s
      · have HR : Hid (kindF b = 1) := by show _ = _; rw [HK.out]; simp
        go_enter Try.func20, Try.ntmps20
        go_wp2_with (go_at_call 38; refine HP.out.mono ?_; rintro e w' ⟨rfl, rfl⟩)
        go_ret
        rw [HR.out]
        exact ⟨rfl, rfl⟩
      · have HR : Hid (kindF b = 2) := by show _ = _; rw [HK.out]; simp
        go_enter Try.func20, Try.ntmps20
        go_wp2_with (go_at_call 38; refine HP.out.mono ?_; rintro e w' ⟨rfl, rfl⟩)
        go_ret
        rw [HR.out]
        exact ⟨rfl, rfl⟩
    · have HR : Hid (kindF b = 0) := by show _ = _; rw [HK.out]; simp [h2]
      have t2 : decide ((0 : Int) < (m : Int)) = true := by simp; omega
      go_enter Try.func20, Try.ntmps20
      go_wp2_with (go_at_call 38; refine HP.out.mono ?_; rintro e w' ⟨rfl, rfl⟩)
      go_ret
      rw [HR.out]
      exact ⟨rfl, rfl⟩
  · have t1 : ((e : Int) == 2047) = false := beq_eq_false_iff_ne.2 (by omega)
    have t1' : decide ((e : Int) = 2047) = false := by simp; omega
    by_cases h0 : e = 0
    · subst h0
      by_cases h2 : m = 0
      · subst h2
        cases s
        · have HR : Hid (kindF b = 3) := by show _ = _; rw [HK.out]; simp
          go_enter Try.func20, Try.ntmps20
          go_wp2_with (go_at_call 38; refine HP.out.mono ?_; rintro e w' ⟨rfl, rfl⟩)
          go_ret
          rw [HR.out]
          exact ⟨rfl, rfl⟩
        · have HR : Hid (kindF b = 4) := by show _ = _; rw [HK.out]; simp
          go_enter Try.func20, Try.ntmps20
          go_wp2_with (go_at_call 38; refine HP.out.mono ?_; rintro e w' ⟨rfl, rfl⟩)
          go_ret
          rw [HR.out]
          exact ⟨rfl, rfl⟩
      · have HR : Hid (kindF b = 5) := by show _ = _; rw [HK.out]; simp [h2]
        have t3 : ((m : Int) == 0) = false := beq_eq_false_iff_ne.2 (by omega)
        have t4 : decide ((m : Int) = 0) = false := by simp; omega
        go_enter Try.func20, Try.ntmps20
        go_wp2_with (go_at_call 38; refine HP.out.mono ?_; rintro e w' ⟨rfl, rfl⟩)
        go_ret
        rw [HR.out]
        exact ⟨rfl, rfl⟩
    · have HR : Hid (kindF b = 6) := by show _ = _; rw [HK.out, if_neg h1, if_neg h0]
      have t3 : ((e : Int) == 0) = false := beq_eq_false_iff_ne.2 (by omega)
      have t4 : decide ((e : Int) = 0) = false := by simp; omega
      go_enter Try.func20, Try.ntmps20
      go_wp2_with (go_at_call 38; refine HP.out.mono ?_; rintro e w' ⟨rfl, rfl⟩)
      go_ret
      rw [HR.out]
      exact ⟨rfl, rfl⟩
end Go.Proofs.Ytilekfappdlooaa
