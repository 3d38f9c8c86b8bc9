/- What Zig and Zag answer, the program's and the document's: for every int and every uint64; the world stays as it is. -/
import Derived.Test.YtkpangelcboklaaMem
import Derived.Lib.Zigzag
namespace Go.Proofs.Ytkpangelcboklaa
open Go.RowKit

/-- Zig, by turns. -/
def zig (n : Int) : Int := if n < 0 then -2 * n - 1 else n * 2
/-- Zag, back. -/
def zag (u : Int) : Int := if u % 2 = 1 then -(u / 2) - 1 else u / 2

theorem zig_neg {n : Int} (h : n < 0) : zig n = -2 * n - 1 := if_pos h
theorem zig_pos {n : Int} (h : ¬ n < 0) : zig n = n * 2 := if_neg h
theorem zag_odd {u : Int} (h : u % 2 = 1) : zag u = -(u / 2) - 1 := if_pos h
theorem zag_even {u : Int} (h : ¬ u % 2 = 1) : zag u = u / 2 := if_neg h
theorem zig_range {n : Int} (h0 : -9223372036854775808 ≤ n) (h1 : n ≤ 9223372036854775807) : 0 ≤ zig n ∧ zig n ≤ 18446744073709551615 := by
  unfold zig; split <;> omega
theorem zag_range {u : Int} (h0 : 0 ≤ u) (h1 : u ≤ 18446744073709551615) : -9223372036854775808 ≤ zag u ∧ zag u ≤ 9223372036854775807 := by
  unfold zag; split <;> omega
theorem zag_zig (n : Int) : zag (zig n) = n := by
  unfold zig; split
  · rw [zag_odd (by omega)]; omega
  · rw [zag_even (by omega)]; omega
theorem zig_zag {u : Int} (h : 0 ≤ u) : zig (zag u) = u := by
  unfold zag; split
  · rw [zig_neg (by omega)]; omega
  · rw [zig_pos (by omega)]; omega


theorem not_i64 {n : Int} (h0 : 0 ≤ n) (h1 : n ≤ 9223372036854775807) : bits .xor .i64 (-1) n = -n - 1 := by
  obtain ⟨x, rfl⟩ := Int.eq_ofNat_of_zero_le h0
  exact Lib.i64_not x (by omega)

theorem zig_any (n : Int) (w : World) (h0 : -9223372036854775808 ≤ n) (h1 : n ≤ 9223372036854775807) :
    Calls Try.prog 24 #[.int .i64 n] w fun e w' => e = .returned (.int .u64 (zig n)) ∧ w = w' := by
  by_cases h : n < 0
  · have hz : Hid (bits .xor .u64 IntKind.u64.max (IntKind.u64.wrap (IntKind.u64.wrap n * 2)) = zig n) := by
      show _ = _
      rw [Lib.zigzag_neg h0 h, zig_neg h]; unfold Lib.zigzag; rw [if_neg (by omega)]; omega
    go_enter Try.func24, Try.ntmps24
    go_wp2
    go_ret
    exact ⟨ret_int hz.out, rfl⟩
  · have hz : Hid (n * 2 = zig n) := (zig_pos h).symm
    go_enter Try.func24, Try.ntmps24
    go_wp2
    go_ret
    exact ⟨ret_int hz.out, rfl⟩

theorem zag_any (n : Int) (w : World) (h0 : 0 ≤ n) (h1 : n ≤ 18446744073709551615) :
    Calls Try.prog 26 #[.int .u64 n] w fun e w' => e = .returned (.int .i64 (zag n)) ∧ w = w' := by
  have hand := Lib.u64_and1 n h0 (by omega)
  by_cases h : n % 2 = 1
  · have hb : (bits BinOp.and IntKind.u64 n 1 == 1) = true := by rw [hand, h]; rfl
    have hz : Hid (bits .xor .i64 (-1) (n / 2) = zag n) := by
      show _ = _
      rw [not_i64 (by omega) (by omega), zag_odd h]
    clear hand h
    go_enter Try.func26, Try.ntmps26
    go_wp2
    go_ret
    exact ⟨ret_int hz.out, rfl⟩
  · have hb : (bits BinOp.and IntKind.u64 n 1 == 1) = false := by
      rw [hand]; exact beq_eq_false_iff_ne.2 h
    have hz : Hid (n / 2 = zag n) := (zag_even h).symm
    clear hand h
    go_enter Try.func26, Try.ntmps26
    go_wp2
    go_ret
    exact ⟨ret_int hz.out, rfl⟩

theorem refZag_any (n : Int) (w : World) (h0 : 0 ≤ n) (h1 : n ≤ 18446744073709551615) :
    Calls Try.prog 27 #[.int .u64 n] w fun e w' => e = .returned (.int .i64 (zag n)) ∧ w = w' := by
  by_cases h : n % 2 = 1
  · have hb : (n % 2 == 0) = false := by rw [h]; rfl
    have hz : Hid (-(n / 2) - 1 = zag n) := (zag_odd h).symm
    clear h
    go_enter Try.func27, Try.ntmps27
    go_wp2
    go_ret
    exact ⟨ret_int hz.out, rfl⟩
  · have hb : (n % 2 == 0) = true := by rw [beq_iff_eq]; omega
    have hz : Hid (n / 2 = zag n) := (zag_even h).symm
    clear h
    go_enter Try.func27, Try.ntmps27
    go_wp2
    go_ret
    exact ⟨ret_int hz.out, rfl⟩

theorem refZig_any (n : Int) (w : World) (h0 : -9223372036854775808 ≤ n) (h1 : n ≤ 9223372036854775807) :
    Calls Try.prog 25 #[.int .i64 n] w fun e w' => e = .returned (.int .u64 (zig n)) ∧ w = w' := by
  by_cases h : n < 0
  · have hz : Hid (-2 * n - 1 = zig n) := (zig_neg h).symm
    go_enter Try.func25, Try.ntmps25
    go_wp2
    go_ret
    exact ⟨ret_int (by rw [← hz.out]; omega), rfl⟩
  · have hz : Hid (n * 2 = zig n) := (zig_pos h).symm
    go_enter Try.func25, Try.ntmps25
    go_wp2
    go_ret
    exact ⟨ret_int (by rw [← hz.out]; omega), rfl⟩
end Go.Proofs.Ytkpangelcboklaa
