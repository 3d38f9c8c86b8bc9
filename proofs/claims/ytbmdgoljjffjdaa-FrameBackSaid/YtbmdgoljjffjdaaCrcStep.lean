/- crc.step: one bit of the division. -/
import Derived.Test.YtbmdgoljjffjdaaCrcNums
import Derived.Laws.BitsAllLaws
namespace Go.Proofs.Ytbmdgoljjffjdaa
open Go.RowKit

theorem u32_low {r : Nat} (h : r < 4294967296) : bits .and .u32 (r : Int) 1 = ((r % 2 : Nat) : Int) := by
  have := u32_and_nat r 1 h (by decide)
  rw [Nat.and_one_is_mod] at this
  exact this
theorem u32_poly {r : Nat} (h : r < 4294967296) : bits .xor .u32 ((r : Int) / 2) 3988292384 = (((r / 2) ^^^ crcPoly : Nat) : Int) := by
  have := u32_xor_nat (r / 2) 3988292384 (by omega) (by decide)
  rw [show ((r : Int) / 2) = ((r / 2 : Nat) : Int) by omega]
  exact this

theorem step_any (r : Nat) (w : World) (hr : r < 4294967296) : Calls Try.prog 46 #[.int .u32 r] w fun e w' => e = .returned (.int .u32 (crc1 r : Int)) ∧ w = w' := by
  have h1 := u32_low hr
  have HP := Lib.hid (u32_poly hr)
  by_cases h : r % 2 = 1
  · have HC : Hid (crc1 r = (r / 2) ^^^ crcPoly) := by show _ = _; unfold crc1; rw [if_pos h]
    rw [h] at h1
    clear h
    go_enter Try.func46, Try.ntmps46
    go_wp2
    go_ret
    refine ⟨ret_int ?_, rfl⟩
    rw [HC.out]; exact HP.out
  · have HC : Hid (crc1 r = r / 2) := by show _ = _; unfold crc1; rw [if_neg h]
    rw [show r % 2 = 0 by omega] at h1
    clear h
    go_enter Try.func46, Try.ntmps46
    go_wp2
    go_ret
    refine ⟨ret_int ?_, rfl⟩
    rw [HC.out]; omega
end Go.Proofs.Ytbmdgoljjffjdaa
