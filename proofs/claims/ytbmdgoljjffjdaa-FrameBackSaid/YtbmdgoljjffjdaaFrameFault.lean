/- frame.rightKind, frame.fault. -/
import Derived.Test.YtbmdgoljjffjdaaFrameNums
import Derived.Outline
namespace Go.Proofs.Ytbmdgoljjffjdaa
open Go.RowKit

set_option maxRecDepth 100000 in
theorem rightKind_any (k : Int) (w : World) : Calls Try.prog 26 #[.int .i64 k] w fun e w' => e = .returned (.bool (!decide (k < 1 ∨ 9 < k))) ∧ w = w' := by
  by_cases h1 : k < 1
  · have t1 : decide (1 ≤ k) = false := decide_eq_false (by omega)
    have hr : (!decide (k < 1 ∨ 9 < k)) = false := by simp [h1]
    rw [hr]
    clear hr
    go_enter Try.func26, Try.ntmps26
    go_wp2
    go_ret
    exact ⟨rfl, rfl⟩
  · by_cases h9 : 9 < k
    · have t1 : decide (1 ≤ k) = true := decide_eq_true (by omega)
      have t9 : decide (k ≤ 9) = false := decide_eq_false (by omega)
      have hr : (!decide (k < 1 ∨ 9 < k)) = false := by simp [h9]
      rw [hr]
      clear hr
      go_enter Try.func26, Try.ntmps26
      go_wp2
      go_ret
      exact ⟨rfl, rfl⟩
    · have t1 : decide (1 ≤ k) = true := decide_eq_true (by omega)
      have t9 : decide (k ≤ 9) = true := decide_eq_true (by omega)
      have hr : (!decide (k < 1 ∨ 9 < k)) = true := by simp [h1, h9]
      rw [hr]
      clear hr
      go_enter Try.func26, Try.ntmps26
      go_wp2
      go_ret
      exact ⟨rfl, rfl⟩

set_option maxRecDepth 100000 in
theorem fault_any (k : Int) (A : Option Addr) (n c : Nat) (bs : List Nat) (w : World) (hl : bs.length = n) (hn : n ≤ 9223372036854775807) :
    Calls Try.prog 22 #[.agg #[.int .i64 k, .slice A n c]] w fun e w' => e = .returned (.int .i64 ((oneN (k, bs)).2 : Int)) ∧ Below w.heap.size w w' := by
  have HR := Lib.hid (rightKind_any k)
  by_cases hk : k < 1 ∨ 9 < k
  · have HF : Hid ((oneN (k, bs)).2 = 2) := by show _ = _; rw [oneN_arg (s := (k, bs)) hk]
    have hr : (!decide (k < 1 ∨ 9 < k)) = false := by simp [hk]
    rw [hr] at HR
    clear hr
    go_enter Try.func22, Try.ntmps22
    go_wp2_with (go_at_call 26; refine (HR.out _).mono ?_; rintro e w' ⟨rfl, rfl⟩)
    go_ret
    rw [HF.out]
    exact ⟨rfl, new_alloc (Below.refl _ _) _⟩
  · have hr : (!decide (k < 1 ∨ 9 < k)) = true := by simp only [hk, decide_false, Bool.not_false]
    rw [hr] at HR
    clear hr
    by_cases hlo : 1048576 < n
    · have HF : Hid ((oneN (k, bs)).2 = 3) := by show _ = _; rw [oneN_long (s := (k, bs)) hk (by simp; omega)]
      have tl : decide ((1048576 : Int) < (n : Int)) = true := by simp; omega
      go_enter Try.func22, Try.ntmps22
      go_wp2_with (go_at_call 26; refine (HR.out _).mono ?_; rintro e w' ⟨rfl, rfl⟩)
      go_ret
      rw [HF.out]
      exact ⟨rfl, new_alloc (Below.refl _ _) _⟩
    · have HF : Hid ((oneN (k, bs)).2 = 0) := by show _ = _; rw [oneN_ok (s := (k, bs)) hk (by simp; omega)]
      have tl : decide ((1048576 : Int) < (n : Int)) = false := by simp; omega
      go_enter Try.func22, Try.ntmps22
      go_wp2_with (go_at_call 26; refine (HR.out _).mono ?_; rintro e w' ⟨rfl, rfl⟩)
      go_ret
      rw [HF.out]
      exact ⟨rfl, new_alloc (Below.refl _ _) _⟩
end Go.Proofs.Ytbmdgoljjffjdaa
