/- vint.Get in plain numbers: what it reads is a word; how far it goes; with an error noughts. -/
import Derived.Test.YtbmdgoljjffjdaaVintNums
namespace Go.Proofs.Ytbmdgoljjffjdaa
open Go.RowKit

theorem scan_lt : ∀ (bs : List Nat) (i acc : Nat), i ≤ 9 → acc < 128 ^ i → (scan i acc bs).1 < 18446744073709551616
  | [], _, _, _, _ => by simp [scan]
  | c :: cs, i, acc, hi, hacc => by
    unfold scan
    split
    · simp
    · split
      · simp
      · split
        · have h1 : acc + c * 128 ^ i < 18446744073709551616 := by
            by_cases h9 : i = 9
            · subst h9
              have e : (128 : Nat) ^ 9 = 9223372036854775808 := by decide
              rw [e] at hacc ⊢
              omega
            · have h2 := pow128_le (i := i) (by omega)
              have h3 : c * 128 ^ i ≤ 127 * 128 ^ i := Nat.mul_le_mul_right _ (by omega)
              rw [Nat.pow_succ] at h2
              omega
          exact h1
        · rename_i h0 _ _
          exact scan_lt cs (i + 1) _ (by omega) (acc_up hacc)
theorem scan_zero : ∀ (bs : List Nat) (i acc : Nat), (scan i acc bs).2.2 ≠ 0 → (scan i acc bs).1 = 0 ∧ (scan i acc bs).2.1 = 0
  | [], _, _, _ => by simp [scan]
  | c :: cs, i, acc, h => by
    unfold scan at h ⊢
    split
    · simp
    · split
      · simp
      · split
        · simp_all
        · rename_i h1 h2 h3
          rw [if_neg h1, if_neg h2, if_neg h3] at h
          exact scan_zero cs (i + 1) _ h
theorem get_lt (bs : List Nat) (p : Int) : (get bs p).1 < 18446744073709551616 := by
  unfold get
  split
  · simp
  · unfold getAt
    have := scan_lt (bs.drop p.toNat) 0 0 (by omega) (by omega)
    simp only
    split <;> simpa using this
theorem get_zero (bs : List Nat) (p : Int) (h : (get bs p).2.2 ≠ 0) : (get bs p).1 = 0 ∧ (get bs p).2.1 = 0 := by
  unfold get at h ⊢
  split
  · simp
  · rename_i h1
    rw [if_neg h1] at h
    unfold getAt at h ⊢
    simp only at h ⊢
    split
    · rename_i h2
      rw [if_pos h2] at h
      simp at h
    · rename_i h2
      exact scan_zero _ _ _ h2
theorem scan_size : ∀ (bs : List Nat) (i acc : Nat), (scan i acc bs).2.2 = 0 → i < (scan i acc bs).2.1 ∧ (scan i acc bs).2.1 ≤ i + bs.length
  | [], _, _, h => by simp [scan] at h
  | c :: cs, i, acc, h => by
    unfold scan at h ⊢
    split
    · rename_i h1; rw [if_pos h1] at h; simp at h
    · rename_i h1
      rw [if_neg h1] at h
      split
      · rename_i h2; rw [if_pos h2] at h; simp at h
      · rename_i h2
        rw [if_neg h2] at h
        split
        · simp
        · rename_i h3
          rw [if_neg h3] at h
          have := scan_size cs (i + 1) _ h
          simp only [List.length_cons]
          omega
theorem get_moves {bs : List Nat} {k : Nat} (h : (get bs k).2.2 = 0) : k < (get bs k).2.1 ∧ (get bs k).2.1 ≤ bs.length := by
  unfold get at h ⊢
  split
  · rename_i h1; rw [if_pos h1] at h; simp at h
  · rename_i h1
    rw [if_neg h1] at h
    rw [Int.toNat_natCast] at h ⊢
    unfold getAt at h ⊢
    simp only at h ⊢
    split
    · rename_i h2
      have := scan_size _ _ _ h2
      rw [List.length_drop] at this
      simp only
      omega
    · rename_i h2
      rw [if_neg h2] at h
      exact absurd h h2
end Go.Proofs.Ytbmdgoljjffjdaa
