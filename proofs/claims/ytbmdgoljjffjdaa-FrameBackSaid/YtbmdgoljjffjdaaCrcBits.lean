/- Rows of bits as numbers: flips, halves, the document's division. -/
import Derived.Test.YtbmdgoljjffjdaaCrcNums
namespace Go.Proofs.Ytbmdgoljjffjdaa
open Go.RowKit

def num : List Bool → Nat
  | [] => 0
  | b :: l => b.toNat + 2 * num l
theorem num_snoc (l : List Bool) (b : Bool) : num (l ++ [b]) = num l + b.toNat * 2 ^ l.length := by
  induction l with
  | nil => simp [num]
  | cons x l ih =>
    simp only [List.cons_append, num, ih, List.length_cons, Nat.pow_succ]
    rw [Nat.mul_add, ← Nat.add_assoc]
    congr 1
    rw [Nat.mul_left_comm, Nat.mul_comm 2]
theorem num_lt (l : List Bool) : num l < 2 ^ l.length := by
  induction l with
  | nil => simp [num]
  | cons x l ih =>
    simp only [num, List.length_cons, Nat.pow_succ]
    have : x.toNat ≤ 1 := Bool.toNat_le x
    omega
theorem num_drop (l : List Bool) (n : Nat) : num (l.drop n) = num l / 2 ^ n := by
  induction l generalizing n with
  | nil => simp [num]
  | cons x l ih =>
    cases n with
    | zero => simp
    | succ n =>
      have hx : x.toNat ≤ 1 := Bool.toNat_le x
      rw [List.drop_succ_cons, ih, num, Nat.pow_succ, Nat.mul_comm (2 ^ n), ← Nat.div_div_eq_div_mul, show (x.toNat + 2 * num l) / 2 = num l by omega]
theorem num_bit {l : List Bool} {i : Nat} (h : i < l.length) : l[i].toNat = num l / 2 ^ i % 2 := by
  rw [← num_drop, List.drop_eq_getElem_cons h, num]
  have := Bool.toNat_le l[i]
  omega
theorem num_test (l : List Bool) (i : Nat) : (num l).testBit i = l[i]?.getD false := by
  by_cases h : i < l.length
  · rw [Nat.testBit_eq_decide_div_mod_eq, ← num_bit h, List.getElem?_eq_getElem h]
    cases l[i] <;> simp
  · rw [List.getElem?_eq_none (by omega)]
    exact Nat.testBit_lt_two_pow (Nat.lt_of_lt_of_le (num_lt l) (Nat.pow_le_pow_right (by decide) (by omega)))
theorem num_flip {l : List Bool} {p : Nat} (h : p < l.length) : num (l.set p (!l[p])) = num l ^^^ 2 ^ p := by
  apply Nat.eq_of_testBit_eq
  intro i
  rw [Nat.testBit_xor, num_test, num_test, Nat.testBit_two_pow, List.getElem?_set]
  by_cases hi : p = i
  · subst hi
    simp [h]
  · simp [hi]
theorem num_not (l : List Bool) : num (l.map (!·)) + num l + 1 = 2 ^ l.length := by
  induction l with
  | nil => simp [num]
  | cons x l ih =>
    simp only [List.map_cons, num, List.length_cons, Nat.pow_succ]
    cases x <;> simp <;> omega
theorem xor_ones32 {x : Nat} (h : x < 4294967296) : x ^^^ 4294967295 = 4294967295 - x := by
  have h2 := Nat.xor_comm x 4294967295
  rw [h2]
  apply Nat.eq_of_testBit_eq
  intro i
  rw [Nat.testBit_xor, show (4294967295 : Nat) = 2 ^ 32 - 1 from rfl, Nat.testBit_two_pow_sub_one, show 2 ^ 32 - 1 - x = 2 ^ 32 - (x + 1) by omega, Nat.testBit_two_pow_sub_succ (by simpa using h)]
  by_cases hi : i < 32
  · simp [hi]
  · have : x.testBit i = false := Nat.testBit_lt_two_pow (Nat.lt_of_lt_of_le h (Nat.pow_le_pow_right (n := 2) (by decide) (show 32 ≤ i by omega)))
    simp [hi, this]
theorem num_not32 {l : List Bool} (h : l.length = 32) : num (l.map (!·)) = num l ^^^ 4294967295 := by
  have h1 := num_not l
  have h2 := num_lt l
  rw [h] at h1 h2
  rw [xor_ones32 (by simpa using h2)]
  omega
/-- The places that are turned, and their number after so many. -/
def crcAts : List Nat := [0, 6, 9, 10, 16, 20, 21, 22, 24, 25, 27, 28, 30, 31, 32]
def crcG (k : Nat) : Nat := (crcAts.take k).foldl (fun g a => g ^^^ 2 ^ a) 0
theorem crcG_step : ∀ k, (h : k < crcAts.length) → crcG (k + 1) = crcG k ^^^ 2 ^ crcAts[k] := by decide
theorem crcAts_le : ∀ k, (h : k < crcAts.length) → crcAts[k] ≤ 32 := by decide
theorem crcG_all : crcG 15 = 1 + 2 * crcPoly := by decide
theorem xor_scale (a b i : Nat) : (a ^^^ b) * 2 ^ i = a * 2 ^ i ^^^ b * 2 ^ i := by
  have := Nat.shiftLeft_xor_distrib (a := a) (b := b) (i := i)
  simpa [Nat.shiftLeft_eq] using this
theorem xor_down (a b i : Nat) : (a ^^^ b * 2 ^ i) / 2 ^ i = a / 2 ^ i ^^^ b := by
  have := Nat.shiftRight_xor_distrib (a := a) (b := b * 2 ^ i) (i := i)
  simp only [Nat.shiftRight_eq_div_pow] at this
  rw [this, Nat.mul_div_cancel _ (Nat.pow_pos (by decide))]
/-- One step of the division. -/
theorem crc_even {B X i : Nat} (h : B / 2 ^ i = X) (he : X % 2 = 0) : B / 2 ^ (i + 1) = crc1 X := by
  unfold crc1
  rw [if_neg (by omega), Nat.pow_succ, ← Nat.div_div_eq_div_mul, h]
theorem crc_odd {B X i : Nat} (h : B / 2 ^ i = X) (he : X % 2 = 1) : (B ^^^ crcG 15 * 2 ^ i) / 2 ^ (i + 1) = crc1 X := by
  unfold crc1
  rw [if_pos he, Nat.pow_succ, ← Nat.div_div_eq_div_mul, xor_down, h, crcG_all, xor_half]
  congr 1
theorem crcN_succ : ∀ (k r : Nat), crcN (k + 1) r = crc1 (crcN k r)
  | 0, _ => rfl
  | k + 1, r => crcN_succ k (crc1 r)
/-- The bytes as the document lays them out. -/
def adjBytes (b : List Nat) : List Nat := List.zipWith (· ^^^ ·) (b ++ List.replicate 4 0) (List.replicate 4 255 ++ List.replicate b.length 0)
theorem adj_len (b : List Nat) : (adjBytes b).length = b.length + 4 := by
  simp [adjBytes]
theorem val8_noughts (l : List Nat) (n : Nat) : val8 (l ++ List.replicate n 0) = val8 l := by
  induction l with
  | nil =>
    induction n with
    | zero => rfl
    | succ n ih => simp only [List.nil_append, List.replicate_succ, val8] at *; omega
  | cons x l ih => simp only [List.cons_append, val8, ih]
theorem adj_val {b : List Nat} (h : ∀ x ∈ b, x < 256) : val8 (adjBytes b) = val8 b ^^^ 4294967295 := by
  unfold adjBytes
  rw [val8_xor (b.length + 4) _ _ (by simp) (by simp)]
  · rw [val8_noughts, val8_noughts]
    rfl
  · intro x hx
    rcases List.mem_append.1 hx with hx | hx
    · exact h x hx
    · rw [List.eq_of_mem_replicate hx]; decide
  · intro x hx
    rcases List.mem_append.1 hx with hx | hx <;> rw [List.eq_of_mem_replicate hx] <;> decide
theorem adj_at {b : List Nat} {i : Nat} (h : i < (adjBytes b).length) : (adjBytes b)[i] = (b[i]?.getD 0) ^^^ (if i < 4 then 255 else 0) := by
  simp only [adjBytes, List.getElem_zipWith]
  congr 1
  · by_cases hi : i < b.length
    · rw [List.getElem_append_left hi, List.getElem?_eq_getElem hi]; rfl
    · rw [List.getElem_append_right (by omega), List.getElem?_eq_none (by omega), List.getElem_replicate]; rfl
  · by_cases h4 : i < 4
    · rw [List.getElem_append_left (by simpa using h4), if_pos h4, List.getElem_replicate]
    · rw [List.getElem_append_right (by simp; omega), if_neg h4]; simp
theorem adj_byte {b : List Nat} (h : ∀ x ∈ b, x < 256) : ∀ x ∈ adjBytes b, x < 256 := by
  intro x hx
  obtain ⟨i, hi, rfl⟩ := List.getElem_of_mem hx
  rw [adj_at hi]
  refine Nat.xor_lt_two_pow (n := 8) ?_ (by split <;> decide)
  by_cases hb : i < b.length
  · rw [List.getElem?_eq_getElem hb]; exact h _ (List.getElem_mem hb)
  · rw [List.getElem?_eq_none (by omega)]; decide
end Go.Proofs.Ytbmdgoljjffjdaa
