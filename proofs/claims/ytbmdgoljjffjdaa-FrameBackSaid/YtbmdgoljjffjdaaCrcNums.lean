/- The checksum in plain numbers: a remainder, bit by bit, of a number as long as the bytes; byte by byte; linear. -/
import Derived.Test.YtbmdgoljjffjdaaField
namespace Go.Proofs.Ytbmdgoljjffjdaa
open Go.RowKit

def crcPoly : Nat := 3988292384
/-- One bit. -/
def crc1 (r : Nat) : Nat := if r % 2 = 1 then (r / 2) ^^^ crcPoly else r / 2
def crcN : Nat → Nat → Nat
  | 0, r => r
  | k + 1, r => crcN k (crc1 r)
/-- One byte. -/
def crcByte (r c : Nat) : Nat := crcN 8 (r ^^^ c)
def crcAll (r : Nat) (bs : List Nat) : Nat := bs.foldl crcByte r
/-- The checksum. -/
def crcOf (bs : List Nat) : Nat := crcAll 4294967295 bs ^^^ 4294967295

theorem xor_half (a b : Nat) : (a ^^^ b) / 2 = a / 2 ^^^ b / 2 := by
  have h := Nat.shiftRight_xor_distrib (a := a) (b := b) (i := 1)
  simpa [Nat.shiftRight_succ] using h
theorem xor_odd (a b : Nat) : (a ^^^ b) % 2 = (a % 2 + b % 2) % 2 := by
  have h := Nat.xor_mod_two_pow (a := a) (b := b) (n := 1)
  simp only [Nat.pow_one] at h
  rw [h]
  rcases Nat.mod_two_eq_zero_or_one a with ha | ha <;> rcases Nat.mod_two_eq_zero_or_one b with hb | hb <;> rw [ha, hb] <;> rfl
theorem crc1_xor (a b : Nat) : crc1 (a ^^^ b) = crc1 a ^^^ crc1 b := by
  unfold crc1
  have ho := xor_odd a b
  rw [xor_half]
  rcases Nat.mod_two_eq_zero_or_one a with ha | ha <;> rcases Nat.mod_two_eq_zero_or_one b with hb | hb <;> rw [ha, hb] at ho <;> simp [ho, ha, hb]
  · rw [Nat.xor_assoc]
  · rw [Nat.xor_assoc (a / 2) (b / 2), Nat.xor_comm (b / 2), ← Nat.xor_assoc]
  · rw [Nat.xor_assoc (a / 2), ← Nat.xor_assoc crcPoly, Nat.xor_comm crcPoly (b / 2), Nat.xor_assoc (b / 2), Nat.xor_self, Nat.xor_zero]
theorem crcN_xor : ∀ (k a b : Nat), crcN k (a ^^^ b) = crcN k a ^^^ crcN k b
  | 0, _, _ => rfl
  | k + 1, a, b => by
    show crcN k (crc1 (a ^^^ b)) = _
    rw [crc1_xor, crcN_xor k]; rfl
theorem crc1_double (y : Nat) : crc1 (2 * y) = y := by
  unfold crc1; rw [if_neg (by omega)]; omega
theorem crcN_pow : ∀ (k y : Nat), crcN k (2 ^ k * y) = y
  | 0, y => by simp [crcN]
  | k + 1, y => by
    show crcN k (crc1 _) = y
    rw [Nat.pow_succ, show 2 ^ k * 2 * y = 2 * (2 ^ k * y) by rw [Nat.mul_comm (2 ^ k) 2, Nat.mul_assoc], crc1_double, crcN_pow k]
theorem crcN_add : ∀ (j k r : Nat), crcN (j + k) r = crcN k (crcN j r)
  | 0, k, r => by rw [Nat.zero_add]; rfl
  | j + 1, k, r => by
    rw [Nat.add_right_comm]
    exact crcN_add j k (crc1 r)
theorem low_join {c y : Nat} (h : c < 256) : c + 256 * y = c ^^^ (256 * y) := by
  apply Nat.eq_of_testBit_eq
  intro i
  rw [Nat.testBit_xor, Nat.add_comm, show (256 : Nat) = 2 ^ 8 from rfl, Nat.testBit_two_pow_mul_add _ (by simpa using h), Nat.testBit_two_pow_mul]
  by_cases hi : i < 8
  · simp [hi, Nat.not_le.2 hi]
  · have hl : c.testBit i = false := Nat.testBit_lt_two_pow (Nat.lt_of_lt_of_le h (Nat.pow_le_pow_right (n := 2) (by decide) (show 8 ≤ i by omega)))
    simp [hi, hl, Nat.not_lt.1 hi]
/-- Byte by byte is what is left of the whole number. -/
theorem crcAll_whole : ∀ (bs : List Nat) (r : Nat), (∀ x ∈ bs, x < 256) → crcAll r bs = crcN (8 * bs.length) (r ^^^ val8 bs)
  | [], r, _ => by simp [crcAll, crcN, val8]
  | c :: cs, r, h => by
    have hc := h c (List.mem_cons_self ..)
    show crcAll (crcByte r c) cs = _
    rw [crcAll_whole cs _ fun x hx => h x (List.mem_cons_of_mem _ hx)]
    simp only [val8, List.length_cons]
    rw [low_join hc, ← Nat.xor_assoc, show 8 * (cs.length + 1) = 8 + 8 * cs.length by omega, crcN_add, crcN_xor 8, show 256 * val8 cs = 2 ^ 8 * val8 cs from rfl, crcN_pow]
    rfl
theorem crc1_lt {r : Nat} (h : r < 4294967296) : crc1 r < 4294967296 := by
  unfold crc1
  split
  · exact Nat.xor_lt_two_pow (n := 32) (show r / 2 < 2 ^ 32 by omega) (by decide)
  · omega
theorem crcN_lt : ∀ (k : Nat) {r : Nat}, r < 4294967296 → crcN k r < 4294967296
  | 0, _, h => h
  | k + 1, _, h => crcN_lt k (crc1_lt h)
theorem crcByte_lt {r c : Nat} (h : r < 4294967296) (hc : c < 256) : crcByte r c < 4294967296 :=
  crcN_lt 8 (Nat.xor_lt_two_pow (n := 32) h (Nat.lt_of_lt_of_le hc (by decide)))
theorem crcAll_lt : ∀ (bs : List Nat) {r : Nat}, r < 4294967296 → (∀ x ∈ bs, x < 256) → crcAll r bs < 4294967296
  | [], _, h, _ => h
  | c :: cs, _, h, hb => crcAll_lt cs (crcByte_lt h (hb c (List.mem_cons_self ..))) fun x hx => hb x (List.mem_cons_of_mem _ hx)
theorem crcOf_lt {bs : List Nat} (h : ∀ x ∈ bs, x < 256) : crcOf bs < 4294967296 :=
  Nat.xor_lt_two_pow (n := 32) (crcAll_lt bs (by decide) h) (by decide)
theorem crcAll_app (r : Nat) (a b : List Nat) : crcAll r (a ++ b) = crcAll (crcAll r a) b := by
  unfold crcAll; rw [List.foldl_append]
/-- Of the whole number. -/
theorem crcOf_whole {bs : List Nat} (h : ∀ x ∈ bs, x < 256) : crcOf bs = crcN (8 * bs.length) (4294967295 ^^^ val8 bs) ^^^ 4294967295 := by
  unfold crcOf; rw [crcAll_whole bs _ h]
/-- Linear. -/
theorem val8_xor : ∀ (n : Nat) (a b : List Nat), a.length = n → b.length = n → (∀ x ∈ a, x < 256) → (∀ x ∈ b, x < 256) → val8 (List.zipWith (· ^^^ ·) a b) = val8 a ^^^ val8 b
  | 0, a, b, ha, hb, _, _ => by
    have e1 := List.eq_nil_of_length_eq_zero ha
    have e2 := List.eq_nil_of_length_eq_zero hb
    subst e1 e2; rfl
  | n + 1, x :: a, y :: b, ha, hb, h1, h2 => by
    simp only [List.zipWith_cons_cons, val8]
    have hx := h1 x (List.mem_cons_self ..)
    have hy := h2 y (List.mem_cons_self ..)
    rw [val8_xor n a b (by simpa using ha) (by simpa using hb) (fun z hz => h1 z (List.mem_cons_of_mem _ hz)) (fun z hz => h2 z (List.mem_cons_of_mem _ hz))]
    rw [low_join hx, low_join hy, low_join (Nat.xor_lt_two_pow (n := 8) hx hy)]
    have e : 256 * (val8 a ^^^ val8 b) = 256 * val8 a ^^^ 256 * val8 b := by
      rw [Nat.mul_comm 256, Nat.mul_comm 256, Nat.mul_comm 256]
      have := Nat.shiftLeft_xor_distrib (a := val8 a) (b := val8 b) (i := 8)
      simpa [Nat.shiftLeft_eq] using this
    rw [e, Nat.xor_assoc, Nat.xor_assoc]
    congr 1
    rw [← Nat.xor_assoc, ← Nat.xor_assoc, Nat.xor_comm y]
end Go.Proofs.Ytbmdgoljjffjdaa
