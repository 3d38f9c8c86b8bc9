/- Layer 1 in plain numbers and lists: what the bytes of a number are, what bytes are read as. -/
import Derived.Test.YtbmdgoljjffjdaaMem
import Derived.Lib.Zigzag
namespace Go.Proofs.Ytbmdgoljjffjdaa
open Go.RowKit

/-- Reading a number: i bytes are behind, acc is what they gave. (the number, how many bytes, the error) -/
def scan (i acc : Nat) : List Nat → Nat × Nat × Nat
  | [] => (0, 0, 10)
  | c :: cs =>
    if i = 9 ∧ 1 < c then (0, 0, 11)
    else if 0 < i ∧ c = 0 then (0, 0, 11)
    else if c < 128 then (acc + c * 128 ^ i, i + 1, 0)
    else scan (i + 1) (acc + c % 128 * 128 ^ i) cs
/-- Get, from a place within on. -/
def getAt (bs : List Nat) (k : Nat) : Nat × Nat × Nat :=
  let r := scan 0 0 (bs.drop k)
  if r.2.2 = 0 then (r.1, k + r.2.1, 0) else r
/-- Get. -/
def get (bs : List Nat) (p : Int) : Nat × Nat × Nat := if p < 0 ∨ (bs.length : Int) < p then (0, 0, 2) else getAt bs p.toNat

theorem u8_low7 {c : Int} (h0 : 0 ≤ c) (h1 : c ≤ 255) : bits .andNot .u8 c 128 = c % 128 := by
  obtain ⟨a, rfl⟩ := Int.eq_ofNat_of_zero_le h0
  have h := u8_andNot_nat a 128 (by omega) (by omega)
  have e : ((128 : Nat) : Int) = 128 := rfl
  rw [e] at h
  rw [h]
  have : (255 - 128 : Nat) = 127 := rfl
  rw [this, nat_mask7]
  omega

theorem ret3 {k1 k2 k3 : IntKind} {a b c a' b' c' : Int} (h1 : a = a') (h2 : b = b') (h3 : c = c') :
    Ending.returned (.tuple #[.int k1 a, .int k2 b, .int k3 c]) = .returned (.tuple #[.int k1 a', .int k2 b', .int k3 c']) := by rw [h1, h2, h3]
theorem pow7 (i : Nat) : 2 ^ (7 * i) = 128 ^ i := by rw [Nat.pow_mul]
/-- The next seven bits lie above those that are there: joined they are a sum. -/
theorem or_up {i acc y : Nat} (h : acc < 128 ^ i) (hy : acc + y * 128 ^ i < 18446744073709551616) :
    bits .or .u64 (acc : Int) (IntKind.u64.wrap ((y : Int) * 2 ^ (7 * i))) = ((acc + y * 128 ^ i : Nat) : Int) := by
  have e : (y : Int) * 2 ^ (7 * i) = ((y * 128 ^ i : Nat) : Int) := by rw [← pow7]; simp
  have p : ((2 : Int) ^ (7 * i)) = ((128 ^ i : Nat) : Int) := by rw [← pow7]; simp
  rw [e, wraps_u64 _ (by omega) (by omega)]
  rw [bits_join_low .u64 64 (by decide) wraps_u64 (7 * i) (acc : Int) ((y * 128 ^ i : Nat) : Int) (by omega) (by rw [p]; omega) (by omega) (by omega) (by rw [p, ← Int.natCast_emod, Nat.mul_mod_left]; rfl) (by omega)]
  omega
theorem pow128_le {i : Nat} (h : i ≤ 8) : 128 ^ (i + 1) ≤ 9223372036854775808 := by
  have := Nat.pow_le_pow_right (n := 128) (by decide) (show i + 1 ≤ 9 by omega)
  have e : 128 ^ 9 = 9223372036854775808 := by decide
  omega
/-- Seven bits more, ahead of the tenth byte. -/
theorem acc_up {i acc x : Nat} (h : acc < 128 ^ i) : acc + x % 128 * 128 ^ i < 128 ^ (i + 1) := by
  have h2 : x % 128 * 128 ^ i ≤ 127 * 128 ^ i := Nat.mul_le_mul_right _ (by omega)
  rw [Nat.pow_succ]
  omega
theorem or_next {i acc x : Nat} (hi : i ≤ 8) (h : acc < 128 ^ i) :
    bits .or .u64 (acc : Int) (IntKind.u64.wrap ((x : Int) % 128 * 2 ^ (7 * i))) = ((acc + x % 128 * 128 ^ i : Nat) : Int) := by
  have e : ((x : Int) % 128) = ((x % 128 : Nat) : Int) := by omega
  have := acc_up (x := x) h
  have := pow128_le hi
  rw [e, or_up h (by omega)]
theorem or_last {acc x : Nat} (h : acc < 128 ^ 9) (hx : x ≤ 1) :
    bits .or .u64 (acc : Int) ((x : Int) % 128 * 9223372036854775808) = ((acc + x * 128 ^ 9 : Nat) : Int) := by
  have e : ((x : Int) % 128) = (x : Int) := by omega
  have e2 : (9223372036854775808 : Int) = 2 ^ (7 * 9) := by decide
  have e3 : 128 ^ 9 = 9223372036854775808 := by decide
  have := or_up (y := x) h (by rw [e3] at h ⊢; omega)
  rw [← e2, wraps_u64 _ (by omega) (by omega)] at this
  rw [e, this]
theorem getAt_err {bs : List Nat} {k e : Nat} (h : scan 0 0 (bs.drop k) = (0, 0, e)) (he : e ≠ 0) : getAt bs k = (0, 0, e) := by
  simp [getAt, h, he]
theorem getAt_ok {bs : List Nat} {k v s : Nat} (h : scan 0 0 (bs.drop k) = (v, s, 0)) : getAt bs k = (v, k + s, 0) := by
  simp [getAt, h]
/-- The bytes of a number. -/
def putN (n : Nat) : List Nat := (Lib.uvarint n).map UInt8.toNat
theorem putN_small {n : Nat} (h : n < 128) : putN n = [n] := by
  unfold putN
  rw [Lib.uvarint_small h]
  simp; omega
theorem putN_big {n : Nat} (h : 128 ≤ n) : putN n = (n % 128 + 128) :: putN (n / 128) := by
  unfold putN
  rw [Lib.uvarint_big h]
  simp; omega
theorem putN_len {n : Nat} (h : n < 18446744073709551616) : (putN n).length ≤ 10 := by
  unfold putN; rw [List.length_map]; exact Lib.uvarint_length64 h
theorem putN_pos (n : Nat) : 1 ≤ (putN n).length := by
  unfold putN; rw [List.length_map]; exact Lib.uvarint_pos n
theorem putN_byte (n : Nat) : ∀ x ∈ putN n, x < 256 := by
  unfold putN
  intro x hx
  obtain ⟨u, _, rfl⟩ := List.mem_map.1 hx
  exact u.toNat_lt
/-- Of several numbers. -/
def putAll (l : List Nat) : List Nat := l.flatMap putN
theorem putAll_nil : putAll [] = [] := rfl
theorem putAll_one (n : Nat) : putAll [n] = putN n := by simp [putAll]
theorem putAll_take {l : List Nat} {k : Nat} (h : k < l.length) : putAll (l.take (k + 1)) = putAll (l.take k) ++ putN l[k] := by
  unfold putAll
  rw [List.take_succ_eq_append_getElem h, List.flatMap_append]
  simp
theorem putAll_len {l : List Nat} (h : ∀ x ∈ l, x < 18446744073709551616) : (putAll l).length ≤ 10 * l.length := by
  induction l with
  | nil => simp [putAll]
  | cons x l ih =>
    have h1 := putN_len (h x (List.mem_cons_self ..))
    have h2 := ih fun y hy => h y (List.mem_cons_of_mem _ hy)
    have : putAll (x :: l) = putN x ++ putAll l := by simp [putAll]
    rw [this, List.length_append, List.length_cons]
    omega
theorem putAll_byte (l : List Nat) : ∀ x ∈ putAll l, x < 256 := by
  intro x hx
  obtain ⟨n, _, hn⟩ := List.mem_flatMap.1 hx
  exact putN_byte n x hn
theorem byte_more {m : Nat} : bits .or .u8 ((m : Int) % 256) 128 = ((m % 128 + 128 : Nat) : Int) := by
  rw [Lib.u8_or128_any _ (by omega) (by omega)]
  omega
theorem byte_last {m : Nat} (h : m < 128) : IntKind.u8.wrap (m : Int) = (m : Int) := by
  rw [IntKind.wrap_u8]; omega
/-- The i-th byte of a number, and so many of them. -/
def dig (n i : Nat) : Nat := n / 256 ^ i % 256
def fixedN (n width : Nat) : List Nat := (List.range width).map (dig n)
theorem fixedN_len (n width : Nat) : (fixedN n width).length = width := by simp [fixedN]
theorem fixedN_byte (n width : Nat) : ∀ x ∈ fixedN n width, x < 256 := by
  intro x hx
  obtain ⟨i, _, rfl⟩ := List.mem_map.1 hx
  unfold dig; omega
theorem pow8 (i : Nat) : 2 ^ (8 * i) = 256 ^ i := by rw [Nat.pow_mul]
theorem shr8 (n i : Nat) : (n : Int) / 2 ^ (8 * i) = ((n / 256 ^ i : Nat) : Int) := by
  rw [← pow8, Int.natCast_ediv]; simp
theorem shr8_dig (n i : Nat) : (n : Int) / 2 ^ (8 * i) % 256 = ((dig n i : Nat) : Int) := by
  rw [shr8]; unfold dig; omega
/-- What Fixed answers: bytes, and the error. -/
def fixed (n : Nat) (width : Int) : List Nat × Nat := if width < 1 ∨ 8 < width ∨ 256 ^ width.toNat ≤ n then ([], 2) else (fixedN n width.toNat, 0)
theorem fixed_fits {n W : Nat} (h1 : 1 ≤ W) (h2 : W ≤ 8) (h : ¬ 256 ^ W ≤ n) : fixed n W = (fixedN n W, 0) := by
  unfold fixed; rw [if_neg (by rintro (h' | h' | h') <;> first | omega | exact h (by simpa using h'))]; simp
theorem fixed_big {n W : Nat} (h : 256 ^ W ≤ n) : fixed n W = ([], 2) := by
  unfold fixed; rw [if_pos (by right; right; simpa using h)]
theorem fixed_wide {n : Nat} {width : Int} (h : ¬ (1 ≤ width ∧ width ≤ 8)) : fixed n width = ([], 2) := by
  unfold fixed; rw [if_pos (by omega)]
theorem fill_step (n width i : Nat) (h : i < width) :
    (u8s ((List.range i).map (dig n)) ++ List.replicate (width - i) (Value.int .u8 0)).set i (.int .u8 ((dig n i : Nat) : Int)) = u8s ((List.range (i + 1)).map (dig n)) ++ List.replicate (width - (i + 1)) (Value.int .u8 0) := by
  have e : List.replicate (width - i) (Value.int .u8 0) = Value.int .u8 0 :: List.replicate (width - (i + 1)) (Value.int .u8 0) := by
    rw [← List.replicate_succ]; congr 1; omega
  rw [e, List.set_append]
  simp [u8s, List.range_succ]
/-- Seven bits of each byte, the lowest first. -/
def val : List Nat → Nat
  | [] => 0
  | c :: cs => c % 128 + 128 * val cs
theorem val_snoc (l : List Nat) (c : Nat) : val (l ++ [c]) = val l + c % 128 * 128 ^ l.length := by
  induction l with
  | nil => simp [val]
  | cons x l ih =>
    simp only [List.cons_append, val, ih, List.length_cons, Nat.pow_succ]
    rw [Nat.mul_add, ← Nat.add_assoc]
    congr 1
    rw [Nat.mul_left_comm, Nat.mul_comm 128]
theorem val_lt (l : List Nat) : val l < 128 ^ l.length := by
  induction l with
  | nil => simp [val]
  | cons x l ih =>
    simp only [val, List.length_cons, Nat.pow_succ]
    omega
theorem val_tail_le (l : List Nat) (t : Nat) : val (l.drop t) ≤ val l := by
  induction l generalizing t with
  | nil => simp
  | cons x l ih =>
    cases t with
    | zero => simp
    | succ t =>
      simp only [List.drop_succ_cons, val]
      have := ih t
      omega
theorem val_step {l : List Nat} {t : Nat} (h : t < l.length) : val (l.drop t) = l[t] % 128 + 128 * val (l.drop (t + 1)) := by
  rw [List.drop_eq_getElem_cons h]; rfl
theorem take_snoc {l : List Nat} {j : Nat} (h : j < l.length) : l.take (j + 1) = l.take j ++ [l[j]] := List.take_succ_eq_append_getElem h
/-- What is read is below 2^64, ahead of the tenth byte, and at the tenth if that is 0 or 1. -/
theorem val_fits {l : List Nat} (h : l.length ≤ 9) : val l < 9223372036854775808 := by
  have h1 := val_lt l
  have h2 := Nat.pow_le_pow_right (n := 128) (by decide) h
  have e : 128 ^ 9 = 9223372036854775808 := by decide
  omega
theorem val_fits10 {l : List Nat} {x : Nat} (h : l.length = 9) (hx : x ≤ 1) : val (l ++ [x]) < 18446744073709551616 := by
  have h1 := val_fits (l := l) (by omega)
  have e : 128 ^ 9 = 9223372036854775808 := by decide
  rw [val_snoc, h, e]
  omega
theorem putN_len_is : ∀ (k n : Nat), n < 128 ^ (k + 1) → (k = 0 ∨ 128 ^ k ≤ n) → (putN n).length = k + 1
  | 0, n, h, _ => by rw [putN_small (by simpa using h)]; rfl
  | k + 1, n, h, h2 => by
    have h3 : 128 ^ (k + 1) ≤ n := by omega
    have h4 : 128 ≤ n := Nat.le_trans (by rw [Nat.pow_succ]; exact Nat.le_mul_of_pos_left _ (Nat.pow_pos (by decide))) h3
    rw [putN_big h4, List.length_cons, putN_len_is k (n / 128)]
    · rw [Nat.pow_succ] at h
      exact Nat.div_lt_of_lt_mul (by omega)
    · right
      rw [Nat.pow_succ] at h3
      exact (Nat.le_div_iff_mul_le (by decide)).2 h3
theorem putN_len_mono : ∀ (f n m : Nat), n ≤ f → n ≤ m → (putN n).length ≤ (putN m).length
  | 0, n, m, h, _ => by rw [putN_small (n := n) (by omega)]; exact putN_pos m
  | f + 1, n, m, h, h2 => by
    by_cases hn : n < 128
    · rw [putN_small hn]; exact putN_pos m
    · rw [putN_big (n := n) (by omega), putN_big (n := m) (by omega), List.length_cons, List.length_cons]
      have := putN_len_mono f (n / 128) (m / 128) (by omega) (Nat.div_le_div_right h2)
      omega
theorem shr7 (n i : Nat) : (n : Int) / 2 ^ (7 * i) = ((n / 128 ^ i : Nat) : Int) := by
  rw [← pow7, Int.natCast_ediv]; simp
end Go.Proofs.Ytbmdgoljjffjdaa
