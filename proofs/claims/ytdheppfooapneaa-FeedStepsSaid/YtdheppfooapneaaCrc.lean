import Derived.Test.YtdheppfooapneaaVint
import Derived.Deep.LoopGhost
import Derived.Deep.RegionHeld3
import Derived.Test.YtdheppfooapneaaBase
import Derived.Laws.BitsAllLaws
import Derived.Deep.WholeRow
import Derived.Deep.MidRow
import Derived.RegionTactic
import Derived.Laws.ResultCell
import Derived.Outline
import Derived.Lib.AppendZerosOnto
import Derived.Lib.SliceRun
/- The checksum in plain numbers: a remainder, bit by bit, of a number as long as the bytes; byte by byte; linear. -/
namespace Go.Proofs.Ytdheppfooapneaa
open Go.RowKit

def crcPoly : Nat := 3988292384
/-- One bit. -/
def crc1 (r : Nat) : Nat := if r % 2 = 1 then (r / 2) ^^^ crcPoly else r / 2
def crcN : Nat → Nat → Nat
  | 0, r => r
  | k + 1, r => crcN k (crc1 r)
/-- One byte. -/
def crcByte (r c : Nat) : Nat := crcN 8 (r ^^^ c)
def crcAll (r : Nat) (bs : List Nat) : Nat := bs.foldl crcByte r
/-- The checksum. -/
def crcOf (bs : List Nat) : Nat := crcAll 4294967295 bs ^^^ 4294967295

theorem xor_half (a b : Nat) : (a ^^^ b) / 2 = a / 2 ^^^ b / 2 := by
  have h := Nat.shiftRight_xor_distrib (a := a) (b := b) (i := 1)
  simpa [Nat.shiftRight_succ] using h
theorem xor_odd (a b : Nat) : (a ^^^ b) % 2 = (a % 2 + b % 2) % 2 := by
  have h := Nat.xor_mod_two_pow (a := a) (b := b) (n := 1)
  simp only [Nat.pow_one] at h
  rw [h]
  rcases Nat.mod_two_eq_zero_or_one a with ha | ha <;> rcases Nat.mod_two_eq_zero_or_one b with hb | hb <;> rw [ha, hb] <;> rfl
theorem crc1_xor (a b : Nat) : crc1 (a ^^^ b) = crc1 a ^^^ crc1 b := by
  unfold crc1
  have ho := xor_odd a b
  rw [xor_half]
  rcases Nat.mod_two_eq_zero_or_one a with ha | ha <;> rcases Nat.mod_two_eq_zero_or_one b with hb | hb <;> rw [ha, hb] at ho <;> simp [ho, ha, hb]
  · rw [Nat.xor_assoc]
  · rw [Nat.xor_assoc (a / 2) (b / 2), Nat.xor_comm (b / 2), ← Nat.xor_assoc]
  · rw [Nat.xor_assoc (a / 2), ← Nat.xor_assoc crcPoly, Nat.xor_comm crcPoly (b / 2), Nat.xor_assoc (b / 2), Nat.xor_self, Nat.xor_zero]
theorem crcN_xor : ∀ (k a b : Nat), crcN k (a ^^^ b) = crcN k a ^^^ crcN k b
  | 0, _, _ => rfl
  | k + 1, a, b => by
    show crcN k (crc1 (a ^^^ b)) = _
    rw [crc1_xor, crcN_xor k]; rfl
theorem crc1_double (y : Nat) : crc1 (2 * y) = y := by
  unfold crc1; rw [if_neg (by omega)]; omega
theorem crcN_pow : ∀ (k y : Nat), crcN k (2 ^ k * y) = y
  | 0, y => by simp [crcN]
  | k + 1, y => by
    show crcN k (crc1 _) = y
    rw [Nat.pow_succ, show 2 ^ k * 2 * y = 2 * (2 ^ k * y) by rw [Nat.mul_comm (2 ^ k) 2, Nat.mul_assoc], crc1_double, crcN_pow k]
theorem crcN_add : ∀ (j k r : Nat), crcN (j + k) r = crcN k (crcN j r)
  | 0, k, r => by rw [Nat.zero_add]; rfl
  | j + 1, k, r => by
    rw [Nat.add_right_comm]
    exact crcN_add j k (crc1 r)
theorem low_join {c y : Nat} (h : c < 256) : c + 256 * y = c ^^^ (256 * y) := by
  apply Nat.eq_of_testBit_eq
  intro i
  rw [Nat.testBit_xor, Nat.add_comm, show (256 : Nat) = 2 ^ 8 from rfl, Nat.testBit_two_pow_mul_add _ (by simpa using h), Nat.testBit_two_pow_mul]
  by_cases hi : i < 8
  · simp [hi, Nat.not_le.2 hi]
  · have hl : c.testBit i = false := Nat.testBit_lt_two_pow (Nat.lt_of_lt_of_le h (Nat.pow_le_pow_right (n := 2) (by decide) (show 8 ≤ i by omega)))
    simp [hi, hl, Nat.not_lt.1 hi]
/-- Byte by byte is what is left of the whole number. -/
theorem crcAll_whole : ∀ (bs : List Nat) (r : Nat), (∀ x ∈ bs, x < 256) → crcAll r bs = crcN (8 * bs.length) (r ^^^ val8 bs)
  | [], r, _ => by simp [crcAll, crcN, val8]
  | c :: cs, r, h => by
    have hc := h c (List.mem_cons_self ..)
    show crcAll (crcByte r c) cs = _
    rw [crcAll_whole cs _ fun x hx => h x (List.mem_cons_of_mem _ hx)]
    simp only [val8, List.length_cons]
    rw [low_join hc, ← Nat.xor_assoc, show 8 * (cs.length + 1) = 8 + 8 * cs.length by omega, crcN_add, crcN_xor 8, show 256 * val8 cs = 2 ^ 8 * val8 cs from rfl, crcN_pow]
    rfl
theorem crc1_lt {r : Nat} (h : r < 4294967296) : crc1 r < 4294967296 := by
  unfold crc1
  split
  · exact Nat.xor_lt_two_pow (n := 32) (show r / 2 < 2 ^ 32 by omega) (by decide)
  · omega
theorem crcN_lt : ∀ (k : Nat) {r : Nat}, r < 4294967296 → crcN k r < 4294967296
  | 0, _, h => h
  | k + 1, _, h => crcN_lt k (crc1_lt h)
theorem crcByte_lt {r c : Nat} (h : r < 4294967296) (hc : c < 256) : crcByte r c < 4294967296 :=
  crcN_lt 8 (Nat.xor_lt_two_pow (n := 32) h (Nat.lt_of_lt_of_le hc (by decide)))
theorem crcAll_lt : ∀ (bs : List Nat) {r : Nat}, r < 4294967296 → (∀ x ∈ bs, x < 256) → crcAll r bs < 4294967296
  | [], _, h, _ => h
  | c :: cs, _, h, hb => crcAll_lt cs (crcByte_lt h (hb c (List.mem_cons_self ..))) fun x hx => hb x (List.mem_cons_of_mem _ hx)
theorem crcOf_lt {bs : List Nat} (h : ∀ x ∈ bs, x < 256) : crcOf bs < 4294967296 :=
  Nat.xor_lt_two_pow (n := 32) (crcAll_lt bs (by decide) h) (by decide)
theorem crcAll_app (r : Nat) (a b : List Nat) : crcAll r (a ++ b) = crcAll (crcAll r a) b := by
  unfold crcAll; rw [List.foldl_append]
/-- Of the whole number. -/
theorem crcOf_whole {bs : List Nat} (h : ∀ x ∈ bs, x < 256) : crcOf bs = crcN (8 * bs.length) (4294967295 ^^^ val8 bs) ^^^ 4294967295 := by
  unfold crcOf; rw [crcAll_whole bs _ h]
/-- Linear. -/
theorem val8_xor : ∀ (n : Nat) (a b : List Nat), a.length = n → b.length = n → (∀ x ∈ a, x < 256) → (∀ x ∈ b, x < 256) → val8 (List.zipWith (· ^^^ ·) a b) = val8 a ^^^ val8 b
  | 0, a, b, ha, hb, _, _ => by
    have e1 := List.eq_nil_of_length_eq_zero ha
    have e2 := List.eq_nil_of_length_eq_zero hb
    subst e1 e2; rfl
  | n + 1, x :: a, y :: b, ha, hb, h1, h2 => by
    simp only [List.zipWith_cons_cons, val8]
    have hx := h1 x (List.mem_cons_self ..)
    have hy := h2 y (List.mem_cons_self ..)
    rw [val8_xor n a b (by simpa using ha) (by simpa using hb) (fun z hz => h1 z (List.mem_cons_of_mem _ hz)) (fun z hz => h2 z (List.mem_cons_of_mem _ hz))]
    rw [low_join hx, low_join hy, low_join (Nat.xor_lt_two_pow (n := 8) hx hy)]
    have e : 256 * (val8 a ^^^ val8 b) = 256 * val8 a ^^^ 256 * val8 b := by
      rw [Nat.mul_comm 256, Nat.mul_comm 256, Nat.mul_comm 256]
      have := Nat.shiftLeft_xor_distrib (a := val8 a) (b := val8 b) (i := 8)
      simpa [Nat.shiftLeft_eq] using this
    rw [e, Nat.xor_assoc, Nat.xor_assoc]
    congr 1
    rw [← Nat.xor_assoc, ← Nat.xor_assoc, Nat.xor_comm y]
end Go.Proofs.Ytdheppfooapneaa

/- Rows of bits as numbers: flips, halves, the document's division. -/
namespace Go.Proofs.Ytdheppfooapneaa
open Go.RowKit

def num : List Bool → Nat
  | [] => 0
  | b :: l => b.toNat + 2 * num l
theorem num_snoc (l : List Bool) (b : Bool) : num (l ++ [b]) = num l + b.toNat * 2 ^ l.length := by
  induction l with
  | nil => simp [num]
  | cons x l ih =>
    simp only [List.cons_append, num, ih, List.length_cons, Nat.pow_succ]
    rw [Nat.mul_add, ← Nat.add_assoc]
    congr 1
    rw [Nat.mul_left_comm, Nat.mul_comm 2]
theorem num_lt (l : List Bool) : num l < 2 ^ l.length := by
  induction l with
  | nil => simp [num]
  | cons x l ih =>
    simp only [num, List.length_cons, Nat.pow_succ]
    have : x.toNat ≤ 1 := Bool.toNat_le x
    omega
theorem num_drop (l : List Bool) (n : Nat) : num (l.drop n) = num l / 2 ^ n := by
  induction l generalizing n with
  | nil => simp [num]
  | cons x l ih =>
    cases n with
    | zero => simp
    | succ n =>
      have hx : x.toNat ≤ 1 := Bool.toNat_le x
      rw [List.drop_succ_cons, ih, num, Nat.pow_succ, Nat.mul_comm (2 ^ n), ← Nat.div_div_eq_div_mul, show (x.toNat + 2 * num l) / 2 = num l by omega]
theorem num_bit {l : List Bool} {i : Nat} (h : i < l.length) : l[i].toNat = num l / 2 ^ i % 2 := by
  rw [← num_drop, List.drop_eq_getElem_cons h, num]
  have := Bool.toNat_le l[i]
  omega
theorem num_test (l : List Bool) (i : Nat) : (num l).testBit i = l[i]?.getD false := by
  by_cases h : i < l.length
  · rw [Nat.testBit_eq_decide_div_mod_eq, ← num_bit h, List.getElem?_eq_getElem h]
    cases l[i] <;> simp
  · rw [List.getElem?_eq_none (by omega)]
    exact Nat.testBit_lt_two_pow (Nat.lt_of_lt_of_le (num_lt l) (Nat.pow_le_pow_right (by decide) (by omega)))
theorem num_flip {l : List Bool} {p : Nat} (h : p < l.length) : num (l.set p (!l[p])) = num l ^^^ 2 ^ p := by
  apply Nat.eq_of_testBit_eq
  intro i
  rw [Nat.testBit_xor, num_test, num_test, Nat.testBit_two_pow, List.getElem?_set]
  by_cases hi : p = i
  · subst hi
    simp [h]
  · simp [hi]
theorem num_not (l : List Bool) : num (l.map (!·)) + num l + 1 = 2 ^ l.length := by
  induction l with
  | nil => simp [num]
  | cons x l ih =>
    simp only [List.map_cons, num, List.length_cons, Nat.pow_succ]
    cases x <;> simp <;> omega
theorem xor_ones32 {x : Nat} (h : x < 4294967296) : x ^^^ 4294967295 = 4294967295 - x := by
  have h2 := Nat.xor_comm x 4294967295
  rw [h2]
  apply Nat.eq_of_testBit_eq
  intro i
  rw [Nat.testBit_xor, show (4294967295 : Nat) = 2 ^ 32 - 1 from rfl, Nat.testBit_two_pow_sub_one, show 2 ^ 32 - 1 - x = 2 ^ 32 - (x + 1) by omega, Nat.testBit_two_pow_sub_succ (by simpa using h)]
  by_cases hi : i < 32
  · simp [hi]
  · have : x.testBit i = false := Nat.testBit_lt_two_pow (Nat.lt_of_lt_of_le h (Nat.pow_le_pow_right (n := 2) (by decide) (show 32 ≤ i by omega)))
    simp [hi, this]
theorem num_not32 {l : List Bool} (h : l.length = 32) : num (l.map (!·)) = num l ^^^ 4294967295 := by
  have h1 := num_not l
  have h2 := num_lt l
  rw [h] at h1 h2
  rw [xor_ones32 (by simpa using h2)]
  omega
/-- The places that are turned, and their number after so many. -/
def crcAts : List Nat := [0, 6, 9, 10, 16, 20, 21, 22, 24, 25, 27, 28, 30, 31, 32]
def crcG (k : Nat) : Nat := (crcAts.take k).foldl (fun g a => g ^^^ 2 ^ a) 0
theorem crcG_step : ∀ k, (h : k < crcAts.length) → crcG (k + 1) = crcG k ^^^ 2 ^ crcAts[k] := by decide
theorem crcAts_le : ∀ k, (h : k < crcAts.length) → crcAts[k] ≤ 32 := by decide
theorem crcG_all : crcG 15 = 1 + 2 * crcPoly := by decide
theorem xor_scale (a b i : Nat) : (a ^^^ b) * 2 ^ i = a * 2 ^ i ^^^ b * 2 ^ i := by
  have := Nat.shiftLeft_xor_distrib (a := a) (b := b) (i := i)
  simpa [Nat.shiftLeft_eq] using this
theorem xor_down (a b i : Nat) : (a ^^^ b * 2 ^ i) / 2 ^ i = a / 2 ^ i ^^^ b := by
  have := Nat.shiftRight_xor_distrib (a := a) (b := b * 2 ^ i) (i := i)
  simp only [Nat.shiftRight_eq_div_pow] at this
  rw [this, Nat.mul_div_cancel _ (Nat.pow_pos (by decide))]
/-- One step of the division. -/
theorem crc_even {B X i : Nat} (h : B / 2 ^ i = X) (he : X % 2 = 0) : B / 2 ^ (i + 1) = crc1 X := by
  unfold crc1
  rw [if_neg (by omega), Nat.pow_succ, ← Nat.div_div_eq_div_mul, h]
theorem crc_odd {B X i : Nat} (h : B / 2 ^ i = X) (he : X % 2 = 1) : (B ^^^ crcG 15 * 2 ^ i) / 2 ^ (i + 1) = crc1 X := by
  unfold crc1
  rw [if_pos he, Nat.pow_succ, ← Nat.div_div_eq_div_mul, xor_down, h, crcG_all, xor_half]
  congr 1
theorem crcN_succ : ∀ (k r : Nat), crcN (k + 1) r = crc1 (crcN k r)
  | 0, _ => rfl
  | k + 1, r => crcN_succ k (crc1 r)
/-- The bytes as the document lays them out. -/
def adjBytes (b : List Nat) : List Nat := List.zipWith (· ^^^ ·) (b ++ List.replicate 4 0) (List.replicate 4 255 ++ List.replicate b.length 0)
theorem adj_len (b : List Nat) : (adjBytes b).length = b.length + 4 := by
  simp [adjBytes]
theorem val8_noughts (l : List Nat) (n : Nat) : val8 (l ++ List.replicate n 0) = val8 l := by
  induction l with
  | nil =>
    induction n with
    | zero => rfl
    | succ n ih => simp only [List.nil_append, List.replicate_succ, val8] at *; omega
  | cons x l ih => simp only [List.cons_append, val8, ih]
theorem adj_val {b : List Nat} (h : ∀ x ∈ b, x < 256) : val8 (adjBytes b) = val8 b ^^^ 4294967295 := by
  unfold adjBytes
  rw [val8_xor (b.length + 4) _ _ (by simp) (by simp)]
  · rw [val8_noughts, val8_noughts]
    rfl
  · intro x hx
    rcases List.mem_append.1 hx with hx | hx
    · exact h x hx
    · rw [List.eq_of_mem_replicate hx]; decide
  · intro x hx
    rcases List.mem_append.1 hx with hx | hx <;> rw [List.eq_of_mem_replicate hx] <;> decide
theorem adj_at {b : List Nat} {i : Nat} (h : i < (adjBytes b).length) : (adjBytes b)[i] = (b[i]?.getD 0) ^^^ (if i < 4 then 255 else 0) := by
  simp only [adjBytes, List.getElem_zipWith]
  congr 1
  · by_cases hi : i < b.length
    · rw [List.getElem_append_left hi, List.getElem?_eq_getElem hi]; rfl
    · rw [List.getElem_append_right (by omega), List.getElem?_eq_none (by omega), List.getElem_replicate]; rfl
  · by_cases h4 : i < 4
    · rw [List.getElem_append_left (by simpa using h4), if_pos h4, List.getElem_replicate]
    · rw [List.getElem_append_right (by simp; omega), if_neg h4]; simp
theorem adj_byte {b : List Nat} (h : ∀ x ∈ b, x < 256) : ∀ x ∈ adjBytes b, x < 256 := by
  intro x hx
  obtain ⟨i, hi, rfl⟩ := List.getElem_of_mem hx
  rw [adj_at hi]
  refine Nat.xor_lt_two_pow (n := 8) ?_ (by split <;> decide)
  by_cases hb : i < b.length
  · rw [List.getElem?_eq_getElem hb]; exact h _ (List.getElem_mem hb)
  · rw [List.getElem?_eq_none (by omega)]; decide
end Go.Proofs.Ytdheppfooapneaa

/- lapidaryref02.Of: the document's division of a row of bits gives the checksum. -/
namespace Go.Proofs.Ytdheppfooapneaa
open Go.RowKit

def bls (l : List Bool) : List Value := l.map Value.bool
theorem bls_len (l : List Bool) : (bls l).length = l.length := by simp [bls]
theorem bls_app (l r : List Bool) : bls (l ++ r) = bls l ++ bls r := by simp [bls]
theorem bls_at {l : List Bool} {j : Nat} (h : j < l.length) : (bls l)[j]? = some (.bool l[j]) := by simp [bls, h]
theorem elemB : Elem Try.prog 87 4 1 := by
  have h : (Try.prog.info? 4).map (fun i => (i.zero, i.size, i.bytes)) = some (some (.bool false), 1, 1) := by kernel_rfl
  obtain ⟨i, h1, h2, h3, h4⟩ := info_parts h
  exact ⟨Try.underlying87, i, _, h1, h2, h3, h4, rfl⟩
theorem bit_nat (c : Nat) : ((c : Int) % 2 == 1).toNat = c % 2 := by
  rcases Nat.mod_two_eq_zero_or_one c with h | h
  · have : ((c : Int) % 2 == 1) = false := beq_eq_false_iff_ne.2 (by omega)
    rw [this, h]; rfl
  · have : ((c : Int) % 2 == 1) = true := by rw [beq_iff_eq]; omega
    rw [this, h]; rfl

/-- The first loops: the bits of all bytes. -/
def Laid (w : World) (B L : Nat) (v : Value) (wx : World) : Prop := ∃ l : List Bool, Own wx w.heap.size 4 v (bls l) ∧ l.length = L ∧ num l = B ∧ Below w.heap.size w wx

/-- While it divides: the row of bits, and the table of places beside it. -/
structure Divs (w : World) (g cap L ga : Nat) (wx : World) (l : List Bool) : Prop where
  own : Own wx w.heap.size 4 (.slice (some ⟨g, 0, none⟩) L cap) (bls l)
  len : l.length = L
  bel : Below w.heap.size w wx
  ats : ∀ k (h : k < crcAts.length), wx.cell? ⟨ga, k, none⟩ = some (.int .i64 (crcAts[k] : Int))
theorem Divs.flip {w wx : World} {g cap L ga : Nat} {l : List Bool} (h : Divs w g cap L ga wx l) (hne : g ≠ ga) (p : Nat) (b : Bool) : Divs w g cap L ga (wx.setCell ⟨g, p, none⟩ (.bool b)) (l.set p b) := by
  have hs := h.own.stored (by rw [bls_len]; exact h.len) p (.bool b)
  refine ⟨?_, by rw [List.length_set]; exact h.len, h.bel.trans hs.2, fun k hk => ?_⟩
  · have e : (bls l).set p (.bool b) = bls (l.set p b) := by simp [bls, List.map_set]
    rw [← e]; exact hs.1
  · rw [World.cell?_setCell_other _ _ _ _ (by intro e; cases e; exact hne rfl)]
    exact h.ats k hk
theorem Divs.drew {w wx : World} {g cap L ga : Nat} {l : List Bool} (h : Divs w g cap L ga wx l) : Divs w g cap L ga wx.drew l := ⟨h.own, h.len, ⟨h.bel.os, h.bel.tape, h.bel.output, h.bel.size, h.bel.block⟩, h.ats⟩
theorem Divs.at_ {w wx : World} {g cap L ga : Nat} {l : List Bool} (h : Divs w g cap L ga wx l) {p : Nat} (hp : p < l.length) : wx.cell? ⟨g, p, none⟩ = some (.bool l[p]) ∧ wx.frozen? ⟨g, p, none⟩ = false := by
  have := h.own.cellAt (by rw [bls_len]; exact h.len) p (by rw [← h.len]; exact hp)
  rw [bls_at hp] at this
  exact this

set_option maxRecDepth 100000 in
set_option maxHeartbeats 2000000 in
theorem refOf_any (A : Option Addr) (n c : Nat) (bs : List Nat) (w : World) (h : Has w A n c (u8s bs)) (hb : ∀ x ∈ bs, x < 256) (hn : n ≤ 100000) :
    Calls Try.prog 52 #[.slice A n c] w fun e w' => e = .returned (.int .u32 (crcOf bs : Int)) ∧ Below w.heap.size w w' := by
  have HL : Aside (bs.length = n) := by have := h.len; rw [u8s_len] at this; exact this
  have HB : Aside (∀ x ∈ bs, x < 256) := hb
  have HH : Aside (Has w A n c (u8s bs)) := h
  clear h hb
  go_enter Try.func52, Try.ntmps52
  go_wp2
  go_loopg [3, 4] (n + 4) (fun g s3 s4 wx => ∃ i : Nat, i + g = n + 4 ∧ s4 = .int .i64 i ∧ Laid w (val8 ((adjBytes bs).take i)) (8 * i) s3 wx)
  case atStart => exact ⟨0, by omega, rfl, [], Own.nil _ _ _, rfl, rfl, Below.refl _ _⟩
  case round =>
    obtain ⟨i, hig, rfl, l, hown, hll, hnum, hbel⟩ := hrel
    have HO := Lib.hid hown
    have HBl := Lib.hid hbel
    have HLL := Lib.hid hll
    have HNU := Lib.hid hnum
    clear hown hbel hll hnum
    by_cases hi : i < n + 4
    · have hia : i < (adjBytes bs).length := by rw [adj_len, HL.out]; exact hi
      obtain ⟨C, hC⟩ : ∃ C, (adjBytes bs)[i] = C := ⟨_, rfl⟩
      have hC8 : C < 256 := by rw [← hC]; exact adj_byte HB.out _ (List.getElem_mem hia)
      have HT : Hid (val8 ((adjBytes bs).take (i + 1)) = val8 ((adjBytes bs).take i) + C * 256 ^ i) := by
        show _ = _
        rw [take_snoc hia, val8_snoc, hC, List.length_take, Nat.min_eq_left (by omega)]
      have hadj := adj_at hia
      rw [hC] at hadj
      have hcase : (∃ b off x, A = some ⟨b, off, none⟩ ∧ wr.cell? ⟨b, off + i, none⟩ = some (.int .u8 (x : Int)) ∧ i < n ∧ decide ((i : Int) < 4) = true ∧ bits .xor .u8 (x : Int) 255 = (C : Int)) ∨
          (∃ b off, A = some ⟨b, off, none⟩ ∧ wr.cell? ⟨b, off + i, none⟩ = some (.int .u8 (C : Int)) ∧ i < n ∧ decide ((i : Int) < 4) = false) ∨
          (¬ i < n ∧ decide ((i : Int) < 4) = true ∧ bits .xor .u8 0 255 = (C : Int)) ∨ (¬ i < n ∧ decide ((i : Int) < 4) = false ∧ Hid ((C : Int) = 0)) := by
        by_cases hin : i < n
        · obtain ⟨b, off, hA, _, hc⟩ := (HH.out.kept HBl.out).spot (by omega)
          have hil : i < bs.length := by rw [HL.out]; exact hin
          have hcl := hc i _ (u8s_at hil)
          have hx8 := HB.out _ (List.getElem_mem hil)
          rw [List.getElem?_eq_getElem hil] at hadj
          by_cases h4 : i < 4
          · refine Or.inl ⟨b, off, bs[i], hA, hcl, hin, by simp; omega, ?_⟩
            rw [if_pos h4] at hadj
            have := u8_xor_nat bs[i] 255 hx8 (by decide)
            rw [hadj]; exact this
          · refine Or.inr (Or.inl ⟨b, off, hA, ?_, hin, by simp; omega⟩)
            rw [if_neg h4, Nat.xor_zero] at hadj
            rw [hcl, hadj]; rfl
        · rw [List.getElem?_eq_none (by rw [HL.out]; omega)] at hadj
          by_cases h4 : i < 4
          · refine Or.inr (Or.inr (Or.inl ⟨hin, by simp; omega, ?_⟩))
            rw [if_pos h4] at hadj
            rw [hadj]; decide
          · refine Or.inr (Or.inr (Or.inr ⟨hin, by simp; omega, ?_⟩))
            rw [if_neg h4] at hadj
            show (C : Int) = 0
            rw [hadj]; rfl
      clear hC hadj hia
      have ti : decide ((i : Int) < (n : Int) + 4) = true := by simp; omega
      rcases hcase with ⟨b, off, x, rfl, hcl, hin, t4, hx⟩ | ⟨b, off, rfl, hcl, hin, t4⟩ | ⟨hin, t4, hx⟩ | ⟨hin, t4, hx⟩
      all_goals
        go_wp2
        go_loopg [3, 5, 6] 8 (fun g s3 s5 s6 wx => ∃ (j cc : Nat) (l : List Bool), j + g = 8 ∧ s6 = .int .i64 j ∧ s5 = .int .u8 cc ∧ cc < 2 ^ g ∧ cc < 256 ∧ Own wx w.heap.size 4 s3 (bls l) ∧ Below w.heap.size w wx ∧ Hid (l.length = 8 * i + j) ∧
          Hid (num l + 2 ^ (8 * i + j) * cc = val8 ((adjBytes bs).take (i + 1))))
        case atStart =>
          refine ⟨0, C, l, by omega, rfl, by first | rfl | (rw [hx]) | (rw [hx.out]), by omega, hC8, HO.out, HBl.out, HLL.out, ?_⟩
          show _ = _
          rw [HNU.out, HT.out, Nat.add_zero, pow8, Nat.mul_comm]
        case round =>
          obtain ⟨j, cc, l2, hjg, rfl, rfl, hcg, hc8, hown2, hbel2, HL2, HN2⟩ := hrel
          by_cases hj : j < 8
          · have tj : decide ((j : Int) < 8) = true := by simp; omega
            have hsz := hbel2.size
            have HO2 := Lib.hid hown2
            have HB2 := Lib.hid hbel2
            have hll2 : l2.length ≤ 10000000 := by rw [HL2.out]; omega
            clear hown2 hbel2
            go_wp2_with (at_builtin; refine wpList_join rfl _ _ 87 rfl elemB w.heap.size _ _ rfl (HO2.out.alloc _) _ 1 1 [_] rfl (Has.one _ _ _) (by intro u hu; simp at hu; subst hu; rfl) (by rw [bls_len]; omega) (by decide) (by simp; omega) ?_; intro v' w' hown' hbel')
            have R1 : Own w' w.heap.size 4 v' (bls (l2 ++ [((cc : Int) % 2 == 1)])) := by rw [bls_app]; exact hown'
            have R2 : Below w.heap.size w w' := (new_alloc HB2.out _).trans hbel'
            have R3 : Hid ((l2 ++ [((cc : Int) % 2 == 1)]).length = 8 * i + (j + 1)) := by
              show _ = _
              rw [List.length_append, HL2.out]; rfl
            have R4 : Hid (num (l2 ++ [((cc : Int) % 2 == 1)]) + 2 ^ (8 * i + (j + 1)) * (cc / 2) = val8 ((adjBytes bs).take (i + 1))) := by
              show _ = _
              rw [← HN2.out, num_snoc, bit_nat, HL2.out, ← Nat.add_assoc (8 * i), Nat.pow_succ, Nat.add_assoc]
              congr 1
              generalize 2 ^ (8 * i + j) = P
              have e : cc = cc % 2 + 2 * (cc / 2) := by omega
              rw [Nat.mul_comm (cc % 2), Nat.mul_assoc, ← Nat.mul_add, ← e]
            have hcg2 : cc / 2 < 2 ^ (gk - 1) := by
              rw [show gk = gk - 1 + 1 by omega, Nat.pow_succ] at hcg
              omega
            clear hown' hbel'
            go_wp2
            go_roundg (gk - 1)
            case measure => omega
            case rel => exact ⟨j + 1, cc / 2, _, by omega, by go_num, by go_num, hcg2, by omega, R1, R2, R3, R4⟩
          · have tj : decide ((j : Int) < 8) = false := by simp; omega
            have hc0 : cc = 0 := by
              have : gk = 0 := by omega
              subst this
              omega
            have HN3 : Hid (num l2 = val8 ((adjBytes bs).take (i + 1))) := by show _ = _; rw [← HN2.out, hc0]; simp
            have HL3 : Hid (l2.length = 8 * (i + 1)) := by show _ = _; rw [HL2.out]; omega
            have HO2 := Lib.hid hown2
            have HB2 := Lib.hid hbel2
            clear hc0 hown2 hbel2
            go_wp2
            go_roundg (n + 4 - (i + 1))
            case measure => omega
            case rel => exact ⟨i + 1, by omega, by go_num, l2, HO2.out, HL3.out, HN3.out, HB2.out⟩
    · have hin : i = n + 4 := by omega
      have hB0 : num l = val8 bs ^^^ 4294967295 := by
        rw [HNU.out, List.take_of_length_le (by rw [adj_len, HL.out]; omega), adj_val HB.out]
      have hLL : l.length = 8 * n + 32 := by rw [HLL.out]; omega
      obtain ⟨g, cap, hv, hg1, hg2⟩ := HO.out.form (by rw [bls_len, hLL]; omega)
      rw [bls_len, hLL] at hv
      subst hv
      have ti : decide ((i : Int) < (n : Int) + 4) = false := by simp; omega
      have hats : ∀ k (h : k < crcAts.length), (wr.alloc (.cells #[.int .i64 0, .int .i64 6, .int .i64 9, .int .i64 10, .int .i64 16, .int .i64 20, .int .i64 21, .int .i64 22, .int .i64 24, .int .i64 25, .int .i64 27, .int .i64 28, .int .i64 30, .int .i64 31, .int .i64 32] 3)).cell? ⟨wr.heap.size, k, none⟩ = some (.int .i64 (crcAts[k] : Int)) := by
        intro k hk
        rw [World.cell?_alloc_at _ _ _ _ rfl]
        have : ∀ k (h : k < crcAts.length), (#[.int .i64 0, .int .i64 6, .int .i64 9, .int .i64 10, .int .i64 16, .int .i64 20, .int .i64 21, .int .i64 22, .int .i64 24, .int .i64 25, .int .i64 27, .int .i64 28, .int .i64 30, .int .i64 31, .int .i64 32] : Array Value)[k]? = some (.int .i64 (crcAts[k] : Int)) := by
          intro k hk
          match k, hk with
          | 0, _ | 1, _ | 2, _ | 3, _ | 4, _ | 5, _ | 6, _ | 7, _ | 8, _ | 9, _ | 10, _ | 11, _ | 12, _ | 13, _ | 14, _ => rfl
        exact this k hk
      have HAT := Lib.hid hats
      have HB0 := Lib.hid hB0
      have HLN := Lib.hid hLL
      have hsz := HBl.out.size
      have HO2 := Lib.hid (HO.out.alloc (.cells #[.int .i64 0, .int .i64 6, .int .i64 9, .int .i64 10, .int .i64 16, .int .i64 20, .int .i64 21, .int .i64 22, .int .i64 24, .int .i64 25, .int .i64 27, .int .i64 28, .int .i64 30, .int .i64 31, .int .i64 32] 3))
      have HB2 := Lib.hid (new_alloc HBl.out (.cells #[.int .i64 0, .int .i64 6, .int .i64 9, .int .i64 10, .int .i64 16, .int .i64 20, .int .i64 21, .int .i64 22, .int .i64 24, .int .i64 25, .int .i64 27, .int .i64 28, .int .i64 30, .int .i64 31, .int .i64 32] 3))
      clear hats hB0 hLL HO HBl HLL HNU hin
      obtain ⟨ga, hga⟩ : ∃ ga, wr.heap.size = ga := ⟨_, rfl⟩
      have hne : g ≠ ga := by omega
      rw [hga] at HAT
      have HD : Hid (Divs w g cap (8 * n + 32) ga (wr.alloc (.cells #[.int .i64 0, .int .i64 6, .int .i64 9, .int .i64 10, .int .i64 16, .int .i64 20, .int .i64 21, .int .i64 22, .int .i64 24, .int .i64 25, .int .i64 27, .int .i64 28, .int .i64 30, .int .i64 31, .int .i64 32] 3)) l) :=
        ⟨HO2.out, HLN.out, HB2.out, HAT.out⟩
      clear HAT HO2 HB2 HLN hsz hg1 hg2
      go_wp2
      go_loopg [8] (8 * n) (fun g' s8 wx => ∃ (i : Nat) (l : List Bool), i + g' = 8 * n ∧ s8 = .int .i64 i ∧ Hid (Divs w g cap (8 * n + 32) ga wx l) ∧ Hid (num l / 2 ^ i = crcN i (val8 bs ^^^ 4294967295)))
      case atStart => exact ⟨0, l, by omega, rfl, HD, by show _ = _; rw [HB0.out]; simp [crcN]⟩
      case round =>
        obtain ⟨j, l3, hjg, rfl, HD3, HX3⟩ := hrel
        clear hga
        by_cases hj : j < 8 * n
        · have hjl : j < l3.length := by rw [HD3.out.len]; omega
          obtain ⟨hc, hf⟩ := HD3.out.at_ hjl
          have hbit := num_bit hjl
          rw [HX3.out] at hbit
          have tj : decide ((j : Int) < 8 * (n : Int)) = true := by simp; omega
          cases hb : l3[j] with
          | false =>
            rw [hb] at hc hbit
            have HX4 : Hid (num l3 / 2 ^ (j + 1) = crcN (j + 1) (val8 bs ^^^ 4294967295)) := by
              show _ = _
              rw [crcN_succ]; exact crc_even HX3.out (by simpa using hbit.symm)
            clear hbit hb hjl hf
            go_wp2
            go_roundg (gk - 1)
            case measure => omega
            case rel => exact ⟨j + 1, l3, by omega, by go_num, HD3, HX4⟩
          | true =>
            rw [hb] at hc hbit
            have HX4 : Hid ((num l3 ^^^ crcG 15 * 2 ^ j) / 2 ^ (j + 1) = crcN (j + 1) (val8 bs ^^^ 4294967295)) := by
              show _ = _
              rw [crcN_succ]; exact crc_odd HX3.out (by simpa using hbit.symm)
            clear hbit hb hjl hf
            have HN3 := Lib.hid (rfl : num l3 = num l3)
            obtain ⟨B, hB⟩ : ∃ B, num l3 = B := ⟨_, rfl⟩
            rw [hB] at HX4
            have HBe := Lib.hid hB
            clear hB HN3
            go_wp2
            clear hc
            go_loopg [9] 15 (fun g' s9 wx => ∃ (k : Nat) (l : List Bool), k + g' = 15 ∧ s9 = .int .i64 k ∧ Hid (Divs w g cap (8 * n + 32) ga wx l) ∧ Hid (num l = B ^^^ crcG k * 2 ^ j))
            case atStart => exact ⟨0, l3, by omega, rfl, HD3, by show _ = _; rw [HBe.out]; simp [crcG]⟩
            case round =>
              obtain ⟨k, l4, hkg, rfl, HD4, HX5⟩ := hrel
              by_cases hk : k < 15
              · have hka : k < crcAts.length := hk
                obtain ⟨a, ha⟩ : ∃ a, crcAts[k] = a := ⟨_, rfl⟩
                have ha32 : a ≤ 32 := by rw [← ha]; exact crcAts_le k hka
                have hca := HD4.out.ats k hka
                rw [ha] at hca
                have hpl : j + a < l4.length := by rw [HD4.out.len]; omega
                obtain ⟨hcb, hfb⟩ := HD4.out.at_ hpl
                have HG : Hid (crcG (k + 1) = crcG k ^^^ 2 ^ a) := by show _ = _; rw [crcG_step k hka, ha]
                have HF := Lib.hid (HD4.out.flip hne (j + a) (!l4[j + a]))
                have HX6 : Hid (num (l4.set (j + a) (!l4[j + a])) = B ^^^ crcG (k + 1) * 2 ^ j) := by
                  show _ = _
                  rw [num_flip hpl, HX5.out, HG.out, xor_scale, ← Nat.xor_assoc, Nat.pow_add, Nat.mul_comm (2 ^ j)]
                obtain ⟨bb, hbb⟩ : ∃ bb, l4[j + a] = bb := ⟨_, rfl⟩
                rw [hbb] at hcb HF HX6
                have tk : decide ((k : Int) < 15) = true := by simp; omega
                clear hbb ha hka hpl
                go_wp2
                go_region
                go_wp2
                go_roundg (gk - 1)
                case measure => omega
                case rel => exact ⟨k + 1, _, by omega, by go_num, HF.out.drew, HX6⟩
              · have tk : decide ((k : Int) < 15) = false := by simp; omega
                obtain rfl : k = 15 := by omega
                have HX7 : Hid (num l4 / 2 ^ (j + 1) = crcN (j + 1) (val8 bs ^^^ 4294967295)) := by show _ = _; rw [HX5.out]; exact HX4.out
                go_wp2
                go_roundg (8 * n - (j + 1))
                case measure => omega
                case rel => exact ⟨j + 1, l4, by omega, by go_num, HD4, HX7⟩
        · have hj8 : j = 8 * n := by omega
          have tj : decide ((j : Int) < 8 * (n : Int)) = false := by simp; omega
          obtain ⟨T, hT⟩ : ∃ T, l3.drop (8 * n) = T := ⟨_, rfl⟩
          have hTl : T.length = 32 := by rw [← hT, List.length_drop, HD3.out.len]; omega
          have hTn : num T = crcN (8 * n) (val8 bs ^^^ 4294967295) := by rw [← hT, num_drop, ← hj8, HX3.out]
          have hTc : ∀ t (ht : t < T.length), wr.cell? ⟨g, 8 * n + t, none⟩ = some (.bool T[t]) := by
            intro t ht
            have hp : 8 * n + t < l3.length := by rw [HD3.out.len]; omega
            rw [(HD3.out.at_ hp).1]
            simp only [← hT, List.getElem_drop]
          have HR : Hid (crcOf bs = num (T.map (!·))) := by
            show _ = _
            rw [num_not32 hTl, hTn, crcOf_whole HB.out, HL.out, Nat.xor_comm (val8 bs)]
          have HTC := Lib.hid hTc
          have HTL := Lib.hid hTl
          have HBL := Lib.hid HD3.out.bel
          clear hT hTl hTn hTc HD3 HX3 hj8
          obtain ⟨W3, hW3⟩ : ∃ W3, wr = W3 := ⟨_, rfl⟩
          subst hW3
          go_wp2
          go_loopg [10, 11] 32 (fun g' s10 s11 wx => ∃ (t v : Nat) (i : Int), t = g' ∧ t ≤ 32 ∧ i + 1 = (t : Int) ∧ s11 = .int .i64 i ∧ s10 = .int .u32 v ∧ v < 2 ^ (32 - t) ∧ Hid (v = num ((T.drop t).map (!·))) ∧ Hid (wr = wx))
          case atStart => exact ⟨32, 0, 31, rfl, by omega, by omega, rfl, rfl, by simp, by show _ = _; rw [List.drop_eq_nil_of_le (by rw [HTL.out]; omega)]; rfl, rfl⟩
          case round =>
            obtain ⟨t, v, i2, rfl, ht32, hi2, rfl, rfl, hv, HV, HW⟩ := hrel
            cases t with
            | zero =>
              have ti2 : decide ((0 : Int) ≤ i2) = false := by simp; omega
              have HI2 := Lib.hid hi2
              clear hi2
              go_wp2
              go_ret
              refine ⟨ret_int ?_, by rw [← HW.out]; exact HBL.out⟩
              rw [HR.out, HV.out]; rfl
            | succ t =>
              obtain rfl : i2 = (t : Int) := by omega
              have htT : t < T.length := by rw [HTL.out]; omega
              have hc := HTC.out t htT
              rw [HW.out] at hc
              have hv31 : v < 2147483648 := by
                have : 2 ^ (32 - (t + 1)) ≤ 2 ^ 31 := Nat.pow_le_pow_right (by decide) (by omega)
                omega
              have HV2 : Hid (num ((T.drop t).map (!·)) = (!T[t]).toNat + 2 * v) := by
                show _ = _
                rw [List.drop_eq_getElem_cons htT, List.map_cons, num, HV.out]
              have hv2 : 2 * v + 1 < 2 ^ (32 - t) := by
                rw [show 32 - t = 32 - (t + 1) + 1 by omega, Nat.pow_succ]
                omega
              cases hb : T[t] with
              | false =>
                rw [hb] at hc HV2
                clear hb htT hi2
                go_wp2
                go_roundg t
                case measure => omega
                case rel => exact ⟨t, 2 * v + 1, (t : Int) - 1, rfl, by omega, by omega, by go_num, by go_num, hv2, by show _ = _; rw [HV2.out]; simp; omega, HW⟩
              | true =>
                rw [hb] at hc HV2
                clear hb htT hi2
                go_wp2
                go_roundg t
                case measure => omega
                case rel => exact ⟨t, 2 * v, (t : Int) - 1, rfl, by omega, by omega, by go_num, by go_num, by omega, by show _ = _; rw [HV2.out]; simp, HW⟩
end Go.Proofs.Ytdheppfooapneaa

/- lapidaryref00.Copy; lapidaryref02.Seal and Check. -/
namespace Go.Proofs.Ytdheppfooapneaa
open Go.RowKit

theorem copy_any (A : Option Addr) (n c : Nat) (bs : List Nat) (w : World) (h : Has w A n c (u8s bs)) (hn : n ≤ 1000000) :
    Calls Try.prog 37 #[.slice A n c] w (Wrote w bs) := by
  have HH := Lib.hid h
  clear h
  go_enter Try.func37, Try.ntmps37
  go_wp2_with (at_builtin; refine wpList_join rfl _ _ 22 rfl elem8 w.heap.size _ [] rfl (Own.nil _ _ _) _ _ _ _ rfl HH.out (u8s_one _) (by simp; omega) (by decide) (Nat.le_refl _) ?_; intro v' w' hown hbel)
  go_ret
  exact Wrote.of hown hbel

/-- Bytes, and their checksum behind them. -/
def sealN (bs : List Nat) : List Nat := bs ++ fixedN (crcOf bs) 4
theorem sealN_len (bs : List Nat) : (sealN bs).length = bs.length + 4 := by rw [sealN, List.length_append, fixedN_len]
theorem sealN_byte {bs : List Nat} (h : ∀ x ∈ bs, x < 256) : ∀ x ∈ sealN bs, x < 256 := by
  intro x hx
  rcases List.mem_append.1 hx with hx | hx
  · exact h x hx
  · exact fixedN_byte _ _ x hx

set_option maxRecDepth 100000 in
theorem refSeal_any (A : Option Addr) (n c : Nat) (bs : List Nat) (w : World) (h : Has w A n c (u8s bs)) (hb : ∀ x ∈ bs, x < 256) (hn : n ≤ 100000) :
    Calls Try.prog 46 #[.slice A n c] w (Wrote w (sealN bs)) := by
  have hlt := crcOf_lt hb
  have HO := Lib.hid (refOf_any A n c bs w h hb hn)
  have HC : Hid (∀ W, Below w.heap.size w W → Calls Try.prog 37 #[.slice A n c] W (Wrote W bs)) := fun W hW => copy_any A n c bs W (h.kept hW) (by omega)
  have hl : bs.length = n := by have := h.len; rw [u8s_len] at this; exact this
  have HL := Lib.hid hl
  have HS : Hid (sealN bs = bs ++ fixedN (crcOf bs) 4) := rfl
  clear h hb hl
  generalize crcOf bs = x at *
  go_enter Try.func46, Try.ntmps46
  go_wp2_with fail
  refine HO.out.mono ?_
  rintro e w1 ⟨rfl, hb1⟩
  have HB1 := Lib.hid hb1
  clear hb1
  go_wp2_with fail
  refine (HC.out _ HB1.out).mono ?_
  rintro e w2 ⟨A2, c2, rfl, hh2, ho2, hb2⟩
  have HO2 := Lib.hid ho2
  have HB2 := Lib.hid hb2
  have HHs := Lib.hid HB2.out.size
  clear hh2 hb2 ho2
  go_wp2_with (at_builtin; refine wpList_join rfl _ _ 22 rfl elem8 w1.heap.size _ _ rfl (HO2.out.alloc _) _ 4 4 [_, _, _, _] rfl (Has.new_at _ #[_, _, _, _] _ _ rfl) (by intro u hu; simp at hu; rcases hu with rfl | rfl | rfl | rfl <;> rfl) (by rw [u8s_len, HL.out]; omega) (by decide) (by simp; have := HHs.out; omega) ?_; intro v3 w3 hown3 hbel3)
  go_ret
  rw [HS.out]
  have e : u8s (bs ++ fixedN x 4) = u8s bs ++ [.int .u8 ((x : Int) % 256), .int .u8 ((x : Int) / 256 % 256), .int .u8 ((x : Int) / 65536 % 256), .int .u8 ((x : Int) / 16777216)] := by
    rw [u8s_app]
    congr 1
    have e3 : x / 16777216 % 256 = x / 16777216 := Nat.mod_eq_of_lt (by omega)
    simp [u8s, fixedN, dig, List.range_succ, e3]
  refine Wrote.of ?_ ?_
  · rw [e]
    exact hown3.less HB1.out.size
  · exact (HB1.out.trans ((HB2.out.mono HB1.out.size).trans ((Below.refl _ _).alloc (by have := HHs.out; have := HB1.out.size; omega) _))).trans (hbel3.mono HB1.out.size)

/-- What Check answers. -/
def checkN (bs : List Nat) : List Nat × Nat :=
  if bs.length < 4 then ([], 10) else if sealN (bs.take (bs.length - 4)) = bs then (bs.take (bs.length - 4), 0) else ([], 30)
end Go.Proofs.Ytdheppfooapneaa

/- lapidaryref02.Check. -/
namespace Go.Proofs.Ytdheppfooapneaa
open Go.RowKit

theorem checkN_short {bs : List Nat} (h : bs.length < 4) : checkN bs = ([], 10) := if_pos h
theorem checkN_sum {bs : List Nat} (h : ¬ bs.length < 4) (h2 : ¬ sealN (bs.take (bs.length - 4)) = bs) : checkN bs = ([], 30) := by
  unfold checkN; rw [if_neg h, if_neg h2]
theorem checkN_ok {bs : List Nat} (h : ¬ bs.length < 4) (h2 : sealN (bs.take (bs.length - 4)) = bs) : checkN bs = (bs.take (bs.length - 4), 0) := by
  unfold checkN; rw [if_neg h, if_pos h2]

set_option maxRecDepth 100000 in
theorem refCheck_any (A : Option Addr) (n c : Nat) (bs : List Nat) (w : World) (h : Has w A n c (u8s bs)) (hb : ∀ x ∈ bs, x < 256) (hn : n ≤ 100000) :
    Calls Try.prog 36 #[.slice A n c] w (Fixd w (checkN bs)) := by
  have hl : bs.length = n := by have := h.len; rw [u8s_len] at this; exact this
  by_cases h4 : n < 4
  · have HF := Lib.hid (checkN_short (bs := bs) (by omega))
    have t4 : decide ((n : Int) < 4) = true := by simp; omega
    clear h hb hl
    go_enter Try.func36, Try.ntmps36
    go_wp2
    go_ret2
    rw [HF.out]
    exact ⟨_, rfl, Own.nil _ _ _, Below.refl _ _⟩
  · have t4 : decide ((n : Int) < 4) = false := by simp; omega
    obtain ⟨b, off, rfl, _, _⟩ := h.spot (by omega)
    obtain ⟨k, hk⟩ : ∃ k, n = k + 4 := ⟨n - 4, by omega⟩
    have hcap := h.cap
    have hc0 : ¬ c = 0 := by omega
    have hhd := h.head (m := k) (by omega)
    rw [show (u8s bs).take k = u8s (bs.take k) by simp [u8s]] at hhd
    have hbk : ∀ x ∈ bs.take k, x < 256 := fun x hx => hb x (List.mem_of_mem_take hx)
    have HS := Lib.hid (refSeal_any _ k c (bs.take k) w hhd hbk (by omega))
    have HC : Hid (∀ W, Below w.heap.size w W → Calls Try.prog 37 #[.slice (some ⟨b, off, none⟩) k c] W (Wrote W (bs.take k))) := fun W hW => copy_any _ k c (bs.take k) W (hhd.kept hW) (by omega)
    have HH := Lib.hid h
    have HBy := Lib.hid hb
    have HSB := Lib.hid (sealN_byte hbk)
    have HO := Lib.hid (checkN_ok (bs := bs) (by omega))
    have HN := Lib.hid (checkN_sum (bs := bs) (by omega))
    rw [show bs.length - 4 = k by omega] at HO HN
    subst hk
    clear h hb hl h4 hhd hbk
    generalize bs.take k = hd at *
    by_cases he : sealN hd = bs
    · have te : decide (sealN hd = bs) = true := decide_eq_true he
      have HE := Lib.hid he
      clear he
      go_enter Try.func36, Try.ntmps36
      go_wp2_with (first
        | (go_at_call 46; refine HS.out.mono ?_; rintro e w1 ⟨A1, c1, rfl, hh1, ho1, hb1⟩; have HH1 := Lib.hid hh1; have HB1 := Lib.hid hb1; clear hh1 ho1 hb1)
        | (go_at_call 24; refine (same_any _ _ _ _ _ _ _ bs _ HH1.out (HH.out.kept HB1.out) HSB.out HBy.out).mono ?_; rintro e w' ⟨rfl, rfl⟩)
        | (go_at_call 37; refine (HC.out _ HB1.out).mono ?_; rintro e w2 ⟨A2, c2, rfl, hh2, ho2, hb2⟩))
      go_ret2
      rw [HO.out HE.out]
      exact ⟨_, rfl, ho2.less HB1.out.size, new_call HB1.out hb2⟩
    · have te : decide (sealN hd = bs) = false := decide_eq_false he
      have HE := Lib.hid he
      clear he
      go_enter Try.func36, Try.ntmps36
      go_wp2_with (first
        | (go_at_call 46; refine HS.out.mono ?_; rintro e w1 ⟨A1, c1, rfl, hh1, ho1, hb1⟩; have HH1 := Lib.hid hh1; have HB1 := Lib.hid hb1; clear hh1 ho1 hb1)
        | (go_at_call 24; refine (same_any _ _ _ _ _ _ _ bs _ HH1.out (HH.out.kept HB1.out) HSB.out HBy.out).mono ?_; rintro e w' ⟨rfl, rfl⟩))
      go_ret2
      rw [HN.out HE.out]
      exact ⟨_, rfl, Own.nil _ _ _, HB1.out⟩
end Go.Proofs.Ytdheppfooapneaa

/- crc.step: one bit of the division. -/
namespace Go.Proofs.Ytdheppfooapneaa
open Go.RowKit

theorem u32_low {r : Nat} (h : r < 4294967296) : bits .and .u32 (r : Int) 1 = ((r % 2 : Nat) : Int) := by
  have := u32_and_nat r 1 h (by decide)
  rw [Nat.and_one_is_mod] at this
  exact this
theorem u32_poly {r : Nat} (h : r < 4294967296) : bits .xor .u32 ((r : Int) / 2) 3988292384 = (((r / 2) ^^^ crcPoly : Nat) : Int) := by
  have := u32_xor_nat (r / 2) 3988292384 (by omega) (by decide)
  rw [show ((r : Int) / 2) = ((r / 2 : Nat) : Int) by omega]
  exact this

theorem step_any (r : Nat) (w : World) (hr : r < 4294967296) : Calls Try.prog 56 #[.int .u32 r] w fun e w' => e = .returned (.int .u32 (crc1 r : Int)) ∧ w = w' := by
  have h1 := u32_low hr
  have HP := Lib.hid (u32_poly hr)
  by_cases h : r % 2 = 1
  · have HC : Hid (crc1 r = (r / 2) ^^^ crcPoly) := by show _ = _; unfold crc1; rw [if_pos h]
    rw [h] at h1
    clear h
    go_enter Try.func56, Try.ntmps56
    go_wp2
    go_ret
    refine ⟨ret_int ?_, rfl⟩
    rw [HC.out]; exact HP.out
  · have HC : Hid (crc1 r = r / 2) := by show _ = _; unfold crc1; rw [if_neg h]
    rw [show r % 2 = 0 by omega] at h1
    clear h
    go_enter Try.func56, Try.ntmps56
    go_wp2
    go_ret
    refine ⟨ret_int ?_, rfl⟩
    rw [HC.out]; omega
end Go.Proofs.Ytdheppfooapneaa

/- crc.remainders: the table of bytes' remainders. -/
namespace Go.Proofs.Ytdheppfooapneaa
open Go.RowKit

theorem tab_info : (Try.prog.info? 89).map (fun i => (i.zero, i.size)) = some (some (.agg (Array.replicate 256 (.int .u32 0))), 256) := by kernel_rfl

/-- A block that is known whole. -/
def Blk (w : World) (g : Nat) (t : TypeId) (cs : Array Value) : Prop := w.heap[g]? = some (.cells cs t (0, 0))
section
variable {w w' : World} {g : Nat} {t : TypeId} {cs : Array Value}
theorem Blk.lt (h : Blk w g t cs) : g < w.heap.size := by
  rcases Nat.lt_or_ge g w.heap.size with hlt | hge
  · exact hlt
  · unfold Blk at h; rw [Array.getElem?_eq_none hge] at h; cases h
theorem Blk.cell (h : Blk w g t cs) (i : Nat) : w.cell? ⟨g, i, none⟩ = cs[i]? := cell_of_row w g i cs t (0, 0) h
theorem Blk.frozen (h : Blk w g t cs) (i : Nat) : w.frozen? ⟨g, i, none⟩ = false := by
  unfold Blk at h
  simp [World.frozen?, h]
theorem Blk.new (w : World) (t : TypeId) (cs : Array Value) : Blk (w.alloc (.cells cs t)) w.heap.size t cs := heap_alloc_new w _
theorem Blk.alloc (h : Blk w g t cs) (o : Obj) : Blk (w.alloc o) g t cs := (Below.heap_alloc w o g h.lt).trans h
theorem Blk.set_ (h : Blk w g t cs) (i : Nat) (u : Value) : Blk (w.setCell ⟨g, i, none⟩ u) g t (cs.setIfInBounds i u) := by
  unfold Blk at h ⊢
  simp [World.setCell, Array.getElem?_modify, h]
theorem Blk.far (h : Blk w g t cs) {p : Addr} (hp : g ≠ p.block) (u : Value) : Blk (w.setCell p u) g t cs := (Below.heap_setCell w p u g hp).trans h
theorem Blk.below {B : Nat} (h : Blk w g t cs) (hb : Below B w w') (hg : g < B) : Blk w' g t cs := (hb.block g hg).trans h
end

/-- A whole row of a new block. -/
theorem below_row {B g : Nat} {w w1 : World} (h : Below B w w1) (hg : B ≤ g) (cs : Array Value) : Below B w (w1.setRow g cs) :=
  ⟨h.os, h.tape, h.output, by rw [setRow_size]; exact h.size, fun k hk => (setRow_other w1 g k cs (by omega)).trans (h.block k hk)⟩

theorem results_cell {fn : Func} {p : Tmp} {ty : TypeId} (h : fn.results = #[.cell p ty]) {tmps : Array Value} {P : Program} {w : World} {a : Addr} {v : Value} (hp : tmps.getD p undef = .pointer (some a))
    (hl : (loadVar ty a).run P w = .ok v w) : (results fn tmps).run P w = .ok v w := by
  have hp' : tmps[p]?.getD undef = .pointer (some a) := by rw [← hp]; simp
  simp only [results, h]
  simp [hp', asAddr, hl]

/-- A table of 256 words. -/
def tabV (f : Nat → Nat) : Array Value := Array.ofFn (n := 256) fun j => .int .u32 (f j.val : Int)
theorem tabV_size (f : Nat → Nat) : (tabV f).size = 256 := by simp [tabV]
theorem tabV_at (f : Nat → Nat) {j : Nat} (h : j < 256) : (tabV f)[j]? = some (.int .u32 (f j : Int)) := by simp [tabV, h]
theorem tabV_set (f : Nat → Nat) (j v : Nat) : (tabV f).setIfInBounds j (.int .u32 (v : Int)) = tabV fun i => if i = j then v else f i := by
  apply Array.ext (by simp [tabV])
  intro i h1 h2
  rw [Array.getElem_setIfInBounds (by simpa using h1)]
  simp only [tabV, Array.getElem_ofFn]
  by_cases e : i = j
  · subst e; simp
  · rw [if_neg (fun h => e h.symm), if_neg e]
theorem tabV_zero : Array.replicate 256 (Value.int .u32 0) = tabV fun _ => 0 := by
  apply Array.ext (by simp [tabV])
  intro i h1 h2
  simp [tabV]
theorem tabV_one (f : Nat → Nat) : (tabV f).all (·.oneCell') = true := by
  rw [Array.all_eq_true]
  intro i h
  simp [tabV, Value.oneCell']

/-- While the table is made: it lies in the second new block, the result's place in the first. -/
structure Tabs (w wx : World) (f : Nat → Nat) : Prop where
  res : Blk wx w.heap.size 89 (tabV fun _ => 0)
  tab : Blk wx (w.heap.size + 1) 89 (tabV f)
  bel : Below w.heap.size w wx
theorem Tabs.set {w wx : World} {f : Nat → Nat} (h : Tabs w wx f) (j v : Nat) : Tabs w (wx.setCell ⟨w.heap.size + 1, j, none⟩ (.int .u32 (v : Int))) (fun i => if i = j then v else f i) :=
  ⟨h.res.far (by simp) _, by have := h.tab.set_ j (.int .u32 (v : Int)); rw [tabV_set] at this; exact this, h.bel.setCell (by simp) _⟩
theorem Tabs.drew {w wx : World} {f : Nat → Nat} (h : Tabs w wx f) : Tabs w wx.drew f := ⟨h.res, h.tab, ⟨h.bel.os, h.bel.tape, h.bel.output, h.bel.size, h.bel.block⟩⟩
theorem Tabs.at_ {w wx : World} {f : Nat → Nat} (h : Tabs w wx f) {j : Nat} (hj : j < 256) : wx.cell? ⟨w.heap.size + 1, j, none⟩ = some (.int .u32 (f j : Int)) ∧ wx.frozen? ⟨w.heap.size + 1, j, none⟩ = false :=
  ⟨by rw [h.tab.cell, tabV_at f hj], h.tab.frozen j⟩

def bitsT : Nat → Nat → Nat
  | 0 => fun _ => 0
  | i + 1 => fun j => if j = 2 ^ (7 - i) then crcN (i + 1) 1 else bitsT i j
def lowOff (c : Nat) : Nat := c &&& (c - 1)
def lowBit (c : Nat) : Nat := c &&& (256 - c)
def tabAt (c j : Nat) : Nat := if j < c then crcN 8 j else bitsT 8 j
theorem tab_facts : ∀ c : Nat, c < 256 → bits .and .i64 (c : Int) ((c : Int) - 1) = (lowOff c : Int) ∧ bits .and .i64 (c : Int) (-(c : Int)) = (lowBit c : Int) ∧ lowOff c < 256 ∧ lowBit c < 256 ∧
    tabAt c (lowOff c) ^^^ tabAt c (lowBit c) = crcN 8 c ∧ tabAt c (lowOff c) < 4294967296 ∧ tabAt c (lowBit c) < 4294967296 := by decide +kernel

set_option maxRecDepth 100000 in
set_option maxHeartbeats 400000 in
theorem remainders_any (w : World) : Calls Try.prog 55 #[] w fun e w' => e = .returned (.agg (tabV (crcN 8))) ∧ Below w.heap.size w w' := by
  obtain ⟨kz, ks⟩ := zero_of_info tab_info
  have HS := Lib.hid ks
  clear ks
  go_enter Try.func55, Try.ntmps55
  go_wp2
  go_loopg [2, 5] 8 (fun g s2 s5 wx => ∃ i : Nat, i + g = 8 ∧ s5 = .int .i64 i ∧ s2 = .int .u32 (crcN i 1) ∧ Hid (Tabs w wx (bitsT i)))
  case atStart =>
    refine ⟨0, by omega, rfl, rfl, ?_⟩
    rw [tabV_zero]
    refine ⟨(Blk.new _ _ _).alloc _, ?_, new_alloc (new_alloc (Below.refl _ _) _) _⟩
    have := Blk.new (w.alloc (.cells (tabV fun _ => 0) 89)) 89 (tabV fun _ => 0)
    rw [show (w.alloc (.cells (tabV fun _ => 0) 89)).heap.size = w.heap.size + 1 by simp] at this
    exact this
  case round =>
    obtain ⟨i, hig, rfl, rfl, HT⟩ := hrel
    have hc1 : crcN i 1 < 4294967296 := crcN_lt i (by decide)
    by_cases hi : i < 8
    · have HN : Hid (crc1 (crcN i 1) = crcN (i + 1) 1) := by
        show _ = _
        have := crcN_add i 1 1
        rw [this]; rfl
      obtain ⟨p, hp⟩ : ∃ p, 2 ^ (7 - i) = p := ⟨_, rfl⟩
      have hp8 : p < 256 := by rw [← hp]; exact Nat.lt_of_le_of_lt (Nat.pow_le_pow_right (n := 2) (by decide) (show 7 - i ≤ 7 by omega)) (by decide)
      have hpw : wrap64 ((2 : Int) ^ (7 - i)) = (p : Int) := by
        rw [show ((2 : Int) ^ (7 - i)) = (p : Int) by rw [← hp]; simp]
        unfold wrap64; omega
      obtain ⟨hcell, hfro⟩ := HT.out.at_ hp8
      have HT2 := Lib.hid (HT.out.set p (crcN (i + 1) 1))
      have HP := Lib.hid hp
      clear kz hp
      have R : Hid (Tabs w (wr.setCell ⟨w.heap.size + 1, p, none⟩ (.int .u32 (crc1 (crcN i 1) : Int))) (bitsT (i + 1))) := by
        rw [HN.out]
        have e : bitsT (i + 1) = fun j => if j = p then crcN (i + 1) 1 else bitsT i j := by
          rw [← HP.out]; rfl
        rw [e]; exact HT2
      go_wp2_with (go_at_call 56; refine (step_any _ _ hc1).mono ?_; rintro e w' ⟨rfl, rfl⟩)
      go_roundg (gk - 1)
      case measure => omega
      case rel => exact ⟨i + 1, by omega, by go_num, by rw [HN.out], R⟩
    · obtain rfl : i = 8 := by omega
      clear kz
      go_wp2
      go_loopg [16] 256 (fun g s16 wx => ∃ (c : Nat) (f : Nat → Nat), c + g = 256 ∧ s16 = .int .i64 c ∧ Hid (Tabs w wx f) ∧ Hid (∀ j, j < 256 → f j = tabAt c j))
      case atStart => exact ⟨0, _, by omega, rfl, HT, fun j _ => by simp [tabAt]⟩
      case round =>
        obtain ⟨c, f, hcg, rfl, HT2, HF⟩ := hrel
        by_cases hc : c < 256
        · obtain ⟨fa, fb, ha, hb, hx, h1, h2⟩ := tab_facts c hc
          obtain ⟨c1, f1⟩ := HT2.out.at_ ha
          obtain ⟨c2, f2⟩ := HT2.out.at_ hb
          obtain ⟨c3, f3⟩ := HT2.out.at_ hc
          rw [HF.out _ ha] at c1
          rw [HF.out _ hb] at c2
          have hxr := u32_xor_nat _ _ h1 h2
          rw [hx] at hxr
          have HT3 := Lib.hid (HT2.out.set c (crcN 8 c))
          have HF3 : Hid (∀ j, j < 256 → (if j = c then crcN 8 c else f j) = tabAt (c + 1) j) := by
            intro j hj
            by_cases e : j = c
            · subst e; rw [if_pos rfl]; unfold tabAt; rw [if_pos (by omega)]
            · rw [if_neg e, HF.out j hj]; unfold tabAt
              by_cases hjc : j < c
              · rw [if_pos hjc, if_pos (by omega)]
              · rw [if_neg hjc, if_neg (by omega)]
          generalize lowOff c = a at *
          generalize lowBit c = b at *
          generalize tabAt c a = ta at *
          generalize tabAt c b = tb at *
          clear hx f1 f2
          go_wp2
          go_region
          go_wp2
          go_roundg (gk - 1)
          case measure => omega
          case rel => exact ⟨c + 1, _, by omega, by go_num, HT3.out.drew, HF3⟩
        · obtain rfl : c = 256 := by omega
          have ef : tabV f = tabV (crcN 8) := by
            unfold tabV
            congr 1
            funext j
            rw [HF.out _ j.isLt]; unfold tabAt; rw [if_pos j.isLt]
          have HB1 := HT2.out.tab
          rw [ef] at HB1
          have HB2 := HT2.out.res
          have HBel := Lib.hid HT2.out.bel
          have hsz : (tabV (crcN 8)).size = 256 := tabV_size _
          have hone := tabV_one (crcN 8)
          have HSZ := Lib.hid hsz
          have HB1' := Lib.hid HB1
          have HB2' := Lib.hid HB2
          clear hsz
          obtain ⟨T, hT⟩ : ∃ T, tabV (crcN 8) = T := ⟨_, rfl⟩
          rw [hT] at hone HSZ HB1'
          have HTT := Lib.hid hT
          clear hT
          clear ef HF HT2 HT HB1 HB2
          go_wp2
          refine wp_load_mid _ _ rfl (w.heap.size + 1) 0 rfl T.toList _ (fun j v hv => by rw [Nat.zero_add, HB1'.out.cell j]; simpa using hv) Try.underlying89 rfl (by rw [Array.length_toList, HSZ.out]; exact HS.out) ?_
          go_wp2_with (refine wpList_store_row rfl _ _ _ rfl w.heap.size T rfl rfl _ _ HB2'.out (by rw [HSZ.out]; exact HS.out) (by rw [HSZ.out, tabV_size]) hone ?_)
          have hrow : (wr.setRow w.heap.size T).heap[w.heap.size]? = some (.cells T 89 (0, 0)) := by
            have := HB2'.out
            unfold Blk at this
            simp [World.setRow, Array.getElem?_modify, this]
          have hld := run_loadVar_row (P := Try.prog) _ _ _ _ _ _ _ hrow Try.underlying89 rfl (by rw [HSZ.out]; exact HS.out)
          refine bodyPost_ret (v := .agg T) ?_ rfl ⟨by rw [HTT.out], below_row HBel.out (Nat.le_refl _) T⟩
          exact results_cell Try.results55 rfl hld
end Go.Proofs.Ytdheppfooapneaa

/- crc.goOn: the checksum of parts, one behind the other. -/
namespace Go.Proofs.Ytdheppfooapneaa
open Go.RowKit

/-- Slice values that hold these rows of bytes. -/
def RowsOf (w : World) (vs : List Value) (ls : List (List Nat)) : Prop := vs.length = ls.length ∧ ∀ i (h : i < ls.length), ∃ A n c, vs[i]? = some (.slice A n c) ∧ Has w A n c (u8s ls[i])
/-- The slice (A, n, c) holds the rows ls. -/
def Parts (w : World) (A : Option Addr) (n c : Nat) (ls : List (List Nat)) : Prop := ∃ vs, Has w A n c vs ∧ RowsOf w vs ls
theorem RowsOf.kept {w w' : World} {vs : List Value} {ls : List (List Nat)} (h : RowsOf w vs ls) (hb : Below w.heap.size w w') : RowsOf w' vs ls :=
  ⟨h.1, fun i hi => by obtain ⟨A, n, c, h1, h2⟩ := h.2 i hi; exact ⟨A, n, c, h1, h2.kept hb⟩⟩
theorem Parts.kept {w w' : World} {A : Option Addr} {n c : Nat} {ls : List (List Nat)} (h : Parts w A n c ls) (hb : Below w.heap.size w w') : Parts w' A n c ls := by
  obtain ⟨vs, h1, h2⟩ := h
  exact ⟨vs, h1.kept hb, h2.kept hb⟩
theorem Parts.len {w : World} {A : Option Addr} {n c : Nat} {ls : List (List Nat)} (h : Parts w A n c ls) : ls.length = n := by
  obtain ⟨vs, h1, h2⟩ := h
  rw [← h2.1]; exact h1.len
theorem Parts.at_ {w : World} {A : Option Addr} {n c : Nat} {ls : List (List Nat)} (h : Parts w A n c ls) {i : Nat} (hi : i < ls.length) :
    ∃ b off A' n' c', A = some ⟨b, off, none⟩ ∧ w.cell? ⟨b, off + i, none⟩ = some (.slice A' n' c') ∧ Has w A' n' c' (u8s ls[i]) := by
  have hl := h.len
  obtain ⟨vs, h1, h2⟩ := h
  obtain ⟨b, off, hA, _, hc⟩ := h1.spot (by omega)
  obtain ⟨A', n', c', h3, h4⟩ := h2.2 i hi
  exact ⟨b, off, A', n', c', hA, hc i _ h3, h4⟩
theorem Parts.none (w : World) : Parts w Option.none 0 0 [] := ⟨[], Has.none _ _ _ fun _ => rfl, rfl, fun i hi => absurd hi (by simp)⟩

/-- By the table. -/
theorem crcByte_tab (r c : Nat) : crcByte r c = (r / 256) ^^^ crcN 8 ((r % 256) ^^^ c) := by
  unfold crcByte
  have e : r ^^^ c = ((r % 256) ^^^ c) ^^^ (2 ^ 8 * (r / 256)) := by
    have h := low_join (c := r % 256) (y := r / 256) (by omega)
    have h2 : r % 256 + 256 * (r / 256) = r := by omega
    rw [h2] at h
    rw [show (2 ^ 8 * (r / 256)) = 256 * (r / 256) from rfl]
    conv => lhs; rw [h]
    rw [Nat.xor_assoc, Nat.xor_comm (256 * (r / 256)), ← Nat.xor_assoc]
  rw [e, crcN_xor, crcN_pow, Nat.xor_comm]

theorem u32_not {s : Nat} (h : s < 4294967296) : bits .xor .u32 IntKind.u32.max (s : Int) = ((s ^^^ 4294967295 : Nat) : Int) := by
  have := u32_xor_nat 4294967295 s (by decide) h
  rw [Nat.xor_comm] at this
  exact this
theorem flat_snoc {ls : List (List Nat)} {k : Nat} (h : k < ls.length) : (ls.take (k + 1)).flatten = (ls.take k).flatten ++ ls[k] := by
  rw [List.take_succ_eq_append_getElem h, List.flatten_append]; simp only [List.flatten_cons, List.flatten_nil, List.append_nil]
def goOnN (s : Nat) (ls : List (List Nat)) : Nat := crcAll (s ^^^ 4294967295) ls.flatten ^^^ 4294967295

set_option maxRecDepth 100000 in
set_option maxHeartbeats 400000 in
theorem goOn_any (s : Nat) (A : Option Addr) (n c : Nat) (ls : List (List Nat)) (w : World) (hs : s < 4294967296) (h : Parts w A n c ls) (hb : ∀ l ∈ ls, ∀ x ∈ l, x < 256) (hn : n ≤ 281474976710656) (hm : ∀ l ∈ ls, l.length ≤ 281474976710656) :
    Calls Try.prog 54 #[.int .u32 s, .slice A n c] w fun e w' => e = .returned (.int .u32 (goOnN s ls : Int)) ∧ Below w.heap.size w w' := by
  obtain ⟨kz, ks⟩ := zero_of_info tab_info
  have HS := Lib.hid ks
  have HL := Lib.hid h.len
  have HP := Lib.hid h
  have HB := Lib.hid hb
  have HM := Lib.hid hm
  clear ks h hb hm
  have hone := Lib.hid (tabV_one (crcN 8))
  have HTs := Lib.hid (tabV_size (crcN 8))
  go_enter Try.func54, Try.ntmps54
  go_wp2
  go_step3
  go_wp2_with (first
    | (go_at_call 55; refine (remainders_any _).mono ?_; rintro e w1 ⟨rfl, hb1⟩; have HB1 := Lib.hid hb1; clear hb1)
    | (refine wpList_store_row rfl 89 _ _ rfl w1.heap.size (tabV (crcN 8)) rfl rfl 89 _ (heap_alloc_last _ _) (by rw [HTs.out]; exact HS.out) (by rw [HTs.out]; simp) hone.out ?_))
  go_step3
  rw [World.setRow_alloc_new]
  have HPa : Hid (Parts (w1.alloc (.cells (tabV (crcN 8)) 89)) A n c ls) := HP.out.kept (new_alloc HB1.out _)
  have HTa : Hid (∀ j, j < 256 → (w1.alloc (.cells (tabV (crcN 8)) 89)).cell? ⟨w1.heap.size, j, none⟩ = some (.int .u32 (crcN 8 j : Int))) :=
    fun j hj => by rw [(Blk.new w1 _ _).cell, tabV_at _ hj]
  have HBW := Lib.hid (new_alloc HB1.out (.cells (tabV (crcN 8)) 89))
  obtain ⟨W, hW⟩ : ∃ W, w1.alloc (.cells (tabV (crcN 8)) 89) = W := ⟨_, rfl⟩
  rw [hW] at HPa HTa HBW ⊢
  clear hW HB1 kz HP
  generalize w1.heap.size = gt at *
  go_wp2
  go_loopg [6, 15] n (fun g s6 s15 wx => ∃ k : Nat, k + g = n ∧ s15 = .int .i64 k ∧ s6 = .int .u32 (crcAll (s ^^^ 4294967295) (ls.take k).flatten : Nat) ∧ W = wx)
  case atStart => exact ⟨0, by omega, rfl, by rw [u32_not hs]; simp [crcAll], rfl⟩
  case round =>
    obtain ⟨k, hkg, rfl, rfl, rfl⟩ := hrel
    by_cases hk : k < n
    · have hkl : k < ls.length := by rw [HL.out]; exact hk
      obtain ⟨b, off, A', n', c', rfl, hcell, hhas⟩ := HPa.out.at_ hkl
      have HX : Hid ((ls.take (k + 1)).flatten = (ls.take k).flatten ++ ls[k]) := flat_snoc hkl
      have hrb : crcAll (s ^^^ 4294967295) (ls.take k).flatten < 4294967296 := crcAll_lt _ (Nat.xor_lt_two_pow (n := 32) hs (by decide)) (fun x hx => by
        obtain ⟨l, hl, hx⟩ := List.mem_flatten.1 hx
        exact HB.out l (List.mem_of_mem_take hl) x hx)
      have HLB : Hid (∀ x ∈ ls[k], x < 256) := HB.out _ (List.getElem_mem hkl)
      have hn' : n' ≤ 281474976710656 := by
        have h1 := hhas.len
        rw [u8s_len] at h1
        have h2 := HM.out _ (List.getElem_mem hkl)
        omega
      obtain ⟨l, hl⟩ : ∃ l, ls[k] = l := ⟨_, rfl⟩
      rw [hl] at HX HLB hhas
      obtain ⟨r, hr⟩ : ∃ r, crcAll (s ^^^ 4294967295) (ls.take k).flatten = r := ⟨_, rfl⟩
      rw [hr] at hrb ⊢
      have HR := Lib.hid hr
      have HHs := Lib.hid hhas
      have HLn : Hid (l.length = n') := by have h1 := hhas.len; rw [u8s_len] at h1; exact h1
      have tk : decide ((k : Int) < (n : Int)) = true := by simp; omega
      clear hl hr hhas hkl
      go_wp2
      clear hcell
      go_loopg [6, 9] n' (fun g s6 s9 wx => ∃ j : Nat, j + g = n' ∧ s9 = .int .i64 j ∧ s6 = .int .u32 (crcAll r (l.take j) : Nat) ∧ crcAll r (l.take j) < 4294967296 ∧ W = wx)
      case atStart => exact ⟨0, by omega, rfl, rfl, hrb, rfl⟩
      case round =>
        obtain ⟨j, hjg, rfl, rfl, hq, rfl⟩ := hrel
        by_cases hj : j < n'
        · have hjl : j < l.length := by rw [HLn.out]; exact hj
          obtain ⟨b', off', rfl, _, hc⟩ := HHs.out.spot (by omega)
          have hcl := hc j _ (u8s_at hjl)
          have hx8 := HLB.out _ (List.getElem_mem hjl)
          have HY : Hid (crcAll r (l.take (j + 1)) = crcByte (crcAll r (l.take j)) l[j]) := by
            show _ = _
            rw [List.take_succ_eq_append_getElem hjl, crcAll_app]; rfl
          have hq2 : crcByte (crcAll r (l.take j)) l[j] < 4294967296 := crcByte_lt hq hx8
          generalize crcAll r (l.take j) = q at *
          generalize l[j] = x at *
          have HZ := Lib.hid (crcByte_tab q x)
          have hi8 : (q % 256) ^^^ x < 256 := Nat.xor_lt_two_pow (n := 8) (by omega) hx8
          have hi := u8_xor_nat (q % 256) x (by omega) hx8
          rw [show ((q % 256 : Nat) : Int) = (q : Int) % 256 by omega] at hi
          have htc := HTa.out _ hi8
          generalize (q % 256) ^^^ x = ix at *
          have hxx := u32_xor_nat (q / 256) (crcN 8 ix) (by omega) (crcN_lt 8 (by omega))
          rw [← HZ.out, show ((q / 256 : Nat) : Int) = (q : Int) / 256 by omega] at hxx
          generalize crcN 8 ix = tv at *
          have tj : ((j : Int) == (n' : Int)) = false := by rw [beq_eq_false_iff_ne]; omega
          clear hc hjl HZ
          go_wp2
          go_roundg (gk - 1)
          case measure => omega
          case rel => exact ⟨j + 1, by omega, by go_num, by rw [HY.out], by rw [HY.out]; exact hq2, rfl⟩
        · obtain rfl : j = n' := by omega
          have HY : Hid (crcAll (s ^^^ 4294967295) (ls.take (k + 1)).flatten = crcAll r (l.take j)) := by
            show _ = _
            rw [HX.out, crcAll_app, HR.out, List.take_of_length_le (by rw [HLn.out]; omega)]
          generalize crcAll r (l.take j) = q at *
          go_wp2
          go_roundg (n - (k + 1))
          case measure => omega
          case rel => exact ⟨k + 1, by omega, by go_num, by rw [HY.out], rfl⟩
    · have HE : Hid (goOnN s ls = crcAll (s ^^^ 4294967295) (ls.take k).flatten ^^^ 4294967295) := by
        show _ = _
        unfold goOnN
        rw [List.take_of_length_le (by rw [HL.out]; omega)]
      have hrb : crcAll (s ^^^ 4294967295) (ls.take k).flatten < 4294967296 := crcAll_lt _ (Nat.xor_lt_two_pow (n := 32) hs (by decide)) (fun x hx => by
        obtain ⟨l, hl, hx⟩ := List.mem_flatten.1 hx
        exact HB.out l (List.mem_of_mem_take hl) x hx)
      generalize crcAll (s ^^^ 4294967295) (ls.take k).flatten = q at *
      have hq := u32_not hrb
      have tk : decide ((k : Int) < (n : Int)) = false := by simp; omega
      go_wp2
      try rw [Exit.noGoto_ret]
      go_ret
      exact ⟨ret_int (by rw [HE.out]), HBW.out⟩
end Go.Proofs.Ytdheppfooapneaa

/- crc.Of. -/
namespace Go.Proofs.Ytdheppfooapneaa
open Go.RowKit

theorem goOn_zero (ls : List (List Nat)) : goOnN 0 ls = crcOf ls.flatten := by unfold goOnN crcOf; rw [Nat.zero_xor]
theorem goOn_more {bs : List Nat} (l : List Nat) : goOnN (crcOf bs) [l] = crcOf (bs ++ l) := by
  unfold goOnN crcOf
  rw [Nat.xor_assoc, Nat.xor_self, Nat.xor_zero, crcAll_app]; simp

theorem of_any (A : Option Addr) (n c : Nat) (ls : List (List Nat)) (w : World) (h : Parts w A n c ls) (hb : ∀ l ∈ ls, ∀ x ∈ l, x < 256) (hn : n ≤ 281474976710656) (hm : ∀ l ∈ ls, l.length ≤ 281474976710656) :
    Calls Try.prog 48 #[.slice A n c] w fun e w' => e = .returned (.int .u32 (crcOf ls.flatten : Int)) ∧ Below w.heap.size w w' := by
  have HG := Lib.hid (goOn_any 0 A n c ls w (by decide) h hb hn hm)
  rw [goOn_zero] at HG
  clear h hb hm
  go_enter Try.func48, Try.ntmps48
  go_wp2_with (go_at_call 54; refine HG.out.mono ?_; rintro e w1 ⟨rfl, hb1⟩)
  go_ret
  exact ⟨rfl, hb1⟩

/-- One row as all parts. -/
theorem Parts.one {w : World} {A : Option Addr} {n c : Nat} {l : List Nat} (h : Has w A n c (u8s l)) (e : TypeId) : Parts (w.alloc (.cells #[.slice A n c] e)) (some ⟨w.heap.size, 0, Option.none⟩) 1 1 [l] := by
  refine ⟨[.slice A n c], Has.one _ _ _, rfl, fun i hi => ?_⟩
  match i, hi with
  | 0, _ => exact ⟨A, n, c, rfl, h.alloc _⟩
theorem Parts.two {w : World} {A B : Option Addr} {n c m d : Nat} {l r : List Nat} (h : Has w A n c (u8s l)) (h2 : Has w B m d (u8s r)) (e : TypeId) : Parts (w.alloc (.cells #[.slice A n c, .slice B m d] e)) (some ⟨w.heap.size, 0, Option.none⟩) 2 2 [l, r] := by
  refine ⟨[.slice A n c, .slice B m d], Has.new _ _ _, rfl, fun i hi => ?_⟩
  match i, hi with
  | 0, _ => exact ⟨A, n, c, rfl, h.alloc _⟩
  | 1, _ => exact ⟨B, m, d, rfl, h2.alloc _⟩
/-- Of one row. -/
theorem of_one (A : Option Addr) (n c : Nat) (l : List Nat) (w : World) (e : TypeId) (h : Has w A n c (u8s l)) (hb : ∀ x ∈ l, x < 256) (hn : n ≤ 281474976710656) :
    Calls Try.prog 48 #[.slice (some ⟨w.heap.size, 0, none⟩) 1 1] (w.alloc (.cells #[.slice A n c] e)) fun e w' => e = .returned (.int .u32 (crcOf l : Int)) ∧ Below w.heap.size w w' := by
  have hl := h.len
  rw [u8s_len] at hl
  have := of_any _ 1 1 [l] _ (Parts.one h e) (by simpa using hb) (by decide) (by simpa [hl] using hn)
  simp only [List.flatten_cons, List.flatten_nil, List.append_nil] at this
  exact this.mono fun e w' ⟨h1, h2⟩ => ⟨h1, new_call (new_alloc (Below.refl _ _) _) h2⟩

end Go.Proofs.Ytdheppfooapneaa

/- crc.New, (*Sum).Add, (*Sum).Sum, (*Sum).Len. -/
namespace Go.Proofs.Ytdheppfooapneaa
open Go.RowKit

end Go.Proofs.Ytdheppfooapneaa

/- slices.Clone, slices.Grow of nil, slices.Concat, of bytes. -/
namespace Go.Proofs.Ytdheppfooapneaa
open Go.RowKit

set_option maxRecDepth 100000 in
theorem clone_any (A : Option Addr) (n c : Nat) (bs : List Nat) (w : World) (h : Has w A n c (u8s bs)) (hn : n ≤ 1000000000) : Calls Try.prog 49 #[.slice A n c] w (Wrote w bs) := by
  have q : ∀ (w : World) (a : Option Addr) (n c n' c' : Nat), (binOp .eql 22 (.slice a n c) (.slice none n' c')).run Try.prog w = .ok (.bool a.isNone) w := fun w a n c n' c' => Lib.run_eql_slice_nil w _ _ a n c n' c' Try.underlying22
  have hl := h.len
  have HH := Lib.hid h
  rw [u8s_len] at hl
  cases A with
  | none =>
    have hc := h.bare rfl
    have h0 : n = 0 := by
      rcases Nat.eq_zero_or_pos n with h0 | h0
      · exact h0
      · obtain ⟨b, off, hA, _⟩ := h.spot h0; cases hA
    have hb0 : bs = [] := List.eq_nil_of_length_eq_zero (by omega)
    subst hb0
    clear h hc h0 hl
    go_enter Try.func49, Try.ntmps49
    go_wp2
    go_ret
    exact Wrote.of (Own.nil _ _ _) (Below.refl _ _)
  | some a =>
    clear h
    go_enter Try.func49, Try.ntmps49
    go_wp2_with (at_builtin; refine wpList_join rfl _ _ 22 rfl elem8 w.heap.size _ [] rfl (Own.fresh w _ #[] _ (Nat.le_refl _) (by decide)) _ _ _ (u8s bs) rfl (HH.out.alloc _) (u8s_one _) (by simp; omega) (by decide) (by simp) ?_; intro v' w' hown' hbel')
    go_ret
    exact Wrote.of (by simpa using hown') ((new_alloc (Below.refl _ _) _).trans hbel')

set_option maxRecDepth 100000 in
theorem growNil_any (n : Nat) (w : World) (hn : n ≤ 1000000000) : Calls Try.prog 51 #[.slice none 0 0, .int .i64 n] w fun e w' => ∃ v, e = .returned v ∧ Own w' w.heap.size 5 v [] ∧ Below w.heap.size w w' := by
  by_cases h0 : n = 0
  · subst h0
    go_enter Try.func51, Try.ntmps51
    go_wp2
    go_ret
    exact ⟨_, rfl, Own.nil _ _ _, Below.refl _ _⟩
  · obtain ⟨i, z, hi, hz, hsize, hbytes, hzs⟩ := elem8.info
    have h1 : ¬ ((n : Int) < 0) := by omega
    have h4 : (n : Int) > 0 := by omega
    have hrun : ∀ ty, (Builtin.append_ #[22, 3] ty #[.slice none 0 0, .int .i64 n]).run Try.prog w =
        .ok (.slice (some ⟨w.heap.size, 0, none⟩) n (grownCap w n 0 5)) (w.drew.alloc (.cells (([] : List Value).toArray ++ Builtin.zeroCells z.cells n ++ Builtin.zeroCells z.cells (grownCap w n 0 5 - n)) 5)) := fun ty => by
      have h := Lib.run_append_grow_zeros w 22 3 ty 5 i z .i64 .i64 Try.underlying22 Try.underlying3 hi hz none 0 0 [] (run_firstCells_none w.drew i.size 0 0 0) n (by omega) (by omega) (by omega) (by omega) (by rw [hbytes]; omega)
        (by rw [Nat.zero_add]; exact growslice_fits (by omega) (by rw [hbytes]; omega))
      rw [Nat.zero_add] at h
      exact h
    have hGn : n ≤ grownCap w n 0 5 := grownCap_ge w _ _ _
    have hGm := grownCap_le_maxLen w n 0 5 (by unfold maxLen; omega)
    obtain ⟨G, hG⟩ : ∃ G, G = grownCap w n 0 5 := ⟨_, rfl⟩
    rw [← hG] at hrun hGn hGm
    have HM := Lib.hid hGm
    have hG63 : G ≤ 9223372036854775807 := by unfold maxLen at hGm; omega
    have HZ : Hid ((([] : List Value).toArray ++ Builtin.zeroCells z.cells n ++ Builtin.zeroCells z.cells (G - n)).size = G * 1) := by
      show _ = _
      simp [Builtin.zeroCells, hzs]; omega
    obtain ⟨cs, hcs⟩ : ∃ cs, ([] : List Value).toArray ++ Builtin.zeroCells z.cells n ++ Builtin.zeroCells z.cells (G - n) = cs := ⟨_, rfl⟩
    rw [hcs] at hrun HZ
    clear hG hGm hcs hi hz hsize hbytes hzs
    go_enter Try.func51, Try.ntmps51
    go_wp2_with (at_builtin; refine Lib.wpList_append_run _ rfl _ _ _ _ rfl _ _ rfl rfl _ _ (hrun _) ?_)
    all_goals
      go_ret
      refine ⟨_, rfl, ?_, new_alloc (Below.refl _ _).drew _⟩
      exact World.ownsRow_made w.drew cs G (Nat.le_refl _) HM.out HZ.out

set_option maxRecDepth 100000 in
set_option maxHeartbeats 400000 in
theorem concat_any (A : Option Addr) (n c : Nat) (ls : List (List Nat)) (w : World) (h : Parts w A n c ls) (hn : n ≤ 1000000000) (hm : ls.flatten.length ≤ 1000000000) : Calls Try.prog 43 #[.slice A n c] w (Wrote w ls.flatten) := by
  have HL := Lib.hid h.len
  have HP := Lib.hid h
  have hlen : ∀ k, k ≤ ls.length → (ls.take k).flatten.length ≤ 1000000000 := fun k hk => by
    have e : ls.flatten = (ls.take k).flatten ++ (ls.drop k).flatten := by rw [← List.flatten_append, List.take_append_drop]
    rw [e, List.length_append] at hm
    omega
  have HN := Lib.hid hlen
  clear h hlen
  go_enter Try.func43, Try.ntmps43
  go_wp2
  go_loopg [3, 11] n (fun g s3 s11 wx => ∃ k : Nat, k + g = n ∧ s11 = .int .i64 k ∧ s3 = .int .i64 (((ls.take k).flatten.length : Nat) : Int) ∧ w = wx)
  case atStart => exact ⟨0, by omega, rfl, by simp, rfl⟩
  case round =>
    obtain ⟨k, hkg, rfl, rfl, rfl⟩ := hrel
    by_cases hk : k < n
    · have hkl : k < ls.length := by rw [HL.out]; exact hk
      obtain ⟨b, off, A', n', c', rfl, hcell, hhas⟩ := HP.out.at_ hkl
      have hl := hhas.len
      rw [u8s_len] at hl
      have HX : Hid ((ls.take (k + 1)).flatten.length = (ls.take k).flatten.length + n') := by show _ = _; rw [flat_snoc hkl, List.length_append, hl]
      have h1 := HN.out k (by omega)
      have h2 := HN.out (k + 1) (by omega)
      rw [HX.out] at h2
      generalize (ls.take k).flatten.length = q at *
      have tk : decide ((k : Int) < (n : Int)) = true := by simp; omega
      have tq : decide ((q : Int) + (n' : Int) < 0) = false := by simp; omega
      clear hl hhas hkl
      go_wp2
      go_roundg (gk - 1)
      case measure => omega
      case rel => exact ⟨k + 1, by omega, by go_num, by rw [HX.out]; go_num, rfl⟩
    · have tk : decide ((k : Int) < (n : Int)) = false := by simp; omega
      have hq := HN.out k (by rw [HL.out]; omega)
      generalize (ls.take k).flatten.length = q at *
      go_wp2_with (go_at_call 51; refine (growNil_any q _ hq).mono ?_; rintro e w1 ⟨v, rfl, hown, hbel⟩)
      go_loopg [6, 27] n (fun g s6 s27 wx => ∃ k : Nat, k + g = n ∧ s27 = .int .i64 k ∧ Hid (Own wx w.heap.size 5 s6 (u8s (ls.take k).flatten)) ∧ Hid (Below w.heap.size w wx))
      case atStart => exact ⟨0, by omega, rfl, hown, hbel⟩
      case round =>
        obtain ⟨j, hjg, rfl, HO, HB⟩ := hrel
        clear hown hbel
        by_cases hj : j < n
        · have hjl : j < ls.length := by rw [HL.out]; exact hj
          obtain ⟨b, off, A', n', c', rfl, hcell, hhas⟩ := (HP.out.kept HB.out).at_ hjl
          have hl := hhas.len
          rw [u8s_len] at hl
          have HX : Hid ((ls.take (j + 1)).flatten = (ls.take j).flatten ++ ls[j]) := flat_snoc hjl
          have h2 := HN.out (j + 1) (by omega)
          rw [HX.out, List.length_append, hl] at h2
          have HHs := Lib.hid hhas
          have tj : decide ((j : Int) < (n : Int)) = true := by simp; omega
          clear hhas hl
          go_wp2_with (at_builtin; refine wpList_join rfl _ _ 22 rfl elem8 w.heap.size _ _ rfl HO.out _ _ _ _ rfl HHs.out (u8s_one _) (by rw [u8s_len]; omega) (by decide) HB.out.size ?_; intro v' w' hown' hbel')
          rw [← u8s_app, ← HX.out] at hown'
          have R2 := HB.out.trans hbel'
          go_wp2
          go_roundg (gk - 1)
          case measure => omega
          case rel => exact ⟨j + 1, by omega, by go_num, hown', R2⟩
        · have tj : decide ((j : Int) < (n : Int)) = false := by simp; omega
          have HE : Hid ((ls.take j).flatten = ls.flatten) := by show _ = _; rw [List.take_of_length_le (by rw [HL.out]; omega)]
          rw [HE.out] at HO
          go_wp2
          go_ret
          exact Wrote.of HO.out HB.out
end Go.Proofs.Ytdheppfooapneaa

/- crc.Seal, crc.Check; lapidarylaw02.known. -/
namespace Go.Proofs.Ytdheppfooapneaa
open Go.RowKit

set_option maxRecDepth 100000 in
theorem seal_any (A : Option Addr) (n c : Nat) (bs : List Nat) (w : World) (h : Has w A n c (u8s bs)) (hb : ∀ x ∈ bs, x < 256) (hn : n ≤ 100000000) :
    Calls Try.prog 42 #[.slice A n c] w (Wrote w (sealN bs)) := by
  have hlt := crcOf_lt hb
  have HO := Lib.hid (of_one A n c bs w 22 h hb (by omega))
  have hl : bs.length = n := by have := h.len; rw [u8s_len] at this; exact this
  have HF : Hid (∀ W, Calls Try.prog 50 #[.int .u64 (crcOf bs : Int), .int .i64 4] W (Fixd W (fixedN (crcOf bs) 4, 0))) := fun W => by
    have := fixed_any (crcOf bs) 4 W (by omega)
    rw [show fixed (crcOf bs) 4 = (fixedN (crcOf bs) 4, 0) from fixed_fits (W := 4) (by omega) (by omega) (by omega)] at this
    exact this
  have HH := Lib.hid h
  have HL := Lib.hid hl
  have HS : Hid (sealN bs = bs ++ fixedN (crcOf bs) 4) := rfl
  clear h hb hl
  generalize crcOf bs = x at *
  go_enter Try.func42, Try.ntmps42
  go_wp2_with fail
  refine HO.out.mono ?_
  rintro e w1 ⟨rfl, hb1⟩
  have HB1 := Lib.hid hb1
  clear hb1
  go_wp2_with fail
  refine (HF.out _).mono ?_
  rintro e w2 ⟨v2, rfl, ho2, hb2⟩
  obtain ⟨A2, c2, rfl, hh2⟩ := ho2.has
  have HH2 := Lib.hid hh2
  have HB2 := Lib.hid (new_call HB1.out hb2)
  clear hh2 hb2 ho2
  simp only [u8s_len, fixedN_len] at HH2 ⊢
  go_wp2_with (go_at_call 43; refine (concat_any _ 2 2 [bs, fixedN x 4] _ (Parts.two (HH.out.kept HB2.out) HH2.out _) (by decide) (by simp [HL.out, fixedN_len]; omega)).mono ?_; rintro e w3 ⟨A3, c3, rfl, hh3, ho3, hb3⟩)
  go_ret
  rw [HS.out]
  simp only [List.flatten_cons, List.flatten_nil, List.append_nil] at ho3
  have hz := HB2.out.size
  exact Wrote.of (by simpa using ho3.less (by simp; omega)) (new_call (new_alloc HB2.out _) hb3)

theorem fixed4 {x : Nat} (h : x < 4294967296) : val8 (fixedN x 4) = x := by
  simp [fixedN, dig, List.range_succ, val8]; omega
theorem fixed4_back {l : List Nat} (hl : l.length = 4) (h : ∀ y ∈ l, y < 256) : fixedN (val8 l) 4 = l := by
  match l, hl with
  | [a, b, c, d], _ =>
    have ha := h a (by simp)
    have hb := h b (by simp)
    have hc := h c (by simp)
    have hd := h d (by simp)
    simp only [fixedN, dig, List.range_succ, List.range_zero, val8, List.map_cons, List.map_nil, List.nil_append, List.cons_append]
    congr 1
    · omega
    · congr 1
      · omega
      · congr 1
        · omega
        · congr 1; omega
/-- The last four bytes are the checksum just if all is what is sealed. -/
theorem seal_iff {hd tl : List Nat} (h1 : ∀ y ∈ hd, y < 256) (h2 : ∀ y ∈ tl, y < 256) (hl : tl.length = 4) : sealN hd = hd ++ tl ↔ val8 tl = crcOf hd := by
  unfold sealN
  rw [List.append_cancel_left_eq]
  constructor
  · intro h; rw [← h]; exact fixed4 (crcOf_lt h1)
  · intro h; rw [← h]; exact fixed4_back hl h2

set_option maxRecDepth 100000 in
set_option maxHeartbeats 400000 in
theorem check_any (A : Option Addr) (n c : Nat) (bs : List Nat) (w : World) (h : Has w A n c (u8s bs)) (hb : ∀ x ∈ bs, x < 256) (hn : n ≤ 100000000) :
    Calls Try.prog 39 #[.slice A n c] w (Fixd w (checkN bs)) := by
  have hl : bs.length = n := by have := h.len; rw [u8s_len] at this; exact this
  by_cases h4 : n < 4
  · have HF := Lib.hid (checkN_short (bs := bs) (by omega))
    have t4 : decide ((n : Int) - 4 < 0) = true := by simp; omega
    clear h hb hl
    go_enter Try.func39, Try.ntmps39
    go_wp2
    go_ret2
    rw [HF.out]
    exact ⟨_, rfl, Own.nil _ _ _, Below.refl _ _⟩
  · have t4 : decide ((n : Int) - 4 < 0) = false := by simp; omega
    obtain ⟨b, off, rfl, _, _⟩ := h.spot (by omega)
    obtain ⟨k, hk⟩ : ∃ k, n = k + 4 := ⟨n - 4, by omega⟩
    have hcap := h.cap
    have hc0 : ¬ c = 0 := by omega
    have hhd := h.head (m := k) (by omega)
    rw [show (u8s bs).take k = u8s (bs.take k) by simp [u8s]] at hhd
    have hbk : ∀ x ∈ bs.take k, x < 256 := fun x hx => hb x (List.mem_of_mem_take hx)
    have hbt : ∀ x ∈ bs.drop k, x < 256 := fun x hx => hb x (List.mem_of_mem_drop hx)
    have hdl : (bs.drop k).length = 4 := by rw [List.length_drop]; omega
    have HI := Lib.hid (seal_iff hbk hbt hdl)
    rw [List.take_append_drop] at HI
    have HFd := Lib.hid (field_any (some ⟨b, off, none⟩) n c bs ((k : Nat) : Int) 4 w h hb (by omega) (by omega))
    rw [show field bs ((k : Nat) : Int) 4 = (val8 (bs.drop k), 0) by
      rw [show field bs ((k : Nat) : Int) 4 = (val8 ((bs.drop k).take 4), 0) from field_ok (W := 4) (by omega) (by omega), List.take_of_length_le (by omega)]] at HFd
    have hvl := val8_lt hbt
    rw [hdl] at hvl
    have HOf := Lib.hid (of_one (some ⟨b, off, none⟩) k c (bs.take k) w 22 hhd hbk (by omega))
    have hcr := crcOf_lt hbk
    have HC : Hid (∀ W, Below w.heap.size w W → Calls Try.prog 49 #[.slice (some ⟨b, off, none⟩) k c] W (Wrote W (bs.take k))) := fun W hW => clone_any _ k c (bs.take k) W (hhd.kept hW) (by omega)
    have HOk := Lib.hid (checkN_ok (bs := bs) (by omega))
    have HN := Lib.hid (checkN_sum (bs := bs) (by omega))
    rw [show bs.length - 4 = k by omega] at HOk HN
    have ek : ((n : Int) - 4) = (k : Int) := by omega
    subst hk
    have ek2 : (((k + 4 : Nat) : Int) - 4) = (k : Int) := by omega
    clear h hb hl h4 hhd hbk ek hbt hdl
    generalize bs.take k = hd at *
    generalize bs.drop k = tl at *
    generalize val8 tl = V at *
    generalize crcOf hd = X at *
    by_cases he : V = X
    · have HE := Lib.hid (HI.out.2 he)
      subst he
      go_enter Try.func39, Try.ntmps39
      go_wp2_with (first
        | (go_at_call 47; refine HFd.out.mono ?_; rintro e w' ⟨rfl, rfl⟩)
        | (go_at_call 48; refine HOf.out.mono ?_; rintro e w1 ⟨rfl, hb1⟩; have HB1 := Lib.hid hb1; clear hb1)
        | (go_at_call 49; refine (HC.out _ HB1.out).mono ?_; rintro e w2 ⟨A2, c2, rfl, hh2, ho2, hb2⟩))
      go_ret2
      rw [HOk.out HE.out]
      exact ⟨_, rfl, ho2.less HB1.out.size, new_call HB1.out hb2⟩
    · have HE := Lib.hid (fun h => he (HI.out.1 h))
      have te : ((V : Int) != (X : Int)) = true := by rw [bne_iff_ne]; omega
      go_enter Try.func39, Try.ntmps39
      go_wp2_with (first
        | (go_at_call 47; refine HFd.out.mono ?_; rintro e w' ⟨rfl, rfl⟩)
        | (go_at_call 48; refine HOf.out.mono ?_; rintro e w1 ⟨rfl, hb1⟩; have HB1 := Lib.hid hb1; clear hb1))
      go_ret2
      rw [HN.out HE.out]
      exact ⟨_, rfl, Own.nil _ _ _, HB1.out⟩
end Go.Proofs.Ytdheppfooapneaa
