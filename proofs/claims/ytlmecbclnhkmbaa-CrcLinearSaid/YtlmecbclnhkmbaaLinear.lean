/- The checksum is linear, in plain numbers; a row in a block of one cell, whatever came behind. -/
import Derived.Test.YtlmecbclnhkmbaaKnown02
import Derived.RegionTactic
import Derived.Laws.Cover1
import Derived.Deep.RegionHeld3
namespace Go.Proofs.Ytlmecbclnhkmbaa
open Go.RowKit

def xor3 (a b c : List Nat) : List Nat := List.zipWith (· ^^^ ·) (List.zipWith (· ^^^ ·) a b) c
theorem xor_byte {n : Nat} {a b : List Nat} (ha : a.length = n) (hb : b.length = n) (h1 : ∀ x ∈ a, x < 256) (h2 : ∀ x ∈ b, x < 256) : (List.zipWith (· ^^^ ·) a b).length = n ∧ ∀ x ∈ List.zipWith (· ^^^ ·) a b, x < 256 := by
  refine ⟨by simp [ha, hb], fun x hx => ?_⟩
  obtain ⟨i, hi, rfl⟩ := List.getElem_of_mem hx
  rw [List.getElem_zipWith]
  exact Nat.xor_lt_two_pow (n := 8) (h1 _ (List.getElem_mem _)) (h2 _ (List.getElem_mem _))
theorem crc_linear {n : Nat} {a b c : List Nat} (ha : a.length = n) (hb : b.length = n) (hc : c.length = n) (h1 : ∀ x ∈ a, x < 256) (h2 : ∀ x ∈ b, x < 256) (h3 : ∀ x ∈ c, x < 256) :
    crcOf a ^^^ crcOf b ^^^ crcOf c = crcOf (xor3 a b c) := by
  obtain ⟨l1, b1⟩ := xor_byte ha hb h1 h2
  obtain ⟨l2, b2⟩ := xor_byte l1 hc b1 h3
  rw [crcOf_whole h1, crcOf_whole h2, crcOf_whole h3, crcOf_whole (bs := xor3 a b c) b2, show (xor3 a b c).length = n from l2, ha, hb, hc]
  rw [show val8 (xor3 a b c) = val8 a ^^^ val8 b ^^^ val8 c by unfold xor3; rw [val8_xor n _ _ l1 hc b1 h3, val8_xor n _ _ ha hb h1 h2]]
  rw [crcN_xor, crcN_xor, crcN_xor, crcN_xor, crcN_xor, crcN_xor]
  generalize crcN (8 * n) 4294967295 = M
  generalize crcN (8 * n) (val8 a) = x
  generalize crcN (8 * n) (val8 b) = y
  generalize crcN (8 * n) (val8 c) = z
  generalize 4294967295 = O
  apply Nat.eq_of_testBit_eq
  intro i
  simp only [Nat.testBit_xor]
  cases M.testBit i <;> cases x.testBit i <;> cases y.testBit i <;> cases z.testBit i <;> cases O.testBit i <;> rfl

/-- A block of one cell. -/
def Rowd (W : World) (g : Nat) (v : Value) : Prop := g < W.heap.size ∧ W.cell? ⟨g, 0, none⟩ = some v
theorem Rowd.new_at (W : World) (g : Nat) (v : Value) (e : TypeId) (hg : g = W.heap.size) : Rowd (W.alloc (.cells #[v] e)) g v := by
  subst hg; exact ⟨by simp, by rw [World.cell?_alloc_at _ _ _ _ rfl]; rfl⟩
theorem Rowd.call {W W' : World} {g : Nat} {v : Value} (hb : Below W.heap.size W W') (h : Rowd W g v) : Rowd W' g v :=
  ⟨Nat.lt_of_lt_of_le h.1 hb.size, (hb.cell (p := ⟨g, 0, none⟩) h.1).trans h.2⟩
theorem Rowd.alloc {W : World} {g : Nat} {v : Value} (o : Obj) (h : Rowd W g v) : Rowd (W.alloc o) g v := h.call ((Below.refl _ _).alloc (Nat.le_refl _) o)
theorem Rowd.drew {W : World} {g : Nat} {v : Value} (h : Rowd W g v) : Rowd W.drew g v := h
/-- crc.Of of one row that lies somewhere. -/
theorem of_row {w0 : World} {A : Option Addr} {n c : Nat} {l : List Nat} (h : Has w0 A n c (u8s l)) (hb : ∀ x ∈ l, x < 256) (hn : n ≤ 281474976710656) (W : World) (g : Nat) (hB : Below w0.heap.size w0 W) (hr : Rowd W g (.slice A n c)) :
    Calls Try.prog 9 #[.slice (some ⟨g, 0, none⟩) 1 1] W fun e w' => e = .returned (.int .u32 (crcOf l : Int)) ∧ Below W.heap.size W w' := by
  have hl := h.len
  rw [u8s_len] at hl
  have hp : Parts W (some ⟨g, 0, none⟩) 1 1 [l] := by
    refine ⟨[.slice A n c], ⟨rfl, Nat.le_refl _, (fun h => by cases h), fun _ => ⟨g, 0, rfl, hr.1, fun j u hu => ?_⟩⟩, rfl, fun i hi => ?_⟩
    · match j, hu with
      | 0, hu => simp at hu; subst hu; exact hr.2
    · match i, hi with
      | 0, _ => exact ⟨A, n, c, rfl, h.kept hB⟩
  have := of_any _ 1 1 [l] W hp (by simpa using hb) (by decide) (by simpa [hl] using hn)
  simp only [List.flatten_cons, List.flatten_nil, List.append_nil] at this
  exact this
end Go.Proofs.Ytlmecbclnhkmbaa
