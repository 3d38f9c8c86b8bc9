/- crc.Of. -/
import Derived.Test.YtbmdgoljjffjdaaGoOn
namespace Go.Proofs.Ytbmdgoljjffjdaa
open Go.RowKit

theorem goOn_zero (ls : List (List Nat)) : goOnN 0 ls = crcOf ls.flatten := by unfold goOnN crcOf; rw [Nat.zero_xor]
theorem goOn_more {bs : List Nat} (l : List Nat) : goOnN (crcOf bs) [l] = crcOf (bs ++ l) := by
  unfold goOnN crcOf
  rw [Nat.xor_assoc, Nat.xor_self, Nat.xor_zero, crcAll_app]; simp

theorem of_any (A : Option Addr) (n c : Nat) (ls : List (List Nat)) (w : World) (h : Parts w A n c ls) (hb : ∀ l ∈ ls, ∀ x ∈ l, x < 256) (hn : n ≤ 281474976710656) (hm : ∀ l ∈ ls, l.length ≤ 281474976710656) :
    Calls Try.prog 39 #[.slice A n c] w fun e w' => e = .returned (.int .u32 (crcOf ls.flatten : Int)) ∧ Below w.heap.size w w' := by
  have HG := Lib.hid (goOn_any 0 A n c ls w (by decide) h hb hn hm)
  rw [goOn_zero] at HG
  clear h hb hm
  go_enter Try.func39, Try.ntmps39
  go_wp2_with (go_at_call 44; refine HG.out.mono ?_; rintro e w1 ⟨rfl, hb1⟩)
  go_ret
  exact ⟨rfl, hb1⟩

/-- One row as all parts. -/
theorem Parts.one {w : World} {A : Option Addr} {n c : Nat} {l : List Nat} (h : Has w A n c (u8s l)) (e : TypeId) : Parts (w.alloc (.cells #[.slice A n c] e)) (some ⟨w.heap.size, 0, Option.none⟩) 1 1 [l] := by
  refine ⟨[.slice A n c], Has.one _ _ _, rfl, fun i hi => ?_⟩
  match i, hi with
  | 0, _ => exact ⟨A, n, c, rfl, h.alloc _⟩
theorem Parts.two {w : World} {A B : Option Addr} {n c m d : Nat} {l r : List Nat} (h : Has w A n c (u8s l)) (h2 : Has w B m d (u8s r)) (e : TypeId) : Parts (w.alloc (.cells #[.slice A n c, .slice B m d] e)) (some ⟨w.heap.size, 0, Option.none⟩) 2 2 [l, r] := by
  refine ⟨[.slice A n c, .slice B m d], Has.new _ _ _, rfl, fun i hi => ?_⟩
  match i, hi with
  | 0, _ => exact ⟨A, n, c, rfl, h.alloc _⟩
  | 1, _ => exact ⟨B, m, d, rfl, h2.alloc _⟩
/-- Of one row. -/
theorem of_one (A : Option Addr) (n c : Nat) (l : List Nat) (w : World) (e : TypeId) (h : Has w A n c (u8s l)) (hb : ∀ x ∈ l, x < 256) (hn : n ≤ 281474976710656) :
    Calls Try.prog 39 #[.slice (some ⟨w.heap.size, 0, none⟩) 1 1] (w.alloc (.cells #[.slice A n c] e)) fun e w' => e = .returned (.int .u32 (crcOf l : Int)) ∧ Below w.heap.size w w' := by
  have hl := h.len
  rw [u8s_len] at hl
  have := of_any _ 1 1 [l] _ (Parts.one h e) (by simpa using hb) (by decide) (by simpa [hl] using hn)
  simp only [List.flatten_cons, List.flatten_nil, List.append_nil] at this
  exact this.mono fun e w' ⟨h1, h2⟩ => ⟨h1, new_call (new_alloc (Below.refl _ _) _) h2⟩

end Go.Proofs.Ytbmdgoljjffjdaa
