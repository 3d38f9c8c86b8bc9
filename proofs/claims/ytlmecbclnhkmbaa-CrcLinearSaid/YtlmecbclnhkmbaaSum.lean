/- crc.Of, crc.New, (*Sum).Add, (*Sum).Sum, (*Sum).Len. -/
import Derived.Test.YtlmecbclnhkmbaaGoOn
namespace Go.Proofs.Ytlmecbclnhkmbaa
open Go.RowKit

theorem goOn_zero (ls : List (List Nat)) : goOnN 0 ls = crcOf ls.flatten := by unfold goOnN crcOf; rw [Nat.zero_xor]
theorem goOn_more {bs : List Nat} (l : List Nat) : goOnN (crcOf bs) [l] = crcOf (bs ++ l) := by
  unfold goOnN crcOf
  rw [Nat.xor_assoc, Nat.xor_self, Nat.xor_zero, crcAll_app]; simp

theorem of_any (A : Option Addr) (n c : Nat) (ls : List (List Nat)) (w : World) (h : Parts w A n c ls) (hb : ∀ l ∈ ls, ∀ x ∈ l, x < 256) (hn : n ≤ 281474976710656) (hm : ∀ l ∈ ls, l.length ≤ 281474976710656) :
    Calls Try.prog 9 #[.slice A n c] w fun e w' => e = .returned (.int .u32 (crcOf ls.flatten : Int)) ∧ Below w.heap.size w w' := by
  have HG := Lib.hid (goOn_any 0 A n c ls w (by decide) h hb hn hm)
  rw [goOn_zero] at HG
  clear h hb hm
  go_enter Try.func9, Try.ntmps9
  go_wp2_with (go_at_call 20; refine HG.out.mono ?_; rintro e w1 ⟨rfl, hb1⟩)
  go_ret
  exact ⟨rfl, hb1⟩

/-- One row as all parts. -/
theorem Parts.one {w : World} {A : Option Addr} {n c : Nat} {l : List Nat} (h : Has w A n c (u8s l)) (e : TypeId) : Parts (w.alloc (.cells #[.slice A n c] e)) (some ⟨w.heap.size, 0, Option.none⟩) 1 1 [l] := by
  refine ⟨[.slice A n c], Has.one _ _ _, rfl, fun i hi => ?_⟩
  match i, hi with
  | 0, _ => exact ⟨A, n, c, rfl, h.alloc _⟩
theorem Parts.two {w : World} {A B : Option Addr} {n c m d : Nat} {l r : List Nat} (h : Has w A n c (u8s l)) (h2 : Has w B m d (u8s r)) (e : TypeId) : Parts (w.alloc (.cells #[.slice A n c, .slice B m d] e)) (some ⟨w.heap.size, 0, Option.none⟩) 2 2 [l, r] := by
  refine ⟨[.slice A n c, .slice B m d], Has.new _ _ _, rfl, fun i hi => ?_⟩
  match i, hi with
  | 0, _ => exact ⟨A, n, c, rfl, h.alloc _⟩
  | 1, _ => exact ⟨B, m, d, rfl, h2.alloc _⟩
/-- Of one row. -/
theorem of_one (A : Option Addr) (n c : Nat) (l : List Nat) (w : World) (e : TypeId) (h : Has w A n c (u8s l)) (hb : ∀ x ∈ l, x < 256) (hn : n ≤ 281474976710656) :
    Calls Try.prog 9 #[.slice (some ⟨w.heap.size, 0, none⟩) 1 1] (w.alloc (.cells #[.slice A n c] e)) fun e w' => e = .returned (.int .u32 (crcOf l : Int)) ∧ Below w.heap.size w w' := by
  have hl := h.len
  rw [u8s_len] at hl
  have := of_any _ 1 1 [l] _ (Parts.one h e) (by simpa using hb) (by decide) (by simpa [hl] using hn)
  simp only [List.flatten_cons, List.flatten_nil, List.append_nil] at this
  exact this.mono fun e w' ⟨h1, h2⟩ => ⟨h1, new_call (new_alloc (Below.refl _ _) _) h2⟩

/-- A Sum in block g: its checksum, how many bytes it had. -/
def SumAt (w : World) (g s k : Nat) : Prop := Blk w g 52 #[.int .u32 (s : Int), .int .i64 (k : Int)]

theorem new_any (w : World) : Calls Try.prog 16 #[] w fun e w' => e = .returned (.pointer (some ⟨w.heap.size, 0, none⟩)) ∧ SumAt w' w.heap.size 0 0 ∧ Below w.heap.size w w' ∧ w'.heap.size = w.heap.size + 1 := by
  go_enter Try.func16, Try.ntmps16
  go_wp2
  go_ret
  exact ⟨rfl, Blk.new _ _ _, new_alloc (Below.refl _ _) _, by simp⟩

theorem sumLen_any (g s k : Nat) (w : World) (h : SumAt w g s k) : Calls Try.prog 19 #[.pointer (some ⟨g, 0, none⟩)] w fun e w' => e = .returned (.int .i64 (k : Int)) ∧ w = w' := by
  have h0 := h.cell 0
  have h1 := h.cell 1
  clear h
  go_enter Try.func19, Try.ntmps19
  go_wp2
  go_ret
  exact ⟨rfl, rfl⟩
theorem sumSum_any (g s k : Nat) (w : World) (h : SumAt w g s k) : Calls Try.prog 18 #[.pointer (some ⟨g, 0, none⟩)] w fun e w' => e = .returned (.int .u32 (s : Int)) ∧ w = w' := by
  have h0 := h.cell 0
  have h1 := h.cell 1
  clear h
  go_enter Try.func18, Try.ntmps18
  go_wp2
  go_ret
  exact ⟨rfl, rfl⟩
theorem sumLen_nil (w : World) : Calls Try.prog 19 #[.pointer none] w fun e w' => e = .returned (.int .i64 0) ∧ w = w' := by
  go_enter Try.func19, Try.ntmps19
  go_wp2
  go_ret
  exact ⟨rfl, rfl⟩
theorem sumSum_nil (w : World) : Calls Try.prog 18 #[.pointer none] w fun e w' => e = .returned (.int .u32 0) ∧ w = w' := by
  go_enter Try.func18, Try.ntmps18
  go_wp2
  go_ret
  exact ⟨rfl, rfl⟩
theorem sumAdd_nil (v : Value) (w : World) : Calls Try.prog 17 #[.pointer none, v] w fun e w' => e = .returned (.tuple #[]) ∧ w = w' := by
  go_enter Try.func17, Try.ntmps17
  go_wp2
  exact bodyPost_ret (v := .tuple #[]) (by simp [results, Try.results17, go_sem]) rfl ⟨rfl, rfl⟩

/-- More bytes behind those that were: nothing but the Sum has turned. -/
theorem sumAdd_any (g s k : Nat) (A : Option Addr) (n c : Nat) (l : List Nat) (w : World) (h : SumAt w g s k) (hh : Has w A n c (u8s l)) (hb : ∀ x ∈ l, x < 256) (hs : s < 4294967296) (hn : n ≤ 281474976710656) (hk : k ≤ 281474976710656) :
    Calls Try.prog 17 #[.pointer (some ⟨g, 0, none⟩), .slice A n c] w fun e w' => e = .returned (.tuple #[]) ∧ SumAt w' g (goOnN s [l]) (k + n) ∧ w.grownBy w' (some g) := by
  have hg := h.lt
  have hl := hh.len
  rw [u8s_len] at hl
  have HG := Lib.hid (goOn_any s _ 1 1 [l] _ hs (Parts.one hh 22) (by simpa using hb) (by decide) (by simpa [hl] using hn))
  have h0 := h.cell 0
  have f0 := h.frozen 0
  have HH := Lib.hid h
  clear h hh hb hl
  go_enter Try.func17, Try.ntmps17
  go_wp2_with fail
  refine HG.out.mono ?_
  rintro e w1 ⟨rfl, hb1⟩
  have hz := hb1.size
  have k1 : Blk w1 g 52 #[.int .u32 (s : Int), .int .i64 (k : Int)] := Blk.below (HH.out.alloc _) hb1 (by simp; omega)
  have k2 : Blk (w1.setCell ⟨g, 0, none⟩ (.int .u32 (goOnN s [l] : Int))) g 52 #[.int .u32 (goOnN s [l] : Int), .int .i64 (k : Int)] := k1.set_ 0 _
  have k3 : Blk ((w1.setCell ⟨g, 0, none⟩ (.int .u32 (goOnN s [l] : Int))).setCell ⟨g, 1, none⟩ (.int .i64 ((k : Int) + (n : Int)))) g 52 #[.int .u32 (goOnN s [l] : Int), .int .i64 ((k : Int) + (n : Int))] := k2.set_ 1 _
  have c0 : w1.cell? ⟨g, 0, none⟩ = some (.int .u32 (s : Int)) := k1.cell 0
  have f1 : w1.frozen? ⟨g, 0, none⟩ = false := k1.frozen 0
  have c1 : (w1.setCell ⟨g, 0, none⟩ (.int .u32 (goOnN s [l] : Int))).cell? ⟨g, 1, none⟩ = some (.int .i64 (k : Int)) := k2.cell 1
  have c1' : w1.cell? ⟨g, 1, none⟩ = some (.int .i64 (k : Int)) := k1.cell 1
  have f2 : (w1.setCell ⟨g, 0, none⟩ (.int .u32 (goOnN s [l] : Int))).frozen? ⟨g, 1, none⟩ = false := k2.frozen 1
  have f2' : w1.frozen? ⟨g, 1, none⟩ = false := k1.frozen 1
  have K3 := Lib.hid k3
  have KB := Lib.hid hb1
  clear k1 k2 k3 hb1
  go_wp2
  go_end0
  refine ⟨rfl, K3.out, ?_⟩
  have hs := KB.out.size
  have e : ∀ (W : World) (p : Addr) (v : Value), (W.setCell p v).heap.size = W.heap.size := fun W p v => by simp [World.setCell]
  refine ⟨KB.out.os, KB.out.tape, KB.out.output, by rw [e, e]; simp at hs; omega, fun j hj hne => ?_⟩
  have hjg : j ≠ g := fun h => hne (by rw [h])
  rw [Below.heap_setCell _ _ _ j hjg, Below.heap_setCell _ _ _ j hjg, KB.out.block j (by simp; omega), Below.heap_alloc w _ j hj]
end Go.Proofs.Ytlmecbclnhkmbaa
