/- frame.Head: a text, gone through by a range. -/
import Derived.Test.YtbmdgoljjffjdaaFrameSt
import Derived.Lib.OthersKept
import Derived.Deep.LoopGhost
import Derived.Outline
namespace Go.Proofs.Ytbmdgoljjffjdaa
open Go.RowKit

theorem Far1.iter (W : World) (G : Nat) (s : ByteArray) (p : Nat) : Far1 G W (W.iterAt G s p) := ⟨rfl, rfl, rfl, Lib.iterAt_size _ _ _ _, fun _ hk => Lib.iterAt_other _ _ _ _ _ hk⟩
theorem Far1.row {G : Nat} {W W' : World} (h : Far1 G W W') {base : Nat} {e : TypeId} {v : Value} {xs : List Value} (ho : Own W base e v xs) (hG : G < base) : Own W' base e v xs := by
  refine ⟨ho.1, ?_⟩
  rcases ho.2 with h1 | ⟨g', cap, cur, h1, h2, h3, h4⟩
  · exact Or.inl h1
  · exact Or.inr ⟨g', cap, cur, h1, h2, (h.block g' (by omega)).trans h3, h4⟩
/-- The text of the head; its bytes. -/
abbrev headS : ByteArray := ⟨#[76, 80, 68, 89, 1]⟩
theorem headS_at {p : Nat} (h : p < headS.size) : (headS[p]'h).toNat = headN.getD p 0 := by
  have h5 : p < 5 := h
  match p, h5 with
  | 0, _ => rfl
  | 1, _ => rfl
  | 2, _ => rfl
  | 3, _ => rfl
  | 4, _ => rfl
theorem headN_lt (p : Nat) : headN.getD p 0 < 128 := by
  match p with
  | 0 => decide
  | 1 => decide
  | 2 => decide
  | 3 => decide
  | 4 => decide
  | p + 5 => simp [headN]
theorem headN_snoc {p : Nat} (h : p < 5) : headN.take (p + 1) = headN.take p ++ [headN.getD p 0] := by
  match p, h with
  | 0, _ => rfl
  | 1, _ => rfl
  | 2, _ => rfl
  | 3, _ => rfl
  | 4, _ => rfl

set_option maxRecDepth 100000 in
set_option maxHeartbeats 400000 in
theorem head_any (w : World) : Calls Try.prog 20 #[] w (Wrote w headN) := by
  go_enter Try.func20, Try.ntmps20
  go_wp2
  go_loopg [1] 5 (fun g s1 wx => ∃ p : Nat, p + g = 5 ∧ Hid (wx.heap[w.heap.size]? = some (.stringIter headS p)) ∧ Hid (Own wx (w.heap.size + 1) 5 s1 (u8s (headN.take p))) ∧ Hid (Below w.heap.size w wx))
  case atStart =>
    exact ⟨0, rfl, World.iter_heap w headS 0, Own.nil _ _ _, new_alloc (Below.refl _ _) _⟩
  case round =>
    obtain ⟨p, hpg, HI, HO, HB⟩ := hrel
    by_cases hp : p < 5
    · have hnx : ∀ ty, (Instr.next (.pointer (some ⟨w.heap.size, 0, none⟩)) true ty).run Try.prog wr = _ := fun ty => Lib.run_next_ascii_at wr w.heap.size headS p ty HI.out hp (by rw [headS_at]; exact headN_lt p)
      rw [headS_at] at hnx
      have HI1 := Lib.hid (Lib.iterAt_heap wr w.heap.size headS p (p + 1) HI.out)
      have HF1 := Lib.hid (Far1.iter wr w.heap.size headS (p + 1))
      have HO1 := Lib.hid (HF1.out.row HO.out (Nat.lt_succ_self _))
      have HB1 := Lib.hid (Lib.below_iterAt HB.out (Nat.le_refl _) headS (p + 1))
      have hlt : w.heap.size < wr.heap.size := (Array.getElem?_eq_some_iff.1 HI.out).1
      have hlt1 : w.heap.size < (wr.iterAt w.heap.size headS (p + 1)).heap.size := by rw [Lib.iterAt_size]; exact hlt
      have HS := Lib.hid (headN_snoc hp)
      have hx := headN_lt p
      have hwr : IntKind.wrap .u8 ((headN.getD p 0 : Nat) : Int) = ((headN.getD p 0 : Nat) : Int) := by
        generalize headN.getD p 0 = x at *
        rw [IntKind.wrap_u8]; omega
      generalize headN.getD p 0 = x at *
      generalize wr.iterAt w.heap.size headS (p + 1) = W1 at *
      clear HI HO HF1 hlt
      go_wp2_with (at_builtin
                   refine wpList_join rfl _ _ 25 rfl elem8 (w.heap.size + 1) _ _ rfl (HO1.out.alloc _) _ 1 1 (u8s [x]) rfl (Has.one _ _ _) (u8s_one _) (by rw [u8s_len, List.length_take]; simp [headN]; omega) (by decide) (by simp; omega) ?_
                   intro v2 w2 hown2 hbel2
                   rw [← u8s_app, ← HS.out] at hown2
                   have HO2 := Lib.hid hown2
                   have HB2 := Lib.hid ((new_alloc HB1.out _).trans (hbel2.mono (Nat.le_succ _)))
                   have HI2 : Hid (w2.heap[w.heap.size]? = some (.stringIter headS (p + 1))) := (hbel2.block _ (Nat.lt_succ_self _)).trans (by show (W1.heap.push _)[_]? = _; rw [Array.getElem?_push_lt (by omega)]; exact (Array.getElem?_eq_getElem (by omega)).symm.trans HI1.out)
                   clear hown2 hbel2)
      go_roundg (gk - 1)
      case measure => omega
      case rel => exact ⟨p + 1, by omega, HI2, HO2, HB2⟩
    · have hnx : ∀ ty, (Instr.next (.pointer (some ⟨w.heap.size, 0, none⟩)) true ty).run Try.prog wr = _ := fun ty => Lib.run_next_end_at wr w.heap.size headS p ty HI.out hp
      have HT : Hid (headN.take p = headN) := by show _ = _; rw [List.take_of_length_le (by simp [headN]; omega)]
      rw [HT.out] at HO
      go_wp2
      go_ret
      exact Wrote.of (HO.out.less (Nat.le_succ _)) HB.out
end Go.Proofs.Ytbmdgoljjffjdaa
