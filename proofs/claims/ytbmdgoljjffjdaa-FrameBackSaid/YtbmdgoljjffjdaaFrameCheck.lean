/- frame.checkHead: of few bytes, too, a wrong one is told ahead of those that are missing. -/
import Derived.Test.YtbmdgoljjffjdaaFrameHead
import Derived.Test.YtbmdgoljjffjdaaBackNums
import Derived.Deep.LoopGhost
import Derived.Outline
namespace Go.Proofs.Ytbmdgoljjffjdaa
open Go.RowKit

/-- What is left to read behind i bytes of the head. -/
abbrev behind (bs : List Nat) (i : Nat) : List Sec × Nat := closeN ((bs.drop i).foldl stepN ⟨[], 0, false, i, [], 0⟩)
/-- What checkHead tells of the bytes. -/
def Heads (bs : List Nat) (E : Nat) : Prop := (E = 0 ∧ 5 ≤ bs.length ∧ decN bs = behind bs 5) ∨ (E ≠ 0 ∧ decN bs = ([], E))

set_option maxRecDepth 100000 in
set_option maxHeartbeats 400000 in
theorem checkHead_any (A : Option Addr) (n c : Nat) (bs : List Nat) (w : World) (h : Has w A n c (u8s bs)) (hb : ∀ x ∈ bs, x < 256) (hn : n ≤ 281474976710656) :
    Calls Try.prog 25 #[.slice A n c] w fun e w' => ∃ E : Nat, e = .returned (.int .i64 (E : Int)) ∧ Heads bs E ∧ Below w.heap.size w w' := by
  have HL : Hid (bs.length = n) := by have := h.len; rw [u8s_len] at this; exact this
  have HH := Lib.hid h
  have HBy := Lib.hid hb
  clear h hb
  go_enter Try.func25, Try.ntmps25
  go_wp2
  go_loopg [] 5 (fun g wx => ∃ p : Nat, p + g = 5 ∧ p ≤ n ∧ Hid (wx.heap[w.heap.size]? = some (.stringIter headS p)) ∧ Hid (decN bs = behind bs p) ∧ Hid (Below w.heap.size w wx))
  case atStart => exact ⟨0, rfl, Nat.zero_le _, World.iter_heap w headS 0, rfl, new_alloc (Below.refl _ _) _⟩
  case round =>
    obtain ⟨p, hpg, hpn, HI, HD, HB⟩ := hrel
    by_cases hp : p < 5
    · have hnx : ∀ ty, (Instr.next (.pointer (some ⟨w.heap.size, 0, none⟩)) true ty).run Try.prog wr = _ := fun ty => Lib.run_next_ascii_at wr w.heap.size headS p ty HI.out hp (by rw [headS_at]; exact headN_lt p)
      rw [headS_at] at hnx
      have HI1 := Lib.hid (Lib.iterAt_heap wr w.heap.size headS p (p + 1) HI.out)
      have HB1 := Lib.hid (Lib.below_iterAt HB.out (Nat.le_refl _) headS (p + 1))
      have HSt := Lib.hid (head_step bs hp)
      have hx := headN_lt p
      have hwr : IntKind.wrap .u8 ((headN.getD p 0 : Nat) : Int) = ((headN.getD p 0 : Nat) : Int) := by
        generalize headN.getD p 0 = x at *
        rw [IntKind.wrap_u8]; omega
      generalize wr.iterAt w.heap.size headS (p + 1) = W1 at *
      clear HI
      by_cases hpe : p = n
      · have HE : Hid (decN bs = ([], 10)) := by show _ = _; rw [HD.out]; show closeN _ = _; rw [HSt.out, if_pos (by rw [HL.out]; omega)]
        have te : ((p : Int) == (n : Int)) = true := by rw [hpe]; simp
        clear HSt HD
        generalize headN.getD p 0 = x at *
        go_wp2
        go_ret
        exact ⟨10, rfl, Or.inr ⟨by decide, HE.out⟩, HB1.out⟩
      · have te : ((p : Int) == (n : Int)) = false := by rw [beq_eq_false_iff_ne]; omega
        have hlt : p < bs.length := by rw [HL.out]; omega
        obtain ⟨b, off, rfl, _, hc⟩ := (HH.out.kept HB1.out).spot (by omega)
        have hcell := hc p _ (u8s_at hlt)
        have hgd : bs.getD p 0 = bs[p] := by simp [List.getD, List.getElem?_eq_getElem hlt]
        rw [hgd, if_neg (by omega)] at HSt
        have hb8 := HBy.out _ (List.getElem_mem hlt)
        clear hc hgd
        generalize headN.getD p 0 = x at *
        generalize bs[p] = y at *
        by_cases hy : y = x
        · have HD2 : Hid (decN bs = behind bs (p + 1)) := by show _ = _; rw [HD.out]; show closeN _ = _; rw [HSt.out, if_neg (by simp [hy])]
          have ty : ((y : Int) != (x : Int)) = false := by rw [hy]; simp
          clear HSt HD hy
          go_wp2
          go_roundg (gk - 1)
          case measure => omega
          case rel => exact ⟨p + 1, by omega, by omega, HI1, HD2, HB1⟩
        · have HE : Hid (decN bs = ([], 11)) := by show _ = _; rw [HD.out]; show closeN _ = _; rw [HSt.out, if_pos hy]
          have ty : ((y : Int) != (x : Int)) = true := by rw [bne_iff_ne]; omega
          clear HSt HD hy
          go_wp2
          go_ret
          exact ⟨11, rfl, Or.inr ⟨by decide, HE.out⟩, HB1.out⟩
    · have hnx : ∀ ty, (Instr.next (.pointer (some ⟨w.heap.size, 0, none⟩)) true ty).run Try.prog wr = _ := fun ty => Lib.run_next_end_at wr w.heap.size headS p ty HI.out hp
      obtain rfl : p = 5 := by omega
      go_wp2
      go_ret
      exact ⟨0, rfl, Or.inl ⟨rfl, by rw [HL.out]; exact hpn, HD.out⟩, HB.out⟩
end Go.Proofs.Ytbmdgoljjffjdaa
