/- lapidaryref00.Copy; lapidaryref02.Seal and Check. -/
import Derived.Test.YtbmdgoljjffjdaaRefOf
import Derived.Test.YtbmdgoljjffjdaaSame
namespace Go.Proofs.Ytbmdgoljjffjdaa
open Go.RowKit

theorem copy_any (A : Option Addr) (n c : Nat) (bs : List Nat) (w : World) (h : Has w A n c (u8s bs)) (hn : n ≤ 1000000) :
    Calls Try.prog 18 #[.slice A n c] w (Wrote w bs) := by
  have HH := Lib.hid h
  clear h
  go_enter Try.func18, Try.ntmps18
  go_wp2_with (at_builtin; refine wpList_join rfl _ _ 25 rfl elem8 w.heap.size _ [] rfl (Own.nil _ _ _) _ _ _ _ rfl HH.out (u8s_one _) (by simp; omega) (by decide) (Nat.le_refl _) ?_; intro v' w' hown hbel)
  go_ret
  exact Wrote.of hown hbel

/-- Bytes, and their checksum behind them. -/
def sealN (bs : List Nat) : List Nat := bs ++ fixedN (crcOf bs) 4
theorem sealN_len (bs : List Nat) : (sealN bs).length = bs.length + 4 := by rw [sealN, List.length_append, fixedN_len]
theorem sealN_byte {bs : List Nat} (h : ∀ x ∈ bs, x < 256) : ∀ x ∈ sealN bs, x < 256 := by
  intro x hx
  rcases List.mem_append.1 hx with hx | hx
  · exact h x hx
  · exact fixedN_byte _ _ x hx

set_option maxRecDepth 100000 in
theorem refSeal_any (A : Option Addr) (n c : Nat) (bs : List Nat) (w : World) (h : Has w A n c (u8s bs)) (hb : ∀ x ∈ bs, x < 256) (hn : n ≤ 100000) :
    Calls Try.prog 24 #[.slice A n c] w (Wrote w (sealN bs)) := by
  have hlt := crcOf_lt hb
  have HO := Lib.hid (refOf_any A n c bs w h hb hn)
  have HC : Hid (∀ W, Below w.heap.size w W → Calls Try.prog 18 #[.slice A n c] W (Wrote W bs)) := fun W hW => copy_any A n c bs W (h.kept hW) (by omega)
  have hl : bs.length = n := by have := h.len; rw [u8s_len] at this; exact this
  have HL := Lib.hid hl
  have HS : Hid (sealN bs = bs ++ fixedN (crcOf bs) 4) := rfl
  clear h hb hl
  generalize crcOf bs = x at *
  go_enter Try.func24, Try.ntmps24
  go_wp2_with fail
  refine HO.out.mono ?_
  rintro e w1 ⟨rfl, hb1⟩
  have HB1 := Lib.hid hb1
  clear hb1
  go_wp2_with fail
  refine (HC.out _ HB1.out).mono ?_
  rintro e w2 ⟨A2, c2, rfl, hh2, ho2, hb2⟩
  have HO2 := Lib.hid ho2
  have HB2 := Lib.hid hb2
  have HHs := Lib.hid HB2.out.size
  clear hh2 hb2 ho2
  go_wp2_with (at_builtin; refine wpList_join rfl _ _ 25 rfl elem8 w1.heap.size _ _ rfl (HO2.out.alloc _) _ 4 4 [_, _, _, _] rfl (Has.new_at _ #[_, _, _, _] _ _ rfl) (by intro u hu; simp at hu; rcases hu with rfl | rfl | rfl | rfl <;> rfl) (by rw [u8s_len, HL.out]; omega) (by decide) (by simp; have := HHs.out; omega) ?_; intro v3 w3 hown3 hbel3)
  go_ret
  rw [HS.out]
  have e : u8s (bs ++ fixedN x 4) = u8s bs ++ [.int .u8 ((x : Int) % 256), .int .u8 ((x : Int) / 256 % 256), .int .u8 ((x : Int) / 65536 % 256), .int .u8 ((x : Int) / 16777216)] := by
    rw [u8s_app]
    congr 1
    have e3 : x / 16777216 % 256 = x / 16777216 := Nat.mod_eq_of_lt (by omega)
    simp [u8s, fixedN, dig, List.range_succ, e3]
  refine Wrote.of ?_ ?_
  · rw [e]
    exact hown3.less HB1.out.size
  · exact (HB1.out.trans ((HB2.out.mono HB1.out.size).trans ((Below.refl _ _).alloc (by have := HHs.out; have := HB1.out.size; omega) _))).trans (hbel3.mono HB1.out.size)

/-- What Check answers. -/
def checkN (bs : List Nat) : List Nat × Nat :=
  if bs.length < 4 then ([], 10) else if sealN (bs.take (bs.length - 4)) = bs then (bs.take (bs.length - 4), 0) else ([], 30)
end Go.Proofs.Ytbmdgoljjffjdaa
