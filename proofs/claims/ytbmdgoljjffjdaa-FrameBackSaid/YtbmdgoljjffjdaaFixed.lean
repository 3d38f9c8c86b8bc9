/- vint.rightWidth, vint.Fixed: a number in so many bytes. -/
import Derived.Test.YtbmdgoljjffjdaaVintNums
import Derived.Deep.LoopGhost
namespace Go.Proofs.Ytbmdgoljjffjdaa
open Go.RowKit

def widthOk (n : Int) : Bool := decide (1 ≤ n ∧ n ≤ 8)
theorem width_any (n : Int) (w : World) : Calls Try.prog 43 #[.int .i64 n] w fun e w' => e = .returned (.bool (widthOk n)) ∧ w = w' := by
  by_cases h1 : 1 ≤ n
  · by_cases h2 : n ≤ 8
    · have hw : Hid (true = widthOk n) := by show _ = _; unfold widthOk; simp [h1, h2]
      go_enter Try.func43, Try.ntmps43
      go_wp2
      go_ret
      exact ⟨ret_bool hw.out, rfl⟩
    · have hw : Hid (false = widthOk n) := by show _ = _; unfold widthOk; simp [h2]
      have h2' : decide (n ≤ 8) = false := by simpa using h2
      go_enter Try.func43, Try.ntmps43
      go_wp2
      go_ret
      exact ⟨ret_bool hw.out, rfl⟩
  · have hw : Hid (false = widthOk n) := by show _ = _; unfold widthOk; simp [h1]
    have h1' : decide (1 ≤ n) = false := by simpa using h1
    go_enter Try.func43, Try.ntmps43
    go_wp2
    go_ret
    exact ⟨ret_bool hw.out, rfl⟩

def Fixd (w : World) (r : List Nat × Nat) (e : Ending) (w' : World) : Prop := ∃ v, e = .returned (.tuple #[v, .int .i64 (r.2 : Int)]) ∧ Own w' w.heap.size 5 v (u8s r.1) ∧ Below w.heap.size w w'

set_option maxRecDepth 100000 in
set_option maxHeartbeats 400000 in
theorem fixed_any (n : Nat) (width : Int) (w : World) (_hn : n < 18446744073709551616) :
    Calls Try.prog 38 #[.int .u64 n, .int .i64 width] w (Fixd w (fixed n width)) := by
  by_cases hw : widthOk width = true
  · have hw' : 1 ≤ width ∧ width ≤ 8 := by simpa [widthOk] using hw
    obtain ⟨W, rfl⟩ := Int.eq_ofNat_of_zero_le (show 0 ≤ width by omega)
    have hz : (Try.prog.info? 5).bind (·.zero) = some (.int .u8 0) := by kernel_rfl
    by_cases hbig : 256 ^ W ≤ n
    · have hf : Aside (fixed n W = ([], 2)) := fixed_big hbig
      have hq : ((n : Int) / 2 ^ (8 * W) != 0) = true := by
        rw [shr8, bne_iff_ne]
        have := Nat.div_pos hbig (Nat.pow_pos (by decide))
        omega
      clear hbig
      go_enter Try.func38, Try.ntmps38
      go_wp2_with (go_at_call 43; refine (width_any _ _).mono ?_; rintro e w' ⟨rfl, rfl⟩)
      go_ret2
      rw [hf.out]
      exact ⟨_, rfl, Own.nil _ _ _, Below.refl _ _⟩
    · have hf : Aside (fixed n W = (fixedN n W, 0)) := fixed_fits (by omega) (by omega) hbig
      have hq : ((n : Int) / 2 ^ (8 * W) != 0) = false := by
        rw [shr8, Nat.div_eq_of_lt (by omega)]; rfl
      clear hbig
      go_enter Try.func38, Try.ntmps38
      go_wp2_with (first
        | (go_at_call 43; refine (width_any _ _).mono ?_; rintro e w' ⟨rfl, rfl⟩)
        | (at_make; refine wpList_made rfl _ _ 25 rfl elem8 (.int .u8 0) hz rfl w.heap.size _ _ _ _ W rfl rfl (by omega) (by omega) (by omega) (by decide) (Nat.le_refl _) ?_; intro w1 hown hbel))
      clear hz
      go_loopg [22] W (fun g s22 wx => ∃ i : Nat, i + g = W ∧ s22 = .int .i64 i ∧ Own wx w.heap.size 5 (.slice (some ⟨w.heap.size, 0, none⟩) W W) (u8s ((List.range i).map (dig n)) ++ List.replicate (W - i) (.int .u8 0)) ∧ Below w.heap.size w wx)
      case atStart => exact ⟨0, by omega, rfl, by simpa [u8s] using hown, hbel⟩
      case round =>
        obtain ⟨i, hig, rfl, hown2, hbel2⟩ := hrel
        have hlen : (u8s ((List.range i).map (dig n)) ++ List.replicate (W - i) (Value.int .u8 0)).length = W := by simp [u8s]; omega
        by_cases hi : i < W
        · have hst := hown2.stored hlen i (.int .u8 ((dig n i : Nat) : Int))
          rw [fill_step n W i hi] at hst
          have hc := hown2.cellAt hlen i hi
          obtain ⟨hc1, hc2⟩ := hc
          rw [List.getElem?_append_right (by simp [u8s])] at hc1
          have hc1' : wr.cell? ⟨w.heap.size, i, none⟩ = some (.int .u8 0) := by
            rw [hc1, List.getElem?_replicate, if_pos (by simp [u8s]; omega)]
          clear hc1
          have hsh := shr8_dig n i
          have R1 := Lib.hid hst.1
          have R2 := Lib.hid (hbel2.trans hst.2)
          clear hst hown2 hbel2 hown hbel
          go_wp2
          go_roundg (gk - 1)
          case measure => omega
          case rel =>
            refine ⟨i + 1, by omega, by go_num, ?_, ?_⟩
            · exact R1.out
            · exact R2.out
        · go_wp2
          go_ret2
          rw [hf.out]
          obtain rfl : i = W := by omega
          refine ⟨_, rfl, ?_, hbel2⟩
          simpa [fixedN] using hown2
  · have hf : Aside (fixed n width = ([], 2)) := fixed_wide (by simpa [widthOk] using hw)
    have hw' : widthOk width = false := by simpa using hw
    clear hw
    go_enter Try.func38, Try.ntmps38
    go_wp2_with (go_at_call 43; refine (width_any _ _).mono ?_; rintro e w' ⟨rfl, rfl⟩)
    go_ret2
    rw [hf.out]
    exact ⟨_, rfl, Own.nil _ _ _, Below.refl _ _⟩
end Go.Proofs.Ytbmdgoljjffjdaa
