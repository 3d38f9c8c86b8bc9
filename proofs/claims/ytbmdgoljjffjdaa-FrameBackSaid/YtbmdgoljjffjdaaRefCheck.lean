/- lapidaryref02.Check. -/
import Derived.Test.YtbmdgoljjffjdaaRefSeal
namespace Go.Proofs.Ytbmdgoljjffjdaa
open Go.RowKit

theorem checkN_short {bs : List Nat} (h : bs.length < 4) : checkN bs = ([], 10) := if_pos h
theorem checkN_sum {bs : List Nat} (h : ¬ bs.length < 4) (h2 : ¬ sealN (bs.take (bs.length - 4)) = bs) : checkN bs = ([], 30) := by
  unfold checkN; rw [if_neg h, if_neg h2]
theorem checkN_ok {bs : List Nat} (h : ¬ bs.length < 4) (h2 : sealN (bs.take (bs.length - 4)) = bs) : checkN bs = (bs.take (bs.length - 4), 0) := by
  unfold checkN; rw [if_neg h, if_pos h2]

set_option maxRecDepth 100000 in
theorem refCheck_any (A : Option Addr) (n c : Nat) (bs : List Nat) (w : World) (h : Has w A n c (u8s bs)) (hb : ∀ x ∈ bs, x < 256) (hn : n ≤ 100000) :
    Calls Try.prog 37 #[.slice A n c] w (Fixd w (checkN bs)) := by
  have hl : bs.length = n := by have := h.len; rw [u8s_len] at this; exact this
  by_cases h4 : n < 4
  · have HF := Lib.hid (checkN_short (bs := bs) (by omega))
    have t4 : decide ((n : Int) < 4) = true := by simp; omega
    clear h hb hl
    go_enter Try.func37, Try.ntmps37
    go_wp2
    go_ret2
    rw [HF.out]
    exact ⟨_, rfl, Own.nil _ _ _, Below.refl _ _⟩
  · have t4 : decide ((n : Int) < 4) = false := by simp; omega
    obtain ⟨b, off, rfl, _, _⟩ := h.spot (by omega)
    obtain ⟨k, hk⟩ : ∃ k, n = k + 4 := ⟨n - 4, by omega⟩
    have hcap := h.cap
    have hc0 : ¬ c = 0 := by omega
    have hhd := h.head (m := k) (by omega)
    rw [show (u8s bs).take k = u8s (bs.take k) by simp [u8s]] at hhd
    have hbk : ∀ x ∈ bs.take k, x < 256 := fun x hx => hb x (List.mem_of_mem_take hx)
    have HS := Lib.hid (refSeal_any _ k c (bs.take k) w hhd hbk (by omega))
    have HC : Hid (∀ W, Below w.heap.size w W → Calls Try.prog 18 #[.slice (some ⟨b, off, none⟩) k c] W (Wrote W (bs.take k))) := fun W hW => copy_any _ k c (bs.take k) W (hhd.kept hW) (by omega)
    have HH := Lib.hid h
    have HBy := Lib.hid hb
    have HSB := Lib.hid (sealN_byte hbk)
    have HO := Lib.hid (checkN_ok (bs := bs) (by omega))
    have HN := Lib.hid (checkN_sum (bs := bs) (by omega))
    rw [show bs.length - 4 = k by omega] at HO HN
    subst hk
    clear h hb hl h4 hhd hbk
    generalize bs.take k = hd at *
    by_cases he : sealN hd = bs
    · have te : decide (sealN hd = bs) = true := decide_eq_true he
      have HE := Lib.hid he
      clear he
      go_enter Try.func37, Try.ntmps37
      go_wp2_with (first
        | (go_at_call 24; refine HS.out.mono ?_; rintro e w1 ⟨A1, c1, rfl, hh1, ho1, hb1⟩; have HH1 := Lib.hid hh1; have HB1 := Lib.hid hb1; clear hh1 ho1 hb1)
        | (go_at_call 14; refine (same_any _ _ _ _ _ _ _ bs _ HH1.out (HH.out.kept HB1.out) HSB.out HBy.out).mono ?_; rintro e w' ⟨rfl, rfl⟩)
        | (go_at_call 18; refine (HC.out _ HB1.out).mono ?_; rintro e w2 ⟨A2, c2, rfl, hh2, ho2, hb2⟩))
      go_ret2
      rw [HO.out HE.out]
      exact ⟨_, rfl, ho2.less HB1.out.size, new_call HB1.out hb2⟩
    · have te : decide (sealN hd = bs) = false := decide_eq_false he
      have HE := Lib.hid he
      clear he
      go_enter Try.func37, Try.ntmps37
      go_wp2_with (first
        | (go_at_call 24; refine HS.out.mono ?_; rintro e w1 ⟨A1, c1, rfl, hh1, ho1, hb1⟩; have HH1 := Lib.hid hh1; have HB1 := Lib.hid hb1; clear hh1 ho1 hb1)
        | (go_at_call 14; refine (same_any _ _ _ _ _ _ _ bs _ HH1.out (HH.out.kept HB1.out) HSB.out HBy.out).mono ?_; rintro e w' ⟨rfl, rfl⟩))
      go_ret2
      rw [HN.out HE.out]
      exact ⟨_, rfl, Own.nil _ _ _, HB1.out⟩
end Go.Proofs.Ytbmdgoljjffjdaa
