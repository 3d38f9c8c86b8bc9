/- Of any bytes FrameReads answers true: frame.Decode answers what the document does. Conditions: none. -/
import Derived.Test.YtbmdgoljjffjdaaKnown03
import Derived.Test.YtbmdgoljjffjdaaLaw
namespace Go.Proofs.Ytbmdgoljjffjdaa.frameReads
open Go.ChangeShapes Go.WideShapes Go.ChangeAt Go.RowKit

theorem dec_byte {bs : List Nat} (hb : ∀ x ∈ bs, x < 256) : ∀ s ∈ (decN bs).1, ∀ x ∈ s.2, x < 256 := by
  by_cases h : (decN bs).2 = 0
  · exact (dec_back (res := (decN bs).1) hb (by rw [← h])).2
  · rw [dec_none h]; simp
theorem dec_len (bs : List Nat) (hb : ∀ x ∈ bs, x < 256) : (decN bs).1.length ≤ bs.length := by
  have h := (fold_ok hb st0_ok).l
  unfold decN closeN
  repeat' split
  all_goals simp
  omega
set_option maxRecDepth 100000 in
set_option maxHeartbeats 400000 in
theorem walk (A : Option Addr) (n c : Nat) (bs : List Nat) (w : World) (hh : Has w A n c (u8s bs)) (hb : ∀ x ∈ bs, x < 256) (hn : n ≤ 9223372036854775807) :
    Calls Try.prog 4 #[.slice A n c] w fun e w' => e = .returned (.bool true) ∧ Below w.heap.size w w' := by
  by_cases hl : 1200 < n
  · have t : decide ((1200 : Int) < (n : Int)) = true := by simp; omega
    clear hh hb
    go_enter Try.func4, Try.ntmps4
    go_wp2_with (go_at_call 9; refine (known03 _).mono ?_; rintro e w' ⟨rfl, hb⟩)
    go_ret
    exact ⟨rfl, hb⟩
  · have t : decide ((1200 : Int) < (n : Int)) = false := by simp; omega
    have hlen : bs.length = n := by have := hh.len; rw [u8s_len] at this; exact this
    have HD := Lib.hid (frameDec_any A n c bs w hh hb (by omega))
    have HR : Hid (∀ W, Below w.heap.size w W → Calls Try.prog 16 #[.slice A n c] W (Secd W (decN bs))) := fun W hW => refDec_any A n c bs W (hh.kept hW) hb (by omega)
    have HBy := Lib.hid (dec_byte hb)
    have hln := dec_len bs hb
    clear hh hb
    generalize decN bs = r at *
    go_enter Try.func4, Try.ntmps4
    go_wp2_with fail
    refine HD.out.mono ?_
    rintro e w1 ⟨A1, c1, rfl, hs1, hb1⟩
    have HS1 := Lib.hid hs1
    have HB1 := Lib.hid hb1
    clear hs1 hb1
    go_wp2_with fail
    refine (HR.out _ HB1.out).mono ?_
    rintro e w2 ⟨A2, c2, rfl, hs2, hb2⟩
    have HS2 := Lib.hid hs2
    have HK := Lib.hid (HS1.out.kept hb2)
    have HB2 := Lib.hid (new_call HB1.out hb2)
    clear hs2 hb2
    go_wp2_with fail
    refine (refSame3_any _ _ _ _ _ _ r.1 r.1 _ HK.out HS2.out HBy.out HBy.out (by omega) (by omega)).mono ?_
    rintro e w3 ⟨rfl, hb3⟩
    have HB3 := Lib.hid (new_call HB2.out hb3)
    clear hb3
    go_wp2_with (go_at_call 9; refine (known03 _).mono ?_; rintro e w' ⟨rfl, hb⟩)
    go_ret
    exact ⟨rfl, new_call HB3.out hb⟩

set_option maxRecDepth 100000 in
theorem lifted (os : Os) (started : os.Started) (H : Type) (enc : TypeId × Value → H) :
    ReturnsInHanded {} Try.checked os 4 .any (Rows.frameReadsSpec.pre6 enc Try.prog Try.f4 Rows.frameReadsRow.domain false) (Rows.frameReadsSpec.post enc Try.prog Try.f4 false true false false) := by
  refine returnsInHanded_of_change (C := Try.checked) Try.own started (by kernel_rfl) Try.func4
    (ChangeSpec.witness6 (enc := enc) (C := Try.checked) false ⟨#[], #[.slice none 0 0], []⟩ 8 (by kernel_rfl) (by kernel_rfl) (by kernel_rfl) (by kernel_rfl)) ?_
  intro W base args ds gs before hval0 hW _ _
  have hval : ∀ (j : Nat) t v, Try.f4.params[j]? = some t → args[j]? = some v → Value.okWide Try.prog W .any base t v := hval0
  have hW' := hW
  obtain ⟨p, q, hA0, hV, rfl, _, _⟩ := hW
  have hA : DataW.TrodAll enc Try.prog W 0 (fun _ => true) true Try.f4.params.toList args.toList ds p := hA0
  rw [Try.params4] at hA hval
  obtain ⟨v0, d0, rfl, rfl, h0⟩ := trodAll_one hA
  obtain ⟨rfl, rfl⟩ := trodVars_none hV
  obtain ⟨A0, n0, c0, bs0, rfl, hh0, hb0, hn0⟩ := open_bytes (hval 0 25 v0 rfl rfl) h0
  exact (walk A0 n0 c0 bs0 W hh0 hb0 hn0).mono fun e W' he =>
    law_post rfl rfl (by rw [Try.params4]; intro t ht; simp at ht; subst ht; exact ⟨by kernel_rfl, of_decide_eq_true (by kernel_rfl)⟩) hW' rfl he

theorem proved : Rows.FrameReadsSaid :=
  OpenClaim.holds_of_wide 4 Try.f4 rfl rfl rfl rfl rfl rfl rfl ⟨rfl, rfl, rfl, rfl, rfl⟩ rfl rfl rfl rfl rfl (by kernel_rfl) Try.func4 (by kernel_rfl)
    (of_decide_eq_true (by kernel_rfl)) (by unfold Func.isWrapper; first | (rw [if_pos (by decide +kernel)]; kernel_rfl) | (rw [if_neg (by decide +kernel)]; exact ⟨rfl, rfl⟩))
    (fun os started H enc _ => lifted os started H enc)
end Go.Proofs.Ytbmdgoljjffjdaa.frameReads
