/- Of any section FrameOne answers true: frame.One answers what the document does. Conditions: none. -/
import Derived.Test.YtbmdgoljjffjdaaKnown03
import Derived.Test.YtbmdgoljjffjdaaLawSecs
namespace Go.Proofs.Ytbmdgoljjffjdaa.frameOne
open Go.ChangeShapes Go.WideShapes Go.ChangeAt Go.RowKit

set_option maxRecDepth 100000 in
set_option maxHeartbeats 400000 in
theorem walk (k : Int) (A : Option Addr) (n c : Nat) (bs : List Nat) (w : World) (hh : Has w A n c (u8s bs)) (hb : ∀ x ∈ bs, x < 256) (_hn : n ≤ 9223372036854775807) (_hk : -9223372036854775808 ≤ k ∧ k ≤ 9223372036854775807) :
    Calls Try.prog 6 #[.agg #[.int .i64 k, .slice A n c]] w fun e w' => e = .returned (.bool true) ∧ Below w.heap.size w w' := by
  by_cases hl : 1000 < n
  · have t : decide ((1000 : Int) < (n : Int)) = true := by simp; omega
    clear hh hb
    go_enter Try.func6, Try.ntmps6
    go_wp2_with (go_at_call 9; refine (known03 _).mono ?_; rintro e w' ⟨rfl, hb⟩)
    go_ret
    exact ⟨rfl, new_call (new_alloc (Below.refl _ _) _) hb⟩
  · have t : decide ((1000 : Int) < (n : Int)) = false := by simp; omega
    have HD : Hid (∀ W, Below w.heap.size w W → Calls Try.prog 12 #[.agg #[.int .i64 k, .slice A n c]] W (Fixd W (oneN (k, bs)))) := fun W hW => frameOne_any k A n c bs W (hh.kept hW) hb (by omega) (by omega)
    have HR : Hid (∀ W, Below w.heap.size w W → Calls Try.prog 13 #[.agg #[.int .i64 k, .slice A n c]] W (Fixd W (oneN (k, bs)))) := fun W hW => refOne_any k A n c bs W (hh.kept hW) hb (by omega) (by omega)
    have HBy := Lib.hid (oneN_byte (s := (k, bs)) hb)
    clear hh hb
    generalize oneN (k, bs) = r at *
    go_enter Try.func6, Try.ntmps6
    go_wp2_with fail
    refine (HD.out _ (new_alloc (Below.refl _ _) _)).mono ?_
    rintro e w1 ⟨v1, rfl, ho1, hb1⟩
    obtain ⟨A1, c1, rfl, hh1⟩ := ho1.has
    have HH1 := Lib.hid hh1
    have HB1 := Lib.hid (new_call (new_alloc (Below.refl _ _) _) hb1)
    have hy0 : w1.cell? ⟨w.heap.size, 0, none⟩ = some (.int .i64 k) := by
      rw [hb1.cell (p := ⟨w.heap.size, 0, none⟩) (by simp), World.cell?_alloc_at _ _ _ _ rfl]; rfl
    have hy1 : w1.cell? ⟨w.heap.size, 1, none⟩ = some (.slice A n c) := by
      rw [hb1.cell (p := ⟨w.heap.size, 1, none⟩) (by simp), World.cell?_alloc_at _ _ _ _ rfl]; rfl
    clear ho1 hh1 hb1
    go_wp2_with fail
    refine (HR.out _ HB1.out).mono ?_
    rintro e w2 ⟨v2, rfl, ho2, hb2⟩
    obtain ⟨A2, c2, rfl, hh2⟩ := ho2.has
    have HH2 := Lib.hid hh2
    have HK := Lib.hid (HH1.out.kept hb2)
    have HB2 := Lib.hid (new_call HB1.out hb2)
    clear ho2 hh2 hb2
    go_wp2_with (first
      | (go_at_call 14; refine (same_any _ _ _ _ _ _ r.1 r.1 _ HK.out HH2.out HBy.out HBy.out).mono ?_; rintro e w' ⟨rfl, rfl⟩)
      | (go_at_call 9; refine (known03 _).mono ?_; rintro e w' ⟨rfl, hb⟩))
    go_ret
    exact ⟨rfl, new_call HB2.out hb⟩

set_option maxRecDepth 100000 in
theorem lifted (os : Os) (started : os.Started) (H : Type) (enc : TypeId × Value → H) :
    ReturnsInHanded {} Try.checked os 6 .any (Rows.frameOneSpec.pre6 enc Try.prog Try.f6 Rows.frameOneRow.domain false) (Rows.frameOneSpec.post enc Try.prog Try.f6 false true false false) := by
  refine returnsInHanded_of_change (C := Try.checked) Try.own started (by kernel_rfl) Try.func6
    (ChangeSpec.witness6 (enc := enc) (C := Try.checked) false ⟨#[], #[.agg #[.int .i64 0, .slice none 0 0]], []⟩ 8 (by kernel_rfl) (by kernel_rfl) (by kernel_rfl) (by kernel_rfl)) ?_
  intro W base args ds gs before hval0 hW _ _
  have hval : ∀ (j : Nat) t v, Try.f6.params[j]? = some t → args[j]? = some v → Value.okWide Try.prog W .any base t v := hval0
  have hW' := hW
  obtain ⟨p, q, hA0, hV, rfl, _, _⟩ := hW
  have hA : DataW.TrodAll enc Try.prog W 0 (fun _ => true) true Try.f6.params.toList args.toList ds p := hA0
  rw [Try.params6] at hA hval
  obtain ⟨v0, d0, rfl, rfl, h0⟩ := trodAll_one hA
  obtain ⟨rfl, rfl⟩ := trodVars_none hV
  obtain ⟨k0, A0, n0, c0, bs0, rfl, hh0, hb0, hn0, hk0⟩ := open_sec (hval 0 33 v0 rfl rfl) h0
  exact (walk k0 A0 n0 c0 bs0 W hh0 hb0 hn0 hk0).mono fun e W' he =>
    law_post rfl rfl (by rw [Try.params6]; intro t ht; simp at ht; subst ht; exact ⟨by kernel_rfl, of_decide_eq_true (by kernel_rfl)⟩) hW' rfl he

theorem proved : Rows.FrameOneSaid :=
  OpenClaim.holds_of_wide 6 Try.f6 rfl rfl rfl rfl rfl rfl rfl ⟨rfl, rfl, rfl, rfl, rfl⟩ rfl rfl rfl rfl rfl (by kernel_rfl) Try.func6 (by kernel_rfl)
    (of_decide_eq_true (by kernel_rfl)) (by unfold Func.isWrapper; first | (rw [if_pos (by decide +kernel)]; kernel_rfl) | (rw [if_neg (by decide +kernel)]; exact ⟨rfl, rfl⟩))
    (fun os started H enc _ => lifted os started H enc)
end Go.Proofs.Ytbmdgoljjffjdaa.frameOne
