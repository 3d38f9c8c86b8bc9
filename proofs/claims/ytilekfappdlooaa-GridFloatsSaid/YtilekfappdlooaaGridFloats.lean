/- Of any two numbers GridFloats answers true: of any coordinate the floating number, so much finer, or why there is none, is what the chapter says. Conditions: none. -/
import Derived.Test.YtilekfappdlooaaKnown07
import Derived.Test.YtilekfappdlooaaLaw
import Derived.Test.YtilekfappdlooaaGridLaw
namespace Go.Proofs.Ytilekfappdlooaa.gridFloats
open Go.ChangeShapes Go.WideShapes Go.ChangeAt Go.RowKit

set_option maxRecDepth 100000 in
set_option maxHeartbeats 1000000 in
theorem walk (a0 a1 : Int) (w : World) (_h0 : -9223372036854775808 ≤ a0 ∧ a0 ≤ 9223372036854775807) (_h1 : -9223372036854775808 ≤ a1 ∧ a1 ≤ 9223372036854775807) :
    Calls Try.prog 10 #[.int .i64 a0, .int .i64 a1] w fun e w' => e = .returned (.bool true) ∧ Below w.heap.size w w' := by
  have HS := Lib.hid (fun W => gridFloat_any a0 a1 W)
  have HR := Lib.hid (fun W => ref7Float_any a0 a1 W)
  have hx : (floatF a0 a1).1 < 18446744073709551616 ∧ ((floatF a0 a1).2 ≠ 0 → (floatF a0 a1).1 = 0) := by
    unfold floatF
    split
    · exact ⟨by decide, fun _ => rfl⟩
    · rename_i h
      refine ⟨?_, fun h' => absurd rfl h'⟩
      have hc : coordF a0 = true := by cases hc : coordF a0 <;> simp_all
      have := of_decide_eq_true hc
      exact (fbits_is (by omega)).1
  obtain ⟨hx1, hx2⟩ := hx
  generalize floatF a0 a1 = r at *
  obtain ⟨r1, r2⟩ := r
  simp only at HS HR hx1 hx2
  have HT := Lib.hid (fun W => gridSame_any r1 r1 W hx1 hx1)
  rw [same_refl] at HT
  have hbt := fun W => bits_run r1 W
  by_cases h : r2 = 0
  · subst h
    clear hx2
    go_enter Try.func10, Try.ntmps10
    go_wp2_with fail
    refine (HS.out w).mono ?_
    rintro e w1 ⟨rfl, hb1⟩
    have HB1 := Lib.hid (hb1)
    clear hb1
    go_wp2_with fail
    refine (HR.out w1).mono ?_
    rintro e w' ⟨rfl, rfl⟩
    go_wp2_with fail
    refine (HT.out w1).mono ?_
    rintro e w2 ⟨rfl, hb2⟩
    have HB2 := Lib.hid (new_call HB1.out hb2)
    clear hb2
    go_wp2_with (go_at_call 16; refine (known07 _).mono ?_; rintro e w' ⟨rfl, hbk⟩)
    go_ret
    exact ⟨rfl, new_call HB2.out hbk⟩
  · have hz := hx2 h
    subst hz
    have t1 : ((r2 : Int) == 0) = false := beq_eq_false_iff_ne.2 (by omega)
    clear hx2
    go_enter Try.func10, Try.ntmps10
    go_wp2_with fail
    refine (HS.out w).mono ?_
    rintro e w1 ⟨rfl, hb1⟩
    have HB1 := Lib.hid (hb1)
    clear hb1
    go_wp2_with fail
    refine (HR.out w1).mono ?_
    rintro e w' ⟨rfl, rfl⟩
    go_wp2_with fail
    refine (HT.out w1).mono ?_
    rintro e w2 ⟨rfl, hb2⟩
    have HB2 := Lib.hid (new_call HB1.out hb2)
    clear hb2
    go_wp2_with (go_at_call 16; refine (known07 _).mono ?_; rintro e w' ⟨rfl, hbk⟩)
    go_ret
    exact ⟨rfl, new_call HB2.out hbk⟩

set_option maxRecDepth 100000 in
theorem lifted (os : Os) (started : os.Started) (H : Type) (enc : TypeId × Value → H) :
    ReturnsInHanded {} Try.checked os 10 .any (Rows.gridFloatsSpec.pre6 enc Try.prog Try.f10 Rows.gridFloatsRow.domain false) (Rows.gridFloatsSpec.post enc Try.prog Try.f10 false true false false) := by
  refine returnsInHanded_of_change (C := Try.checked) Try.own started (by kernel_rfl) Try.func10
    (ChangeSpec.witness6 (enc := enc) (C := Try.checked) false ⟨#[], #[.int .i64 0, .int .i64 0], []⟩ 8 (by kernel_rfl) (by kernel_rfl) (by kernel_rfl) (by kernel_rfl)) ?_
  intro W base args ds gs before hval0 hW _ _
  have hval : ∀ (j : Nat) t v, Try.f10.params[j]? = some t → args[j]? = some v → Value.okWide Try.prog W .any base t v := hval0
  have hW' := hW
  obtain ⟨p, q, hA0, hV, rfl, _, _⟩ := hW
  have hA : DataW.TrodAll enc Try.prog W 0 (fun _ => true) true Try.f10.params.toList args.toList ds p := hA0
  rw [Try.params10] at hA hval
  obtain ⟨v0, v1, d0, d1, p0, p1, rfl, rfl, rfl, h0, h1⟩ := trodAll_two hA
  obtain ⟨rfl, rfl⟩ := trodVars_none hV
  obtain ⟨a0, rfl, rfl, rfl, w0⟩ := open_int Try.underlying3 (hval 0 3 v0 rfl rfl) h0
  obtain ⟨a1, rfl, rfl, rfl, w1⟩ := open_int Try.underlying3 (hval 1 3 v1 rfl rfl) h1
  exact (walk a0 a1 W (wf_i64 w0) (wf_i64 w1)).mono fun e W' he =>
    law_post rfl rfl (by rw [Try.params10]; intro t ht; simp at ht; subst ht; exact ⟨by kernel_rfl, of_decide_eq_true (by kernel_rfl)⟩) hW' rfl he

theorem proved : Rows.GridFloatsSaid :=
  OpenClaim.holds_of_wide 10 Try.f10 rfl rfl rfl rfl rfl rfl rfl ⟨rfl, rfl, rfl, rfl, rfl⟩ rfl rfl rfl rfl rfl (by kernel_rfl) Try.func10 (by kernel_rfl)
    (of_decide_eq_true (by kernel_rfl)) (by unfold Func.isWrapper; first | (rw [if_pos (by decide +kernel)]; kernel_rfl) | (rw [if_neg (by decide +kernel)]; exact ⟨rfl, rfl⟩))
    (fun os started H enc _ => lifted os started H enc)
end Go.Proofs.Ytilekfappdlooaa.gridFloats
