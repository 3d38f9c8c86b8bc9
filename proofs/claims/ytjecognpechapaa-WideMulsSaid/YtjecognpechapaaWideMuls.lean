/- Of any two words WideMuls answers true: of any two words the product, and each as a wide number, is what the chapter says. Conditions: none. -/
import Derived.Test.YtjecognpechapaaKnown08
import Derived.Test.YtjecognpechapaaLaw
namespace Go.Proofs.Ytjecognpechapaa.wideMuls
open Go.ChangeShapes Go.WideShapes Go.ChangeAt Go.RowKit

set_option maxRecDepth 100000 in
set_option maxHeartbeats 1000000 in
theorem walk (a b : Int) (w : World) (ha : -9223372036854775808 ≤ a ∧ a ≤ 9223372036854775807) (hb : -9223372036854775808 ≤ b ∧ b ≤ 9223372036854775807) :
    Calls Try.prog 3 #[.int .i64 a, .int .i64 b] w fun e w' => e = .returned (.bool true) ∧ Below w.heap.size w w' := by
  have HM := Lib.hid (fun W => wideMul_any a b W ha hb)
  have HO := Lib.hid (fun W => wideOf_any a W ha)
  have HA := Lib.hid (fun W => ref8Of_any a W ha)
  have HB := Lib.hid (fun W => ref8Of_any b W hb)
  clear ha hb
  go_enter Try.func3, Try.ntmps3
  go_wp2_with fail
  refine (HM.out _).mono ?_
  rintro e w1 ⟨rfl, hb1⟩
  have HB1 := Lib.hid hb1
  clear hb1
  go_wp2_with fail
  refine (HA.out _).mono ?_
  rintro e w2 ⟨A2, c2, rfl, hh2, hb2, _⟩
  have HB2 := Lib.hid (new_call HB1.out hb2)
  have HH2 := Lib.hid hh2
  clear hb2 hh2 HB1
  go_wp2_with fail
  refine (HB.out _).mono ?_
  rintro e w3 ⟨A3, c3, rfl, hh3, hb3, _⟩
  have HB3 := Lib.hid (new_call HB2.out hb3)
  have HMr := Lib.hid (ref8MulD_any A2 c2 a A3 c3 b w3 (HH2.out.kept hb3) hh3)
  clear hb3 hh3 HB2 HH2
  go_wp2_with fail
  refine HMr.out.mono ?_
  rintro e w4 ⟨A4, c4, rfl, hh4, hb4, _⟩
  have HB4 := Lib.hid (new_call HB3.out hb4)
  have HI := Lib.hid (lawIs_any (a * b) A4 c4 (a * b) w4 hh4 (Cong.refl _))
  clear hb4 hh4 HB3 HMr
  go_wp2_with fail
  refine HI.out.mono ?_
  rintro e w5 ⟨rfl, hb5⟩
  have HB5 := Lib.hid (new_call HB4.out hb5)
  clear hb5 HB4 HI
  go_wp2_with fail
  refine (HO.out _).mono ?_
  rintro e w6 ⟨rfl, hb6⟩
  have HB6 := Lib.hid (new_call HB5.out hb6)
  clear hb6 HB5
  go_wp2_with fail
  refine (HA.out _).mono ?_
  rintro e w7 ⟨A7, c7, rfl, hh7, hb7, _⟩
  have HB7 := Lib.hid (new_call HB6.out hb7)
  have HJ := Lib.hid (lawIs_any a A7 c7 a w7 hh7 (Cong.refl _))
  clear hb7 hh7 HB6
  go_wp2_with fail
  refine HJ.out.mono ?_
  rintro e w8 ⟨rfl, hb8⟩
  have HB8 := Lib.hid (new_call HB7.out hb8)
  clear hb8 HB7 HJ
  go_wp2_with fail
  refine (known08 _).mono ?_
  rintro e w9 ⟨rfl, hb9⟩
  have HB9 := Lib.hid (new_call HB8.out hb9)
  go_wp2
  go_ret
  exact ⟨rfl, HB9.out⟩

set_option maxRecDepth 100000 in
theorem lifted (os : Os) (started : os.Started) (H : Type) (enc : TypeId × Value → H) :
    ReturnsInHanded {} Try.checked os 3 .any (Rows.wideMulsSpec.pre6 enc Try.prog Try.f3 Rows.wideMulsRow.domain false) (Rows.wideMulsSpec.post enc Try.prog Try.f3 false true false false) := by
  refine returnsInHanded_of_change (C := Try.checked) Try.own started (by kernel_rfl) Try.func3
    (ChangeSpec.witness6 (enc := enc) (C := Try.checked) false ⟨#[], #[.int .i64 0, .int .i64 0], []⟩ 8 (by kernel_rfl) (by kernel_rfl) (by kernel_rfl) (by kernel_rfl)) ?_
  intro W base args ds gs before hval0 hW _ _
  have hval : ∀ (j : Nat) t v, Try.f3.params[j]? = some t → args[j]? = some v → Value.okWide Try.prog W .any base t v := hval0
  have hW' := hW
  obtain ⟨p, q, hA0, hV, rfl, _, _⟩ := hW
  have hA : DataW.TrodAll enc Try.prog W 0 (fun _ => true) true Try.f3.params.toList args.toList ds p := hA0
  rw [Try.params3] at hA hval
  obtain ⟨v0, v1, d0, d1, p0, p1, rfl, rfl, rfl, h0, h1⟩ := trodAll_two hA
  obtain ⟨rfl, rfl⟩ := trodVars_none hV
  obtain ⟨a0, rfl, rfl, rfl, w0⟩ := open_int Try.underlying3 (hval 0 3 v0 rfl rfl) h0
  obtain ⟨a1, rfl, rfl, rfl, w1⟩ := open_int Try.underlying3 (hval 1 3 v1 rfl rfl) h1
  exact (walk a0 a1 W (wf_i64 w0) (wf_i64 w1)).mono fun e W' he =>
    law_post rfl rfl (by rw [Try.params3]; intro t ht; simp at ht; subst ht; exact ⟨by kernel_rfl, of_decide_eq_true (by kernel_rfl)⟩) hW' rfl he

theorem proved : Rows.WideMulsSaid :=
  OpenClaim.holds_of_wide 3 Try.f3 rfl rfl rfl rfl rfl rfl rfl ⟨rfl, rfl, rfl, rfl, rfl⟩ rfl rfl rfl rfl rfl (by kernel_rfl) Try.func3 (by kernel_rfl)
    (of_decide_eq_true (by kernel_rfl)) (by unfold Func.isWrapper; first | (rw [if_pos (by decide +kernel)]; kernel_rfl) | (rw [if_neg (by decide +kernel)]; exact ⟨rfl, rfl⟩))
    (fun os started H enc _ => lifted os started H enc)
end Go.Proofs.Ytjecognpechapaa.wideMuls
