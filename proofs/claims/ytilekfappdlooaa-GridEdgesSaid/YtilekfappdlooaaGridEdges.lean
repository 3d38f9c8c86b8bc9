/- Of any 64 bits and any number GridEdges answers true: no infinity, no nought with the sign, and nothing that is no number is on the grid, however fine; of both noughts 0 is the rounded one. Conditions: none. -/
import Derived.Test.YtilekfappdlooaaKnown07
import Derived.Test.YtilekfappdlooaaLaw
import Derived.Test.YtilekfappdlooaaGridLaw
import Derived.Laws.BitsAllLaws
namespace Go.Proofs.Ytilekfappdlooaa.gridEdges
open Go.ChangeShapes Go.WideShapes Go.ChangeAt Go.RowKit

theorem inf_any (w : World) : Calls Try.prog 29 #[.int .i64 1] w fun e w' => e = .returned (.float .f64 9218868437227405312) ∧ w = w' := by
  have h1 := fun W => from_run 9218868437227405312 W
  go_enter Try.func29, Try.ntmps29
  go_wp2
  go_ret
  exact ⟨rfl, rfl⟩
theorem minf_any (w : World) : Calls Try.prog 29 #[.int .i64 (-1)] w fun e w' => e = .returned (.float .f64 18442240474082181120) ∧ w = w' := by
  have h1 := fun W => from_run 18442240474082181120 W
  go_enter Try.func29, Try.ntmps29
  go_wp2
  go_ret
  exact ⟨rfl, rfl⟩
set_option maxRecDepth 100000 in
set_option maxHeartbeats 1000000 in
theorem walk (a0 a1 : Int) (w : World) (h0 : 0 ≤ a0 ∧ a0 ≤ 18446744073709551615) (h1 : 0 ≤ a1 ∧ a1 ≤ 255) :
    Calls Try.prog 8 #[.int .u64 a0, .int .u8 a1] w fun e w' => e = .returned (.bool true) ∧ Below w.heap.size w w' := by
  obtain ⟨r, rfl⟩ := Int.eq_ofNat_of_zero_le h0.1
  obtain ⟨u, rfl⟩ := Int.eq_ofNat_of_zero_le h1.1
  have hr : r < 18446744073709551616 := by omega
  obtain ⟨k, hk⟩ : ∃ k : Nat, (u : Int) % 31 = (k : Int) := ⟨u % 31, by omega⟩
  have hk30 : k ≤ 30 := by omega
  obtain ⟨n1, n2, n3⟩ := nan_parts hr
  have hkn := kind_nan n2 n3
  have ex : bits .or .u64 9218868437227405313 (r : Int) = ((9218868437227405313 ||| r : Nat) : Int) := u64_or_nat 9218868437227405313 r (by decide) hr
  generalize 9218868437227405313 ||| r = v at *
  have hfr : ∀ W, (callFunc 12 #[.int .u64 (v : Int)]).run Try.prog W = .ok (.value (.float .f64 v)) W := fun W => from_run v W
  have HI := Lib.hid (fun W => inf_any W)
  have HM := Lib.hid (fun W => minf_any W)
  have HC := Lib.hid (fun W => negNought_any W)
  have S1 := Lib.hid (fun W => gridScaled_any v (k : Int) W n1)
  rw [(scaled_kind hk30 hkn).1 rfl] at S1
  have S2 := Lib.hid (fun W => gridScaled_any 9218868437227405312 (k : Int) W (by decide))
  rw [(scaled_kind hk30 (show kindF 9218868437227405312 = 1 by decide +kernel)).2.2 (by decide)] at S2
  have S3 := Lib.hid (fun W => gridScaled_any 18442240474082181120 (k : Int) W (by decide))
  rw [(scaled_kind hk30 (show kindF 18442240474082181120 = 2 by decide +kernel)).2.2 (by decide)] at S3
  have S4 := Lib.hid (fun W => gridScaled_any 9223372036854775808 (k : Int) W (by decide))
  rw [(scaled_kind hk30 (show kindF 9223372036854775808 = 4 by decide +kernel)).2.2 (by decide)] at S4
  have S5 := Lib.hid (fun W => gridScaled_any 0 (k : Int) W (by decide))
  rw [(scaled_kind hk30 (show kindF 0 = 3 by decide +kernel)).2.1 rfl] at S5
  have R1 := Lib.hid (fun W => gridRound_any v W n1)
  rw [(round_kind hkn).1 rfl] at R1
  have R2 := Lib.hid (fun W => gridRound_any 9218868437227405312 W (by decide))
  rw [(round_kind (show kindF 9218868437227405312 = 1 by decide +kernel)).2 (by decide)] at R2
  have R3 := Lib.hid (fun W => gridRound_any 9223372036854775808 W (by decide))
  rw [round_nought (Or.inr (by decide +kernel)) (by decide +kernel)] at R3
  have K1 := Lib.hid (fun W => gridKind_any v W n1)
  rw [hkn] at K1
  have E1 := Lib.hid (fun W => gridSame_any 0 9223372036854775808 W (by decide) (by decide))
  rw [show sameF 0 9223372036854775808 = false by decide +kernel] at E1
  clear n2 n3 hkn
  go_enter Try.func8, Try.ntmps8
  go_wp2_with fail
  refine (S1.out w).mono ?_
  rintro e w1 ⟨rfl, hb1⟩
  have HB1 := Lib.hid (hb1)
  clear hb1
  go_wp2_with fail
  refine (HI.out w1).mono ?_
  rintro e w' ⟨rfl, rfl⟩
  go_wp2_with fail
  refine (S2.out w1).mono ?_
  rintro e w2 ⟨rfl, hb2⟩
  have HB2 := Lib.hid (new_call HB1.out hb2)
  clear hb2
  go_wp2_with fail
  refine (HM.out w2).mono ?_
  rintro e w' ⟨rfl, rfl⟩
  go_wp2_with fail
  refine (S3.out w2).mono ?_
  rintro e w3 ⟨rfl, hb3⟩
  have HB3 := Lib.hid (new_call HB2.out hb3)
  clear hb3
  go_wp2_with fail
  refine (HC.out w3).mono ?_
  rintro e w' ⟨rfl, rfl⟩
  go_wp2_with fail
  refine (S4.out w3).mono ?_
  rintro e w4 ⟨rfl, hb4⟩
  have HB4 := Lib.hid (new_call HB3.out hb4)
  clear hb4
  go_wp2_with fail
  refine (R1.out w4).mono ?_
  rintro e w5 ⟨rfl, hb5⟩
  have HB5 := Lib.hid (new_call HB4.out hb5)
  clear hb5
  go_wp2_with fail
  refine (HI.out w5).mono ?_
  rintro e w' ⟨rfl, rfl⟩
  go_wp2_with fail
  refine (R2.out w5).mono ?_
  rintro e w6 ⟨rfl, hb6⟩
  have HB6 := Lib.hid (new_call HB5.out hb6)
  clear hb6
  go_wp2_with fail
  refine (HC.out w6).mono ?_
  rintro e w' ⟨rfl, rfl⟩
  go_wp2_with fail
  refine (R3.out w6).mono ?_
  rintro e w7 ⟨rfl, hb7⟩
  have HB7 := Lib.hid (new_call HB6.out hb7)
  clear hb7
  go_wp2_with fail
  refine (S5.out w7).mono ?_
  rintro e w8 ⟨rfl, hb8⟩
  have HB8 := Lib.hid (new_call HB7.out hb8)
  clear hb8
  go_wp2_with fail
  refine (K1.out w8).mono ?_
  rintro e w9 ⟨rfl, hb9⟩
  have HB9 := Lib.hid (new_call HB8.out hb9)
  clear hb9
  go_wp2_with fail
  refine (HC.out w9).mono ?_
  rintro e w' ⟨rfl, rfl⟩
  go_wp2_with fail
  refine (E1.out w9).mono ?_
  rintro e w10 ⟨rfl, hb10⟩
  have HB10 := Lib.hid (new_call HB9.out hb10)
  clear hb10
  go_wp2_with (go_at_call 16; refine (known07 _).mono ?_; rintro e w' ⟨rfl, hbk⟩)
  go_ret
  exact ⟨rfl, new_call HB10.out hbk⟩

set_option maxRecDepth 100000 in
theorem lifted (os : Os) (started : os.Started) (H : Type) (enc : TypeId × Value → H) :
    ReturnsInHanded {} Try.checked os 8 .any (Rows.gridEdgesSpec.pre6 enc Try.prog Try.f8 Rows.gridEdgesRow.domain false) (Rows.gridEdgesSpec.post enc Try.prog Try.f8 false true false false) := by
  refine returnsInHanded_of_change (C := Try.checked) Try.own started (by kernel_rfl) Try.func8
    (ChangeSpec.witness6 (enc := enc) (C := Try.checked) false ⟨#[], #[.int .u64 0, .int .u8 0], []⟩ 8 (by kernel_rfl) (by kernel_rfl) (by kernel_rfl) (by kernel_rfl)) ?_
  intro W base args ds gs before hval0 hW _ _
  have hval : ∀ (j : Nat) t v, Try.f8.params[j]? = some t → args[j]? = some v → Value.okWide Try.prog W .any base t v := hval0
  have hW' := hW
  obtain ⟨p, q, hA0, hV, rfl, _, _⟩ := hW
  have hA : DataW.TrodAll enc Try.prog W 0 (fun _ => true) true Try.f8.params.toList args.toList ds p := hA0
  rw [Try.params8] at hA hval
  obtain ⟨v0, v1, d0, d1, p0, p1, rfl, rfl, rfl, h0, h1⟩ := trodAll_two hA
  obtain ⟨rfl, rfl⟩ := trodVars_none hV
  obtain ⟨a0, rfl, rfl, rfl, w0⟩ := open_int Try.underlying22 (hval 0 22 v0 rfl rfl) h0
  obtain ⟨a1, rfl, rfl, rfl, w1⟩ := open_int Try.underlying5 (hval 1 5 v1 rfl rfl) h1
  exact (walk a0 a1 W (wf_u64 w0) (wf_u8 w1)).mono fun e W' he =>
    law_post rfl rfl (by rw [Try.params8]; intro t ht; simp at ht; rcases ht with rfl | rfl <;> exact ⟨by kernel_rfl, of_decide_eq_true (by kernel_rfl)⟩) hW' rfl he

theorem proved : Rows.GridEdgesSaid :=
  OpenClaim.holds_of_wide 8 Try.f8 rfl rfl rfl rfl rfl rfl rfl ⟨rfl, rfl, rfl, rfl, rfl⟩ rfl rfl rfl rfl rfl (by kernel_rfl) Try.func8 (by kernel_rfl)
    (of_decide_eq_true (by kernel_rfl)) (by unfold Func.isWrapper; first | (rw [if_pos (by decide +kernel)]; kernel_rfl) | (rw [if_neg (by decide +kernel)]; exact ⟨rfl, rfl⟩))
    (fun os started H enc _ => lifted os started H enc)
end Go.Proofs.Ytilekfappdlooaa.gridEdges
