/- Of any number ModelNew answers true: there is a model of 1 to 256 symbols, in which all are alike, and of no other number. Conditions: none. -/
import Derived.Test.YtpflaejojfoeaaaKnown05
import Derived.Test.YtpflaejojfoeaaaLaw
namespace Go.Proofs.Ytpflaejojfoeaaa.modelNew
open Go.ChangeShapes Go.WideShapes Go.ChangeAt Go.RowKit

theorem rep_sum (n : Nat) : (List.replicate n 1).sum = n := by simp
set_option maxRecDepth 100000 in
set_option maxHeartbeats 1000000 in
theorem walk (n : Int) (w : World) (_hn : -9223372036854775808 ≤ n ∧ n ≤ 9223372036854775807) :
    Calls Try.prog 7 #[.int .i64 n] w fun e w' => e = .returned (.bool true) ∧ Below w.heap.size w w' := by
  by_cases hb : n < 1 ∨ 256 < n
  · have tb : (decide (n < 1) = true) ∨ (decide (n < 1) = false ∧ decide (256 < n) = true) := by
      by_cases h : n < 1
      · exact Or.inl (by simpa using h)
      · exact Or.inr ⟨by simpa using h, by simp; omega⟩
    have HN := Lib.hid (modelNew_bad n w hb)
    clear hb
    go_enter Try.func7, Try.ntmps7
    go_wp2_with fail
    refine HN.out.mono ?_
    rintro e w1 ⟨rfl, hb1⟩
    have HB1 := Lib.hid hb1
    clear hb1
    rcases tb with t1 | ⟨t1, t2⟩
    all_goals
      go_wp2_with fail
      refine (modelSize_nil _).mono ?_
      rintro e w2 ⟨rfl, hb2⟩
      have HB2 := Lib.hid (new_call HB1.out hb2)
      clear hb2
      go_wp2_with fail
      refine (modelTotal_nil _).mono ?_
      rintro e w3 ⟨rfl, hb3⟩
      have HB3 := Lib.hid (new_call HB2.out hb3)
      clear hb3
      go_wp2_with (go_at_call 10; refine (known05 _).mono ?_; rintro e w' ⟨rfl, hb⟩)
      go_ret
      exact ⟨rfl, new_call HB3.out hb⟩
  · obtain ⟨K, rfl⟩ := Int.eq_ofNat_of_zero_le (show 0 ≤ n by omega)
    have hK1 : 1 ≤ K := by omega
    have hK2 : K ≤ 256 := by omega
    have t1 : decide ((K : Int) < 1) = false := by simp; omega
    have t2 : decide (256 < (K : Int)) = false := by simp; omega
    have HC := Lib.hid (Cnts.new hK1 hK2)
    have HS : Hid (shareN (List.replicate K 1) ((K : Int) - 1) = (K - 1, 1, 0)) := by
      show _ = _
      unfold shareN
      rw [if_neg (by simp; omega), show ((K : Int) - 1).toNat = K - 1 by omega, List.take_replicate, rep_sum]
      have e1 : min (K - 1) K = K - 1 := by omega
      have e2 : (List.replicate K 1).getD (K - 1) 0 = 1 := by rw [List.getD_eq_getElem?_getD, List.getElem?_replicate, if_pos (by omega)]; rfl
      rw [e1, e2]
    clear hb
    go_enter Try.func7, Try.ntmps7
    go_wp2_with fail
    refine (modelNew_any K w hK1 hK2).mono ?_
    rintro e w1 ⟨p, S, rfl, hf1, _, hb1⟩
    have HF1 := Lib.hid hf1
    have HB1 := Lib.hid hb1
    clear hf1 hb1
    have hk1 : ((K - 1 : Nat) : Int) = (K : Int) - 1 := by omega
    have HK := Lib.hid hk1
    clear hk1
    go_wp2_with fail
    refine (modelShare_any p S _ _ w1 HF1.out HC.out).mono ?_
    rintro e w2 ⟨rfl, hb2⟩
    rw [HS.out]
    simp only [HK.out]
    have HF2 := Lib.hid (HF1.out.chg (D := fun _ => False) (Chg.of_below hb2) (fun _ _ h => h))
    have HB2 := Lib.hid (new_call HB1.out hb2)
    clear hb2
    go_wp2_with fail
    refine (modelSize_any p S _ w2 HF2.out HC.out).mono ?_
    rintro e w3 ⟨rfl, hb3⟩
    rw [List.length_replicate]
    have HF3 := Lib.hid (HF2.out.chg (D := fun _ => False) (Chg.of_below hb3) (fun _ _ h => h))
    have HB3 := Lib.hid (new_call HB2.out hb3)
    clear hb3
    go_wp2_with fail
    refine (modelTotal_any p S _ w3 HF3.out HC.out).mono ?_
    rintro e w4 ⟨rfl, hb4⟩
    rw [rep_sum]
    have HB4 := Lib.hid (new_call HB3.out hb4)
    clear hb4
    go_wp2_with (go_at_call 10; refine (known05 _).mono ?_; rintro e w' ⟨rfl, hb⟩)
    go_ret
    exact ⟨rfl, new_call HB4.out hb⟩

set_option maxRecDepth 100000 in
theorem lifted (os : Os) (started : os.Started) (H : Type) (enc : TypeId × Value → H) :
    ReturnsInHanded {} Try.checked os 7 .any (Rows.modelNewSpec.pre6 enc Try.prog Try.f7 Rows.modelNewRow.domain false) (Rows.modelNewSpec.post enc Try.prog Try.f7 false true false false) := by
  refine returnsInHanded_of_change (C := Try.checked) Try.own started (by kernel_rfl) Try.func7
    (ChangeSpec.witness6 (enc := enc) (C := Try.checked) false ⟨#[], #[.int .i64 0], []⟩ 8 (by kernel_rfl) (by kernel_rfl) (by kernel_rfl) (by kernel_rfl)) ?_
  intro W base args ds gs before hval0 hW _ _
  have hval : ∀ (j : Nat) t v, Try.f7.params[j]? = some t → args[j]? = some v → Value.okWide Try.prog W .any base t v := hval0
  have hW' := hW
  obtain ⟨p, q, hA0, hV, rfl, _, _⟩ := hW
  have hA : DataW.TrodAll enc Try.prog W 0 (fun _ => true) true Try.f7.params.toList args.toList ds p := hA0
  rw [Try.params7] at hA hval
  obtain ⟨v0, d0, rfl, rfl, h0⟩ := trodAll_one hA
  obtain ⟨rfl, rfl⟩ := trodVars_none hV
  obtain ⟨a0, rfl, rfl, rfl, w0⟩ := open_int Try.underlying3 (hval 0 3 v0 rfl rfl) h0
  exact (walk a0 W (wf_i64 w0)).mono fun e W' he =>
    law_post rfl rfl (by rw [Try.params7]; intro t ht; simp at ht; subst ht; exact ⟨by kernel_rfl, of_decide_eq_true (by kernel_rfl)⟩) hW' rfl he

theorem proved : Rows.ModelNewSaid :=
  OpenClaim.holds_of_wide 7 Try.f7 rfl rfl rfl rfl rfl rfl rfl ⟨rfl, rfl, rfl, rfl, rfl⟩ rfl rfl rfl rfl rfl (by kernel_rfl) Try.func7 (by kernel_rfl)
    (of_decide_eq_true (by kernel_rfl)) (by unfold Func.isWrapper; first | (rw [if_pos (by decide +kernel)]; kernel_rfl) | (rw [if_neg (by decide +kernel)]; exact ⟨rfl, rfl⟩))
    (fun os started H enc _ => lifted os started H enc)
end Go.Proofs.Ytpflaejojfoeaaa.modelNew
