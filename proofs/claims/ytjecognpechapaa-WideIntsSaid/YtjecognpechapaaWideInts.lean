/- Of any two words WideInts answers true: a word comes back from a wide number, and just those wide numbers that are words are any. Conditions: none. -/
import Derived.Test.YtjecognpechapaaKnown08
import Derived.Test.YtjecognpechapaaLaw
namespace Go.Proofs.Ytjecognpechapaa.wideInts
open Go.ChangeShapes Go.WideShapes Go.ChangeAt Go.RowKit

theorem back_of (a : Int) : valW (hiW a) (loW a) = a ∨ ¬ i64W a := by
  by_cases h : i64W a
  · left; unfold i64W at h; unfold valW hiW loW wrap64; omega
  · exact Or.inr h
set_option maxRecDepth 100000 in
set_option maxHeartbeats 1000000 in
theorem walk (a hi : Int) (w : World) (ha : -9223372036854775808 ≤ a ∧ a ≤ 9223372036854775807) (hh : -9223372036854775808 ≤ hi ∧ hi ≤ 9223372036854775807) :
    Calls Try.prog 9 #[.int .i64 a, .int .i64 hi] w fun e w' => e = .returned (.bool true) ∧ Below w.heap.size w w' := by
  have HO := Lib.hid (wideOf_any a w ha)
  have HI := Lib.hid (fun W => wideInt_any (hiW a) (loW a) W (hi_in a) (lo_in a))
  rw [(back_of a).resolve_right (fun h => h ha), show intR a = (a, true) from if_pos ha] at HI
  have eA : IntKind.wrap .u64 a = a % 18446744073709551616 := IntKind.wrap_u64 a
  have HJ := Lib.hid (fun W => wideInt_any hi (a % 18446744073709551616) W hh (by unfold u64W; omega))
  unfold numV at HO
  have HV : Hid (intR (valW hi (a % 18446744073709551616)) = if (hi = 0 ∧ 0 ≤ a) ∨ (hi = -1 ∧ a < 0) then (a, true) else (0, false)) := by
    show _ = _
    unfold intR valW
    by_cases h : (hi = 0 ∧ 0 ≤ a) ∨ (hi = -1 ∧ a < 0)
    · rw [if_pos h, if_pos (by omega)]
      congr 1
      omega
    · rw [if_neg h, if_neg (by omega)]
  rw [HV.out] at HJ
  clear HV
  go_enter Try.func9, Try.ntmps9
  go_wp2_with fail
  refine HO.out.mono ?_
  rintro e w1 ⟨rfl, hb1⟩
  have HB1 := Lib.hid hb1
  clear hb1 HO
  go_wp2_with fail
  refine (HI.out _).mono ?_
  rintro e w2 ⟨rfl, hb2⟩
  have HB2 := Lib.hid (new_alloc (new_call HB1.out hb2) (.cells #[.int .i64 hi, .int .u64 (a % 18446744073709551616)] 25))
  clear hb2 HI HB1
  go_wp2_with fail
  refine (HJ.out _).mono ?_
  rintro e w3 ⟨rfl, hb3⟩
  have HB3 := Lib.hid (new_call HB2.out hb3)
  clear hb3 HJ HB2
  by_cases h0 : hi = 0
  · subst h0
    by_cases hn : a < 0
    · have t1 : decide (0 ≤ a) = false := by simpa using hn
      rw [if_neg (by omega)]
      go_wp2_with fail
      refine (known08 _).mono ?_
      rintro e w9 ⟨rfl, hb9⟩
      have HB9 := Lib.hid (new_call HB3.out hb9)
      go_wp2
      go_ret
      exact ⟨rfl, HB9.out⟩
    · have t1 : decide (0 ≤ a) = true := by simp; omega
      rw [if_pos (by omega)]
      go_wp2_with fail
      refine (known08 _).mono ?_
      rintro e w9 ⟨rfl, hb9⟩
      have HB9 := Lib.hid (new_call HB3.out hb9)
      go_wp2
      go_ret
      exact ⟨rfl, HB9.out⟩
  · have u1 : (hi == 0) = false := beq_eq_false_iff_ne.2 h0
    by_cases h1 : hi = -1
    · subst h1
      by_cases hn : a < 0
      · have t1 : decide (a < 0) = true := by simpa using hn
        rw [if_pos (by omega)]
        go_wp2_with fail
        refine (known08 _).mono ?_
        rintro e w9 ⟨rfl, hb9⟩
        have HB9 := Lib.hid (new_call HB3.out hb9)
        go_wp2
        go_ret
        exact ⟨rfl, HB9.out⟩
      · have t1 : decide (a < 0) = false := by simpa using hn
        rw [if_neg (by omega)]
        go_wp2_with fail
        refine (known08 _).mono ?_
        rintro e w9 ⟨rfl, hb9⟩
        have HB9 := Lib.hid (new_call HB3.out hb9)
        go_wp2
        go_ret
        exact ⟨rfl, HB9.out⟩
    · have u2 : (hi == -1) = false := beq_eq_false_iff_ne.2 h1
      rw [if_neg (by omega)]
      go_wp2_with fail
      refine (known08 _).mono ?_
      rintro e w9 ⟨rfl, hb9⟩
      have HB9 := Lib.hid (new_call HB3.out hb9)
      go_wp2
      go_ret
      exact ⟨rfl, HB9.out⟩

set_option maxRecDepth 100000 in
theorem lifted (os : Os) (started : os.Started) (H : Type) (enc : TypeId × Value → H) :
    ReturnsInHanded {} Try.checked os 9 .any (Rows.wideIntsSpec.pre6 enc Try.prog Try.f9 Rows.wideIntsRow.domain false) (Rows.wideIntsSpec.post enc Try.prog Try.f9 false true false false) := by
  refine returnsInHanded_of_change (C := Try.checked) Try.own started (by kernel_rfl) Try.func9
    (ChangeSpec.witness6 (enc := enc) (C := Try.checked) false ⟨#[], #[.int .i64 0, .int .i64 0], []⟩ 8 (by kernel_rfl) (by kernel_rfl) (by kernel_rfl) (by kernel_rfl)) ?_
  intro W base args ds gs before hval0 hW _ _
  have hval : ∀ (j : Nat) t v, Try.f9.params[j]? = some t → args[j]? = some v → Value.okWide Try.prog W .any base t v := hval0
  have hW' := hW
  obtain ⟨p, q, hA0, hV, rfl, _, _⟩ := hW
  have hA : DataW.TrodAll enc Try.prog W 0 (fun _ => true) true Try.f9.params.toList args.toList ds p := hA0
  rw [Try.params9] at hA hval
  obtain ⟨v0, v1, d0, d1, p0, p1, rfl, rfl, rfl, h0, h1⟩ := trodAll_two hA
  obtain ⟨rfl, rfl⟩ := trodVars_none hV
  obtain ⟨a0, rfl, rfl, rfl, w0⟩ := open_int Try.underlying3 (hval 0 3 v0 rfl rfl) h0
  obtain ⟨a1, rfl, rfl, rfl, w1⟩ := open_int Try.underlying3 (hval 1 3 v1 rfl rfl) h1
  exact (walk a0 a1 W (wf_i64 w0) (wf_i64 w1)).mono fun e W' he =>
    law_post rfl rfl (by rw [Try.params9]; intro t ht; simp at ht; subst ht; exact ⟨by kernel_rfl, of_decide_eq_true (by kernel_rfl)⟩) hW' rfl he

theorem proved : Rows.WideIntsSaid :=
  OpenClaim.holds_of_wide 9 Try.f9 rfl rfl rfl rfl rfl rfl rfl ⟨rfl, rfl, rfl, rfl, rfl⟩ rfl rfl rfl rfl rfl (by kernel_rfl) Try.func9 (by kernel_rfl)
    (of_decide_eq_true (by kernel_rfl)) (by unfold Func.isWrapper; first | (rw [if_pos (by decide +kernel)]; kernel_rfl) | (rw [if_neg (by decide +kernel)]; exact ⟨rfl, rfl⟩))
    (fun os started H enc _ => lifted os started H enc)
end Go.Proofs.Ytjecognpechapaa.wideInts
