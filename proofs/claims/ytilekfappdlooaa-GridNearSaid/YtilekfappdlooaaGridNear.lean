/- Of any coordinate and any 64 bits GridNear answers true: what is rounded is no further than a half from it; what is whole is itself. Conditions: none. -/
import Derived.Test.YtilekfappdlooaaKnown07
import Derived.Test.YtilekfappdlooaaLaw
import Derived.Test.YtilekfappdlooaaGridLaw
namespace Go.Proofs.Ytilekfappdlooaa.gridNear
open Go.ChangeShapes Go.WideShapes Go.ChangeAt Go.RowKit

set_option maxRecDepth 100000 in
set_option maxHeartbeats 1000000 in
theorem walk (a0 a1 : Int) (w : World) (h0 : -2147483648 ≤ a0 ∧ a0 ≤ 2147483647) (h1 : 0 ≤ a1 ∧ a1 ≤ 18446744073709551615) :
    Calls Try.prog 11 #[.int .i32 a0, .int .u64 a1] w fun e w' => e = .returned (.bool true) ∧ Below w.heap.size w w' := by
  obtain ⟨z, rfl⟩ := Int.eq_ofNat_of_zero_le h1.1
  have hz : z < 18446744073709551616 := by omega
  have hco : coordF a0 = true := decide_eq_true h0
  have hfr : ∀ W, (callFunc 12 #[.int .u64 (z : Int)]).run Try.prog W = .ok (.value (.float .f64 z)) W := fun W => from_run z W
  have hn0 : a0.natAbs < 9007199254740992 := by omega
  have hx := (fbits_is (n := a0) (k := 0) hn0).1
  have Hz := Lib.hid (fbits_zero hn0)
  have hcv : ∀ W, (convert 21 23 (.int .i32 a0)).run Try.prog W = .ok (.float .f64 (fbits a0 0)) W := fun W => by
    rw [run_convert_int_float (P := Try.prog) W 21 23 .i32 .f64 a0 (by rw [Try.underlying21]; rfl) Try.underlying23]
    unfold floatOfInt
    rw [Hz.out]
  have HR := Lib.hid (fun W => gridRound_any z W hz)
  have HS := Lib.hid (fun W => gridRound_any (fbits a0 0) W hx)
  rw [round_fbits hco] at HS
  have HNr := Lib.hid (fun j (h : roundF z = (j, 0)) => round_near hz h)
  have HEr : Hid ((roundF z).2 ≠ 0 → (roundF z).1 = 0) := by
    show _ → _
    unfold roundF
    (repeat' split) <;> simp
  generalize fbits a0 0 = b0 at *
  generalize hrr : roundF z = q at *
  obtain ⟨k, e0⟩ := q
  simp only at HR HEr
  clear hx hco Hz hn0
  by_cases he : e0 = 0
  · subst he
    obtain ⟨hck, r, r1, r2, r3, r4, r5, r6⟩ := HNr.out k rfl
    have hkb := of_decide_eq_true hck
    have hkn : k.natAbs < 9007199254740992 := by omega
    have Hk := Lib.hid (fbits_zero hkn)
    have hck2 : ∀ W, (convert 3 23 (.int .i64 k)).run Try.prog W = .ok (.float .f64 (fbits k 0)) W := fun W => by
      rw [run_convert_int_float (P := Try.prog) W 3 23 .i64 .f64 k (by rw [Try.underlying3]; rfl) Try.underlying23]
      unfold floatOfInt
      rw [Hk.out]
    have hsu : ∀ W, (binOp .sub 23 (.float .f64 z) (.float .f64 (fbits k 0))).run Try.prog W = .ok (.float .f64 r) W := fun W => run_float_arith W .sub _ .f64 _ _ _ r1
    have o1 : (FloatKind.f64.format.order r 4602678819172646912 == some .lt) = decide (valF r < (halfU : Int)) := by
      have := cmp_lt (y := 4602678819172646912) r2 (by decide) r3 (by decide); rw [val_half] at this; exact this
    have o2 : (FloatKind.f64.format.order r 4602678819172646912 == some .eq) = decide (valF r = (halfU : Int)) := by
      have := cmp_eq (y := 4602678819172646912) r2 (by decide) r3 (by decide); rw [val_half] at this; exact this
    have o4 : (FloatKind.f64.format.order r 13826050856027422720 == some .gt) = decide (-(halfU : Int) < valF r) := by
      have := cmp_gt (y := 13826050856027422720) r2 (by decide) r3 (by decide); rw [val_mhalf] at this; exact this
    have o5 : (FloatKind.f64.format.order r 13826050856027422720 == some .eq) = decide (valF r = -(halfU : Int)) := by
      have := cmp_eq (y := 13826050856027422720) r2 (by decide) r3 (by decide); rw [val_mhalf] at this; exact this
    have hhp := half_pos
    have o3 : (FloatKind.f64.format.order r 4602678819172646912 != some .eq) = !decide (valF r = (halfU : Int)) := by rw [bne, o2]
    have o6 : (FloatKind.f64.format.order r 13826050856027422720 != some .eq) = !decide (valF r = -(halfU : Int)) := by rw [bne, o5]
    clear HNr HEr hrr hck Hk r1 r2 r3 hkn
    generalize valF r = v at *
    by_cases v1 : v = (halfU : Int)
    · have p0 := r6 (Or.inl v1)
      have p1 : (k.tmod 2 == 0) = true := beq_iff_eq.2 (Int.tmod_eq_zero_of_dvd (Int.dvd_of_emod_eq_zero p0))
      rw [decide_eq_false (show ¬ v < (halfU : Int) by omega)] at o1
      rw [decide_eq_true v1] at o2 o3
      rw [decide_eq_true (show -(halfU : Int) < v by omega)] at o4
      rw [decide_eq_false (show ¬ v = -(halfU : Int) by omega)] at o5 o6
      simp only [Bool.not_true, Bool.not_false] at o3 o6
      clear r6 v1 r4 r5 p0 hhp
      go_enter Try.func11, Try.ntmps11
      go_wp2_with fail
      refine (HR.out w).mono ?_
      rintro e w1 ⟨rfl, hb1⟩
      have HB1 := Lib.hid (hb1)
      clear hb1
      go_wp2_with fail
      refine (HS.out w1).mono ?_
      rintro e w2 ⟨rfl, hb2⟩
      have HB2 := Lib.hid (new_call HB1.out hb2)
      clear hb2
      go_wp2_with (go_at_call 16; refine (known07 _).mono ?_; rintro e w' ⟨rfl, hbk⟩)
      go_ret
      exact ⟨rfl, new_call HB2.out hbk⟩
    · rw [decide_eq_false v1] at o2 o3
      rw [decide_eq_true (show v < (halfU : Int) by omega)] at o1
      by_cases v2 : v = -(halfU : Int)
      · have p0 := r6 (Or.inr v2)
        have p1 : (k.tmod 2 == 0) = true := beq_iff_eq.2 (Int.tmod_eq_zero_of_dvd (Int.dvd_of_emod_eq_zero p0))
        rw [decide_eq_false (show ¬ -(halfU : Int) < v by omega)] at o4
        rw [decide_eq_true v2] at o5 o6
        simp only [Bool.not_true, Bool.not_false] at o3 o6
        clear r6 v1 v2 r4 r5 p0 hhp
        go_enter Try.func11, Try.ntmps11
        go_wp2_with fail
        refine (HR.out w).mono ?_
        rintro e w1 ⟨rfl, hb1⟩
        have HB1 := Lib.hid (hb1)
        clear hb1
        go_wp2_with fail
        refine (HS.out w1).mono ?_
        rintro e w2 ⟨rfl, hb2⟩
        have HB2 := Lib.hid (new_call HB1.out hb2)
        clear hb2
        go_wp2_with (go_at_call 16; refine (known07 _).mono ?_; rintro e w' ⟨rfl, hbk⟩)
        go_ret
        exact ⟨rfl, new_call HB2.out hbk⟩
      · rw [decide_eq_true (show -(halfU : Int) < v by omega)] at o4
        rw [decide_eq_false v2] at o5 o6
        simp only [Bool.not_false] at o3 o6
        clear r6 v1 v2 r4 r5 hhp
        go_enter Try.func11, Try.ntmps11
        go_wp2_with fail
        refine (HR.out w).mono ?_
        rintro e w1 ⟨rfl, hb1⟩
        have HB1 := Lib.hid (hb1)
        clear hb1
        go_wp2_with fail
        refine (HS.out w1).mono ?_
        rintro e w2 ⟨rfl, hb2⟩
        have HB2 := Lib.hid (new_call HB1.out hb2)
        clear hb2
        go_wp2_with (go_at_call 16; refine (known07 _).mono ?_; rintro e w' ⟨rfl, hbk⟩)
        go_ret
        exact ⟨rfl, new_call HB2.out hbk⟩
  · have hj := HEr.out he
    subst hj
    have t1 : ((e0 : Int) == 0) = false := beq_eq_false_iff_ne.2 (by omega)
    clear HNr HEr hrr
    go_enter Try.func11, Try.ntmps11
    go_wp2_with fail
    refine (HR.out w).mono ?_
    rintro e w1 ⟨rfl, hb1⟩
    have HB1 := Lib.hid (hb1)
    clear hb1
    go_wp2_with fail
    refine (HS.out w1).mono ?_
    rintro e w2 ⟨rfl, hb2⟩
    have HB2 := Lib.hid (new_call HB1.out hb2)
    clear hb2
    go_wp2_with (go_at_call 16; refine (known07 _).mono ?_; rintro e w' ⟨rfl, hbk⟩)
    go_ret
    exact ⟨rfl, new_call HB2.out hbk⟩

set_option maxRecDepth 100000 in
theorem lifted (os : Os) (started : os.Started) (H : Type) (enc : TypeId × Value → H) :
    ReturnsInHanded {} Try.checked os 11 .any (Rows.gridNearSpec.pre6 enc Try.prog Try.f11 Rows.gridNearRow.domain false) (Rows.gridNearSpec.post enc Try.prog Try.f11 false true false false) := by
  refine returnsInHanded_of_change (C := Try.checked) Try.own started (by kernel_rfl) Try.func11
    (ChangeSpec.witness6 (enc := enc) (C := Try.checked) false ⟨#[], #[.int .i32 0, .int .u64 0], []⟩ 8 (by kernel_rfl) (by kernel_rfl) (by kernel_rfl) (by kernel_rfl)) ?_
  intro W base args ds gs before hval0 hW _ _
  have hval : ∀ (j : Nat) t v, Try.f11.params[j]? = some t → args[j]? = some v → Value.okWide Try.prog W .any base t v := hval0
  have hW' := hW
  obtain ⟨p, q, hA0, hV, rfl, _, _⟩ := hW
  have hA : DataW.TrodAll enc Try.prog W 0 (fun _ => true) true Try.f11.params.toList args.toList ds p := hA0
  rw [Try.params11] at hA hval
  obtain ⟨v0, v1, d0, d1, p0, p1, rfl, rfl, rfl, h0, h1⟩ := trodAll_two hA
  obtain ⟨rfl, rfl⟩ := trodVars_none hV
  obtain ⟨a0, rfl, rfl, rfl, w0⟩ := open_int Try.underlying21 (hval 0 21 v0 rfl rfl) h0
  obtain ⟨a1, rfl, rfl, rfl, w1⟩ := open_int Try.underlying22 (hval 1 22 v1 rfl rfl) h1
  exact (walk a0 a1 W (wf_i32 w0) (wf_u64 w1)).mono fun e W' he =>
    law_post rfl rfl (by rw [Try.params11]; intro t ht; simp at ht; rcases ht with rfl | rfl <;> exact ⟨by kernel_rfl, of_decide_eq_true (by kernel_rfl)⟩) hW' rfl he

theorem proved : Rows.GridNearSaid :=
  OpenClaim.holds_of_wide 11 Try.f11 rfl rfl rfl rfl rfl rfl rfl ⟨rfl, rfl, rfl, rfl, rfl⟩ rfl rfl rfl rfl rfl (by kernel_rfl) Try.func11 (by kernel_rfl)
    (of_decide_eq_true (by kernel_rfl)) (by unfold Func.isWrapper; first | (rw [if_pos (by decide +kernel)]; kernel_rfl) | (rw [if_neg (by decide +kernel)]; exact ⟨rfl, rfl⟩))
    (fun os started H enc _ => lifted os started H enc)
end Go.Proofs.Ytilekfappdlooaa.gridNear
