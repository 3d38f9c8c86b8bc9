/- Of any coordinate, any number and any 64 bits GridBack answers true: a coordinate, as a floating number so much finer, comes back; a floating number that is on the grid comes back with all its bits. Conditions: none. -/
import Derived.Test.YtilekfappdlooaaKnown07
import Derived.Test.YtilekfappdlooaaLaw
import Derived.Test.YtilekfappdlooaaGridLaw
import Derived.Laws.BitsAllLaws
namespace Go.Proofs.Ytilekfappdlooaa.gridBack
open Go.ChangeShapes Go.WideShapes Go.ChangeAt Go.RowKit

set_option maxRecDepth 100000 in
set_option maxHeartbeats 1000000 in
theorem walk (a0 a1 a2 : Int) (w : World) (h0 : -2147483648 ≤ a0 ∧ a0 ≤ 2147483647) (h1 : 0 ≤ a1 ∧ a1 ≤ 255) (h2 : 0 ≤ a2 ∧ a2 ≤ 18446744073709551615) :
    Calls Try.prog 6 #[.int .i32 a0, .int .u8 a1, .int .u64 a2] w fun e w' => e = .returned (.bool true) ∧ Below w.heap.size w w' := by
  obtain ⟨u, rfl⟩ := Int.eq_ofNat_of_zero_le h1.1
  obtain ⟨z, rfl⟩ := Int.eq_ofNat_of_zero_le h2.1
  have hz : z < 18446744073709551616 := by omega
  obtain ⟨k, hk⟩ : ∃ k : Nat, (u : Int) % 31 = (k : Int) := ⟨u % 31, by omega⟩
  have hk30 : k ≤ 30 := by omega
  have hco : coordF a0 = true := decide_eq_true h0
  have hfr : ∀ W, (callFunc 12 #[.int .u64 (z : Int)]).run Try.prog W = .ok (.value (.float .f64 z)) W := fun W => from_run z W
  have hff : floatF a0 (k : Int) = (fbits a0 k, 0) := by
    unfold floatF
    rw [if_neg (by rw [hco]; simp; omega), Int.toNat_natCast]
  have hx := (fbits_is (n := a0) (k := k) (by omega)).1
  have HF := Lib.hid (fun W => gridFloat_any a0 (k : Int) W)
  have HG := Lib.hid (fun W => ref7Float_any a0 (k : Int) W)
  have HS := Lib.hid (fun W => gridScaled_any (fbits a0 k) (k : Int) W hx)
  have HT := Lib.hid (fun W => gridSame_any (fbits a0 k) (fbits a0 k) W hx hx)
  have HZ := Lib.hid (fun W => gridScaled_any z (k : Int) W hz)
  rw [hff] at HF HG
  rw [scaled_fbits hk30 hco] at HS
  rw [same_refl] at HT
  generalize fbits a0 k = b at *
  have HBk := Lib.hid (fun j (h : scaledF z (k : Int) = (j, 0)) => scaled_back hk30 hz h)
  have HEr : Hid ((scaledF z (k : Int)).2 ≠ 0 → (scaledF z (k : Int)).1 = 0) := by
    show _ → _
    unfold scaledF
    (repeat' split) <;> simp
  clear hff hx hco
  generalize hsr : scaledF z (k : Int) = r at *
  obtain ⟨j, e0⟩ := r
  simp only at HZ HEr
  by_cases he : e0 = 0
  · subst he
    have hbk := HBk.out j rfl
    have HW := Lib.hid (fun W => gridFloat_any j (k : Int) W)
    rw [hbk] at HW
    have hbt := fun W => bits_run z W
    clear HBk HEr hsr hbk
    go_enter Try.func6, Try.ntmps6
    go_wp2_with fail
    refine (HF.out w).mono ?_
    rintro e w1 ⟨rfl, hb1⟩
    have HB1 := Lib.hid (hb1)
    clear hb1
    go_wp2_with fail
    refine (HS.out w1).mono ?_
    rintro e w2 ⟨rfl, hb2⟩
    have HB2 := Lib.hid (new_call HB1.out hb2)
    clear hb2
    go_wp2_with fail
    refine (HG.out w2).mono ?_
    rintro e w' ⟨rfl, rfl⟩
    go_wp2_with fail
    refine (HT.out w2).mono ?_
    rintro e w3 ⟨rfl, hb3⟩
    have HB3 := Lib.hid (new_call HB2.out hb3)
    clear hb3
    go_wp2_with fail
    refine (HZ.out w3).mono ?_
    rintro e w4 ⟨rfl, hb4⟩
    have HB4 := Lib.hid (new_call HB3.out hb4)
    clear hb4
    go_wp2_with fail
    refine (HW.out w4).mono ?_
    rintro e w5 ⟨rfl, hb5⟩
    have HB5 := Lib.hid (new_call HB4.out hb5)
    clear hb5
    go_wp2_with (go_at_call 16; refine (known07 _).mono ?_; rintro e w' ⟨rfl, hbk⟩)
    go_ret
    exact ⟨rfl, new_call HB5.out hbk⟩
  · have hj := HEr.out he
    subst hj
    have t1 : ((e0 : Int) == 0) = false := beq_eq_false_iff_ne.2 (by omega)
    clear HBk HEr hsr
    go_enter Try.func6, Try.ntmps6
    go_wp2_with fail
    refine (HF.out w).mono ?_
    rintro e w1 ⟨rfl, hb1⟩
    have HB1 := Lib.hid (hb1)
    clear hb1
    go_wp2_with fail
    refine (HS.out w1).mono ?_
    rintro e w2 ⟨rfl, hb2⟩
    have HB2 := Lib.hid (new_call HB1.out hb2)
    clear hb2
    go_wp2_with fail
    refine (HG.out w2).mono ?_
    rintro e w' ⟨rfl, rfl⟩
    go_wp2_with fail
    refine (HT.out w2).mono ?_
    rintro e w3 ⟨rfl, hb3⟩
    have HB3 := Lib.hid (new_call HB2.out hb3)
    clear hb3
    go_wp2_with fail
    refine (HZ.out w3).mono ?_
    rintro e w4 ⟨rfl, hb4⟩
    have HB4 := Lib.hid (new_call HB3.out hb4)
    clear hb4
    go_wp2_with (go_at_call 16; refine (known07 _).mono ?_; rintro e w' ⟨rfl, hbk⟩)
    go_ret
    exact ⟨rfl, new_call HB4.out hbk⟩

set_option maxRecDepth 100000 in
theorem lifted (os : Os) (started : os.Started) (H : Type) (enc : TypeId × Value → H) :
    ReturnsInHanded {} Try.checked os 6 .any (Rows.gridBackSpec.pre6 enc Try.prog Try.f6 Rows.gridBackRow.domain false) (Rows.gridBackSpec.post enc Try.prog Try.f6 false true false false) := by
  refine returnsInHanded_of_change (C := Try.checked) Try.own started (by kernel_rfl) Try.func6
    (ChangeSpec.witness6 (enc := enc) (C := Try.checked) false ⟨#[], #[.int .i32 0, .int .u8 0, .int .u64 0], []⟩ 8 (by kernel_rfl) (by kernel_rfl) (by kernel_rfl) (by kernel_rfl)) ?_
  intro W base args ds gs before hval0 hW _ _
  have hval : ∀ (j : Nat) t v, Try.f6.params[j]? = some t → args[j]? = some v → Value.okWide Try.prog W .any base t v := hval0
  have hW' := hW
  obtain ⟨p, q, hA0, hV, rfl, _, _⟩ := hW
  have hA : DataW.TrodAll enc Try.prog W 0 (fun _ => true) true Try.f6.params.toList args.toList ds p := hA0
  rw [Try.params6] at hA hval
  obtain ⟨v0, v1, v2, d0, d1, d2, p0, p1, p2, rfl, rfl, rfl, h0, h1, h2⟩ := trodAll_three hA
  obtain ⟨rfl, rfl⟩ := trodVars_none hV
  obtain ⟨a0, rfl, rfl, rfl, w0⟩ := open_int Try.underlying21 (hval 0 21 v0 rfl rfl) h0
  obtain ⟨a1, rfl, rfl, rfl, w1⟩ := open_int Try.underlying5 (hval 1 5 v1 rfl rfl) h1
  obtain ⟨a2, rfl, rfl, rfl, w2⟩ := open_int Try.underlying22 (hval 2 22 v2 rfl rfl) h2
  exact (walk a0 a1 a2 W (wf_i32 w0) (wf_u8 w1) (wf_u64 w2)).mono fun e W' he =>
    law_post rfl rfl (by rw [Try.params6]; intro t ht; simp at ht; rcases ht with rfl | rfl | rfl <;> exact ⟨by kernel_rfl, of_decide_eq_true (by kernel_rfl)⟩) hW' rfl he

theorem proved : Rows.GridBackSaid :=
  OpenClaim.holds_of_wide 6 Try.f6 rfl rfl rfl rfl rfl rfl rfl ⟨rfl, rfl, rfl, rfl, rfl⟩ rfl rfl rfl rfl rfl (by kernel_rfl) Try.func6 (by kernel_rfl)
    (of_decide_eq_true (by kernel_rfl)) (by unfold Func.isWrapper; first | (rw [if_pos (by decide +kernel)]; kernel_rfl) | (rw [if_neg (by decide +kernel)]; exact ⟨rfl, rfl⟩))
    (fun os started H enc _ => lifted os started H enc)
end Go.Proofs.Ytilekfappdlooaa.gridBack
