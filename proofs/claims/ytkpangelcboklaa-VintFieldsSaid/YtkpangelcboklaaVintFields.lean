/- Of any uint64, width, bytes and place: VintFields answers true: fixed fields are written and read as the document says. Conditions: none. -/
import Derived.Test.YtkpangelcboklaaKnown01
import Derived.Test.YtkpangelcboklaaRefField
import Derived.Test.YtkpangelcboklaaLaw
namespace Go.Proofs.Ytkpangelcboklaa.vintFields
open Go.ChangeShapes Go.WideShapes Go.ChangeAt Go.RowKit

set_option maxRecDepth 100000 in
set_option maxHeartbeats 1000000 in
theorem walk (N width : Int) (A : Option Addr) (n c : Nat) (bs : List Nat) (p : Int) (w : World) (hN : 0 ≤ N ∧ N ≤ 18446744073709551615) (_hw : -9223372036854775808 ≤ width ∧ width ≤ 9223372036854775807)
    (hh : Has w A n c (u8s bs)) (hb : ∀ x ∈ bs, x < 256) (hn : n ≤ 9223372036854775807) (hp : -9223372036854775808 ≤ p ∧ p ≤ 9223372036854775807) :
    Calls Try.prog 8 #[.int .u64 N, .int .i64 width, .slice A n c, .int .i64 p] w fun e w' => e = .returned (.bool true) ∧ Below w.heap.size w w' := by
  obtain ⟨m, rfl⟩ := Int.eq_ofNat_of_zero_le hN.1
  by_cases hl : 4000 < n
  · have t : decide ((4000 : Int) < (n : Int)) = true := by simp; omega
    clear hh hb
    go_enter Try.func8, Try.ntmps8
    go_wp2_with (go_at_call 12; refine (known01 _).mono ?_; rintro e w' ⟨rfl, hb⟩)
    go_ret
    exact ⟨rfl, hb⟩
  · have t : decide ((4000 : Int) < (n : Int)) = false := by simp; omega
    have HF : Hid (∀ W, Below w.heap.size w W → Calls Try.prog 30 #[.slice A n c, .int .i64 p, .int .i64 width] W (Told W (field bs p width))) :=
      fun W hW => field_any A n c bs p width W (hh.kept hW) hb (by omega) hp.2
    have HR : Hid (∀ W, Below w.heap.size w W → Calls Try.prog 31 #[.slice A n c, .int .i64 p, .int .i64 width] W (Told W (field bs p width))) :=
      fun W hW => refField_any A n c bs p width W (hh.kept hW) hb (by omega) hp.2
    have HX := Lib.hid (fixed_any m width w (by omega))
    have HY : Hid (∀ W, Calls Try.prog 29 #[.int .u64 m, .int .i64 width] W (Fixd W (fixed m width))) := fun W => refFixed_any m width W (by omega)
    have HBy : Hid (∀ x ∈ (fixed m width).1, x < 256) := by
      show ∀ x ∈ (fixed m width).1, x < 256
      unfold fixed
      split
      · intro x hx; simp at hx
      · exact fixedN_byte m _
    clear hh hb
    generalize field bs p width = r at *
    generalize fixed m width = q at *
    go_enter Try.func8, Try.ntmps8
    go_wp2_with fail
    refine HX.out.mono ?_
    rintro e w1 ⟨v1, rfl, ho1, hb1⟩
    obtain ⟨A1, c1, rfl, hh1⟩ := ho1.has
    have HB1 := Lib.hid hb1
    have HH1 := Lib.hid hh1
    clear hb1 ho1 hh1
    go_wp2_with fail
    refine (HY.out _).mono ?_
    rintro e w2 ⟨v2, rfl, ho2, hb2⟩
    obtain ⟨A2, c2, rfl, hh2⟩ := ho2.has
    have HB2 := Lib.hid hb2
    have HH2 := Lib.hid hh2
    clear hb2 ho2 hh2
    have HW := Lib.hid (new_call HB1.out HB2.out)
    go_wp2_with (first
      | (go_at_call 30; refine (HF.out _ HW.out).mono ?_; rintro e w' ⟨rfl, rfl⟩)
      | (go_at_call 31; refine (HR.out _ HW.out).mono ?_; rintro e w' ⟨rfl, rfl⟩)
      | (go_at_call 14; refine (same_any _ _ _ _ _ _ q.1 q.1 _ (HH1.out.kept HB2.out) HH2.out HBy.out HBy.out).mono ?_; rintro e w' ⟨rfl, rfl⟩)
      | (go_at_call 12; refine (known01 _).mono ?_; rintro e w' ⟨rfl, hb⟩))
    go_ret
    exact ⟨rfl, new_call HW.out hb⟩

set_option maxRecDepth 100000 in
theorem lifted (os : Os) (started : os.Started) (H : Type) (enc : TypeId × Value → H) :
    ReturnsInHanded {} Try.checked os 8 .any (Rows.vintFieldsSpec.pre6 enc Try.prog Try.f8 Rows.vintFieldsRow.domain false) (Rows.vintFieldsSpec.post enc Try.prog Try.f8 false true false false) := by
  refine returnsInHanded_of_change (C := Try.checked) Try.own started (by kernel_rfl) Try.func8
    (ChangeSpec.witness6 (enc := enc) (C := Try.checked) false ⟨#[], #[.int .u64 0, .int .i64 0, .slice none 0 0, .int .i64 0], []⟩ 8 (by kernel_rfl) (by kernel_rfl) (by kernel_rfl) (by kernel_rfl)) ?_
  intro W base args ds gs before hval0 hW _ _
  have hval : ∀ (j : Nat) t v, Try.f8.params[j]? = some t → args[j]? = some v → Value.okWide Try.prog W .any base t v := hval0
  have hW' := hW
  obtain ⟨p, q, hA0, hV, rfl, _, _⟩ := hW
  have hA : DataW.TrodAll enc Try.prog W 0 (fun _ => true) true Try.f8.params.toList args.toList ds p := hA0
  rw [Try.params8] at hA hval
  obtain ⟨v0, v1, v2, v3, d0, d1, d2, d3, p0, p1, p2, p3, rfl, rfl, rfl, h0, h1, h2, h3⟩ := trodAll_four hA
  obtain ⟨rfl, rfl⟩ := trodVars_none hV
  obtain ⟨a0, rfl, rfl, rfl, w0⟩ := open_int Try.underlying26 (hval 0 26 v0 rfl rfl) h0
  obtain ⟨a1, rfl, rfl, rfl, w1⟩ := open_int Try.underlying3 (hval 1 3 v1 rfl rfl) h1
  obtain ⟨A2, n2, c2, bs2, rfl, hh2, hb2, hn2⟩ := open_bytes (hval 2 24 v2 rfl rfl) h2
  obtain ⟨a3, rfl, rfl, rfl, w3⟩ := open_int Try.underlying3 (hval 3 3 v3 rfl rfl) h3
  exact (walk a0 a1 A2 n2 c2 bs2 a3 W (wf_u64 w0) (wf_i64 w1) hh2 hb2 hn2 (wf_i64 w3)).mono fun e W' he =>
    law_post rfl rfl (by rw [Try.params8]; intro t ht; simp at ht; rcases ht with rfl | rfl | rfl | rfl <;> exact ⟨by kernel_rfl, of_decide_eq_true (by kernel_rfl)⟩) hW' rfl he

theorem proved : Rows.VintFieldsSaid :=
  OpenClaim.holds_of_wide 8 Try.f8 rfl rfl rfl rfl rfl rfl rfl ⟨rfl, rfl, rfl, rfl, rfl⟩ rfl rfl rfl rfl rfl (by kernel_rfl) Try.func8 (by kernel_rfl)
    (of_decide_eq_true (by kernel_rfl)) (by unfold Func.isWrapper; first | (rw [if_pos (by decide +kernel)]; kernel_rfl) | (rw [if_neg (by decide +kernel)]; exact ⟨rfl, rfl⟩))
    (fun os started H enc _ => lifted os started H enc)
end Go.Proofs.Ytkpangelcboklaa.vintFields
