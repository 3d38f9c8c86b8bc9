/- Of any int, any bytes and any place: VintInts answers true: signed numbers are written and read as the document says. Conditions: none. -/
import Derived.Test.YtkpangelcboklaaKnown01
import Derived.Test.YtkpangelcboklaaGetInt
import Derived.Test.YtkpangelcboklaaLaw
namespace Go.Proofs.Ytkpangelcboklaa.vintInts
open Go.ChangeShapes Go.WideShapes Go.ChangeAt Go.RowKit

set_option maxRecDepth 100000 in
set_option maxHeartbeats 1000000 in
theorem walk (N : Int) (A : Option Addr) (n c : Nat) (bs : List Nat) (p : Int) (w : World) (hN : -9223372036854775808 ≤ N ∧ N ≤ 9223372036854775807) (hh : Has w A n c (u8s bs)) (hb : ∀ x ∈ bs, x < 256) (hn : n ≤ 9223372036854775807) (_hp : -9223372036854775808 ≤ p ∧ p ≤ 9223372036854775807) :
    Calls Try.prog 6 #[.int .i64 N, .slice A n c, .int .i64 p] w fun e w' => e = .returned (.bool true) ∧ Below w.heap.size w w' := by
  by_cases hl : 4000 < n
  · have t : decide ((4000 : Int) < (n : Int)) = true := by simp; omega
    clear hh hb
    go_enter Try.func6, Try.ntmps6
    go_wp2_with (go_at_call 12; refine (known01 _).mono ?_; rintro e w' ⟨rfl, hb⟩)
    go_ret
    exact ⟨rfl, hb⟩
  · have t : decide ((4000 : Int) < (n : Int)) = false := by simp; omega
    have HG := Lib.hid (getInt_any A n c bs p w hh hb (by omega))
    have HR := Lib.hid (refGetInt_any A n c bs p w hh hb (by omega))
    clear hh hb
    generalize get bs p = r at *
    go_enter Try.func6, Try.ntmps6
    go_wp2_with (first
      | (go_at_call 20; refine HG.out.mono ?_; rintro e w' ⟨rfl, rfl⟩)
      | (go_at_call 21; refine HR.out.mono ?_; rintro e w' ⟨rfl, rfl⟩)
      | (go_at_call 22; refine (putInt_any N _ hN.1 hN.2).mono ?_; rintro e w1 ⟨A1, c1, rfl, hh1, ho1, hb1⟩; have HW1 := Lib.hid hh1; have HB1 := Lib.hid hb1; clear hh1 ho1 hb1)
      | (go_at_call 23; refine (refPutInt_any N _ hN.1 hN.2).mono ?_; rintro e w2 ⟨A2, c2, rfl, hh2, ho2, hb2⟩; have HW2 := Lib.hid hh2; have HB2 := Lib.hid hb2; clear hh2 ho2 hb2)
      | (go_at_call 14; refine (same_any _ _ _ _ _ _ (putN (zig N).toNat) (putN (zig N).toNat) _ (HW1.out.kept HB2.out) HW2.out (putN_byte _) (putN_byte _)).mono ?_; rintro e w' ⟨rfl, rfl⟩)
      | (go_at_call 24; refine (zig_any _ _ hN.1 hN.2).mono ?_; rintro e w' ⟨rfl, rfl⟩)
      | (go_at_call 25; refine (refZig_any _ _ hN.1 hN.2).mono ?_; rintro e w' ⟨rfl, rfl⟩)
      | (go_at_call 12; refine (known01 _).mono ?_; rintro e w' ⟨rfl, hb⟩))
    go_ret
    exact ⟨rfl, new_call (new_call HB1.out HB2.out) hb⟩

set_option maxRecDepth 100000 in
theorem lifted (os : Os) (started : os.Started) (H : Type) (enc : TypeId × Value → H) :
    ReturnsInHanded {} Try.checked os 6 .any (Rows.vintIntsSpec.pre6 enc Try.prog Try.f6 Rows.vintIntsRow.domain false) (Rows.vintIntsSpec.post enc Try.prog Try.f6 false true false false) := by
  refine returnsInHanded_of_change (C := Try.checked) Try.own started (by kernel_rfl) Try.func6
    (ChangeSpec.witness6 (enc := enc) (C := Try.checked) false ⟨#[], #[.int .i64 0, .slice none 0 0, .int .i64 0], []⟩ 8 (by kernel_rfl) (by kernel_rfl) (by kernel_rfl) (by kernel_rfl)) ?_
  intro W base args ds gs before hval0 hW _ _
  have hval : ∀ (j : Nat) t v, Try.f6.params[j]? = some t → args[j]? = some v → Value.okWide Try.prog W .any base t v := hval0
  have hW' := hW
  obtain ⟨p, q, hA0, hV, rfl, _, _⟩ := hW
  have hA : DataW.TrodAll enc Try.prog W 0 (fun _ => true) true Try.f6.params.toList args.toList ds p := hA0
  rw [Try.params6] at hA hval
  obtain ⟨v0, v1, v2, d0, d1, d2, p0, p1, p2, rfl, rfl, rfl, h0, h1, h2⟩ := trodAll_three hA
  obtain ⟨rfl, rfl⟩ := trodVars_none hV
  obtain ⟨a0, rfl, rfl, rfl, w0⟩ := open_int Try.underlying3 (hval 0 3 v0 rfl rfl) h0
  obtain ⟨A1, n1, c1, bs1, rfl, hh1, hb1, hn1⟩ := open_bytes (hval 1 24 v1 rfl rfl) h1
  obtain ⟨a2, rfl, rfl, rfl, w2⟩ := open_int Try.underlying3 (hval 2 3 v2 rfl rfl) h2
  exact (walk a0 A1 n1 c1 bs1 a2 W (wf_i64 w0) hh1 hb1 hn1 (wf_i64 w2)).mono fun e W' he =>
    law_post rfl rfl (by rw [Try.params6]; intro t ht; simp at ht; rcases ht with rfl | rfl | rfl <;> exact ⟨by kernel_rfl, of_decide_eq_true (by kernel_rfl)⟩) hW' rfl he

theorem proved : Rows.VintIntsSaid :=
  OpenClaim.holds_of_wide 6 Try.f6 rfl rfl rfl rfl rfl rfl rfl ⟨rfl, rfl, rfl, rfl, rfl⟩ rfl rfl rfl rfl rfl (by kernel_rfl) Try.func6 (by kernel_rfl)
    (of_decide_eq_true (by kernel_rfl)) (by unfold Func.isWrapper; first | (rw [if_pos (by decide +kernel)]; kernel_rfl) | (rw [if_neg (by decide +kernel)]; exact ⟨rfl, rfl⟩))
    (fun os started H enc _ => lifted os started H enc)
end Go.Proofs.Ytkpangelcboklaa.vintInts
