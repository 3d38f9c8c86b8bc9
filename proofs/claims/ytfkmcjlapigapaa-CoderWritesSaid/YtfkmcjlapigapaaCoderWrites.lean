/- Of any sizes and any symbols CoderWrites answers true: they have the bytes that the document says, or none. Conditions: none. -/
import Derived.Test.YtfkmcjlapigapaaKnown06
import Derived.Test.YtfkmcjlapigapaaLawCodes
namespace Go.Proofs.Ytfkmcjlapigapaa.coderWrites
open Go.ChangeShapes Go.WideShapes Go.ChangeAt Go.RowKit

set_option maxRecDepth 100000 in
set_option maxHeartbeats 1000000 in
theorem walk (A : Option Addr) (n c : Nat) (sizes : List Int) (B : Option Addr) (m d : Nat) (l : List Cod) (w : World) (hh : Has w A n c (intVs sizes)) (_hs : ∀ x ∈ sizes, -9223372036854775808 ≤ x ∧ x ≤ 9223372036854775807) (hn : n ≤ 9223372036854775807) (hl : HasK 2 w B m d (codCells l)) (_hx : ∀ x ∈ l, (-9223372036854775808 ≤ x.1 ∧ x.1 ≤ 9223372036854775807) ∧ -9223372036854775808 ≤ x.2 ∧ x.2 ≤ 9223372036854775807) (hm : m ≤ 9223372036854775807) :
    Calls Try.prog 3 #[.slice A n c, .slice B m d] w fun e w' => e = .returned (.bool true) ∧ Below w.heap.size w w' := by
  by_cases h1 : 20 < n
  · have t : decide ((20 : Int) < (n : Int)) = true := by simp; omega
    clear hh hl
    go_enter Try.func3, Try.ntmps3
    go_wp2_with (go_at_call 11; refine (known06 _).mono ?_; rintro e w' ⟨rfl, hb⟩)
    go_ret
    exact ⟨rfl, hb⟩
  have t1 : decide ((20 : Int) < (n : Int)) = false := by simp; omega
  by_cases h2 : 150 < m
  · have t : decide ((150 : Int) < (m : Int)) = true := by simp; omega
    clear hh hl
    go_enter Try.func3, Try.ntmps3
    go_wp2_with (go_at_call 11; refine (known06 _).mono ?_; rintro e w' ⟨rfl, hb⟩)
    go_ret
    exact ⟨rfl, hb⟩
  have t2 : decide ((150 : Int) < (m : Int)) = false := by simp; omega
  have HH := Lib.hid hh
  have HL := Lib.hid hl
  have HE := Lib.hid (enc_bytes sizes l)
  clear hh hl
  go_enter Try.func3, Try.ntmps3
  go_wp2_with fail
  refine (coderEnc_any A n c sizes B m d l w HH.out HL.out (by omega) (by omega)).mono ?_
  rintro e w1 ⟨A1, c1, rfl, hh1, hb1⟩
  have HH1 := Lib.hid hh1
  have HB1 := Lib.hid hb1
  clear hh1 hb1
  go_wp2_with fail
  refine (ref6Enc_any A n c sizes B m d l w1 (HH.out.kept HB1.out) (HL.out.kept HB1.out) (by omega) (by omega)).mono ?_
  rintro e w2 ⟨A2, c2, rfl, hh2, hb2⟩
  have HS := Lib.hid (same_any A1 A2 _ c1 _ c2 _ _ w2 (HH1.out.kept hb2) hh2 HE.out HE.out)
  have HB2 := Lib.hid (new_call HB1.out hb2)
  rw [decide_eq_true (rfl : (encC sizes l).1 = (encC sizes l).1)] at HS
  clear hh2 hb2 HH1 HB1
  generalize encC sizes l = r at *
  go_wp2_with fail
  refine HS.out.mono ?_
  rintro e w3 ⟨rfl, rfl⟩
  go_wp2_with (go_at_call 11; refine (known06 _).mono ?_; rintro e w' ⟨rfl, hb⟩)
  go_ret
  exact ⟨rfl, new_call HB2.out hb⟩

set_option maxRecDepth 100000 in
theorem lifted (os : Os) (started : os.Started) (H : Type) (enc : TypeId × Value → H) :
    ReturnsInHanded {} Try.checked os 3 .any (Rows.coderWritesSpec.pre6 enc Try.prog Try.f3 Rows.coderWritesRow.domain false) (Rows.coderWritesSpec.post enc Try.prog Try.f3 false true false false) := by
  refine returnsInHanded_of_change (C := Try.checked) Try.own started (by kernel_rfl) Try.func3
    (ChangeSpec.witness6 (enc := enc) (C := Try.checked) false ⟨#[], #[.slice none 0 0, .slice none 0 0], []⟩ 8 (by kernel_rfl) (by kernel_rfl) (by kernel_rfl) (by kernel_rfl)) ?_
  intro W base args ds gs before hval0 hW _ _
  have hval : ∀ (j : Nat) t v, Try.f3.params[j]? = some t → args[j]? = some v → Value.okWide Try.prog W .any base t v := hval0
  have hW' := hW
  obtain ⟨p, q, hA0, hV, rfl, _, _⟩ := hW
  have hA : DataW.TrodAll enc Try.prog W 0 (fun _ => true) true Try.f3.params.toList args.toList ds p := hA0
  rw [Try.params3] at hA hval
  obtain ⟨v0, v1, d0, d1, p0, p1, rfl, rfl, rfl, h0, h1⟩ := trodAll_two hA
  obtain ⟨rfl, rfl⟩ := trodVars_none hV
  obtain ⟨A0, n0, c0, bs0, rfl, hh0, hb0, hn0⟩ := open_intsl (hval 0 22 v0 rfl rfl) h0
  obtain ⟨A1, n1, c1, bs1, rfl, hh1, hb1, hn1⟩ := open_codes (hval 1 23 v1 rfl rfl) h1
  exact (walk A0 n0 c0 bs0 A1 n1 c1 bs1 W hh0 hb0 hn0 hh1 hb1 hn1).mono fun e W' he =>
    law_post rfl rfl (by rw [Try.params3]; intro t ht; simp at ht; rcases ht with rfl | rfl <;> exact ⟨by kernel_rfl, of_decide_eq_true (by kernel_rfl)⟩) hW' rfl he

theorem proved : Rows.CoderWritesSaid :=
  OpenClaim.holds_of_wide 3 Try.f3 rfl rfl rfl rfl rfl rfl rfl ⟨rfl, rfl, rfl, rfl, rfl⟩ rfl rfl rfl rfl rfl (by kernel_rfl) Try.func3 (by kernel_rfl)
    (of_decide_eq_true (by kernel_rfl)) (by unfold Func.isWrapper; first | (rw [if_pos (by decide +kernel)]; kernel_rfl) | (rw [if_neg (by decide +kernel)]; exact ⟨rfl, rfl⟩))
    (fun os started H enc _ => lifted os started H enc)
end Go.Proofs.Ytfkmcjlapigapaa.coderWrites
