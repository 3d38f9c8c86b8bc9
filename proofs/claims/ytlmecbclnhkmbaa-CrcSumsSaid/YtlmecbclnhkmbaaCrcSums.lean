/- Of any bytes CrcSums answers true: crc.Of and crc.Seal answer what the document does. Conditions: none. -/
import Derived.Test.YtlmecbclnhkmbaaKnown02
import Derived.Test.YtlmecbclnhkmbaaLaw
namespace Go.Proofs.Ytlmecbclnhkmbaa.crcSums
open Go.ChangeShapes Go.WideShapes Go.ChangeAt Go.RowKit

set_option maxRecDepth 100000 in
set_option maxHeartbeats 400000 in
theorem walk (A : Option Addr) (n c : Nat) (bs : List Nat) (w : World) (hh : Has w A n c (u8s bs)) (hb : ∀ x ∈ bs, x < 256) (hn : n ≤ 9223372036854775807) :
    Calls Try.prog 3 #[.slice A n c] w fun e w' => e = .returned (.bool true) ∧ Below w.heap.size w w' := by
  by_cases hl : 2000 < n
  · have t : decide ((2000 : Int) < (n : Int)) = true := by simp; omega
    clear hh hb
    go_enter Try.func3, Try.ntmps3
    go_wp2_with (go_at_call 8; refine (known02 _).mono ?_; rintro e w' ⟨rfl, hb⟩)
    go_ret
    exact ⟨rfl, hb⟩
  · have t : decide ((2000 : Int) < (n : Int)) = false := by simp; omega
    have HO := Lib.hid (of_one A n c bs w 22 hh hb (by omega))
    have HR : Hid (∀ W, Below w.heap.size w W → Calls Try.prog 10 #[.slice A n c] W fun e w' => e = .returned (.int .u32 (crcOf bs : Int)) ∧ Below W.heap.size W w') := fun W hW => refOf_any A n c bs W (hh.kept hW) hb (by omega)
    have HS : Hid (∀ W, Below w.heap.size w W → Calls Try.prog 12 #[.slice A n c] W (Wrote W (sealN bs))) := fun W hW => seal_any A n c bs W (hh.kept hW) hb (by omega)
    have HT : Hid (∀ W, Below w.heap.size w W → Calls Try.prog 13 #[.slice A n c] W (Wrote W (sealN bs))) := fun W hW => refSeal_any A n c bs W (hh.kept hW) hb (by omega)
    have HBy := Lib.hid (sealN_byte hb)
    clear hh hb
    generalize crcOf bs = X at *
    generalize sealN bs = Y at *
    go_enter Try.func3, Try.ntmps3
    go_wp2_with fail
    refine HO.out.mono ?_
    rintro e w1 ⟨rfl, hb1⟩
    have HB1 := Lib.hid hb1
    clear hb1
    go_wp2_with fail
    refine (HR.out _ HB1.out).mono ?_
    rintro e w2 ⟨rfl, hb2⟩
    have HB2 := Lib.hid (new_call HB1.out hb2)
    clear hb2
    go_wp2_with fail
    refine (HS.out _ HB2.out).mono ?_
    rintro e w3 ⟨A3, c3, rfl, hh3, ho3, hb3⟩
    have HH3 := Lib.hid hh3
    have HB3 := Lib.hid (new_call HB2.out hb3)
    clear hb3 ho3 hh3
    go_wp2_with fail
    refine (HT.out _ HB3.out).mono ?_
    rintro e w4 ⟨A4, c4, rfl, hh4, ho4, hb4⟩
    have HH4 := Lib.hid hh4
    have HK := Lib.hid (HH3.out.kept hb4)
    have HB4 := Lib.hid (new_call HB3.out hb4)
    clear hb4 ho4 hh4
    go_wp2_with (first
      | (go_at_call 11; refine (same_any _ _ _ _ _ _ Y Y _ HK.out HH4.out HBy.out HBy.out).mono ?_; rintro e w' ⟨rfl, rfl⟩)
      | (go_at_call 8; refine (known02 _).mono ?_; rintro e w' ⟨rfl, hb⟩))
    go_ret
    exact ⟨rfl, new_call HB4.out hb⟩

set_option maxRecDepth 100000 in
theorem lifted (os : Os) (started : os.Started) (H : Type) (enc : TypeId × Value → H) :
    ReturnsInHanded {} Try.checked os 3 .any (Rows.crcSumsSpec.pre6 enc Try.prog Try.f3 Rows.crcSumsRow.domain false) (Rows.crcSumsSpec.post enc Try.prog Try.f3 false true false false) := by
  refine returnsInHanded_of_change (C := Try.checked) Try.own started (by kernel_rfl) Try.func3
    (ChangeSpec.witness6 (enc := enc) (C := Try.checked) false ⟨#[], #[.slice none 0 0], []⟩ 8 (by kernel_rfl) (by kernel_rfl) (by kernel_rfl) (by kernel_rfl)) ?_
  intro W base args ds gs before hval0 hW _ _
  have hval : ∀ (j : Nat) t v, Try.f3.params[j]? = some t → args[j]? = some v → Value.okWide Try.prog W .any base t v := hval0
  have hW' := hW
  obtain ⟨p, q, hA0, hV, rfl, _, _⟩ := hW
  have hA : DataW.TrodAll enc Try.prog W 0 (fun _ => true) true Try.f3.params.toList args.toList ds p := hA0
  rw [Try.params3] at hA hval
  obtain ⟨v0, d0, rfl, rfl, h0⟩ := trodAll_one hA
  obtain ⟨rfl, rfl⟩ := trodVars_none hV
  obtain ⟨A0, n0, c0, bs0, rfl, hh0, hb0, hn0⟩ := open_bytes (hval 0 22 v0 rfl rfl) h0
  exact (walk A0 n0 c0 bs0 W hh0 hb0 hn0).mono fun e W' he =>
    law_post rfl rfl (by rw [Try.params3]; intro t ht; simp at ht; subst ht; exact ⟨by kernel_rfl, of_decide_eq_true (by kernel_rfl)⟩) hW' rfl he

theorem proved : Rows.CrcSumsSaid :=
  OpenClaim.holds_of_wide 3 Try.f3 rfl rfl rfl rfl rfl rfl rfl ⟨rfl, rfl, rfl, rfl, rfl⟩ rfl rfl rfl rfl rfl (by kernel_rfl) Try.func3 (by kernel_rfl)
    (of_decide_eq_true (by kernel_rfl)) (by unfold Func.isWrapper; first | (rw [if_pos (by decide +kernel)]; kernel_rfl) | (rw [if_neg (by decide +kernel)]; exact ⟨rfl, rfl⟩))
    (fun os started H enc _ => lifted os started H enc)
end Go.Proofs.Ytlmecbclnhkmbaa.crcSums
