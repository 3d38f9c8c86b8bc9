/- Of any bytes CrcChecks answers true: crc.Check answers what the document does. Conditions: none. -/
import Derived.Test.YtlmecbclnhkmbaaKnown02
import Derived.Test.YtlmecbclnhkmbaaLaw
namespace Go.Proofs.Ytlmecbclnhkmbaa.crcChecks
open Go.ChangeShapes Go.WideShapes Go.ChangeAt Go.RowKit

theorem check_byte {bs : List Nat} (h : ∀ x ∈ bs, x < 256) : ∀ x ∈ (checkN bs).1, x < 256 := by
  unfold checkN
  split
  · simp
  · split
    · exact fun x hx => h x (List.mem_of_mem_take hx)
    · simp
set_option maxRecDepth 100000 in
set_option maxHeartbeats 400000 in
theorem walk (A : Option Addr) (n c : Nat) (bs : List Nat) (w : World) (hh : Has w A n c (u8s bs)) (hb : ∀ x ∈ bs, x < 256) (hn : n ≤ 9223372036854775807) :
    Calls Try.prog 4 #[.slice A n c] w fun e w' => e = .returned (.bool true) ∧ Below w.heap.size w w' := by
  by_cases hl : 2000 < n
  · have t : decide ((2000 : Int) < (n : Int)) = true := by simp; omega
    clear hh hb
    go_enter Try.func4, Try.ntmps4
    go_wp2_with (go_at_call 8; refine (known02 _).mono ?_; rintro e w' ⟨rfl, hb⟩)
    go_ret
    exact ⟨rfl, hb⟩
  · have t : decide ((2000 : Int) < (n : Int)) = false := by simp; omega
    have HO := Lib.hid (check_any A n c bs w hh hb (by omega))
    have HR : Hid (∀ W, Below w.heap.size w W → Calls Try.prog 15 #[.slice A n c] W (Fixd W (checkN bs))) := fun W hW => refCheck_any A n c bs W (hh.kept hW) hb (by omega)
    have HBy := Lib.hid (check_byte hb)
    clear hh hb
    generalize checkN bs = Y at *
    go_enter Try.func4, Try.ntmps4
    go_wp2_with fail
    refine HO.out.mono ?_
    rintro e w1 ⟨v1, rfl, ho1, hb1⟩
    obtain ⟨A1, c1, rfl, hh1⟩ := ho1.has
    have HH1 := Lib.hid hh1
    have HB1 := Lib.hid hb1
    clear hb1 ho1 hh1
    go_wp2_with fail
    refine (HR.out _ HB1.out).mono ?_
    rintro e w2 ⟨v2, rfl, ho2, hb2⟩
    obtain ⟨A2, c2, rfl, hh2⟩ := ho2.has
    have HH2 := Lib.hid hh2
    have HK := Lib.hid (HH1.out.kept hb2)
    have HB2 := Lib.hid (new_call HB1.out hb2)
    clear hb2 ho2 hh2
    go_wp2_with (first
      | (go_at_call 11; refine (same_any _ _ _ _ _ _ Y.1 Y.1 _ HK.out HH2.out HBy.out HBy.out).mono ?_; rintro e w' ⟨rfl, rfl⟩)
      | (go_at_call 8; refine (known02 _).mono ?_; rintro e w' ⟨rfl, hb⟩))
    go_ret
    exact ⟨rfl, new_call HB2.out hb⟩

set_option maxRecDepth 100000 in
theorem lifted (os : Os) (started : os.Started) (H : Type) (enc : TypeId × Value → H) :
    ReturnsInHanded {} Try.checked os 4 .any (Rows.crcChecksSpec.pre6 enc Try.prog Try.f4 Rows.crcChecksRow.domain false) (Rows.crcChecksSpec.post enc Try.prog Try.f4 false true false false) := by
  refine returnsInHanded_of_change (C := Try.checked) Try.own started (by kernel_rfl) Try.func4
    (ChangeSpec.witness6 (enc := enc) (C := Try.checked) false ⟨#[], #[.slice none 0 0], []⟩ 8 (by kernel_rfl) (by kernel_rfl) (by kernel_rfl) (by kernel_rfl)) ?_
  intro W base args ds gs before hval0 hW _ _
  have hval : ∀ (j : Nat) t v, Try.f4.params[j]? = some t → args[j]? = some v → Value.okWide Try.prog W .any base t v := hval0
  have hW' := hW
  obtain ⟨p, q, hA0, hV, rfl, _, _⟩ := hW
  have hA : DataW.TrodAll enc Try.prog W 0 (fun _ => true) true Try.f4.params.toList args.toList ds p := hA0
  rw [Try.params4] at hA hval
  obtain ⟨v0, d0, rfl, rfl, h0⟩ := trodAll_one hA
  obtain ⟨rfl, rfl⟩ := trodVars_none hV
  obtain ⟨A0, n0, c0, bs0, rfl, hh0, hb0, hn0⟩ := open_bytes (hval 0 22 v0 rfl rfl) h0
  exact (walk A0 n0 c0 bs0 W hh0 hb0 hn0).mono fun e W' he =>
    law_post rfl rfl (by rw [Try.params4]; intro t ht; simp at ht; subst ht; exact ⟨by kernel_rfl, of_decide_eq_true (by kernel_rfl)⟩) hW' rfl he

theorem proved : Rows.CrcChecksSaid :=
  OpenClaim.holds_of_wide 4 Try.f4 rfl rfl rfl rfl rfl rfl rfl ⟨rfl, rfl, rfl, rfl, rfl⟩ rfl rfl rfl rfl rfl (by kernel_rfl) Try.func4 (by kernel_rfl)
    (of_decide_eq_true (by kernel_rfl)) (by unfold Func.isWrapper; first | (rw [if_pos (by decide +kernel)]; kernel_rfl) | (rw [if_neg (by decide +kernel)]; exact ⟨rfl, rfl⟩))
    (fun os started H enc _ => lifted os started H enc)
end Go.Proofs.Ytlmecbclnhkmbaa.crcChecks
