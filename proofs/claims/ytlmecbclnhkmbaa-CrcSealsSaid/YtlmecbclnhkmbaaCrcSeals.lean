/- Of any bytes CrcSeals answers true: what is sealed is four bytes longer, begins as it was, and is what it is sealed of. Conditions: none. -/
import Derived.Test.YtlmecbclnhkmbaaKnown02
import Derived.Test.YtlmecbclnhkmbaaLaw
namespace Go.Proofs.Ytlmecbclnhkmbaa.crcSeals
open Go.ChangeShapes Go.WideShapes Go.ChangeAt Go.RowKit

theorem check_seal (bs : List Nat) : checkN (sealN bs) = (bs, 0) := by
  have e : (sealN bs).take ((sealN bs).length - 4) = bs := by rw [sealN_len, Nat.add_sub_cancel]; simp [sealN]
  rw [checkN_ok (by rw [sealN_len]; omega) (by rw [e]), e]
set_option maxRecDepth 100000 in
set_option maxHeartbeats 400000 in
theorem walk (A : Option Addr) (n c : Nat) (bs : List Nat) (w : World) (hh : Has w A n c (u8s bs)) (hb : ∀ x ∈ bs, x < 256) (hn : n ≤ 9223372036854775807) :
    Calls Try.prog 7 #[.slice A n c] w fun e w' => e = .returned (.bool true) ∧ Below w.heap.size w w' := by
  by_cases hl : 2000 < n
  · have t : decide ((2000 : Int) < (n : Int)) = true := by simp; omega
    clear hh hb
    go_enter Try.func7, Try.ntmps7
    go_wp2_with (go_at_call 8; refine (known02 _).mono ?_; rintro e w' ⟨rfl, hb⟩)
    go_ret
    exact ⟨rfl, hb⟩
  · have t : decide ((2000 : Int) < (n : Int)) = false := by simp; omega
    have HO := Lib.hid (seal_any A n c bs w hh hb (by omega))
    have HH := Lib.hid hh
    have HBy := Lib.hid hb
    have HBs := Lib.hid (sealN_byte hb)
    have hlen : bs.length = n := by have := hh.len; rw [u8s_len] at this; exact this
    have HSl : Hid ((sealN bs).length = n + 4) := by show _ = _; rw [sealN_len, hlen]
    have HTk : Hid ((u8s (sealN bs)).take n = u8s bs) := by
      show _ = _
      rw [sealN, u8s_app, List.take_append_of_le_length (by rw [u8s_len]; omega), List.take_of_length_le (by rw [u8s_len]; omega)]
    have HCk := Lib.hid (check_seal bs)
    clear hh hb hlen
    generalize sealN bs = Y at *
    go_enter Try.func7, Try.ntmps7
    go_wp2_with fail
    refine HO.out.mono ?_
    rintro e w1 ⟨A1, c1, rfl, hh1, ho1, hb1⟩
    rw [HSl.out] at hh1 ⊢
    obtain ⟨b1, off1, rfl, _, _⟩ := hh1.spot (by omega)
    have HH1 := Lib.hid hh1
    have HB1 := Lib.hid hb1
    have hcap := hh1.cap
    have hc0 : ¬ c1 = 0 := by omega
    have HHd := Lib.hid (hh1.head (m := n) (by omega))
    rw [HTk.out] at HHd
    have HC1 := Lib.hid (check_any _ (n + 4) c1 Y w1 hh1 HBs.out (by omega))
    have HC2 : Hid (∀ W, Below w1.heap.size w1 W → Calls Try.prog 15 #[.slice (some ⟨b1, off1, none⟩) (n + 4) c1] W (Fixd W (checkN Y))) := fun W hW => refCheck_any _ (n + 4) c1 Y W (HH1.out.kept hW) HBs.out (by omega)
    rw [HCk.out] at HC1 HC2
    clear hb1 ho1 hh1
    go_wp2_with fail
    refine (same_any _ _ _ _ _ _ bs bs _ HHd.out (HH.out.kept HB1.out) HBy.out HBy.out).mono ?_
    rintro e w' ⟨rfl, rfl⟩
    go_wp2_with fail
    refine HC1.out.mono ?_
    rintro e w2 ⟨v2, rfl, ho2, hb2⟩
    obtain ⟨A2, c2, rfl, hh2⟩ := ho2.has
    have HH2 := Lib.hid hh2
    have HB2 := Lib.hid hb2
    clear hb2 ho2 hh2
    go_wp2_with fail
    refine (HC2.out _ HB2.out).mono ?_
    rintro e w3 ⟨v3, rfl, ho3, hb3⟩
    have HK := Lib.hid (HH2.out.kept hb3)
    have HB3 := Lib.hid (new_call HB1.out (new_call HB2.out hb3))
    clear hb3 ho3
    go_wp2_with (first
      | (go_at_call 11; refine (same_any _ _ _ _ _ _ bs bs _ HK.out (HH.out.kept HB3.out) HBy.out HBy.out).mono ?_; rintro e w' ⟨rfl, rfl⟩)
      | (go_at_call 8; refine (known02 _).mono ?_; rintro e w' ⟨rfl, hb⟩))
    go_ret
    exact ⟨rfl, new_call HB3.out hb⟩

set_option maxRecDepth 100000 in
theorem lifted (os : Os) (started : os.Started) (H : Type) (enc : TypeId × Value → H) :
    ReturnsInHanded {} Try.checked os 7 .any (Rows.crcSealsSpec.pre6 enc Try.prog Try.f7 Rows.crcSealsRow.domain false) (Rows.crcSealsSpec.post enc Try.prog Try.f7 false true false false) := by
  refine returnsInHanded_of_change (C := Try.checked) Try.own started (by kernel_rfl) Try.func7
    (ChangeSpec.witness6 (enc := enc) (C := Try.checked) false ⟨#[], #[.slice none 0 0], []⟩ 8 (by kernel_rfl) (by kernel_rfl) (by kernel_rfl) (by kernel_rfl)) ?_
  intro W base args ds gs before hval0 hW _ _
  have hval : ∀ (j : Nat) t v, Try.f7.params[j]? = some t → args[j]? = some v → Value.okWide Try.prog W .any base t v := hval0
  have hW' := hW
  obtain ⟨p, q, hA0, hV, rfl, _, _⟩ := hW
  have hA : DataW.TrodAll enc Try.prog W 0 (fun _ => true) true Try.f7.params.toList args.toList ds p := hA0
  rw [Try.params7] at hA hval
  obtain ⟨v0, d0, rfl, rfl, h0⟩ := trodAll_one hA
  obtain ⟨rfl, rfl⟩ := trodVars_none hV
  obtain ⟨A0, n0, c0, bs0, rfl, hh0, hb0, hn0⟩ := open_bytes (hval 0 22 v0 rfl rfl) h0
  exact (walk A0 n0 c0 bs0 W hh0 hb0 hn0).mono fun e W' he =>
    law_post rfl rfl (by rw [Try.params7]; intro t ht; simp at ht; subst ht; exact ⟨by kernel_rfl, of_decide_eq_true (by kernel_rfl)⟩) hW' rfl he

theorem proved : Rows.CrcSealsSaid :=
  OpenClaim.holds_of_wide 7 Try.f7 rfl rfl rfl rfl rfl rfl rfl ⟨rfl, rfl, rfl, rfl, rfl⟩ rfl rfl rfl rfl rfl (by kernel_rfl) Try.func7 (by kernel_rfl)
    (of_decide_eq_true (by kernel_rfl)) (by unfold Func.isWrapper; first | (rw [if_pos (by decide +kernel)]; kernel_rfl) | (rw [if_neg (by decide +kernel)]; exact ⟨rfl, rfl⟩))
    (fun os started H enc _ => lifted os started H enc)
end Go.Proofs.Ytlmecbclnhkmbaa.crcSeals
