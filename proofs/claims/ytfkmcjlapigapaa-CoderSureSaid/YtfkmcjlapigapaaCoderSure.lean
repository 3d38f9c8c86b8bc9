/- Of any number CoderSure answers true: a symbol that is the only one of its model is read as often as it came, and takes no byte. Conditions: none. -/
import Derived.Test.YtfkmcjlapigapaaKnown06
import Derived.Test.YtfkmcjlapigapaaLawCodes
import Derived.Test.YtfkmcjlapigapaaCoderLaw
namespace Go.Proofs.Ytfkmcjlapigapaa.coderSure
open Go.ChangeShapes Go.WideShapes Go.ChangeAt Go.RowKit

theorem intVs_zero (n : Nat) : List.replicate n (Value.int .i64 0) = intVs (List.replicate n 0) := by simp [intVs]
theorem enc_unit : encC [1] [] = ([0, 0, 0, 0, 0], 0) := by decide +kernel
set_option maxRecDepth 100000 in
set_option maxHeartbeats 1000000 in
theorem walk (a0 : Int) (w : World) (ha : 0 ≤ a0 ∧ a0 ≤ 65535) :
    Calls Try.prog 9 #[.int .u16 a0] w fun e w' => e = .returned (.bool true) ∧ Below w.heap.size w w' := by
  obtain ⟨N, rfl⟩ := Int.eq_ofNat_of_zero_le ha.1
  obtain ⟨K, hK⟩ : ∃ K, N % 500 = K := ⟨_, rfl⟩
  have hK1 : K ≤ 499 := by omega
  have hr : ((N : Int)) % 500 = (K : Int) := by omega
  obtain ⟨b, hb, hb5⟩ := enc_sure hK1
  have HE := Lib.hid hb
  have HD : Hid (decAll [1] (List.replicate K 0) b = (List.replicate K ((0 : Int), (0 : Int)), 0)) := by
    have := dec_hit6 hb
    rw [List.map_replicate] at this
    exact this
  have HBy : Hid (∀ x ∈ b, x < 256) := by
    have := enc_bytes [1] (List.replicate K ((0 : Int), (0 : Int)))
    rw [hb] at this
    exact this
  clear hb hK
  have HB5 := Lib.hid hb5
  clear hb5
  go_enter Try.func9, Try.ntmps9
  go_wp2_with (at_make
               refine wpList_made rfl _ _ 22 rfl elemI (.int .i64 0) (by kernel_rfl) rfl w.heap.size .i64 .i64 _ _ K rfl rfl (by first | rfl | omega) (by first | rfl | omega) (by omega) (by decide) (Nat.le_refl _) ?_
               intro w1 hown1 hbel1
               rw [intVs_zero] at hown1
               have HM1 := Lib.hid hown1
               have HB1 := Lib.hid hbel1
               clear hown1 hbel1)
  obtain ⟨Am, cm, em, hm1⟩ := HM1.out.has
  rw [intVs_len, List.length_replicate] at em hm1
  cases em
  have HMo := Lib.hid hm1
  clear hm1 HM1
  go_loopg [3, 5] K (fun g s3 s5 wx => ∃ i : Nat, i + g = K ∧ s5 = .int .i64 i ∧ Hid (OwnK 2 wx w1.heap.size 41 s3 i (codCells (List.replicate i ((0 : Int), (0 : Int))))) ∧ Hid (Below w1.heap.size w1 wx))
  case atStart => exact ⟨0, by omega, rfl, OwnK.nil _ _ _ _, Below.refl _ _⟩
  case round =>
    obtain ⟨i, hig, rfl, HO, HBx⟩ := hrel
    have hz := HBx.out.size
    by_cases hi : i < K
    · have ti : decide ((i : Int) < (K : Int)) = true := by simp; omega
      have HS : Hid (codCells (List.replicate i ((0 : Int), (0 : Int))) ++ codCells [((0 : Int), (0 : Int))] = codCells (List.replicate (i + 1) ((0 : Int), (0 : Int)))) := by
        show _ = _
        rw [← codCells_app, ← List.replicate_succ']
      go_wp2_with (at_builtin
                   refine wpList_joinK rfl _ _ 23 rfl elemCod (by decide) w1.heap.size _ i _ rfl (HO.out.alloc _) _ 1 1 (codCells [((0 : Int), (0 : Int))]) rfl (HasK.new_at 2 _ #[_, _] _ _ 1 rfl rfl) ?_ (by omega) (by decide) (by simp; omega) ?_
                   · intro u hu; simp [codCells, secCells] at hu; rw [hu]; rfl
                   intro v2 w2 hown2 hbel2 _
                   rw [HS.out] at hown2
                   have HO2 := Lib.hid hown2
                   have HB2 := Lib.hid ((new_alloc HBx.out _).trans hbel2)
                   clear hown2 hbel2)
      go_roundg (gk - 1)
      case measure => omega
      case rel => exact ⟨i + 1, by omega, by go_num, HO2, HB2⟩
    · have ti : decide ((i : Int) < (K : Int)) = false := by simp; omega
      obtain rfl : i = K := by omega
      obtain ⟨Al, cl, el, hl1⟩ := HO.out.has
      subst el
      have HL := Lib.hid hl1
      have HMx := Lib.hid (HMo.out.kept HBx.out)
      have HBw := Lib.hid (new_call HB1.out HBx.out)
      clear hl1 HO HMo HB1 HBx hz
      have HLa := Lib.hid (HL.out.kept (new_alloc (Below.refl _ wr) (.cells #[.int .i64 1] 3)))
      have HMa := Lib.hid (HMx.out.kept (new_alloc (Below.refl _ wr) (.cells #[.int .i64 1] 3)))
      have HBa := Lib.hid (new_alloc HBw.out (.cells #[.int .i64 1] 3))
      have HEn := Lib.hid (coderEnc_any (some ⟨wr.heap.size, 0, none⟩) 1 1 [1] Al i cl (List.replicate i ((0 : Int), (0 : Int))) _ (Has.one wr (.int .i64 1) 3) HLa.out (by omega) (by omega))
      rw [HE.out] at HEn
      go_wp2_with fail
      refine HEn.out.mono ?_
      rintro e w2 ⟨A2, c2, rfl, hh2, hb2⟩
      have HH2 : Hid (Has w2 A2 5 c2 (u8s b)) := by have := hh2; rw [HB5.out] at this; exact this
      have HL2 := Lib.hid (HLa.out.kept hb2)
      have HM2 := Lib.hid (HMa.out.kept hb2)
      have HB2 := Lib.hid (new_call HBa.out hb2)
      clear hh2 hb2 HL HMx HBw HLa HMa HBa HEn
      simp only [HB5.out]
      have HLb := Lib.hid (HL2.out.kept (new_alloc (Below.refl _ w2) (.cells #[.int .i64 1] 3)))
      have HDc := Lib.hid (coderDec_any (some ⟨w2.heap.size, 0, none⟩) 1 1 [1] _ i i (List.replicate i 0) A2 5 c2 b _ (Has.one w2 (.int .i64 1) 3) (HM2.out.kept (new_alloc (Below.refl _ w2) (.cells #[.int .i64 1] 3))) (HH2.out.kept (new_alloc (Below.refl _ w2) (.cells #[.int .i64 1] 3))) HBy.out (by omega) (by omega) (by omega))
      have HBb := Lib.hid (new_alloc HB2.out (.cells #[.int .i64 1] 3))
      rw [HD.out] at HDc
      go_wp2_with fail
      refine HDc.out.mono ?_
      rintro e w3 ⟨A3, c3, rfl, hh3, hb3⟩
      have HH3 : Hid (HasK 2 w3 A3 i c3 (codCells (List.replicate i ((0 : Int), (0 : Int))))) := by have := hh3; simp only [List.length_replicate] at this; exact this
      have HL3 := Lib.hid (HLb.out.kept hb3)
      have HB3 := Lib.hid (new_call HBb.out hb3)
      clear hh3 hb3 HL2 HM2 HB2 HLb HBb HDc HH2
      simp only [List.length_replicate]
      have HLc := Lib.hid (HL3.out.kept (new_alloc (Below.refl _ w3) (.cells #[.int .i64 1] 3)))
      have HHc := Lib.hid (HH3.out.kept (new_alloc (Below.refl _ w3) (.cells #[.int .i64 1] 3)))
      have HBc := Lib.hid (new_alloc HB3.out (.cells #[.int .i64 1] 3))
      have HEu := Lib.hid (ref6Enc_any (some ⟨w3.heap.size, 0, none⟩) 1 1 [1] none 0 0 [] _ (Has.one w3 (.int .i64 1) 3) (HasK.none _ _ _ _ fun _ => rfl) (by omega) (by omega))
      rw [enc_unit] at HEu
      go_wp2_with fail
      refine HEu.out.mono ?_
      rintro e w4 ⟨A4, c4, rfl, _, hb4⟩
      have HS4 := Lib.hid (ref6Same_any A3 i c3 _ Al i cl _ w4 (HHc.out.kept hb4) (HLc.out.kept hb4) (by omega))
      rw [decide_eq_true (rfl : List.replicate i ((0 : Int), (0 : Int)) = List.replicate i ((0 : Int), (0 : Int)))] at HS4
      have HB4 := Lib.hid (new_call HBc.out hb4)
      clear hb4 HH3 HL3 HB3 HLc HHc HBc HEu
      go_wp2_with fail
      refine HS4.out.mono ?_
      rintro e w5 ⟨rfl, q, rfl⟩
      have HB5' := Lib.hid (new_call HB4.out (quiet_below w4 q))
      generalize w4.drewN q = w5 at *
      go_wp2_with (go_at_call 11; refine (known06 _).mono ?_; rintro e w' ⟨rfl, hb⟩)
      go_ret
      exact ⟨rfl, new_call HB5'.out hb⟩

set_option maxRecDepth 100000 in
theorem lifted (os : Os) (started : os.Started) (H : Type) (enc : TypeId × Value → H) :
    ReturnsInHanded {} Try.checked os 9 .any (Rows.coderSureSpec.pre6 enc Try.prog Try.f9 Rows.coderSureRow.domain false) (Rows.coderSureSpec.post enc Try.prog Try.f9 false true false false) := by
  refine returnsInHanded_of_change (C := Try.checked) Try.own started (by kernel_rfl) Try.func9
    (ChangeSpec.witness6 (enc := enc) (C := Try.checked) false ⟨#[], #[.int .u16 0], []⟩ 8 (by kernel_rfl) (by kernel_rfl) (by kernel_rfl) (by kernel_rfl)) ?_
  intro W base args ds gs before hval0 hW _ _
  have hval : ∀ (j : Nat) t v, Try.f9.params[j]? = some t → args[j]? = some v → Value.okWide Try.prog W .any base t v := hval0
  have hW' := hW
  obtain ⟨p, q, hA0, hV, rfl, _, _⟩ := hW
  have hA : DataW.TrodAll enc Try.prog W 0 (fun _ => true) true Try.f9.params.toList args.toList ds p := hA0
  rw [Try.params9] at hA hval
  obtain ⟨v0, d0, rfl, rfl, h0⟩ := trodAll_one hA
  obtain ⟨rfl, rfl⟩ := trodVars_none hV
  obtain ⟨a0, rfl, rfl, rfl, w0⟩ := open_int Try.underlying39 (hval 0 39 v0 rfl rfl) h0
  exact (walk a0 W (wf_u16 w0)).mono fun e W' he =>
    law_post rfl rfl (by rw [Try.params9]; intro t ht; simp at ht; subst ht; exact ⟨by kernel_rfl, of_decide_eq_true (by kernel_rfl)⟩) hW' rfl he

theorem proved : Rows.CoderSureSaid :=
  OpenClaim.holds_of_wide 9 Try.f9 rfl rfl rfl rfl rfl rfl rfl ⟨rfl, rfl, rfl, rfl, rfl⟩ rfl rfl rfl rfl rfl (by kernel_rfl) Try.func9 (by kernel_rfl)
    (of_decide_eq_true (by kernel_rfl)) (by unfold Func.isWrapper; first | (rw [if_pos (by decide +kernel)]; kernel_rfl) | (rw [if_neg (by decide +kernel)]; exact ⟨rfl, rfl⟩))
    (fun os started H enc _ => lifted os started H enc)
end Go.Proofs.Ytfkmcjlapigapaa.coderSure
