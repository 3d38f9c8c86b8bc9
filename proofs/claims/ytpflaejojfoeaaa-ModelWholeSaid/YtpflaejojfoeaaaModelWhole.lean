/- Of any number of symbols and any symbols that came ModelWhole answers true: shares lie side by side, none is empty, all together are the whole, which is never too great, and each place of a share is its symbol's. Conditions: none. -/
import Derived.Test.YtpflaejojfoeaaaKnown05
import Derived.Test.YtpflaejojfoeaaaLaw
namespace Go.Proofs.Ytpflaejojfoeaaa.modelWhole
open Go.ChangeShapes Go.WideShapes Go.ChangeAt Go.RowKit

set_option maxRecDepth 100000 in
set_option maxHeartbeats 1000000 in
theorem walk (a0 : Int) (A : Option Addr) (m c : Nat) (l : List Nat) (w : World) (ha : 0 ≤ a0 ∧ a0 ≤ 255) (hh : Has w A m c (u16s l)) (hl : ∀ x ∈ l, x < 65536) (hm : m ≤ 9223372036854775807) :
    Calls Try.prog 5 #[.int .u8 a0, .slice A m c] w fun e w' => e = .returned (.bool true) ∧ Below w.heap.size w w' := by
  obtain ⟨N, rfl⟩ := Int.eq_ofNat_of_zero_le ha.1
  by_cases hlo : 900 < m
  · have t : decide ((900 : Int) < (m : Int)) = true := by simp; omega
    clear hh hl
    go_enter Try.func5, Try.ntmps5
    go_wp2_with (go_at_call 10; refine (known05 _).mono ?_; rintro e w' ⟨rfl, hb⟩)
    go_ret
    exact ⟨rfl, hb⟩
  have t : decide ((900 : Int) < (m : Int)) = false := by simp; omega
  obtain ⟨K, hK⟩ : ∃ K : Nat, (1 : Int) + (N : Int) = (K : Int) := ⟨1 + N, by simp⟩
  have hK1 : 1 ≤ K := by omega
  have hK2 : K ≤ 256 := by omega
  have HCt := Lib.hid (counted_any K A m c l w hh hl (by omega) hK1 hK2)
  have HCs := Lib.hid (cntd_ok hK1 hK2 l)
  have HCl := Lib.hid (cntd_len K l)
  clear hh hl
  go_enter Try.func5, Try.ntmps5
  go_wp2_with fail
  refine HCt.out.mono ?_
  rintro e w1 ⟨p, S, A1, c1, rfl, hf1, hr1, hS1, hb1⟩
  have HF1 := Lib.hid hf1
  have HR1 := Lib.hid hr1
  have HS1 := Lib.hid hS1
  have HB1 := Lib.hid hb1
  clear hf1 hr1 hS1 hb1 HCt
  have hsum := HCs.out.sum
  have HPo := Lib.hid HCs.out.pos
  generalize cntd K l = cs at *
  go_wp2
  go_loopg [8, 9] K (fun g s8 s9 wx => ∃ i : Nat, i + g = K ∧ s9 = .int .i64 i ∧ s8 = .int .i64 ((cs.take i).sum : Nat) ∧ Hid (Mdl wx p S cs) ∧ Hid (Below w.heap.size w wx))
  case atStart => exact ⟨0, by omega, rfl, rfl, HF1, HB1⟩
  case round =>
    obtain ⟨i, hig, rfl, rfl, HF2, HB2⟩ := hrel
    clear HF1 HR1 HB1
    by_cases hi : i < K
    · have hil : i < cs.length := by rw [HCl.out]; exact hi
      have ti : decide ((i : Int) < (K : Int)) = true := by simp; omega
      have HSh := Lib.hid (share_in hil)
      have hx1 := HPo.out _ (List.getElem_mem hil)
      have hsn := sum_snoc5 hil
      have hs1 := sum_take5 cs (i + 1)
      have HFa := Lib.hid (find_is (v := ((cs.take i).sum : Int)) hil (by omega) (by omega))
      have HFb := Lib.hid (find_is (v := ((cs.take i).sum : Int) + (cs[i] : Int) - 1) hil (by omega) (by omega))
      have HSn := Lib.hid hsn
      rw [hsn] at hs1
      clear hsn
      generalize cs[i] = x at *
      generalize (cs.take i).sum = a at *
      have tx : decide ((x : Int) < 1) = false := by simp; omega
      go_wp2_with fail
      refine (modelShare_any p S cs _ wr HF2.out HCs.out).mono ?_
      rintro e w3 ⟨rfl, hb3⟩
      rw [HSh.out]
      have HF3 := Lib.hid (HF2.out.chg (D := fun _ => False) (Chg.of_below hb3) (fun _ _ h => h))
      have HB3 := Lib.hid (new_call HB2.out hb3)
      clear hb3 HF2 HB2
      go_wp2_with fail
      refine (modelFind_any p S cs _ w3 HF3.out HCs.out).mono ?_
      rintro e w4 ⟨rfl, hb4⟩
      rw [HFa.out]
      have HF4 := Lib.hid (HF3.out.chg (D := fun _ => False) (Chg.of_below hb4) (fun _ _ h => h))
      have HB4 := Lib.hid (new_call HB3.out hb4)
      clear hb4 HF3 HB3
      go_wp2_with fail
      refine (modelFind_any p S cs _ w4 HF4.out HCs.out).mono ?_
      rintro e w5 ⟨rfl, hb5⟩
      rw [HFb.out]
      have HF5 := Lib.hid (HF4.out.chg (D := fun _ => False) (Chg.of_below hb5) (fun _ _ h => h))
      have HB5 := Lib.hid (new_call HB4.out hb5)
      clear hb5 HF4 HB4
      go_wp2
      go_roundg (gk - 1)
      case measure => omega
      case rel => exact ⟨i + 1, by omega, by go_num, by rw [HSn.out]; go_num, HF5, HB5⟩
    · have ti : decide ((i : Int) < (K : Int)) = false := by simp; omega
      rw [List.take_of_length_le (by rw [HCl.out]; omega)]
      have HFn := Lib.hid (find_none (c := cs) (v := (cs.sum : Int)) (Int.le_refl _))
      generalize hsu : cs.sum = a at *
      have HSum := Lib.hid hsu
      clear hsu
      have t8 : decide ((a : Int) ≤ 8192) = true := by simp; omega
      go_wp2_with fail
      refine (modelFind_any p S cs _ wr HF2.out HCs.out).mono ?_
      rintro e w3 ⟨rfl, hb3⟩
      rw [HFn.out]
      have HF3 := Lib.hid (HF2.out.chg (D := fun _ => False) (Chg.of_below hb3) (fun _ _ h => h))
      have HB3 := Lib.hid (new_call HB2.out hb3)
      clear hb3 HF2 HB2
      have HTt := Lib.hid (modelTotal_any p S cs w3 HF3.out HCs.out)
      rw [HSum.out] at HTt
      go_wp2_with fail
      refine HTt.out.mono ?_
      rintro e w4 ⟨rfl, hb4⟩
      have HB4 := Lib.hid (new_call HB3.out hb4)
      clear hb4
      go_wp2_with (go_at_call 10; refine (known05 _).mono ?_; rintro e w' ⟨rfl, hb⟩)
      go_ret
      exact ⟨rfl, new_call HB4.out hb⟩

set_option maxRecDepth 100000 in
theorem lifted (os : Os) (started : os.Started) (H : Type) (enc : TypeId × Value → H) :
    ReturnsInHanded {} Try.checked os 5 .any (Rows.modelWholeSpec.pre6 enc Try.prog Try.f5 Rows.modelWholeRow.domain false) (Rows.modelWholeSpec.post enc Try.prog Try.f5 false true false false) := by
  refine returnsInHanded_of_change (C := Try.checked) Try.own started (by kernel_rfl) Try.func5
    (ChangeSpec.witness6 (enc := enc) (C := Try.checked) false ⟨#[], #[.int .u8 0, .slice none 0 0], []⟩ 8 (by kernel_rfl) (by kernel_rfl) (by kernel_rfl) (by kernel_rfl)) ?_
  intro W base args ds gs before hval0 hW _ _
  have hval : ∀ (j : Nat) t v, Try.f5.params[j]? = some t → args[j]? = some v → Value.okWide Try.prog W .any base t v := hval0
  have hW' := hW
  obtain ⟨p, q, hA0, hV, rfl, _, _⟩ := hW
  have hA : DataW.TrodAll enc Try.prog W 0 (fun _ => true) true Try.f5.params.toList args.toList ds p := hA0
  rw [Try.params5] at hA hval
  obtain ⟨v0, v1, d0, d1, p0, p1, rfl, rfl, rfl, h0, h1⟩ := trodAll_two hA
  obtain ⟨rfl, rfl⟩ := trodVars_none hV
  obtain ⟨a0, rfl, rfl, rfl, w0⟩ := open_int Try.underlying5 (hval 0 5 v0 rfl rfl) h0
  obtain ⟨A1, n1, c1, bs1, rfl, hh1, hb1, hn1⟩ := open_shorts (hval 1 22 v1 rfl rfl) h1
  exact (walk a0 A1 n1 c1 bs1 W (wf_u8 w0) hh1 hb1 hn1).mono fun e W' he =>
    law_post rfl rfl (by rw [Try.params5]; intro t ht; simp at ht; rcases ht with rfl | rfl <;> exact ⟨by kernel_rfl, of_decide_eq_true (by kernel_rfl)⟩) hW' rfl he

theorem proved : Rows.ModelWholeSaid :=
  OpenClaim.holds_of_wide 5 Try.f5 rfl rfl rfl rfl rfl rfl rfl ⟨rfl, rfl, rfl, rfl, rfl⟩ rfl rfl rfl rfl rfl (by kernel_rfl) Try.func5 (by kernel_rfl)
    (of_decide_eq_true (by kernel_rfl)) (by unfold Func.isWrapper; first | (rw [if_pos (by decide +kernel)]; kernel_rfl) | (rw [if_neg (by decide +kernel)]; exact ⟨rfl, rfl⟩))
    (fun os started H enc _ => lifted os started H enc)
end Go.Proofs.Ytpflaejojfoeaaa.modelWhole
