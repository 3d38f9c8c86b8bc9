/- Of any number of symbols, any symbols that came and any place ModelFinds answers true: whose share it lies in is what the document says. Conditions: none. -/
import Derived.Test.YtpflaejojfoeaaaKnown05
import Derived.Test.YtpflaejojfoeaaaLaw
namespace Go.Proofs.Ytpflaejojfoeaaa.modelFinds
open Go.ChangeShapes Go.WideShapes Go.ChangeAt Go.RowKit

set_option maxRecDepth 100000 in
set_option maxHeartbeats 1000000 in
theorem walk (a0 : Int) (A : Option Addr) (m c : Nat) (l : List Nat) (v : Int) (w : World) (ha : 0 ≤ a0 ∧ a0 ≤ 255) (hh : Has w A m c (u16s l)) (hl : ∀ x ∈ l, x < 65536) (hm : m ≤ 9223372036854775807) (_hs : -9223372036854775808 ≤ v ∧ v ≤ 9223372036854775807) :
    Calls Try.prog 4 #[.int .u8 a0, .slice A m c, .int .i64 v] w fun e w' => e = .returned (.bool true) ∧ Below w.heap.size w w' := by
  obtain ⟨N, rfl⟩ := Int.eq_ofNat_of_zero_le ha.1
  by_cases hlo : 900 < m
  · have t : decide ((900 : Int) < (m : Int)) = true := by simp; omega
    clear hh hl
    go_enter Try.func4, Try.ntmps4
    go_wp2_with (go_at_call 10; refine (known05 _).mono ?_; rintro e w' ⟨rfl, hb⟩)
    go_ret
    exact ⟨rfl, hb⟩
  have t : decide ((900 : Int) < (m : Int)) = false := by simp; omega
  obtain ⟨K, hK⟩ : ∃ K : Nat, (1 : Int) + (N : Int) = (K : Int) := ⟨1 + N, by simp⟩
  have hK1 : 1 ≤ K := by omega
  have hK2 : K ≤ 256 := by omega
  have HCt := Lib.hid (counted_any K A m c l w hh hl (by omega) hK1 hK2)
  have HCs := Lib.hid (cntd_ok hK1 hK2 l)
  have HCl := Lib.hid (cntd_len K l)
  clear hh hl
  go_enter Try.func4, Try.ntmps4
  go_wp2_with fail
  refine HCt.out.mono ?_
  rintro e w1 ⟨p, S, A1, c1, rfl, hf1, hr1, hS1, hb1⟩
  have HF1 := Lib.hid hf1
  have HR1 := Lib.hid hr1
  have HS1 := Lib.hid hS1
  have HB1 := Lib.hid hb1
  clear hf1 hr1 hS1 hb1 HCt
  have hsum := HCs.out.sum
  generalize cntd K l = cs at *
  go_wp2_with fail
  refine (modelFind_any p S cs v w1 HF1.out HCs.out).mono ?_
  rintro e w2 ⟨rfl, hb2⟩
  have HF2 := Lib.hid (HF1.out.chg (D := fun _ => False) (Chg.of_below hb2) (fun _ _ h => h))
  have HR2 := Lib.hid (Rob.kept Has.stays HR1.out HF1.out.sit hb2)
  have HB2 := Lib.hid (new_call HB1.out hb2)
  clear hb2 HF1 HR1 HB1
  go_wp2_with fail
  refine (ref5Find_any A1 K c1 cs v w2 HR2.out.here (by omega) (by omega)).mono ?_
  rintro e w3 ⟨rfl, rfl⟩
  generalize findN cs v = r at *
  go_wp2_with (go_at_call 10; refine (known05 _).mono ?_; rintro e w' ⟨rfl, hb⟩)
  go_ret
  exact ⟨rfl, new_call HB2.out hb⟩

set_option maxRecDepth 100000 in
theorem lifted (os : Os) (started : os.Started) (H : Type) (enc : TypeId × Value → H) :
    ReturnsInHanded {} Try.checked os 4 .any (Rows.modelFindsSpec.pre6 enc Try.prog Try.f4 Rows.modelFindsRow.domain false) (Rows.modelFindsSpec.post enc Try.prog Try.f4 false true false false) := by
  refine returnsInHanded_of_change (C := Try.checked) Try.own started (by kernel_rfl) Try.func4
    (ChangeSpec.witness6 (enc := enc) (C := Try.checked) false ⟨#[], #[.int .u8 0, .slice none 0 0, .int .i64 0], []⟩ 8 (by kernel_rfl) (by kernel_rfl) (by kernel_rfl) (by kernel_rfl)) ?_
  intro W base args ds gs before hval0 hW _ _
  have hval : ∀ (j : Nat) t v, Try.f4.params[j]? = some t → args[j]? = some v → Value.okWide Try.prog W .any base t v := hval0
  have hW' := hW
  obtain ⟨p, q, hA0, hV, rfl, _, _⟩ := hW
  have hA : DataW.TrodAll enc Try.prog W 0 (fun _ => true) true Try.f4.params.toList args.toList ds p := hA0
  rw [Try.params4] at hA hval
  obtain ⟨v0, v1, v2, d0, d1, d2, p0, p1, p2, rfl, rfl, rfl, h0, h1, h2⟩ := trodAll_three hA
  obtain ⟨rfl, rfl⟩ := trodVars_none hV
  obtain ⟨a0, rfl, rfl, rfl, w0⟩ := open_int Try.underlying5 (hval 0 5 v0 rfl rfl) h0
  obtain ⟨A1, n1, c1, bs1, rfl, hh1, hb1, hn1⟩ := open_shorts (hval 1 22 v1 rfl rfl) h1
  obtain ⟨a2, rfl, rfl, rfl, w2⟩ := open_int Try.underlying3 (hval 2 3 v2 rfl rfl) h2
  exact (walk a0 A1 n1 c1 bs1 a2 W (wf_u8 w0) hh1 hb1 hn1 (wf_i64 w2)).mono fun e W' he =>
    law_post rfl rfl (by rw [Try.params4]; intro t ht; simp at ht; rcases ht with rfl | rfl | rfl <;> exact ⟨by kernel_rfl, of_decide_eq_true (by kernel_rfl)⟩) hW' rfl he

theorem proved : Rows.ModelFindsSaid :=
  OpenClaim.holds_of_wide 4 Try.f4 rfl rfl rfl rfl rfl rfl rfl ⟨rfl, rfl, rfl, rfl, rfl⟩ rfl rfl rfl rfl rfl (by kernel_rfl) Try.func4 (by kernel_rfl)
    (of_decide_eq_true (by kernel_rfl)) (by unfold Func.isWrapper; first | (rw [if_pos (by decide +kernel)]; kernel_rfl) | (rw [if_neg (by decide +kernel)]; exact ⟨rfl, rfl⟩))
    (fun os started H enc _ => lifted os started H enc)
end Go.Proofs.Ytpflaejojfoeaaa.modelFinds
