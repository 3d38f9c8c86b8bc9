/- Of any two wide numbers WideCmps answers true: how they stand, and each one's sign, is what the chapter says; from the other side it is the other way round. Conditions: none. -/
import Derived.Test.YtjecognpechapaaKnown08
import Derived.Test.YtjecognpechapaaLaw
namespace Go.Proofs.Ytjecognpechapaa.wideCmps
open Go.ChangeShapes Go.WideShapes Go.ChangeAt Go.RowKit

theorem cmp_turn (x y : Int) : cmpI y x = -cmpI x y := by
  unfold cmpI
  by_cases h1 : x < y
  · rw [if_neg (by omega), if_pos h1, if_pos h1]; rfl
  · by_cases h2 : y < x
    · rw [if_pos h2, if_neg h1, if_pos h2]
    · rw [if_neg h2, if_neg h1, if_neg h1, if_neg h2]; rfl
theorem cmp_zero (x y : Int) : cmpI x y = 0 ↔ x = y := by
  unfold cmpI
  by_cases h1 : x < y
  · rw [if_pos h1]; constructor <;> omega
  · by_cases h2 : y < x
    · rw [if_neg h1, if_pos h2]; constructor <;> omega
    · rw [if_neg h1, if_neg h2]; constructor <;> omega
set_option maxRecDepth 100000 in
set_option maxHeartbeats 1000000 in
theorem walk (a b c d : Int) (w : World) (ha : -9223372036854775808 ≤ a ∧ a ≤ 9223372036854775807) (hb : 0 ≤ b ∧ b ≤ 18446744073709551615) (hc : -9223372036854775808 ≤ c ∧ c ≤ 9223372036854775807) (hd : 0 ≤ d ∧ d ≤ 18446744073709551615) :
    Calls Try.prog 8 #[.int .i64 a, .int .u64 b, .int .i64 c, .int .u64 d] w fun e w' => e = .returned (.bool true) ∧ Below w.heap.size w w' := by
  have HC := Lib.hid (fun W => wideCmp_any a b c d W ha hb hc hd)
  have HT := Lib.hid (fun W => wideCmp_any c d a b W hc hd ha hb)
  have HF := Lib.hid (fun W => ref8From_any a b W ha hb)
  have HG := Lib.hid (fun W => ref8From_any c d W hc hd)
  have hx := valW_in ha hb
  have hy := valW_in hc hd
  have HR := Lib.hid (fun W A ca B cb hA hB => ref8Cmp_any A ca (valW a b) B cb (valW c d) W hA hB hx hy)
  rw [cmp_turn (valW a b) (valW c d)] at HT
  have hz : cmpI (valW a b) (valW c d) = 0 ↔ (a = c ∧ b = d) := by
    rw [cmp_zero]
    unfold valW
    omega
  have hk : -1 ≤ cmpI (valW a b) (valW c d) ∧ cmpI (valW a b) (valW c d) ≤ 1 := by unfold cmpI; split <;> (try split) <;> omega
  clear hx hy ha hb hc hd
  generalize cmpI (valW a b) (valW c d) = k at *
  have HB0 := Lib.hid (new_alloc (new_alloc (Below.refl w.heap.size w) (.cells #[.int .i64 a, .int .u64 b] 25)) (.cells #[.int .i64 c, .int .u64 d] 25))
  have HX0 := Lib.hid ((Blk.new w 25 #[.int .i64 a, .int .u64 b]).alloc (.cells #[.int .i64 c, .int .u64 d] 25))
  have HY0 : Hid (Blk ((w.alloc (.cells #[.int .i64 a, .int .u64 b] 25)).alloc (.cells #[.int .i64 c, .int .u64 d] 25)) (w.heap.size + 1) 25 #[.int .i64 c, .int .u64 d]) := by
    have h := Blk.new (w.alloc (.cells #[.int .i64 a, .int .u64 b] 25)) 25 #[.int .i64 c, .int .u64 d]
    rw [show (w.alloc (.cells #[.int .i64 a, .int .u64 b] 25)).heap.size = w.heap.size + 1 from Array.size_push _] at h
    exact h
  go_enter Try.func8, Try.ntmps8
  go_wp2_with fail
  refine (HC.out _).mono ?_
  rintro e w1 ⟨rfl, hb1⟩
  have HB1 := Lib.hid (new_call HB0.out hb1)
  have HX1 := Lib.hid (HX0.out.below hb1 HX0.out.lt)
  have HY1 := Lib.hid (HY0.out.below hb1 HY0.out.lt)
  clear hb1 HB0 HX0 HY0 HC
  go_wp2_with fail
  refine (HF.out _).mono ?_
  rintro e w2 ⟨A2, c2, rfl, hh2, hb2, _⟩
  have HB2 := Lib.hid (new_call HB1.out hb2)
  have HX2 := Lib.hid (HX1.out.below hb2 HX1.out.lt)
  have HY2 := Lib.hid (HY1.out.below hb2 HY1.out.lt)
  have HH2 := Lib.hid hh2
  clear hb2 hh2 HB1 HX1 HY1 HF
  go_wp2_with fail
  refine (HG.out _).mono ?_
  rintro e w3 ⟨A3, c3, rfl, hh3, hb3, _⟩
  have HB3 := Lib.hid (new_call HB2.out hb3)
  have HX3 := Lib.hid (HX2.out.below hb3 HX2.out.lt)
  have HY3 := Lib.hid (HY2.out.below hb3 HY2.out.lt)
  have HRw := Lib.hid (HR.out w3 A2 c2 A3 c3 (HH2.out.kept hb3) hh3)
  clear hb3 hh3 HB2 HX2 HY2 HG HR HH2
  go_wp2_with fail
  refine HRw.out.mono ?_
  rintro e w4 ⟨rfl, hb4⟩
  have HB4 := Lib.hid (new_call HB3.out hb4)
  have HX4 := Lib.hid (HX3.out.below hb4 HX3.out.lt)
  have HY4 := Lib.hid (HY3.out.below hb4 HY3.out.lt)
  have x0 : w4.cell? ⟨w.heap.size, 0, none⟩ = some (.int .i64 a) := HX4.out.cell 0
  have x1 : w4.cell? ⟨w.heap.size, 1, none⟩ = some (.int .u64 b) := HX4.out.cell 1
  have y0 : w4.cell? ⟨w.heap.size + 1, 0, none⟩ = some (.int .i64 c) := HY4.out.cell 0
  have y1 : w4.cell? ⟨w.heap.size + 1, 1, none⟩ = some (.int .u64 d) := HY4.out.cell 1
  clear hb4 HB3 HX3 HY3 HRw
  go_wp2_with fail
  refine (HT.out _).mono ?_
  rintro e w5 ⟨rfl, hb5⟩
  have HB5 := Lib.hid (new_call HB4.out hb5)
  have HX5 := Lib.hid (HX4.out.below hb5 HX4.out.lt)
  have HY5 := Lib.hid (HY4.out.below hb5 HY4.out.lt)
  clear x0 x1 y0 y1
  have x0 : w5.cell? ⟨w.heap.size, 0, none⟩ = some (.int .i64 a) := HX5.out.cell 0
  have x1 : w5.cell? ⟨w.heap.size, 1, none⟩ = some (.int .u64 b) := HX5.out.cell 1
  have y0 : w5.cell? ⟨w.heap.size + 1, 0, none⟩ = some (.int .i64 c) := HY5.out.cell 0
  have y1 : w5.cell? ⟨w.heap.size + 1, 1, none⟩ = some (.int .u64 d) := HY5.out.cell 1
  clear hb5 HB4 HX4 HY4 HT
  have hnk : IntKind.wrap .i64 (-k) = -k := by rw [IntKind.wrap_i64]; omega
  have hnw : wrap64 (-k) = -k := by unfold wrap64; omega
  by_cases hac : a = c
  · by_cases hbd : b = d
    · obtain rfl := hz.2 ⟨hac, hbd⟩
      subst hac hbd
      clear hz
      go_wp2_with fail
      refine (known08 _).mono ?_
      rintro e w9 ⟨rfl, hb9⟩
      have HB9 := Lib.hid (new_call HB5.out hb9)
      go_wp2
      go_ret
      exact ⟨rfl, HB9.out⟩
    · have hk0 : (k == 0) = false := beq_eq_false_iff_ne.2 fun h => hbd (hz.1 h).2
      subst hac
      have hbd2 : (b == d) = false := beq_eq_false_iff_ne.2 hbd
      clear hz
      go_wp2_with fail
      refine (known08 _).mono ?_
      rintro e w9 ⟨rfl, hb9⟩
      have HB9 := Lib.hid (new_call HB5.out hb9)
      go_wp2
      go_ret
      exact ⟨rfl, HB9.out⟩
  · have hk0 : (k == 0) = false := beq_eq_false_iff_ne.2 fun h => hac (hz.1 h).1
    have hac2 : (a == c) = false := beq_eq_false_iff_ne.2 hac
    clear hz
    go_wp2_with fail
    refine (known08 _).mono ?_
    rintro e w9 ⟨rfl, hb9⟩
    have HB9 := Lib.hid (new_call HB5.out hb9)
    go_wp2
    go_ret
    exact ⟨rfl, HB9.out⟩

set_option maxRecDepth 100000 in
theorem lifted (os : Os) (started : os.Started) (H : Type) (enc : TypeId × Value → H) :
    ReturnsInHanded {} Try.checked os 8 .any (Rows.wideCmpsSpec.pre6 enc Try.prog Try.f8 Rows.wideCmpsRow.domain false) (Rows.wideCmpsSpec.post enc Try.prog Try.f8 false true false false) := by
  refine returnsInHanded_of_change (C := Try.checked) Try.own started (by kernel_rfl) Try.func8
    (ChangeSpec.witness6 (enc := enc) (C := Try.checked) false ⟨#[], #[.int .i64 0, .int .u64 0, .int .i64 0, .int .u64 0], []⟩ 8 (by kernel_rfl) (by kernel_rfl) (by kernel_rfl) (by kernel_rfl)) ?_
  intro W base args ds gs before hval0 hW _ _
  have hval : ∀ (j : Nat) t v, Try.f8.params[j]? = some t → args[j]? = some v → Value.okWide Try.prog W .any base t v := hval0
  have hW' := hW
  obtain ⟨p, q, hA0, hV, rfl, _, _⟩ := hW
  have hA : DataW.TrodAll enc Try.prog W 0 (fun _ => true) true Try.f8.params.toList args.toList ds p := hA0
  rw [Try.params8] at hA hval
  obtain ⟨v0, v1, v2, v3, d0, d1, d2, d3, p0, p1, p2, p3, rfl, rfl, rfl, h0, h1, h2, h3⟩ := trodAll_four hA
  obtain ⟨rfl, rfl⟩ := trodVars_none hV
  obtain ⟨a0, rfl, rfl, rfl, w0⟩ := open_int Try.underlying3 (hval 0 3 v0 rfl rfl) h0
  obtain ⟨a1, rfl, rfl, rfl, w1⟩ := open_int Try.underlying23 (hval 1 23 v1 rfl rfl) h1
  obtain ⟨a2, rfl, rfl, rfl, w2⟩ := open_int Try.underlying3 (hval 2 3 v2 rfl rfl) h2
  obtain ⟨a3, rfl, rfl, rfl, w3⟩ := open_int Try.underlying23 (hval 3 23 v3 rfl rfl) h3
  exact (walk a0 a1 a2 a3 W (wf_i64 w0) (wf_u64 w1) (wf_i64 w2) (wf_u64 w3)).mono fun e W' he =>
    law_post rfl rfl (by rw [Try.params8]; intro t ht; simp at ht; rcases ht with rfl | rfl | rfl | rfl <;> exact ⟨by kernel_rfl, of_decide_eq_true (by kernel_rfl)⟩) hW' rfl he

theorem proved : Rows.WideCmpsSaid :=
  OpenClaim.holds_of_wide 8 Try.f8 rfl rfl rfl rfl rfl rfl rfl ⟨rfl, rfl, rfl, rfl, rfl⟩ rfl rfl rfl rfl rfl (by kernel_rfl) Try.func8 (by kernel_rfl)
    (of_decide_eq_true (by kernel_rfl)) (by unfold Func.isWrapper; first | (rw [if_pos (by decide +kernel)]; kernel_rfl) | (rw [if_neg (by decide +kernel)]; exact ⟨rfl, rfl⟩))
    (fun os started H enc _ => lifted os started H enc)
end Go.Proofs.Ytjecognpechapaa.wideCmps
