/- Of any two wide numbers WideAdds answers true: the sum, either less nothing, and how they stand, is what the chapter says. Conditions: none. -/
import Derived.Test.YtjecognpechapaaKnown08
import Derived.Test.YtjecognpechapaaLaw
namespace Go.Proofs.Ytjecognpechapaa.wideAdds
open Go.ChangeShapes Go.WideShapes Go.ChangeAt Go.RowKit

set_option maxRecDepth 100000 in
set_option maxHeartbeats 2000000 in
theorem walk (a b c d : Int) (w : World) (ha : -9223372036854775808 ≤ a ∧ a ≤ 9223372036854775807) (hb : 0 ≤ b ∧ b ≤ 18446744073709551615) (hc : -9223372036854775808 ≤ c ∧ c ≤ 9223372036854775807) (hd : 0 ≤ d ∧ d ≤ 18446744073709551615) :
    Calls Try.prog 4 #[.int .i64 a, .int .u64 b, .int .i64 c, .int .u64 d] w fun e w' => e = .returned (.bool true) ∧ Below w.heap.size w w' := by
  have HF := Lib.hid (fun W => ref8From_any a b W ha hb)
  have HG := Lib.hid (fun W => ref8From_any c d W hc hd)
  have hx := valW_in ha hb
  have hy := valW_in hc hd
  have HAd := Lib.hid (fun W g (hs : HasK 2 W (some ⟨g, 0, none⟩) 1 1 (numCells [(c, d)])) => wideAdd_any a b (some ⟨g, 0, none⟩) 1 1 [(c, d)] W ha hb hs (by intro p hp; obtain rfl := List.mem_singleton.1 hp; exact ⟨hc, hd⟩) (by decide))
  rw [sumN_one] at HAd
  have HNg := Lib.hid (fun W => wideNeg_any a b W ha hb)
  have HCm := Lib.hid (fun W => wideCmp_any a b c d W ha hb hc hd)
  have HSg := Lib.hid (fun W => wideSign_any a b W ha hb)
  have HO0 := Lib.hid (fun W => ref8Of_any 0 W (by unfold i64W; decide))
  have HB0 := Lib.hid (new_alloc (new_alloc (Below.refl w.heap.size w) (.cells #[.int .i64 a, .int .u64 b] 25)) (.cells #[.int .i64 c, .int .u64 d] 25))
  have HX0 := Lib.hid ((Blk.new w 25 #[.int .i64 a, .int .u64 b]).alloc (.cells #[.int .i64 c, .int .u64 d] 25))
  have HY0 : Hid (Blk ((w.alloc (.cells #[.int .i64 a, .int .u64 b] 25)).alloc (.cells #[.int .i64 c, .int .u64 d] 25)) (w.heap.size + 1) 25 #[.int .i64 c, .int .u64 d]) := by
    have h := Blk.new (w.alloc (.cells #[.int .i64 a, .int .u64 b] 25)) 25 #[.int .i64 c, .int .u64 d]
    rw [show (w.alloc (.cells #[.int .i64 a, .int .u64 b] 25)).heap.size = w.heap.size + 1 from Array.size_push _] at h
    exact h
  have HXY : Hid (inW (valW a b) ∧ inW (valW c d)) := ⟨hx, hy⟩
  clear ha hb hc hd hx hy
  go_enter Try.func4, Try.ntmps4
  go_wp2_with fail
  refine (HF.out _).mono ?_
  rintro e w1 ⟨A1, c1, rfl, hh1, hb1, _⟩
  have HB1 := Lib.hid (new_alloc (new_call HB0.out hb1) (.cells #[.slice A1 8 c1] 29))
  have HX1 := Lib.hid ((HX0.out.below hb1 HX0.out.lt).alloc (.cells #[.slice A1 8 c1] 29))
  have HY1 := Lib.hid ((HY0.out.below hb1 HY0.out.lt).alloc (.cells #[.slice A1 8 c1] 29))
  have HP1 := Lib.hid (Blk.new w1 29 #[.slice A1 8 c1])
  have HH1 := Lib.hid (hh1.alloc (.cells #[.slice A1 8 c1] 29))
  clear hb1 hh1 HB0 HX0 HY0 HF
  go_wp2_with fail
  refine (HG.out _).mono ?_
  rintro e w2 ⟨A2, c2, rfl, hh2, hb2, _⟩
  have HB2 := Lib.hid (new_alloc (new_call HB1.out hb2) (.cells #[.slice A2 8 c2] 29))
  have HX2 := Lib.hid ((HX1.out.below hb2 HX1.out.lt).alloc (.cells #[.slice A2 8 c2] 29))
  have HY2 := Lib.hid ((HY1.out.below hb2 HY1.out.lt).alloc (.cells #[.slice A2 8 c2] 29))
  have HP2 := Lib.hid ((HP1.out.below hb2 HP1.out.lt).alloc (.cells #[.slice A2 8 c2] 29))
  have HQ2 := Lib.hid (Blk.new w2 29 #[.slice A2 8 c2])
  have HH2 := Lib.hid ((HH1.out.kept hb2).alloc (.cells #[.slice A2 8 c2] 29))
  have HI2 := Lib.hid (hh2.alloc (.cells #[.slice A2 8 c2] 29))
  clear hb2 hh2 HB1 HX1 HY1 HP1 HH1 HG
  go_wp2_with (with_reducible fail)
  generalize w2.alloc (.cells #[.slice A2 8 c2] 29) = W0 at *
  have HS : Hid (∀ W, Below W0.heap.size W0 W → W.cell? ⟨w.heap.size, 0, none⟩ = some (.int .i64 a) ∧ W.cell? ⟨w.heap.size, 1, none⟩ = some (.int .u64 b) ∧ W.cell? ⟨w.heap.size + 1, 0, none⟩ = some (.int .i64 c) ∧ W.cell? ⟨w.heap.size + 1, 1, none⟩ = some (.int .u64 d) ∧ W.cell? ⟨w1.heap.size, 0, none⟩ = some (.slice A1 8 c1) ∧ W.cell? ⟨w2.heap.size, 0, none⟩ = some (.slice A2 8 c2)) := fun W hW =>
    ⟨(HX2.out.below hW HX2.out.lt).cell 0, (HX2.out.below hW HX2.out.lt).cell 1, (HY2.out.below hW HY2.out.lt).cell 0, (HY2.out.below hW HY2.out.lt).cell 1, (HP2.out.below hW HP2.out.lt).cell 0, (HQ2.out.below hW HQ2.out.lt).cell 0⟩
  have HBv0 : Hid (Below W0.heap.size W0 W0) := Below.refl _ _
  have HBa : Hid (Below W0.heap.size W0 (W0.alloc (.cells #[.int .i64 c, .int .u64 d] 25))) := new_alloc (Below.refl _ _) _
  go_region_held3 (fun W => W.cell? ⟨w.heap.size, 0, none⟩ = some (.int .i64 a) ∧ W.cell? ⟨w.heap.size, 1, none⟩ = some (.int .u64 b) ∧ W.cell? ⟨w.heap.size + 1, 0, none⟩ = some (.int .i64 c) ∧ W.cell? ⟨w.heap.size + 1, 1, none⟩ = some (.int .u64 d) ∧ W.cell? ⟨w1.heap.size, 0, none⟩ = some (.slice A1 8 c1) ∧ W.cell? ⟨w2.heap.size, 0, none⟩ = some (.slice A2 8 c2)) (first | (with_reducible exact HS.out _ HBv12.out) | (with_reducible exact HS.out _ HBv11.out) | (with_reducible exact HS.out _ HBv10.out) | (with_reducible exact HS.out _ HBv9.out) | (with_reducible exact HS.out _ HBv8.out) | (with_reducible exact HS.out _ HBv7.out) | (with_reducible exact HS.out _ HBv6.out) | (with_reducible exact HS.out _ HBv5.out) | (with_reducible exact HS.out _ HBv4.out) | (with_reducible exact HS.out _ HBv3.out) | (with_reducible exact HS.out _ HBv2.out) | (with_reducible exact HS.out _ HBv1.out) | (with_reducible exact HS.out _ HBv0.out) | (with_reducible exact HS.out _ HBa.out) | exact HS.out _ HBa.out | exact HS.out _ HBv0.out.drew | exact HS.out _ HBa.out.drew) (first
    | (go_at_call 18; refine (HAd.out _ W0.heap.size ((HasK.new_at 2 W0 #[.int .i64 c, .int .u64 d] 25 _ 1 rfl rfl).kept (Below.refl _ _).drew)).mono ?_; rintro e v1 ⟨rfl, hb1⟩; have HBv1 : Hid (Below W0.heap.size W0 v1) := new_call (new_alloc (Below.refl W0.heap.size W0) (.cells #[.int .i64 c, .int .u64 d] 25)).drew hb1; clear hb1)
    | (go_at_call 19; (with_reducible refine (ref8AddD_any A1 c1 (valW a b) A2 c2 (valW c d) v1 (HH2.out.kept HBv1.out) (HI2.out.kept HBv1.out)).mono ?_); rintro e v2 ⟨A3, c3, rfl, hh3, hb2, _⟩; have HBv2 := Lib.hid (new_call HBv1.out hb2); have HI3 := Lib.hid (lawIs_any (valW a b + valW c d) A3 c3 (valW a b + valW c d) v2 hh3 (Cong.refl _)); clear hh3; clear hb2)
    | (go_at_call 11; (with_reducible refine HI3.out.mono ?_); rintro e v3 ⟨rfl, hb3⟩; have HBv3 := Lib.hid (new_call HBv2.out hb3); clear hb3)
    | (go_at_call 20; (with_reducible refine (HNg.out _).mono ?_); rintro e v4 ⟨rfl, hb4⟩; have HBv4 := Lib.hid (new_call HBv3.out hb4); clear hb4)
    | (go_at_call 21; (with_reducible refine (ref8Neg_any A1 c1 (valW a b) v4 (HH2.out.kept HBv4.out)).mono ?_); rintro e v5 ⟨A5, c5, rfl, hh5, hb5, _⟩; have HBv5 := Lib.hid (new_call HBv4.out hb5); have HI5 := Lib.hid (lawIs_any (-(valW a b)) A5 c5 (-(valW a b)) v5 hh5 (Cong.refl _)); clear hh5; clear hb5)
    | (go_at_call 11; (with_reducible refine HI5.out.mono ?_); rintro e v6 ⟨rfl, hb6⟩; have HBv6 := Lib.hid (new_call HBv5.out hb6); clear hb6)
    | (go_at_call 22; (with_reducible refine (HCm.out _).mono ?_); rintro e v7 ⟨rfl, hb7⟩; have HBv7 := Lib.hid (new_call HBv6.out hb7); clear hb7)
    | (go_at_call 23; (with_reducible refine (ref8Cmp_any A1 c1 (valW a b) A2 c2 (valW c d) v7 (HH2.out.kept HBv7.out) (HI2.out.kept HBv7.out) HXY.out.1 HXY.out.2).mono ?_); rintro e v8 ⟨rfl, hb8⟩; have HBv8 := Lib.hid (new_call HBv7.out hb8); clear hb8)
    | (go_at_call 24; (with_reducible refine (HSg.out _).mono ?_); rintro e v9 ⟨rfl, hb9⟩; have HBv9 := Lib.hid (new_call HBv8.out hb9); clear hb9)
    | (go_at_call 14; (with_reducible refine (HO0.out _).mono ?_); rintro e v10 ⟨A10, c10, rfl, hh10, hb10, _⟩; have HBv10 := Lib.hid (new_call HBv9.out hb10); have HH10 := Lib.hid hh10; clear hh10; clear hb10)
    | (go_at_call 23; (with_reducible refine (ref8Cmp_any A1 c1 (valW a b) A10 c10 0 v10 (HH2.out.kept HBv10.out) HH10.out HXY.out.1 (by unfold inW; decide)).mono ?_); rintro e v11 ⟨rfl, hb11⟩; have HBv11 := Lib.hid (new_call HBv10.out hb11); clear hb11)
    | (go_at_call 16; (with_reducible refine (known08 _).mono ?_); rintro e v12 ⟨rfl, hb12⟩; have HBv12 := Lib.hid (new_call HBv11.out hb12); clear hb12))
  all_goals
    go_wp2
    go_ret
    exact ⟨rfl, new_call HB2.out HBv12.out⟩

set_option maxRecDepth 100000 in
theorem lifted (os : Os) (started : os.Started) (H : Type) (enc : TypeId × Value → H) :
    ReturnsInHanded {} Try.checked os 4 .any (Rows.wideAddsSpec.pre6 enc Try.prog Try.f4 Rows.wideAddsRow.domain false) (Rows.wideAddsSpec.post enc Try.prog Try.f4 false true false false) := by
  refine returnsInHanded_of_change (C := Try.checked) Try.own started (by kernel_rfl) Try.func4
    (ChangeSpec.witness6 (enc := enc) (C := Try.checked) false ⟨#[], #[.int .i64 0, .int .u64 0, .int .i64 0, .int .u64 0], []⟩ 8 (by kernel_rfl) (by kernel_rfl) (by kernel_rfl) (by kernel_rfl)) ?_
  intro W base args ds gs before hval0 hW _ _
  have hval : ∀ (j : Nat) t v, Try.f4.params[j]? = some t → args[j]? = some v → Value.okWide Try.prog W .any base t v := hval0
  have hW' := hW
  obtain ⟨p, q, hA0, hV, rfl, _, _⟩ := hW
  have hA : DataW.TrodAll enc Try.prog W 0 (fun _ => true) true Try.f4.params.toList args.toList ds p := hA0
  rw [Try.params4] at hA hval
  obtain ⟨v0, v1, v2, v3, d0, d1, d2, d3, p0, p1, p2, p3, rfl, rfl, rfl, h0, h1, h2, h3⟩ := trodAll_four hA
  obtain ⟨rfl, rfl⟩ := trodVars_none hV
  obtain ⟨a0, rfl, rfl, rfl, w0⟩ := open_int Try.underlying3 (hval 0 3 v0 rfl rfl) h0
  obtain ⟨a1, rfl, rfl, rfl, w1⟩ := open_int Try.underlying23 (hval 1 23 v1 rfl rfl) h1
  obtain ⟨a2, rfl, rfl, rfl, w2⟩ := open_int Try.underlying3 (hval 2 3 v2 rfl rfl) h2
  obtain ⟨a3, rfl, rfl, rfl, w3⟩ := open_int Try.underlying23 (hval 3 23 v3 rfl rfl) h3
  exact (walk a0 a1 a2 a3 W (wf_i64 w0) (wf_u64 w1) (wf_i64 w2) (wf_u64 w3)).mono fun e W' he =>
    law_post rfl rfl (by rw [Try.params4]; intro t ht; simp at ht; rcases ht with rfl | rfl | rfl | rfl <;> exact ⟨by kernel_rfl, of_decide_eq_true (by kernel_rfl)⟩) hW' rfl he

theorem proved : Rows.WideAddsSaid :=
  OpenClaim.holds_of_wide 4 Try.f4 rfl rfl rfl rfl rfl rfl rfl ⟨rfl, rfl, rfl, rfl, rfl⟩ rfl rfl rfl rfl rfl (by kernel_rfl) Try.func4 (by kernel_rfl)
    (of_decide_eq_true (by kernel_rfl)) (by unfold Func.isWrapper; first | (rw [if_pos (by decide +kernel)]; kernel_rfl) | (rw [if_neg (by decide +kernel)]; exact ⟨rfl, rfl⟩))
    (fun os started H enc _ => lifted os started H enc)
end Go.Proofs.Ytjecognpechapaa.wideAdds
