/- Layer 9: what the chapter's examples fix. -/
import Derived.Test.YtnhoinonojhgiaaGeomCode
namespace Go.Proofs.Ytnhoinonojhgiaa
open Go.RowKit

set_option maxRecDepth 100000 in
theorem lawAt_any (x y : Int) (w : World) : Calls Try.prog 33 #[.int .i64 x, .int .i64 y] w fun e w' => e = .returned (.agg #[.int .i64 x, .int .i64 y, .int .i64 0]) ∧ Below w.heap.size w w' := by
  obtain ⟨kz, ks⟩ := zero_of_info p3Info
  go_enter Try.func33, Try.ntmps33
  go_wp2
  exact bodyPost_ret (results_cell8 Try.results33 rfl (p3_load _ _ _ _ _ (Blk.new w _ _))) rfl ⟨rfl, new_alloc (Below.refl _ _) _⟩
set_option maxRecDepth 100000 in
set_option maxHeartbeats 2000000 in
theorem known09 (w : World) : Calls Try.prog 17 #[] w fun e w' => e = .returned (.bool true) ∧ Below w.heap.size w w' := by
  have HM1 := Lib.hid (fun W => geomMeet_any 0 0 0 4 4 0 0 4 0 4 0 0 W)
  have HM2 := Lib.hid (fun W => geomMeet_any 0 0 0 4 4 0 4 4 0 9 0 0 W)
  have HM3 := Lib.hid (fun W => geomMeet_any 0 0 0 4 4 0 1 1 0 9 9 0 W)
  rw [show meetF (0, 0, 0) (4, 4, 0) (0, 4, 0) (4, 0, 0) = 2 by decide] at HM1
  rw [show meetF (0, 0, 0) (4, 4, 0) (4, 4, 0) (9, 0, 0) = 1 by decide] at HM2
  rw [show meetF (0, 0, 0) (4, 4, 0) (1, 1, 0) (9, 9, 0) = 3 by decide] at HM3
  have HAr := Lib.hid (fun W g (h : HasK 3 W (some ⟨g, 0, none⟩) 3 3 (p3Cells [(0, 0, 0), (1, 0, 0), (0, 1, 0)])) => geomArea_any (some ⟨g, 0, none⟩) 3 3 [(0, 0, 0), (1, 0, 0), (0, 1, 0)] W h (by decide))
  rw [show areaF [(0, 0, 0), (1, 0, 0), (0, 1, 0)] = 1 by decide] at HAr
  have HOf := Lib.hid (fun W => wideOf_any 1 W (by unfold i64W; decide))
  unfold numV at HAr HOf
  have HAt := Lib.hid (fun x y W => lawAt_any x y W)
  obtain ⟨kz, ks⟩ := zero_of_info numInfo
  go_enter Try.func17, Try.ntmps17
  go_wp2_with fail
  refine (HAt.out _ _ _).mono ?_
  rintro e w1 ⟨rfl, hb1⟩
  have HB1 := Lib.hid (new_alloc hb1 (.cells #[.int .i64 0, .int .i64 0, .int .i64 0] 23))
  have HX1 := Lib.hid (Blk.new w1 23 #[.int .i64 0, .int .i64 0, .int .i64 0])
  clear hb1
  go_wp2_with fail
  refine (HAt.out _ _ _).mono ?_
  rintro e w2 ⟨rfl, hb2⟩
  have HB2 := Lib.hid (new_alloc (new_call HB1.out hb2) (.cells #[.int .i64 4, .int .i64 4, .int .i64 0] 23))
  have HX2 := Lib.hid ((HX1.out.below hb2 HX1.out.lt).alloc (.cells #[.int .i64 4, .int .i64 4, .int .i64 0] 23))
  have HY2 := Lib.hid (Blk.new w2 23 #[.int .i64 4, .int .i64 4, .int .i64 0])
  clear hb2 HB1 HX1
  go_wp2_with (with_reducible fail)
  generalize w2.alloc (.cells #[.int .i64 4, .int .i64 4, .int .i64 0] 23) = W0 at *
  have HS : Hid (∀ W, Below W0.heap.size W0 W → W.cell? ⟨w1.heap.size, 0, none⟩ = some (.int .i64 0) ∧ W.cell? ⟨w1.heap.size, 1, none⟩ = some (.int .i64 0) ∧ W.cell? ⟨w1.heap.size, 2, none⟩ = some (.int .i64 0) ∧ W.cell? ⟨w2.heap.size, 0, none⟩ = some (.int .i64 4) ∧ W.cell? ⟨w2.heap.size, 1, none⟩ = some (.int .i64 4) ∧ W.cell? ⟨w2.heap.size, 2, none⟩ = some (.int .i64 0)) := fun W hW =>
    ⟨(HX2.out.below hW HX2.out.lt).cell 0, (HX2.out.below hW HX2.out.lt).cell 1, (HX2.out.below hW HX2.out.lt).cell 2, (HY2.out.below hW HY2.out.lt).cell 0, (HY2.out.below hW HY2.out.lt).cell 1, (HY2.out.below hW HY2.out.lt).cell 2⟩
  have HBv0 : Hid (Below W0.heap.size W0 W0.drew) := (Below.refl _ _).drew
  go_region_held3 (fun W => W.cell? ⟨w1.heap.size, 0, none⟩ = some (.int .i64 0) ∧ W.cell? ⟨w1.heap.size, 1, none⟩ = some (.int .i64 0) ∧ W.cell? ⟨w1.heap.size, 2, none⟩ = some (.int .i64 0) ∧ W.cell? ⟨w2.heap.size, 0, none⟩ = some (.int .i64 4) ∧ W.cell? ⟨w2.heap.size, 1, none⟩ = some (.int .i64 4) ∧ W.cell? ⟨w2.heap.size, 2, none⟩ = some (.int .i64 0)) (first | (with_reducible exact HS.out _ HBv13.out) | (with_reducible exact HS.out _ HBv12.out) | (with_reducible exact HS.out _ HBv11.out) | (with_reducible exact HS.out _ HBv10.out) | (with_reducible exact HS.out _ HBv9.out) | (with_reducible exact HS.out _ HBv8.out) | (with_reducible exact HS.out _ HBv7.out) | (with_reducible exact HS.out _ HBv6.out) | (with_reducible exact HS.out _ HBv5.out) | (with_reducible exact HS.out _ HBv4.out) | (with_reducible exact HS.out _ HBv3.out) | (with_reducible exact HS.out _ HBv2.out) | (with_reducible exact HS.out _ HBv1.out) | (with_reducible exact HS.out _ HBv0.out)) (first
    | (go_at_call 33; (with_reducible refine (HAt.out 0 4 W0.drew).mono ?_); rintro e v1 ⟨rfl, hb1⟩; have HBv1 := Lib.hid (new_call HBv0.out hb1); clear hb1)
    | (go_at_call 33; (with_reducible refine (HAt.out 4 0 v1).mono ?_); rintro e v2 ⟨rfl, hb2⟩; have HBv2 := Lib.hid (new_call HBv1.out hb2); clear hb2)
    | (go_at_call 18; (with_reducible refine (HM1.out v2).mono ?_); rintro e v3 ⟨rfl, hb3⟩; have HBv3 := Lib.hid (new_call HBv2.out hb3); clear hb3)
    | (go_at_call 33; (with_reducible refine (HAt.out 9 0 v3).mono ?_); rintro e v4 ⟨rfl, hb4⟩; have HBv4 := Lib.hid (new_call HBv3.out hb4); clear hb4)
    | (go_at_call 18; (with_reducible refine (HM2.out v4).mono ?_); rintro e v5 ⟨rfl, hb5⟩; have HBv5 := Lib.hid (new_call HBv4.out hb5); clear hb5)
    | (go_at_call 33; (with_reducible refine (HAt.out 1 1 v5).mono ?_); rintro e v6 ⟨rfl, hb6⟩; have HBv6 := Lib.hid (new_call HBv5.out hb6); clear hb6)
    | (go_at_call 33; (with_reducible refine (HAt.out 9 9 v6).mono ?_); rintro e v7 ⟨rfl, hb7⟩; have HBv7 := Lib.hid (new_call HBv6.out hb7); clear hb7)
    | (go_at_call 18; (with_reducible refine (HM3.out v7).mono ?_); rintro e v8 ⟨rfl, hb8⟩; have HBv8 := Lib.hid (new_call HBv7.out hb8); clear hb8)
    | (go_at_call 33; (with_reducible refine (HAt.out 1 0 v8).mono ?_); rintro e v9 ⟨rfl, hb9⟩; have HBv9 := Lib.hid (new_call HBv8.out hb9); clear hb9)
    | (go_at_call 33; (with_reducible refine (HAt.out 0 1 v9).mono ?_); rintro e v10 ⟨rfl, hb10⟩; have HBv10 := Lib.hid (new_call HBv9.out hb10); have HBv11 : Hid (Below W0.heap.size W0 (v10.alloc (.cells #[.int .i64 0, .int .i64 0, .int .i64 0, .int .i64 1, .int .i64 0, .int .i64 0, .int .i64 0, .int .i64 1, .int .i64 0] 23))) := new_alloc HBv10.out _; clear hb10)
    | (go_at_call 20; (with_reducible refine (HAr.out _ v10.heap.size (HasK.new_at 3 v10 #[.int .i64 0, .int .i64 0, .int .i64 0, .int .i64 1, .int .i64 0, .int .i64 0, .int .i64 0, .int .i64 1, .int .i64 0] 23 _ 3 rfl rfl)).mono ?_); rintro e v12 ⟨rfl, hb12⟩; have HBv12 := Lib.hid (new_call HBv11.out hb12); clear hb12)
    | (go_at_call 34; (with_reducible refine (HOf.out v12).mono ?_); rintro e v13 ⟨rfl, hb13⟩; have HBv13 := Lib.hid (new_call HBv12.out hb13); clear hb13))
  all_goals
    go_wp2
    go_ret
    exact ⟨rfl, new_call HB2.out HBv13.out⟩
end Go.Proofs.Ytnhoinonojhgiaa
