/- Of any three points GeomTurns answers true: to which side one turns, whether one lies between the others, and whether they are points of the plane is what the chapter says. Conditions: none. -/
import Derived.Test.YtnhoinonojhgiaaKnown09
import Derived.Test.YtnhoinonojhgiaaLawPts
namespace Go.Proofs.Ytnhoinonojhgiaa.geomTurns
open Go.ChangeShapes Go.WideShapes Go.ChangeAt Go.RowKit

set_option maxRecDepth 100000 in
set_option maxHeartbeats 2000000 in
theorem walk (ax ay az bx bY bz cx cy cz : Int) (w : World) (_ : i64P (ax, ay, az)) (_ : i64P (bx, bY, bz)) (_ : i64P (cx, cy, cz)) :
    Calls Try.prog 3 #[.agg #[.int .i64 ax, .int .i64 ay, .int .i64 az], .agg #[.int .i64 bx, .int .i64 bY, .int .i64 bz], .agg #[.int .i64 cx, .int .i64 cy, .int .i64 cz]] w fun e w' => e = .returned (.bool true) ∧ Below w.heap.size w w' := by
  have HT0 := Lib.hid (Tri.new w (ax, ay, az) (bx, bY, bz) (cx, cy, cz))
  have HG1 := Lib.hid (fun W => geomTurn_any ax ay az bx bY bz cx cy cz W)
  have HG2 := Lib.hid (fun W => ref9Turn_any ax ay az bx bY bz cx cy cz W)
  have HG3 := Lib.hid (fun W => geomOn_any cx cy cz ax ay az bx bY bz W)
  have HG4 := Lib.hid (fun W => ref9On_any cx cy cz ax ay az bx bY bz W)
  have HN : Hid (∀ V : World, HasK 3 (V.alloc (.cells #[.int .i64 ax, .int .i64 ay, .int .i64 az, .int .i64 bx, .int .i64 bY, .int .i64 bz, .int .i64 cx, .int .i64 cy, .int .i64 cz] 23)) (some ⟨V.heap.size, 0, none⟩) 3 3 (p3Cells [(ax, ay, az), (bx, bY, bz), (cx, cy, cz)])) := fun V => HasK.new_at 3 V #[.int .i64 ax, .int .i64 ay, .int .i64 az, .int .i64 bx, .int .i64 bY, .int .i64 bz, .int .i64 cx, .int .i64 cy, .int .i64 cz] _ _ 3 rfl rfl
  have HNa : Hid (∀ V : World, HasK 3 ((V.alloc (.cells #[.int .i64 ax, .int .i64 ay, .int .i64 az, .int .i64 bx, .int .i64 bY, .int .i64 bz, .int .i64 cx, .int .i64 cy, .int .i64 cz] 23)).alloc (.cells #[.int .i64 ax, .int .i64 ay, .int .i64 az, .int .i64 bx, .int .i64 bY, .int .i64 bz, .int .i64 cx, .int .i64 cy, .int .i64 cz] 23)) (some ⟨V.heap.size, 0, none⟩) 3 3 (p3Cells [(ax, ay, az), (bx, bY, bz), (cx, cy, cz)])) := fun V => (HN.out V).alloc _
  have HNb : Hid (∀ V : World, HasK 3 ((V.alloc (.cells #[.int .i64 ax, .int .i64 ay, .int .i64 az, .int .i64 bx, .int .i64 bY, .int .i64 bz, .int .i64 cx, .int .i64 cy, .int .i64 cz] 23)).alloc (.cells #[.int .i64 ax, .int .i64 ay, .int .i64 az, .int .i64 bx, .int .i64 bY, .int .i64 bz, .int .i64 cx, .int .i64 cy, .int .i64 cz] 23)) (some ⟨V.heap.size + 1, 0, none⟩) 3 3 (p3Cells [(ax, ay, az), (bx, bY, bz), (cx, cy, cz)])) := fun V => HasK.new_at 3 (V.alloc (.cells #[.int .i64 ax, .int .i64 ay, .int .i64 az, .int .i64 bx, .int .i64 bY, .int .i64 bz, .int .i64 cx, .int .i64 cy, .int .i64 cz] 23)) #[.int .i64 ax, .int .i64 ay, .int .i64 az, .int .i64 bx, .int .i64 bY, .int .i64 bz, .int .i64 cx, .int .i64 cy, .int .i64 cz] _ _ 3 (Array.size_push _).symm rfl
  have HG5 := Lib.hid (fun W g (h : HasK 3 W (some ⟨g, 0, none⟩) 3 3 (p3Cells [(ax, ay, az), (bx, bY, bz), (cx, cy, cz)])) => geomRight_any (some ⟨g, 0, none⟩) 3 3 [(ax, ay, az), (bx, bY, bz), (cx, cy, cz)] W h (by decide))
  have HG6 := Lib.hid (fun W g (h : HasK 3 W (some ⟨g, 0, none⟩) 3 3 (p3Cells [(ax, ay, az), (bx, bY, bz), (cx, cy, cz)])) => ref9Right_any (some ⟨g, 0, none⟩) 3 3 [(ax, ay, az), (bx, bY, bz), (cx, cy, cz)] W h (by decide))
  generalize turnF (ax, ay, az) (bx, bY, bz) (cx, cy, cz) = t at *
  generalize onF (cx, cy, cz) (ax, ay, az) (bx, bY, bz) = o at *
  generalize rights [(ax, ay, az), (bx, bY, bz), (cx, cy, cz)] = r at *
  go_enter Try.func3, Try.ntmps3
  go_wp2_with (with_reducible fail)
  generalize ((w.alloc (.cells #[.int .i64 ax, .int .i64 ay, .int .i64 az] 23)).alloc (.cells #[.int .i64 bx, .int .i64 bY, .int .i64 bz] 23)).alloc (.cells #[.int .i64 cx, .int .i64 cy, .int .i64 cz] 23) = W0 at *
  have HS : Hid (∀ W, Below W0.heap.size W0 W → W.cell? ⟨w.heap.size, 0, none⟩ = some (.int .i64 ax) ∧ W.cell? ⟨w.heap.size, 1, none⟩ = some (.int .i64 ay) ∧ W.cell? ⟨w.heap.size, 2, none⟩ = some (.int .i64 az) ∧ W.cell? ⟨w.heap.size + 1, 0, none⟩ = some (.int .i64 bx) ∧ W.cell? ⟨w.heap.size + 1, 1, none⟩ = some (.int .i64 bY) ∧ W.cell? ⟨w.heap.size + 1, 2, none⟩ = some (.int .i64 bz) ∧ W.cell? ⟨w.heap.size + 2, 0, none⟩ = some (.int .i64 cx) ∧ W.cell? ⟨w.heap.size + 2, 1, none⟩ = some (.int .i64 cy) ∧ W.cell? ⟨w.heap.size + 2, 2, none⟩ = some (.int .i64 cz)) := fun W hW => (HT0.out.next hW).cells
  have HBv0 : Hid (Below W0.heap.size W0 W0.drew) := (Below.refl _ _).drew
  go_region_held3 (fun W => W.cell? ⟨w.heap.size, 0, none⟩ = some (.int .i64 ax) ∧ W.cell? ⟨w.heap.size, 1, none⟩ = some (.int .i64 ay) ∧ W.cell? ⟨w.heap.size, 2, none⟩ = some (.int .i64 az) ∧ W.cell? ⟨w.heap.size + 1, 0, none⟩ = some (.int .i64 bx) ∧ W.cell? ⟨w.heap.size + 1, 1, none⟩ = some (.int .i64 bY) ∧ W.cell? ⟨w.heap.size + 1, 2, none⟩ = some (.int .i64 bz) ∧ W.cell? ⟨w.heap.size + 2, 0, none⟩ = some (.int .i64 cx) ∧ W.cell? ⟨w.heap.size + 2, 1, none⟩ = some (.int .i64 cy) ∧ W.cell? ⟨w.heap.size + 2, 2, none⟩ = some (.int .i64 cz)) (first | (with_reducible exact HS.out _ HBv9.out) | (with_reducible exact HS.out _ HBv8.out) | (with_reducible exact HS.out _ HBv7.out) | (with_reducible exact HS.out _ HBv6.out) | (with_reducible exact HS.out _ HBv5b.out) | (with_reducible exact HS.out _ HBv5.out) | (with_reducible exact HS.out _ HBv4.out) | (with_reducible exact HS.out _ HBv3.out) | (with_reducible exact HS.out _ HBv2.out) | (with_reducible exact HS.out _ HBv1.out) | (with_reducible exact HS.out _ HBv0.out)) (first
    | (go_at_call 11; (with_reducible refine (HG1.out W0.drew).mono ?_); rintro e v1 ⟨rfl, hb1⟩; have HBv1 := Lib.hid (new_call HBv0.out hb1); clear hb1)
    | (go_at_call 12; (with_reducible refine (HG2.out v1).mono ?_); rintro e v2 ⟨rfl, hb2⟩; have HBv2 := Lib.hid (new_call HBv1.out hb2); clear hb2)
    | (go_at_call 13; (with_reducible refine (HG3.out v2).mono ?_); rintro e v3 ⟨rfl, hb3⟩; have HBv3 := Lib.hid (new_call HBv2.out hb3); clear hb3)
    | (go_at_call 14; (with_reducible refine (HG4.out v3).mono ?_); rintro e v4 ⟨rfl, hb4⟩; have HBv4 := Lib.hid (new_call HBv3.out hb4); have HBv5 : Hid (Below W0.heap.size W0 (v4.alloc (.cells #[.int .i64 ax, .int .i64 ay, .int .i64 az, .int .i64 bx, .int .i64 bY, .int .i64 bz, .int .i64 cx, .int .i64 cy, .int .i64 cz] 23))) := new_alloc HBv4.out _; have HBv5b : Hid (Below W0.heap.size W0 ((v4.alloc (.cells #[.int .i64 ax, .int .i64 ay, .int .i64 az, .int .i64 bx, .int .i64 bY, .int .i64 bz, .int .i64 cx, .int .i64 cy, .int .i64 cz] 23)).alloc (.cells #[.int .i64 ax, .int .i64 ay, .int .i64 az, .int .i64 bx, .int .i64 bY, .int .i64 bz, .int .i64 cx, .int .i64 cy, .int .i64 cz] 23))) := new_alloc HBv5.out _; clear hb4)
    | (go_at_call 15; (with_reducible refine (HG5.out _ v4.heap.size (HN.out v4)).mono ?_); rintro e v6 ⟨rfl, hb6⟩; have HBv6 := Lib.hid (new_call HBv5.out hb6); have HBv7 : Hid (Below W0.heap.size W0 (v6.alloc (.cells #[.int .i64 ax, .int .i64 ay, .int .i64 az, .int .i64 bx, .int .i64 bY, .int .i64 bz, .int .i64 cx, .int .i64 cy, .int .i64 cz] 23))) := new_alloc HBv6.out _; clear hb6)
    | (go_at_call 15; (with_reducible refine (HG5.out _ v4.heap.size (HNa.out v4)).mono ?_); rintro e v6 ⟨rfl, hb6⟩; have HBv6 := Lib.hid (new_call HBv5b.out hb6); have HQ := Lib.hid ((HNb.out v4).kept hb6); clear hb6)
    | (go_at_call 15; (with_reducible refine (HG5.out _ (v4.heap.size + 1) (HNb.out v4)).mono ?_); rintro e v6 ⟨rfl, hb6⟩; have HBv6 := Lib.hid (new_call HBv5b.out hb6); have HQ := Lib.hid ((HNa.out v4).kept hb6); clear hb6)
    | (go_at_call 16; (with_reducible refine (HG6.out _ v6.heap.size (HN.out v6)).mono ?_); rintro e v8 ⟨rfl, hb8⟩; have HBv8 := Lib.hid (new_call HBv7.out hb8); clear hb8)
    | (go_at_call 16; (with_reducible refine (HG6.out _ _ HQ.out).mono ?_); rintro e v8 ⟨rfl, hb8⟩; have HBv8 := Lib.hid (new_call HBv6.out hb8); clear hb8)
    | (go_at_call 17; (with_reducible refine (known09 _).mono ?_); rintro e v9 ⟨rfl, hb9⟩; have HBv9 := Lib.hid (new_call HBv8.out hb9); clear hb9))
  all_goals
    go_wp2
    go_ret
    exact ⟨rfl, new_call HT0.out.bel HBv9.out⟩

set_option maxRecDepth 100000 in
theorem lifted (os : Os) (started : os.Started) (H : Type) (enc : TypeId × Value → H) :
    ReturnsInHanded {} Try.checked os 3 .any (Rows.geomTurnsSpec.pre6 enc Try.prog Try.f3 Rows.geomTurnsRow.domain false) (Rows.geomTurnsSpec.post enc Try.prog Try.f3 false true false false) := by
  refine returnsInHanded_of_change (C := Try.checked) Try.own started (by kernel_rfl) Try.func3
    (ChangeSpec.witness6 (enc := enc) (C := Try.checked) false ⟨#[], #[.agg #[.int .i64 0, .int .i64 0, .int .i64 0], .agg #[.int .i64 0, .int .i64 0, .int .i64 0], .agg #[.int .i64 0, .int .i64 0, .int .i64 0]], []⟩ 8 (by kernel_rfl) (by kernel_rfl) (by kernel_rfl) (by kernel_rfl)) ?_
  intro W base args ds gs before hval0 hW _ _
  have hval : ∀ (j : Nat) t v, Try.f3.params[j]? = some t → args[j]? = some v → Value.okWide Try.prog W .any base t v := hval0
  have hW' := hW
  obtain ⟨p, q, hA0, hV, rfl, _, _⟩ := hW
  have hA : DataW.TrodAll enc Try.prog W 0 (fun _ => true) true Try.f3.params.toList args.toList ds p := hA0
  rw [Try.params3] at hA hval
  obtain ⟨v0, v1, v2, d0, d1, d2, p0, p1, p2, rfl, rfl, rfl, h0, h1, h2⟩ := trodAll_three hA
  obtain ⟨rfl, rfl⟩ := trodVars_none hV
  obtain ⟨x0, y0, z0, rfl, hh0⟩ := open_pt (hval 0 23 v0 rfl rfl) h0
  obtain ⟨x1, y1, z1, rfl, hh1⟩ := open_pt (hval 1 23 v1 rfl rfl) h1
  obtain ⟨x2, y2, z2, rfl, hh2⟩ := open_pt (hval 2 23 v2 rfl rfl) h2
  exact (walk x0 y0 z0 x1 y1 z1 x2 y2 z2 W hh0 hh1 hh2).mono fun e W' he =>
    law_post rfl rfl (by rw [Try.params3]; intro t ht; simp at ht; subst ht; exact ⟨by kernel_rfl, of_decide_eq_true (by kernel_rfl)⟩) hW' rfl he

theorem proved : Rows.GeomTurnsSaid :=
  OpenClaim.holds_of_wide 3 Try.f3 rfl rfl rfl rfl rfl rfl rfl ⟨rfl, rfl, rfl, rfl, rfl⟩ rfl rfl rfl rfl rfl (by kernel_rfl) Try.func3 (by kernel_rfl)
    (of_decide_eq_true (by kernel_rfl)) (by unfold Func.isWrapper; first | (rw [if_pos (by decide +kernel)]; kernel_rfl) | (rw [if_neg (by decide +kernel)]; exact ⟨rfl, rfl⟩))
    (fun os started H enc _ => lifted os started H enc)
end Go.Proofs.Ytnhoinonojhgiaa.geomTurns
