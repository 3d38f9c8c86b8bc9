/- The landed geom: Turn, On, and what a line goes through, or lies to either side of. -/
import Derived.Test.YtnhoinonojhgiaaGeomCodeA
namespace Go.Proofs.Ytnhoinonojhgiaa
open Go.RowKit

set_option maxRecDepth 100000 in
set_option maxHeartbeats 800000 in
theorem geomTurn_any (ax ay az bx bY bz cx cy cz : Int) (w : World) : Calls Try.prog 11 #[.agg #[.int .i64 ax, .int .i64 ay, .int .i64 az], .agg #[.int .i64 bx, .int .i64 bY, .int .i64 bz], .agg #[.int .i64 cx, .int .i64 cy, .int .i64 cz]] w fun e w' => e = .returned (.int .i64 (turnF (ax, ay, az) (bx, bY, bz) (cx, cy, cz))) ∧ Below w.heap.size w w' := by
  have HT0 := Lib.hid (Tri.new w (ax, ay, az) (bx, bY, bz) (cx, cy, cz))
  have HR := Lib.hid (geomRight_any (some ⟨w.heap.size + 3, 0, none⟩) 3 3 [(ax, ay, az), (bx, bY, bz), (cx, cy, cz)] ((((w.alloc (.cells #[.int .i64 ax, .int .i64 ay, .int .i64 az] 23)).alloc (.cells #[.int .i64 bx, .int .i64 bY, .int .i64 bz] 23)).alloc (.cells #[.int .i64 cx, .int .i64 cy, .int .i64 cz] 23)).alloc (.cells #[.int .i64 ax, .int .i64 ay, .int .i64 az, .int .i64 bx, .int .i64 bY, .int .i64 bz, .int .i64 cx, .int .i64 cy, .int .i64 cz] 23)) (HasK.new_at 3 _ _ _ _ 3 (size_three w _ _ _) rfl) (by decide))
  by_cases hr : rights [(ax, ay, az), (bx, bY, bz), (cx, cy, cz)] = true
  · have HTu := Lib.hid (fun W => geomturn_any ax ay az bx bY bz cx cy cz W hr)
    rw [hr] at HR
    clear hr
    generalize turnF (ax, ay, az) (bx, bY, bz) (cx, cy, cz) = t at *
    go_enter Try.func11, Try.ntmps11
    go_wp2_with fail
    refine HR.out.mono ?_
    rintro e w1 ⟨rfl, hb1⟩
    have HT1 := Lib.hid (HT0.out.next (new_call (new_alloc (Below.refl _ _) _) hb1))
    clear hb1 HT0 HR
    obtain ⟨c0, c1, c2, c3, c4, c5, c6, c7, c8⟩ := HT1.out.cells
    simp only at c0 c1 c2 c3 c4 c5 c6 c7 c8
    go_wp2_with fail
    refine (HTu.out _).mono ?_
    rintro e w2 ⟨rfl, hb2⟩
    go_wp2
    go_ret
    exact ⟨rfl, (HT1.out.next hb2).bel⟩
  · have hr2 : rights [(ax, ay, az), (bx, bY, bz), (cx, cy, cz)] = false := by simpa using hr
    have HE : Hid (turnF (ax, ay, az) (bx, bY, bz) (cx, cy, cz) = 0) := if_neg hr
    rw [HE.out]
    rw [hr2] at HR
    clear hr hr2
    go_enter Try.func11, Try.ntmps11
    go_wp2_with fail
    refine HR.out.mono ?_
    rintro e w1 ⟨rfl, hb1⟩
    go_wp2
    go_ret
    exact ⟨rfl, (HT0.out.next (new_call (new_alloc (Below.refl _ _) _) hb1)).bel⟩
set_option maxRecDepth 100000 in
set_option maxHeartbeats 800000 in
theorem geomOn_any (px py pz ax ay az bx bY bz : Int) (w : World) : Calls Try.prog 13 #[.agg #[.int .i64 px, .int .i64 py, .int .i64 pz], .agg #[.int .i64 ax, .int .i64 ay, .int .i64 az], .agg #[.int .i64 bx, .int .i64 bY, .int .i64 bz]] w fun e w' => e = .returned (.bool (onF (px, py, pz) (ax, ay, az) (bx, bY, bz))) ∧ Below w.heap.size w w' := by
  have HT0 := Lib.hid (Tri.new w (px, py, pz) (ax, ay, az) (bx, bY, bz))
  have HR := Lib.hid (geomRight_any (some ⟨w.heap.size + 3, 0, none⟩) 3 3 [(px, py, pz), (ax, ay, az), (bx, bY, bz)] ((((w.alloc (.cells #[.int .i64 px, .int .i64 py, .int .i64 pz] 23)).alloc (.cells #[.int .i64 ax, .int .i64 ay, .int .i64 az] 23)).alloc (.cells #[.int .i64 bx, .int .i64 bY, .int .i64 bz] 23)).alloc (.cells #[.int .i64 px, .int .i64 py, .int .i64 pz, .int .i64 ax, .int .i64 ay, .int .i64 az, .int .i64 bx, .int .i64 bY, .int .i64 bz] 23)) (HasK.new_at 3 _ _ _ _ 3 (size_three w _ _ _) rfl) (by decide))
  by_cases hr : rights [(px, py, pz), (ax, ay, az), (bx, bY, bz)] = true
  · have HTu := Lib.hid (fun W => geomon_any px py pz ax ay az bx bY bz W hr)
    rw [hr] at HR
    clear hr
    generalize onF (px, py, pz) (ax, ay, az) (bx, bY, bz) = t at *
    go_enter Try.func13, Try.ntmps13
    go_wp2_with fail
    refine HR.out.mono ?_
    rintro e w1 ⟨rfl, hb1⟩
    have HT1 := Lib.hid (HT0.out.next (new_call (new_alloc (Below.refl _ _) _) hb1))
    clear hb1 HT0 HR
    obtain ⟨c0, c1, c2, c3, c4, c5, c6, c7, c8⟩ := HT1.out.cells
    simp only at c0 c1 c2 c3 c4 c5 c6 c7 c8
    go_wp2_with fail
    refine (HTu.out _).mono ?_
    rintro e w2 ⟨rfl, hb2⟩
    go_wp2
    go_ret
    exact ⟨rfl, (HT1.out.next hb2).bel⟩
  · have hr2 : rights [(px, py, pz), (ax, ay, az), (bx, bY, bz)] = false := by simpa using hr
    have HE : Hid (onF (px, py, pz) (ax, ay, az) (bx, bY, bz) = false) := by
      show _ = _
      unfold onF
      rw [hr2]
      rfl
    rw [HE.out]
    rw [hr2] at HR
    clear hr hr2
    go_enter Try.func13, Try.ntmps13
    go_wp2_with fail
    refine HR.out.mono ?_
    rintro e w1 ⟨rfl, hb1⟩
    go_wp2
    go_ret
    exact ⟨rfl, (HT0.out.next (new_call (new_alloc (Below.refl _ _) _) hb1)).bel⟩
set_option maxRecDepth 100000 in
set_option maxHeartbeats 800000 in
theorem geomgoes_any (px py pz ax ay az bx bY bz : Int) (w : World) (hr : rights [(px, py, pz), (ax, ay, az), (bx, bY, bz)] = true) : Calls Try.prog 45 #[.agg #[.int .i64 px, .int .i64 py, .int .i64 pz], .agg #[.int .i64 ax, .int .i64 ay, .int .i64 az], .agg #[.int .i64 bx, .int .i64 bY, .int .i64 bz]] w fun e w' => e = .returned (.bool (goesF (px, py, pz) (ax, ay, az) (bx, bY, bz))) ∧ Below w.heap.size w w' := by
  have HT1 := Lib.hid (Tri.new w (px, py, pz) (ax, ay, az) (bx, bY, bz))
  have HTu := Lib.hid (fun W => geomturn_any ax ay az bx bY bz px py pz W (rights3_last hr))
  have HE : Hid (goesF (px, py, pz) (ax, ay, az) (bx, bY, bz) = if (decide (py < ay)) = decide (py < bY) then false else decide (0 < turnF (ax, ay, az) (bx, bY, bz) (px, py, pz)) == decide (py < bY)) := rfl
  rw [HE.out]
  clear HE hr
  generalize turnF (ax, ay, az) (bx, bY, bz) (px, py, pz) = t at *
  obtain ⟨c0, c1, c2, c3, c4, c5, c6, c7, c8⟩ := HT1.out.cells
  simp only at c0 c1 c2 c3 c4 c5 c6 c7 c8
  have hw : (∃ u, decide (py < ay) = u ∧ decide (py < bY) = u) ∨ ∃ u, decide (py < ay) = !u ∧ decide (py < bY) = u := by
    cases decide (py < ay) <;> cases decide (py < bY) <;> simp
  rcases hw with ⟨u, h1, h2⟩ | ⟨u, h1, h2⟩
  · rw [h1, h2, if_pos rfl]
    cases u
    all_goals
      go_enter Try.func45, Try.ntmps45
      go_wp2
      go_ret
      exact ⟨rfl, HT1.out.bel⟩
  · rw [h1, h2, if_neg (by cases u <;> decide)]
    obtain ⟨v, hv⟩ : ∃ v, decide (0 < t) = v := ⟨_, rfl⟩
    rw [hv]
    cases u
    all_goals
      simp only [Bool.not_true, Bool.not_false] at h1
      cases v
      all_goals
        go_enter Try.func45, Try.ntmps45
        go_wp2_with fail
        refine (HTu.out _).mono ?_
        rintro e w2 ⟨rfl, hb2⟩
        go_wp2
        go_ret
        exact ⟨rfl, (HT1.out.next hb2).bel⟩
/-- Four points in blocks of the call's own. -/
structure Quad (w : World) (a b c d : P3) (wx : World) : Prop where
  b0 : Blk wx w.heap.size 23 #[.int .i64 a.1, .int .i64 a.2.1, .int .i64 a.2.2]
  b1 : Blk wx (w.heap.size + 1) 23 #[.int .i64 b.1, .int .i64 b.2.1, .int .i64 b.2.2]
  b2 : Blk wx (w.heap.size + 2) 23 #[.int .i64 c.1, .int .i64 c.2.1, .int .i64 c.2.2]
  b3 : Blk wx (w.heap.size + 3) 23 #[.int .i64 d.1, .int .i64 d.2.1, .int .i64 d.2.2]
  bel : Below w.heap.size w wx
theorem Quad.new (w : World) (a b c d : P3) : Quad w a b c d ((((w.alloc (.cells #[.int .i64 a.1, .int .i64 a.2.1, .int .i64 a.2.2] 23)).alloc (.cells #[.int .i64 b.1, .int .i64 b.2.1, .int .i64 b.2.2] 23)).alloc (.cells #[.int .i64 c.1, .int .i64 c.2.1, .int .i64 c.2.2] 23)).alloc (.cells #[.int .i64 d.1, .int .i64 d.2.1, .int .i64 d.2.2] 23)) :=
  ⟨(((Blk.new w _ _).alloc _).alloc _).alloc _, ((blk_two w _ _ _).alloc _).alloc _, (blk_three w _ _ _ _).alloc _, blk_four w _ _ _ _ _, new_alloc (new_alloc (new_alloc (new_alloc (Below.refl _ _) _) _) _) _⟩
theorem Quad.next {w wx w' : World} {a b c d : P3} (h : Quad w a b c d wx) (hb : Below wx.heap.size wx w') : Quad w a b c d w' :=
  ⟨h.b0.below hb h.b0.lt, h.b1.below hb h.b1.lt, h.b2.below hb h.b2.lt, h.b3.below hb h.b3.lt, new_call h.bel hb⟩
/-- Their twelve cells. -/
def QuadC (g : Nat) (a b c d : P3) (W : World) : Prop :=
  W.cell? ⟨g, 0, none⟩ = some (.int .i64 a.1) ∧ W.cell? ⟨g, 1, none⟩ = some (.int .i64 a.2.1) ∧ W.cell? ⟨g, 2, none⟩ = some (.int .i64 a.2.2) ∧
  W.cell? ⟨g + 1, 0, none⟩ = some (.int .i64 b.1) ∧ W.cell? ⟨g + 1, 1, none⟩ = some (.int .i64 b.2.1) ∧ W.cell? ⟨g + 1, 2, none⟩ = some (.int .i64 b.2.2) ∧
  W.cell? ⟨g + 2, 0, none⟩ = some (.int .i64 c.1) ∧ W.cell? ⟨g + 2, 1, none⟩ = some (.int .i64 c.2.1) ∧ W.cell? ⟨g + 2, 2, none⟩ = some (.int .i64 c.2.2) ∧
  W.cell? ⟨g + 3, 0, none⟩ = some (.int .i64 d.1) ∧ W.cell? ⟨g + 3, 1, none⟩ = some (.int .i64 d.2.1) ∧ W.cell? ⟨g + 3, 2, none⟩ = some (.int .i64 d.2.2)
theorem Quad.cells {w wx : World} {a b c d : P3} (h : Quad w a b c d wx) : QuadC w.heap.size a b c d wx :=
  ⟨h.b0.cell 0, h.b0.cell 1, h.b0.cell 2, h.b1.cell 0, h.b1.cell 1, h.b1.cell 2, h.b2.cell 0, h.b2.cell 1, h.b2.cell 2, h.b3.cell 0, h.b3.cell 1, h.b3.cell 2⟩
theorem rights4_of {a b c d : P3} (h : rights [a, b, c, d] = true) : rights [a, b, c] = true ∧ rights [a, b, d] = true ∧ rights [c, d, a, b] = true := by
  obtain ⟨h1, h2, h3, h4⟩ := rights4 h
  simp [rights, h1, h2, h3, h4]
set_option maxRecDepth 100000 in
set_option maxHeartbeats 800000 in
theorem geomastride_any (ax ay az bx bY bz cx cy cz dx dy dz : Int) (w : World) (hr : rights [(ax, ay, az), (bx, bY, bz), (cx, cy, cz), (dx, dy, dz)] = true) : Calls Try.prog 36 #[.agg #[.int .i64 ax, .int .i64 ay, .int .i64 az], .agg #[.int .i64 bx, .int .i64 bY, .int .i64 bz], .agg #[.int .i64 cx, .int .i64 cy, .int .i64 cz], .agg #[.int .i64 dx, .int .i64 dy, .int .i64 dz]] w fun e w' => e = .returned (.bool (astrideF (ax, ay, az) (bx, bY, bz) (cx, cy, cz) (dx, dy, dz))) ∧ Below w.heap.size w w' := by
  have HT1 := Lib.hid (Quad.new w (ax, ay, az) (bx, bY, bz) (cx, cy, cz) (dx, dy, dz))
  have HP1 := Lib.hid (fun W => geomturn_any ax ay az bx bY bz cx cy cz W (rights4_of hr).1)
  have HP2 := Lib.hid (fun W => geomturn_any ax ay az bx bY bz dx dy dz W (rights4_of hr).2.1)
  have HE : Hid (astrideF (ax, ay, az) (bx, bY, bz) (cx, cy, cz) (dx, dy, dz) = decide (turnF (ax, ay, az) (bx, bY, bz) (cx, cy, cz) * turnF (ax, ay, az) (bx, bY, bz) (dx, dy, dz) < 0)) := rfl
  have r1 := turn_range (ax, ay, az) (bx, bY, bz) (cx, cy, cz)
  have r2 := turn_range (ax, ay, az) (bx, bY, bz) (dx, dy, dz)
  rw [HE.out]
  clear HE hr
  generalize turnF (ax, ay, az) (bx, bY, bz) (cx, cy, cz) = t at *
  generalize turnF (ax, ay, az) (bx, bY, bz) (dx, dy, dz) = u at *
  have hm := one_mul_range r1 r2
  obtain ⟨m, em⟩ : ∃ m, t * u = m := ⟨_, rfl⟩
  have g1 : IntKind.wrap .i64 (t * u) = m := by rw [IntKind.wrap_i64]; omega
  have f1 : wrap64 (t * u) = m := by unfold wrap64; omega
  rw [em]
  clear r1 r2 hm em
  go_enter Try.func36, Try.ntmps36
  go_wp2_with (with_reducible fail)
  generalize ((((w.alloc (.cells #[.int .i64 ax, .int .i64 ay, .int .i64 az] 23)).alloc (.cells #[.int .i64 bx, .int .i64 bY, .int .i64 bz] 23)).alloc (.cells #[.int .i64 cx, .int .i64 cy, .int .i64 cz] 23)).alloc (.cells #[.int .i64 dx, .int .i64 dy, .int .i64 dz] 23)) = w1 at *
  have HS : Hid (∀ W, Below w1.heap.size w1 W → W.cell? ⟨w.heap.size, 0, none⟩ = some (.int .i64 ax) ∧ W.cell? ⟨w.heap.size, 1, none⟩ = some (.int .i64 ay) ∧ W.cell? ⟨w.heap.size, 2, none⟩ = some (.int .i64 az) ∧ W.cell? ⟨w.heap.size + 1, 0, none⟩ = some (.int .i64 bx) ∧ W.cell? ⟨w.heap.size + 1, 1, none⟩ = some (.int .i64 bY) ∧ W.cell? ⟨w.heap.size + 1, 2, none⟩ = some (.int .i64 bz) ∧ W.cell? ⟨w.heap.size + 2, 0, none⟩ = some (.int .i64 cx) ∧ W.cell? ⟨w.heap.size + 2, 1, none⟩ = some (.int .i64 cy) ∧ W.cell? ⟨w.heap.size + 2, 2, none⟩ = some (.int .i64 cz) ∧ W.cell? ⟨w.heap.size + 3, 0, none⟩ = some (.int .i64 dx) ∧ W.cell? ⟨w.heap.size + 3, 1, none⟩ = some (.int .i64 dy) ∧ W.cell? ⟨w.heap.size + 3, 2, none⟩ = some (.int .i64 dz)) := fun W hW => (HT1.out.next hW).cells
  have HBv0 : Hid (Below w1.heap.size w1 w1.drew) := (Below.refl _ _).drew
  go_region_held3 (fun W => W.cell? ⟨w.heap.size, 0, none⟩ = some (.int .i64 ax) ∧ W.cell? ⟨w.heap.size, 1, none⟩ = some (.int .i64 ay) ∧ W.cell? ⟨w.heap.size, 2, none⟩ = some (.int .i64 az) ∧ W.cell? ⟨w.heap.size + 1, 0, none⟩ = some (.int .i64 bx) ∧ W.cell? ⟨w.heap.size + 1, 1, none⟩ = some (.int .i64 bY) ∧ W.cell? ⟨w.heap.size + 1, 2, none⟩ = some (.int .i64 bz) ∧ W.cell? ⟨w.heap.size + 2, 0, none⟩ = some (.int .i64 cx) ∧ W.cell? ⟨w.heap.size + 2, 1, none⟩ = some (.int .i64 cy) ∧ W.cell? ⟨w.heap.size + 2, 2, none⟩ = some (.int .i64 cz) ∧ W.cell? ⟨w.heap.size + 3, 0, none⟩ = some (.int .i64 dx) ∧ W.cell? ⟨w.heap.size + 3, 1, none⟩ = some (.int .i64 dy) ∧ W.cell? ⟨w.heap.size + 3, 2, none⟩ = some (.int .i64 dz)) (first | (with_reducible exact HS.out _ HBv2.out) | (with_reducible exact HS.out _ HBv1.out) | (with_reducible exact HS.out _ HBv0.out)) (first
    | (go_at_call 27; (with_reducible refine (HP1.out w1.drew).mono ?_); rintro e v1 ⟨rfl, hb1⟩; have HBv1 := Lib.hid (new_call HBv0.out hb1); clear hb1)
    | (go_at_call 27; (with_reducible refine (HP2.out v1).mono ?_); rintro e v2 ⟨rfl, hb2⟩; have HBv2 := Lib.hid (new_call HBv1.out hb2); clear hb2)
    | (go_at_call 27; (with_reducible refine (HP2.out w1.drew).mono ?_); rintro e v1 ⟨rfl, hb2⟩; have HBv1 := Lib.hid (new_call HBv0.out hb2); clear hb2)
    | (go_at_call 27; (with_reducible refine (HP1.out v1).mono ?_); rintro e v2 ⟨rfl, hb1⟩; have HBv2 := Lib.hid (new_call HBv1.out hb1); clear hb1))
  all_goals
    go_wp2
    go_ret
    exact ⟨rfl, (HT1.out.next HBv2.out).bel⟩
end Go.Proofs.Ytnhoinonojhgiaa
