/- Of any two segments GeomMeets answers true: what they have in common is what the chapter says; told from either side it is the same. Conditions: none. -/
import Derived.Test.YtnhoinonojhgiaaKnown09
import Derived.Test.YtnhoinonojhgiaaLawPts
namespace Go.Proofs.Ytnhoinonojhgiaa.geomMeets
open Go.ChangeShapes Go.WideShapes Go.ChangeAt Go.RowKit

/-- Four points in blocks of the call's own. -/
structure Quad (w : World) (a b c d : P3) (wx : World) : Prop where
  b0 : Blk wx w.heap.size 23 #[.int .i64 a.1, .int .i64 a.2.1, .int .i64 a.2.2]
  b1 : Blk wx (w.heap.size + 1) 23 #[.int .i64 b.1, .int .i64 b.2.1, .int .i64 b.2.2]
  b2 : Blk wx (w.heap.size + 2) 23 #[.int .i64 c.1, .int .i64 c.2.1, .int .i64 c.2.2]
  b3 : Blk wx (w.heap.size + 3) 23 #[.int .i64 d.1, .int .i64 d.2.1, .int .i64 d.2.2]
  bel : Below w.heap.size w wx
theorem Quad.next {w wx w' : World} {a b c d : P3} (h : Quad w a b c d wx) (hb : Below wx.heap.size wx w') : Quad w a b c d w' :=
  ⟨h.b0.below hb h.b0.lt, h.b1.below hb h.b1.lt, h.b2.below hb h.b2.lt, h.b3.below hb h.b3.lt, new_call h.bel hb⟩
set_option maxRecDepth 100000 in
set_option maxHeartbeats 1000000 in
theorem walk (ax ay az bx bY bz cx cy cz dx dy dz : Int) (w : World) (_ : i64P (ax, ay, az)) (_ : i64P (bx, bY, bz)) (_ : i64P (cx, cy, cz)) (_ : i64P (dx, dy, dz)) :
    Calls Try.prog 4 #[.agg #[.int .i64 ax, .int .i64 ay, .int .i64 az], .agg #[.int .i64 bx, .int .i64 bY, .int .i64 bz], .agg #[.int .i64 cx, .int .i64 cy, .int .i64 cz], .agg #[.int .i64 dx, .int .i64 dy, .int .i64 dz]] w fun e w' => e = .returned (.bool true) ∧ Below w.heap.size w w' := by
  have HQ0 : Hid (Quad w (ax, ay, az) (bx, bY, bz) (cx, cy, cz) (dx, dy, dz) ((((w.alloc (.cells #[.int .i64 ax, .int .i64 ay, .int .i64 az] 23)).alloc (.cells #[.int .i64 bx, .int .i64 bY, .int .i64 bz] 23)).alloc (.cells #[.int .i64 cx, .int .i64 cy, .int .i64 cz] 23)).alloc (.cells #[.int .i64 dx, .int .i64 dy, .int .i64 dz] 23))) :=
    ⟨(((Blk.new w _ _).alloc _).alloc _).alloc _, ((blk_two w _ _ _).alloc _).alloc _, (blk_three w _ _ _ _).alloc _, blk_four w _ _ _ _ _, new_alloc (new_alloc (new_alloc (new_alloc (Below.refl _ _) _) _) _) _⟩
  have HC0 := Lib.hid (fun W => geomMeet_any ax ay az bx bY bz cx cy cz dx dy dz W)
  have HC1 := Lib.hid (fun W => ref9Meet_any ax ay az bx bY bz cx cy cz dx dy dz W)
  have HC2 := Lib.hid (fun W => geomMeet_any cx cy cz dx dy dz ax ay az bx bY bz W)
  have HC3 := Lib.hid (fun W => geomMeet_any bx bY bz ax ay az cx cy cz dx dy dz W)
  have HC4 := Lib.hid (fun W => geomMeet_any ax ay az bx bY bz dx dy dz cx cy cz W)
  rw [meet_turn (ax, ay, az) (bx, bY, bz) (cx, cy, cz) (dx, dy, dz)] at HC2
  rw [meet_left (ax, ay, az) (bx, bY, bz) (cx, cy, cz) (dx, dy, dz)] at HC3
  rw [meet_right (ax, ay, az) (bx, bY, bz) (cx, cy, cz) (dx, dy, dz)] at HC4
  generalize meetF (ax, ay, az) (bx, bY, bz) (cx, cy, cz) (dx, dy, dz) = m at *
  go_enter Try.func4, Try.ntmps4
  go_wp2_with fail
  refine (HC0.out _).mono ?_
  rintro e w1 ⟨rfl, hb1⟩
  have HQ1 := Lib.hid (HQ0.out.next hb1)
  clear hb1 HQ0 HC0
  have c0 : w1.cell? ⟨w.heap.size, 0, none⟩ = some (.int .i64 ax) := HQ1.out.b0.cell 0
  have c1 : w1.cell? ⟨w.heap.size, 1, none⟩ = some (.int .i64 ay) := HQ1.out.b0.cell 1
  have c2 : w1.cell? ⟨w.heap.size, 2, none⟩ = some (.int .i64 az) := HQ1.out.b0.cell 2
  have c3 : w1.cell? ⟨w.heap.size + 1, 0, none⟩ = some (.int .i64 bx) := HQ1.out.b1.cell 0
  have c4 : w1.cell? ⟨w.heap.size + 1, 1, none⟩ = some (.int .i64 bY) := HQ1.out.b1.cell 1
  have c5 : w1.cell? ⟨w.heap.size + 1, 2, none⟩ = some (.int .i64 bz) := HQ1.out.b1.cell 2
  have c6 : w1.cell? ⟨w.heap.size + 2, 0, none⟩ = some (.int .i64 cx) := HQ1.out.b2.cell 0
  have c7 : w1.cell? ⟨w.heap.size + 2, 1, none⟩ = some (.int .i64 cy) := HQ1.out.b2.cell 1
  have c8 : w1.cell? ⟨w.heap.size + 2, 2, none⟩ = some (.int .i64 cz) := HQ1.out.b2.cell 2
  have c9 : w1.cell? ⟨w.heap.size + 3, 0, none⟩ = some (.int .i64 dx) := HQ1.out.b3.cell 0
  have c10 : w1.cell? ⟨w.heap.size + 3, 1, none⟩ = some (.int .i64 dy) := HQ1.out.b3.cell 1
  have c11 : w1.cell? ⟨w.heap.size + 3, 2, none⟩ = some (.int .i64 dz) := HQ1.out.b3.cell 2
  go_wp2_with fail
  refine (HC1.out _).mono ?_
  rintro e w2 ⟨rfl, hb2⟩
  have HQ2 := Lib.hid (HQ1.out.next hb2)
  clear hb2 HQ1 HC1 c0 c1 c2 c3 c4 c5 c6 c7 c8 c9 c10 c11
  have c0 : w2.cell? ⟨w.heap.size, 0, none⟩ = some (.int .i64 ax) := HQ2.out.b0.cell 0
  have c1 : w2.cell? ⟨w.heap.size, 1, none⟩ = some (.int .i64 ay) := HQ2.out.b0.cell 1
  have c2 : w2.cell? ⟨w.heap.size, 2, none⟩ = some (.int .i64 az) := HQ2.out.b0.cell 2
  have c3 : w2.cell? ⟨w.heap.size + 1, 0, none⟩ = some (.int .i64 bx) := HQ2.out.b1.cell 0
  have c4 : w2.cell? ⟨w.heap.size + 1, 1, none⟩ = some (.int .i64 bY) := HQ2.out.b1.cell 1
  have c5 : w2.cell? ⟨w.heap.size + 1, 2, none⟩ = some (.int .i64 bz) := HQ2.out.b1.cell 2
  have c6 : w2.cell? ⟨w.heap.size + 2, 0, none⟩ = some (.int .i64 cx) := HQ2.out.b2.cell 0
  have c7 : w2.cell? ⟨w.heap.size + 2, 1, none⟩ = some (.int .i64 cy) := HQ2.out.b2.cell 1
  have c8 : w2.cell? ⟨w.heap.size + 2, 2, none⟩ = some (.int .i64 cz) := HQ2.out.b2.cell 2
  have c9 : w2.cell? ⟨w.heap.size + 3, 0, none⟩ = some (.int .i64 dx) := HQ2.out.b3.cell 0
  have c10 : w2.cell? ⟨w.heap.size + 3, 1, none⟩ = some (.int .i64 dy) := HQ2.out.b3.cell 1
  have c11 : w2.cell? ⟨w.heap.size + 3, 2, none⟩ = some (.int .i64 dz) := HQ2.out.b3.cell 2
  go_wp2_with fail
  refine (HC2.out _).mono ?_
  rintro e w3 ⟨rfl, hb3⟩
  have HQ3 := Lib.hid (HQ2.out.next hb3)
  clear hb3 HQ2 HC2 c0 c1 c2 c3 c4 c5 c6 c7 c8 c9 c10 c11
  have c0 : w3.cell? ⟨w.heap.size, 0, none⟩ = some (.int .i64 ax) := HQ3.out.b0.cell 0
  have c1 : w3.cell? ⟨w.heap.size, 1, none⟩ = some (.int .i64 ay) := HQ3.out.b0.cell 1
  have c2 : w3.cell? ⟨w.heap.size, 2, none⟩ = some (.int .i64 az) := HQ3.out.b0.cell 2
  have c3 : w3.cell? ⟨w.heap.size + 1, 0, none⟩ = some (.int .i64 bx) := HQ3.out.b1.cell 0
  have c4 : w3.cell? ⟨w.heap.size + 1, 1, none⟩ = some (.int .i64 bY) := HQ3.out.b1.cell 1
  have c5 : w3.cell? ⟨w.heap.size + 1, 2, none⟩ = some (.int .i64 bz) := HQ3.out.b1.cell 2
  have c6 : w3.cell? ⟨w.heap.size + 2, 0, none⟩ = some (.int .i64 cx) := HQ3.out.b2.cell 0
  have c7 : w3.cell? ⟨w.heap.size + 2, 1, none⟩ = some (.int .i64 cy) := HQ3.out.b2.cell 1
  have c8 : w3.cell? ⟨w.heap.size + 2, 2, none⟩ = some (.int .i64 cz) := HQ3.out.b2.cell 2
  have c9 : w3.cell? ⟨w.heap.size + 3, 0, none⟩ = some (.int .i64 dx) := HQ3.out.b3.cell 0
  have c10 : w3.cell? ⟨w.heap.size + 3, 1, none⟩ = some (.int .i64 dy) := HQ3.out.b3.cell 1
  have c11 : w3.cell? ⟨w.heap.size + 3, 2, none⟩ = some (.int .i64 dz) := HQ3.out.b3.cell 2
  go_wp2_with fail
  refine (HC3.out _).mono ?_
  rintro e w4 ⟨rfl, hb4⟩
  have HQ4 := Lib.hid (HQ3.out.next hb4)
  clear hb4 HQ3 HC3 c0 c1 c2 c3 c4 c5 c6 c7 c8 c9 c10 c11
  have c0 : w4.cell? ⟨w.heap.size, 0, none⟩ = some (.int .i64 ax) := HQ4.out.b0.cell 0
  have c1 : w4.cell? ⟨w.heap.size, 1, none⟩ = some (.int .i64 ay) := HQ4.out.b0.cell 1
  have c2 : w4.cell? ⟨w.heap.size, 2, none⟩ = some (.int .i64 az) := HQ4.out.b0.cell 2
  have c3 : w4.cell? ⟨w.heap.size + 1, 0, none⟩ = some (.int .i64 bx) := HQ4.out.b1.cell 0
  have c4 : w4.cell? ⟨w.heap.size + 1, 1, none⟩ = some (.int .i64 bY) := HQ4.out.b1.cell 1
  have c5 : w4.cell? ⟨w.heap.size + 1, 2, none⟩ = some (.int .i64 bz) := HQ4.out.b1.cell 2
  have c6 : w4.cell? ⟨w.heap.size + 2, 0, none⟩ = some (.int .i64 cx) := HQ4.out.b2.cell 0
  have c7 : w4.cell? ⟨w.heap.size + 2, 1, none⟩ = some (.int .i64 cy) := HQ4.out.b2.cell 1
  have c8 : w4.cell? ⟨w.heap.size + 2, 2, none⟩ = some (.int .i64 cz) := HQ4.out.b2.cell 2
  have c9 : w4.cell? ⟨w.heap.size + 3, 0, none⟩ = some (.int .i64 dx) := HQ4.out.b3.cell 0
  have c10 : w4.cell? ⟨w.heap.size + 3, 1, none⟩ = some (.int .i64 dy) := HQ4.out.b3.cell 1
  have c11 : w4.cell? ⟨w.heap.size + 3, 2, none⟩ = some (.int .i64 dz) := HQ4.out.b3.cell 2
  go_wp2_with fail
  refine (HC4.out _).mono ?_
  rintro e w5 ⟨rfl, hb5⟩
  have HQ5 := Lib.hid (HQ4.out.next hb5)
  clear hb5 HQ4 HC4 c0 c1 c2 c3 c4 c5 c6 c7 c8 c9 c10 c11
  have c0 : w5.cell? ⟨w.heap.size, 0, none⟩ = some (.int .i64 ax) := HQ5.out.b0.cell 0
  have c1 : w5.cell? ⟨w.heap.size, 1, none⟩ = some (.int .i64 ay) := HQ5.out.b0.cell 1
  have c2 : w5.cell? ⟨w.heap.size, 2, none⟩ = some (.int .i64 az) := HQ5.out.b0.cell 2
  have c3 : w5.cell? ⟨w.heap.size + 1, 0, none⟩ = some (.int .i64 bx) := HQ5.out.b1.cell 0
  have c4 : w5.cell? ⟨w.heap.size + 1, 1, none⟩ = some (.int .i64 bY) := HQ5.out.b1.cell 1
  have c5 : w5.cell? ⟨w.heap.size + 1, 2, none⟩ = some (.int .i64 bz) := HQ5.out.b1.cell 2
  have c6 : w5.cell? ⟨w.heap.size + 2, 0, none⟩ = some (.int .i64 cx) := HQ5.out.b2.cell 0
  have c7 : w5.cell? ⟨w.heap.size + 2, 1, none⟩ = some (.int .i64 cy) := HQ5.out.b2.cell 1
  have c8 : w5.cell? ⟨w.heap.size + 2, 2, none⟩ = some (.int .i64 cz) := HQ5.out.b2.cell 2
  have c9 : w5.cell? ⟨w.heap.size + 3, 0, none⟩ = some (.int .i64 dx) := HQ5.out.b3.cell 0
  have c10 : w5.cell? ⟨w.heap.size + 3, 1, none⟩ = some (.int .i64 dy) := HQ5.out.b3.cell 1
  have c11 : w5.cell? ⟨w.heap.size + 3, 2, none⟩ = some (.int .i64 dz) := HQ5.out.b3.cell 2
  go_wp2_with fail
  refine (known09 _).mono ?_
  rintro e w9 ⟨rfl, hb9⟩
  go_wp2
  go_ret
  exact ⟨rfl, new_call HQ5.out.bel hb9⟩

set_option maxRecDepth 100000 in
theorem lifted (os : Os) (started : os.Started) (H : Type) (enc : TypeId × Value → H) :
    ReturnsInHanded {} Try.checked os 4 .any (Rows.geomMeetsSpec.pre6 enc Try.prog Try.f4 Rows.geomMeetsRow.domain false) (Rows.geomMeetsSpec.post enc Try.prog Try.f4 false true false false) := by
  refine returnsInHanded_of_change (C := Try.checked) Try.own started (by kernel_rfl) Try.func4
    (ChangeSpec.witness6 (enc := enc) (C := Try.checked) false ⟨#[], #[.agg #[.int .i64 0, .int .i64 0, .int .i64 0], .agg #[.int .i64 0, .int .i64 0, .int .i64 0], .agg #[.int .i64 0, .int .i64 0, .int .i64 0], .agg #[.int .i64 0, .int .i64 0, .int .i64 0]], []⟩ 8 (by kernel_rfl) (by kernel_rfl) (by kernel_rfl) (by kernel_rfl)) ?_
  intro W base args ds gs before hval0 hW _ _
  have hval : ∀ (j : Nat) t v, Try.f4.params[j]? = some t → args[j]? = some v → Value.okWide Try.prog W .any base t v := hval0
  have hW' := hW
  obtain ⟨p, q, hA0, hV, rfl, _, _⟩ := hW
  have hA : DataW.TrodAll enc Try.prog W 0 (fun _ => true) true Try.f4.params.toList args.toList ds p := hA0
  rw [Try.params4] at hA hval
  obtain ⟨v0, v1, v2, v3, d0, d1, d2, d3, p0, p1, p2, p3, rfl, rfl, rfl, h0, h1, h2, h3⟩ := trodAll_four hA
  obtain ⟨rfl, rfl⟩ := trodVars_none hV
  obtain ⟨x0, y0, z0, rfl, hh0⟩ := open_pt (hval 0 23 v0 rfl rfl) h0
  obtain ⟨x1, y1, z1, rfl, hh1⟩ := open_pt (hval 1 23 v1 rfl rfl) h1
  obtain ⟨x2, y2, z2, rfl, hh2⟩ := open_pt (hval 2 23 v2 rfl rfl) h2
  obtain ⟨x3, y3, z3, rfl, hh3⟩ := open_pt (hval 3 23 v3 rfl rfl) h3
  exact (walk x0 y0 z0 x1 y1 z1 x2 y2 z2 x3 y3 z3 W hh0 hh1 hh2 hh3).mono fun e W' he =>
    law_post rfl rfl (by rw [Try.params4]; intro t ht; simp at ht; subst ht; exact ⟨by kernel_rfl, of_decide_eq_true (by kernel_rfl)⟩) hW' rfl he

theorem proved : Rows.GeomMeetsSaid :=
  OpenClaim.holds_of_wide 4 Try.f4 rfl rfl rfl rfl rfl rfl rfl ⟨rfl, rfl, rfl, rfl, rfl⟩ rfl rfl rfl rfl rfl (by kernel_rfl) Try.func4 (by kernel_rfl)
    (of_decide_eq_true (by kernel_rfl)) (by unfold Func.isWrapper; first | (rw [if_pos (by decide +kernel)]; kernel_rfl) | (rw [if_neg (by decide +kernel)]; exact ⟨rfl, rfl⟩))
    (fun os started H enc _ => lifted os started H enc)
end Go.Proofs.Ytnhoinonojhgiaa.geomMeets
