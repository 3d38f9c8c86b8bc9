/- The landed geom: Meet. -/
import Derived.Test.YtnhoinonojhgiaaGeomCodeD
namespace Go.Proofs.Ytnhoinonojhgiaa
open Go.RowKit

theorem one_cut (e : P3 × P3 × P3) (l : List (P3 × P3 × P3)) (met : Int) (f : P3) (h : onF e.1 e.2.1 e.2.2 = false) : endF met f (e :: l) = endF met f l := by rw [end_cons, h]; rfl
theorem one_first (e : P3 × P3 × P3) (l : List (P3 × P3 × P3)) (f : P3) (h : onF e.1 e.2.1 e.2.2 = true) : endF 0 f (e :: l) = endF 1 e.1 l := by rw [end_cons, h]; rfl
theorem one_same (e : P3 × P3 × P3) (l : List (P3 × P3 × P3)) (f : P3) (h : onF e.1 e.2.1 e.2.2 = true) (hf : e.1 = f) : endF 1 f (e :: l) = endF 1 f l := by rw [end_cons, h, if_pos rfl, if_neg (by decide), if_pos hf]
theorem one_other (e : P3 × P3 × P3) (l : List (P3 × P3 × P3)) (f : P3) (h : onF e.1 e.2.1 e.2.2 = true) (hf : e.1 ≠ f) : endF 1 f (e :: l) = 3 := by rw [end_cons, h, if_pos rfl, if_neg (by decide), if_neg hf]
/-- The first end found, and whether one is. -/
structure EndAt (w : World) (a b c d : P3) (f : P3) (wx : World) : Prop where
  quad : Quad w a b c d wx
  bf : Blk wx (w.heap.size + 4) 23 #[.int .i64 f.1, .int .i64 f.2.1, .int .i64 f.2.2]
theorem EndAt.next {w wx w' : World} {a b c d f : P3} (h : EndAt w a b c d f wx) (hb : Below wx.heap.size wx w') : EndAt w a b c d f w' :=
  ⟨h.quad.next hb, h.bf.below hb h.bf.lt⟩
theorem EndAt.alloc {w wx : World} {a b c d f : P3} (h : EndAt w a b c d f wx) (o : Obj) : EndAt w a b c d f (wx.alloc o) :=
  ⟨⟨h.quad.b0.alloc _, h.quad.b1.alloc _, h.quad.b2.alloc _, h.quad.b3.alloc _, new_alloc h.quad.bel _⟩, h.bf.alloc _⟩
theorem EndAt.put {w wx : World} {a b c d f : P3} (h : EndAt w a b c d f wx) (x y z : Int) : EndAt w a b c d (x, y, z) (((wx.setCell ⟨w.heap.size + 4, 0, none⟩ (.int .i64 x)).setCell ⟨w.heap.size + 4, 1, none⟩ (.int .i64 y)).setCell ⟨w.heap.size + 4, 2, none⟩ (.int .i64 z)) := by
  have e0 : w.heap.size ≠ w.heap.size + 4 := by omega
  have e1 : w.heap.size + 1 ≠ w.heap.size + 4 := by omega
  have e2 : w.heap.size + 2 ≠ w.heap.size + 4 := by omega
  have e3 : w.heap.size + 3 ≠ w.heap.size + 4 := by omega
  have el : w.heap.size ≤ w.heap.size + 4 := by omega
  exact ⟨⟨((h.quad.b0.far e0 _).far e0 _).far e0 _, ((h.quad.b1.far e1 _).far e1 _).far e1 _, ((h.quad.b2.far e2 _).far e2 _).far e2 _, ((h.quad.b3.far e3 _).far e3 _).far e3 _, ((h.quad.bel.setCell el _).setCell el _).setCell el _⟩, ((h.bf.set_ 0 _).set_ 1 _).set_ 2 _⟩
theorem EndAt.new (w : World) (a b c d : P3) : EndAt w a b c d (0, 0, 0) (((((w.alloc (.cells #[.int .i64 a.1, .int .i64 a.2.1, .int .i64 a.2.2] 23)).alloc (.cells #[.int .i64 b.1, .int .i64 b.2.1, .int .i64 b.2.2] 23)).alloc (.cells #[.int .i64 c.1, .int .i64 c.2.1, .int .i64 c.2.2] 23)).alloc (.cells #[.int .i64 d.1, .int .i64 d.2.1, .int .i64 d.2.2] 23)).alloc (.cells #[.int .i64 0, .int .i64 0, .int .i64 0] 23)) := by
  have q := Quad.new w a b c d
  refine ⟨⟨q.b0.alloc _, q.b1.alloc _, q.b2.alloc _, q.b3.alloc _, new_alloc q.bel _⟩, ?_⟩
  rw [size_four w]
  exact Blk.new _ _ _
set_option maxRecDepth 100000 in
set_option maxHeartbeats 4000000 in
theorem geommeetAtEnds_any (ax ay az bx bY bz cx cy cz dx dy dz : Int) (w : World) (hr : rights [(ax, ay, az), (bx, bY, bz), (cx, cy, cz), (dx, dy, dz)] = true) : Calls Try.prog 37 #[.agg #[.int .i64 ax, .int .i64 ay, .int .i64 az], .agg #[.int .i64 bx, .int .i64 bY, .int .i64 bz], .agg #[.int .i64 cx, .int .i64 cy, .int .i64 cz], .agg #[.int .i64 dx, .int .i64 dy, .int .i64 dz]] w fun e w' => e = .returned (.int .i64 (endF 0 (0, 0, 0) [((ax, ay, az), (cx, cy, cz), (dx, dy, dz)), ((bx, bY, bz), (cx, cy, cz), (dx, dy, dz)), ((cx, cy, cz), (ax, ay, az), (bx, bY, bz)), ((dx, dy, dz), (ax, ay, az), (bx, bY, bz))])) ∧ Below w.heap.size w w' := by
  obtain ⟨ra, rb, rc, rd⟩ := rights4 hr
  have HOn0 := Lib.hid (fun W => geomon_any ax ay az cx cy cz dx dy dz W (rights3_of ra rc rd))
  have HOn1 := Lib.hid (fun W => geomon_any bx bY bz cx cy cz dx dy dz W (rights3_of rb rc rd))
  have HOn2 := Lib.hid (fun W => geomon_any cx cy cz ax ay az bx bY bz W (rights3_of rc ra rb))
  have HOn3 := Lib.hid (fun W => geomon_any dx dy dz ax ay az bx bY bz W (rights3_of rd ra rb))
  have HX1 := Lib.hid (EndAt.new w (ax, ay, az) (bx, bY, bz) (cx, cy, cz) (dx, dy, dz))
  have HQ1 := Lib.hid HX1.out.quad.cells
  obtain ⟨c0, c1, c2, c3, c4, c5, c6, c7, c8, c9, c10, c11⟩ := HQ1.out
  simp only at c0 c1 c2 c3 c4 c5 c6 c7 c8 c9 c10 c11
  clear hr ra rb rc rd
  have x0 : ∀ W, (Instr.index 70 (.agg #[.int .i64 ax, .int .i64 ay, .int .i64 az, .int .i64 cx, .int .i64 cy, .int .i64 cz, .int .i64 dx, .int .i64 dy, .int .i64 dz, .int .i64 bx, .int .i64 bY, .int .i64 bz, .int .i64 cx, .int .i64 cy, .int .i64 cz, .int .i64 dx, .int .i64 dy, .int .i64 dz, .int .i64 cx, .int .i64 cy, .int .i64 cz, .int .i64 ax, .int .i64 ay, .int .i64 az, .int .i64 bx, .int .i64 bY, .int .i64 bz, .int .i64 dx, .int .i64 dy, .int .i64 dz, .int .i64 ax, .int .i64 ay, .int .i64 az, .int .i64 bx, .int .i64 bY, .int .i64 bz]) (.int .i64 0)).run Try.prog W = .ok (.agg #[.int .i64 ax, .int .i64 ay, .int .i64 az, .int .i64 cx, .int .i64 cy, .int .i64 cz, .int .i64 dx, .int .i64 dy, .int .i64 dz]) W := fun _ => by kernel_rfl
  have x1 : ∀ W, (Instr.index 70 (.agg #[.int .i64 ax, .int .i64 ay, .int .i64 az, .int .i64 cx, .int .i64 cy, .int .i64 cz, .int .i64 dx, .int .i64 dy, .int .i64 dz, .int .i64 bx, .int .i64 bY, .int .i64 bz, .int .i64 cx, .int .i64 cy, .int .i64 cz, .int .i64 dx, .int .i64 dy, .int .i64 dz, .int .i64 cx, .int .i64 cy, .int .i64 cz, .int .i64 ax, .int .i64 ay, .int .i64 az, .int .i64 bx, .int .i64 bY, .int .i64 bz, .int .i64 dx, .int .i64 dy, .int .i64 dz, .int .i64 ax, .int .i64 ay, .int .i64 az, .int .i64 bx, .int .i64 bY, .int .i64 bz]) (.int .i64 1)).run Try.prog W = .ok (.agg #[.int .i64 bx, .int .i64 bY, .int .i64 bz, .int .i64 cx, .int .i64 cy, .int .i64 cz, .int .i64 dx, .int .i64 dy, .int .i64 dz]) W := fun _ => by kernel_rfl
  have x2 : ∀ W, (Instr.index 70 (.agg #[.int .i64 ax, .int .i64 ay, .int .i64 az, .int .i64 cx, .int .i64 cy, .int .i64 cz, .int .i64 dx, .int .i64 dy, .int .i64 dz, .int .i64 bx, .int .i64 bY, .int .i64 bz, .int .i64 cx, .int .i64 cy, .int .i64 cz, .int .i64 dx, .int .i64 dy, .int .i64 dz, .int .i64 cx, .int .i64 cy, .int .i64 cz, .int .i64 ax, .int .i64 ay, .int .i64 az, .int .i64 bx, .int .i64 bY, .int .i64 bz, .int .i64 dx, .int .i64 dy, .int .i64 dz, .int .i64 ax, .int .i64 ay, .int .i64 az, .int .i64 bx, .int .i64 bY, .int .i64 bz]) (.int .i64 2)).run Try.prog W = .ok (.agg #[.int .i64 cx, .int .i64 cy, .int .i64 cz, .int .i64 ax, .int .i64 ay, .int .i64 az, .int .i64 bx, .int .i64 bY, .int .i64 bz]) W := fun _ => by kernel_rfl
  have x3 : ∀ W, (Instr.index 70 (.agg #[.int .i64 ax, .int .i64 ay, .int .i64 az, .int .i64 cx, .int .i64 cy, .int .i64 cz, .int .i64 dx, .int .i64 dy, .int .i64 dz, .int .i64 bx, .int .i64 bY, .int .i64 bz, .int .i64 cx, .int .i64 cy, .int .i64 cz, .int .i64 dx, .int .i64 dy, .int .i64 dz, .int .i64 cx, .int .i64 cy, .int .i64 cz, .int .i64 ax, .int .i64 ay, .int .i64 az, .int .i64 bx, .int .i64 bY, .int .i64 bz, .int .i64 dx, .int .i64 dy, .int .i64 dz, .int .i64 ax, .int .i64 ay, .int .i64 az, .int .i64 bx, .int .i64 bY, .int .i64 bz]) (.int .i64 3)).run Try.prog W = .ok (.agg #[.int .i64 dx, .int .i64 dy, .int .i64 dz, .int .i64 ax, .int .i64 ay, .int .i64 az, .int .i64 bx, .int .i64 bY, .int .i64 bz]) W := fun _ => by kernel_rfl
  go_enter Try.func37, Try.ntmps37
  go_wp2_with fail
  go_step3
  go_wp2_with fail
  try go_step3
  go_wp2_with fail
  go_loopg [9, 30] 4 (fun g s9 s30 wx => ∃ (i : Nat) (met : Int) (f : P3), i + g = 4 ∧ s9 = .int .i64 met ∧ s30 = .int .i64 i ∧ (met = 0 ∨ met = 1) ∧ Hid (EndAt w (ax, ay, az) (bx, bY, bz) (cx, cy, cz) (dx, dy, dz) f wx) ∧ Hid (endF met f (([((ax, ay, az), (cx, cy, cz), (dx, dy, dz)), ((bx, bY, bz), (cx, cy, cz), (dx, dy, dz)), ((cx, cy, cz), (ax, ay, az), (bx, bY, bz)), ((dx, dy, dz), (ax, ay, az), (bx, bY, bz))] : List (P3 × P3 × P3)).drop i) = endF 0 (0, 0, 0) [((ax, ay, az), (cx, cy, cz), (dx, dy, dz)), ((bx, bY, bz), (cx, cy, cz), (dx, dy, dz)), ((cx, cy, cz), (ax, ay, az), (bx, bY, bz)), ((dx, dy, dz), (ax, ay, az), (bx, bY, bz))]))
  case atStart => exact ⟨0, 0, (0, 0, 0), by omega, rfl, rfl, Or.inl rfl, HX1, rfl⟩
  case round =>
    obtain ⟨i, met, f, hig, rfl, rfl, hm, HX0, HP0⟩ := hrel
    clear HX1 HQ1 c0 c1 c2 c3 c4 c5 c6 c7 c8 c9 c10 c11
    rcases (show i = 0 ∨ i = 1 ∨ i = 2 ∨ i = 3 ∨ i = 4 by omega) with rfl | rfl | rfl | rfl | rfl
    · have HP : Hid (endF met f (((ax, ay, az), (cx, cy, cz), (dx, dy, dz)) :: [((bx, bY, bz), (cx, cy, cz), (dx, dy, dz)), ((cx, cy, cz), (ax, ay, az), (bx, bY, bz)), ((dx, dy, dz), (ax, ay, az), (bx, bY, bz))]) = endF 0 (0, 0, 0) [((ax, ay, az), (cx, cy, cz), (dx, dy, dz)), ((bx, bY, bz), (cx, cy, cz), (dx, dy, dz)), ((cx, cy, cz), (ax, ay, az), (bx, bY, bz)), ((dx, dy, dz), (ax, ay, az), (bx, bY, bz))]) := HP0.out
      have HX : Hid (EndAt w (ax, ay, az) (bx, bY, bz) (cx, cy, cz) (dx, dy, dz) f (wr.alloc (.cells #[.int .i64 ax, .int .i64 ay, .int .i64 az, .int .i64 cx, .int .i64 cy, .int .i64 cz, .int .i64 dx, .int .i64 dy, .int .i64 dz] 69))) := HX0.out.alloc _
      have HE : Hid (Blk (wr.alloc (.cells #[.int .i64 ax, .int .i64 ay, .int .i64 az, .int .i64 cx, .int .i64 cy, .int .i64 cz, .int .i64 dx, .int .i64 dy, .int .i64 dz] 69)) wr.heap.size 69 #[.int .i64 ax, .int .i64 ay, .int .i64 az, .int .i64 cx, .int .i64 cy, .int .i64 cz, .int .i64 dx, .int .i64 dy, .int .i64 dz]) := Blk.new wr _ _
      have e0 := HE.out.cell 0
      have e1 := HE.out.cell 1
      have e2 := HE.out.cell 2
      have e3 := HE.out.cell 3
      have e4 := HE.out.cell 4
      have e5 := HE.out.cell 5
      have e6 := HE.out.cell 6
      have e7 := HE.out.cell 7
      have e8 := HE.out.cell 8
      have HOn := Lib.hid (HOn0.out (wr.alloc (.cells #[.int .i64 ax, .int .i64 ay, .int .i64 az, .int .i64 cx, .int .i64 cy, .int .i64 cz, .int .i64 dx, .int .i64 dy, .int .i64 dz] 69)))
      have g0 := one_cut ((ax, ay, az), (cx, cy, cz), (dx, dy, dz)) [((bx, bY, bz), (cx, cy, cz), (dx, dy, dz)), ((cx, cy, cz), (ax, ay, az), (bx, bY, bz)), ((dx, dy, dz), (ax, ay, az), (bx, bY, bz))] met f
      have g1 := one_first ((ax, ay, az), (cx, cy, cz), (dx, dy, dz)) [((bx, bY, bz), (cx, cy, cz), (dx, dy, dz)), ((cx, cy, cz), (ax, ay, az), (bx, bY, bz)), ((dx, dy, dz), (ax, ay, az), (bx, bY, bz))] f
      have g2 := one_same ((ax, ay, az), (cx, cy, cz), (dx, dy, dz)) [((bx, bY, bz), (cx, cy, cz), (dx, dy, dz)), ((cx, cy, cz), (ax, ay, az), (bx, bY, bz)), ((dx, dy, dz), (ax, ay, az), (bx, bY, bz))] f
      have g3 := one_other ((ax, ay, az), (cx, cy, cz), (dx, dy, dz)) [((bx, bY, bz), (cx, cy, cz), (dx, dy, dz)), ((cx, cy, cz), (ax, ay, az), (bx, bY, bz)), ((dx, dy, dz), (ax, ay, az), (bx, bY, bz))] f
      simp only at g0 g1 g2 g3
      have HG0 := Lib.hid g0
      have HG1 := Lib.hid g1
      have HG2 := Lib.hid g2
      have HG3 := Lib.hid g3
      clear g0 g1 g2 g3 HX0 HP0 HOn0 HOn1 HOn2 HOn3
      generalize onF (ax, ay, az) (cx, cy, cz) (dx, dy, dz) = on at *
      cases on with
      | false =>
        have HP2 := Lib.hid ((HG0.out rfl).symm.trans HP.out)
        go_wp2_with fail
        refine HOn.out.mono ?_
        rintro e w2 ⟨rfl, hb2⟩
        have HX2 := Lib.hid (HX.out.next hb2)
        clear hb2
        go_wp2
        go_roundg (gk - 1)
        case measure => omega
        case rel => exact ⟨1, met, f, by omega, rfl, by first | rfl | go_num, hm, HX2, HP2⟩
      | true =>
        rcases hm with rfl | rfl
        · have HP2 := Lib.hid ((HG1.out rfl).symm.trans HP.out)
          go_wp2_with fail
          refine HOn.out.mono ?_
          rintro e w2 ⟨rfl, hb2⟩
          have HX2 := Lib.hid (HX.out.next hb2)
          have HE2 := Lib.hid (HE.out.below hb2 HE.out.lt)
          clear hb2 e0 e1 e2 e3 e4 e5 e6 e7 e8
          have e0 := HE2.out.cell 0
          have e1 := HE2.out.cell 1
          have e2 := HE2.out.cell 2
          have c0 := HX2.out.bf.cell 0
          have c1 := HX2.out.bf.cell 1
          have c2 := HX2.out.bf.cell 2
          have fz0 := HX2.out.bf.frozen 0
          have fz1 := HX2.out.bf.frozen 1
          have fz2 := HX2.out.bf.frozen 2
          have HX3 := Lib.hid (HX2.out.put ax ay az)
          go_wp2_with (with_reducible fail)
          go_region
          all_goals
            go_wp2
            go_roundg (gk - 1)
            case measure => omega
            case rel => exact ⟨1, 1, (ax, ay, az), by omega, rfl, by first | rfl | go_num, Or.inr rfl, HX3.out.next ((Below.refl _ _).drew), HP2⟩
        · obtain ⟨fx, fy, fz⟩ := f
          by_cases hf : (ax, ay, az) = (fx, fy, fz)
          · have HP2 := Lib.hid ((HG2.out rfl hf).symm.trans HP.out)
            cases hf
            go_wp2_with fail
            refine HOn.out.mono ?_
            rintro e w2 ⟨rfl, hb2⟩
            have HX2 := Lib.hid (HX.out.next hb2)
            have HE2 := Lib.hid (HE.out.below hb2 HE.out.lt)
            clear hb2 e0 e1 e2 e3 e4 e5 e6 e7 e8
            have e0 := HE2.out.cell 0
            have e1 := HE2.out.cell 1
            have e2 := HE2.out.cell 2
            have c0 := HX2.out.bf.cell 0
            have c1 := HX2.out.bf.cell 1
            have c2 := HX2.out.bf.cell 2
            go_wp2
            go_roundg (gk - 1)
            case measure => omega
            case rel => exact ⟨1, 1, _, by omega, rfl, by first | rfl | go_num, Or.inr rfl, HX2, HP2⟩
          · have HP2 := Lib.hid ((HG3.out rfl hf).symm.trans HP.out)
            rcases neq_ways hf with h1 | ⟨h1, h2⟩ | ⟨h1, h2, h3⟩
            all_goals
              clear hf
              go_wp2_with fail
              refine HOn.out.mono ?_
              rintro e w2 ⟨rfl, hb2⟩
              have HX2 := Lib.hid (HX.out.next hb2)
              have HE2 := Lib.hid (HE.out.below hb2 HE.out.lt)
              clear hb2 e0 e1 e2 e3 e4 e5 e6 e7 e8
              have e0 := HE2.out.cell 0
              have e1 := HE2.out.cell 1
              have e2 := HE2.out.cell 2
              have c0 := HX2.out.bf.cell 0
              have c1 := HX2.out.bf.cell 1
              have c2 := HX2.out.bf.cell 2
              go_wp2
              try rw [Exit.noGoto_ret]
              go_ret
              exact ⟨by rw [← HP2.out]; rfl, HX2.out.quad.bel⟩
    · have HP : Hid (endF met f (((bx, bY, bz), (cx, cy, cz), (dx, dy, dz)) :: [((cx, cy, cz), (ax, ay, az), (bx, bY, bz)), ((dx, dy, dz), (ax, ay, az), (bx, bY, bz))]) = endF 0 (0, 0, 0) [((ax, ay, az), (cx, cy, cz), (dx, dy, dz)), ((bx, bY, bz), (cx, cy, cz), (dx, dy, dz)), ((cx, cy, cz), (ax, ay, az), (bx, bY, bz)), ((dx, dy, dz), (ax, ay, az), (bx, bY, bz))]) := HP0.out
      have HX : Hid (EndAt w (ax, ay, az) (bx, bY, bz) (cx, cy, cz) (dx, dy, dz) f (wr.alloc (.cells #[.int .i64 bx, .int .i64 bY, .int .i64 bz, .int .i64 cx, .int .i64 cy, .int .i64 cz, .int .i64 dx, .int .i64 dy, .int .i64 dz] 69))) := HX0.out.alloc _
      have HE : Hid (Blk (wr.alloc (.cells #[.int .i64 bx, .int .i64 bY, .int .i64 bz, .int .i64 cx, .int .i64 cy, .int .i64 cz, .int .i64 dx, .int .i64 dy, .int .i64 dz] 69)) wr.heap.size 69 #[.int .i64 bx, .int .i64 bY, .int .i64 bz, .int .i64 cx, .int .i64 cy, .int .i64 cz, .int .i64 dx, .int .i64 dy, .int .i64 dz]) := Blk.new wr _ _
      have e0 := HE.out.cell 0
      have e1 := HE.out.cell 1
      have e2 := HE.out.cell 2
      have e3 := HE.out.cell 3
      have e4 := HE.out.cell 4
      have e5 := HE.out.cell 5
      have e6 := HE.out.cell 6
      have e7 := HE.out.cell 7
      have e8 := HE.out.cell 8
      have HOn := Lib.hid (HOn1.out (wr.alloc (.cells #[.int .i64 bx, .int .i64 bY, .int .i64 bz, .int .i64 cx, .int .i64 cy, .int .i64 cz, .int .i64 dx, .int .i64 dy, .int .i64 dz] 69)))
      have g0 := one_cut ((bx, bY, bz), (cx, cy, cz), (dx, dy, dz)) [((cx, cy, cz), (ax, ay, az), (bx, bY, bz)), ((dx, dy, dz), (ax, ay, az), (bx, bY, bz))] met f
      have g1 := one_first ((bx, bY, bz), (cx, cy, cz), (dx, dy, dz)) [((cx, cy, cz), (ax, ay, az), (bx, bY, bz)), ((dx, dy, dz), (ax, ay, az), (bx, bY, bz))] f
      have g2 := one_same ((bx, bY, bz), (cx, cy, cz), (dx, dy, dz)) [((cx, cy, cz), (ax, ay, az), (bx, bY, bz)), ((dx, dy, dz), (ax, ay, az), (bx, bY, bz))] f
      have g3 := one_other ((bx, bY, bz), (cx, cy, cz), (dx, dy, dz)) [((cx, cy, cz), (ax, ay, az), (bx, bY, bz)), ((dx, dy, dz), (ax, ay, az), (bx, bY, bz))] f
      simp only at g0 g1 g2 g3
      have HG0 := Lib.hid g0
      have HG1 := Lib.hid g1
      have HG2 := Lib.hid g2
      have HG3 := Lib.hid g3
      clear g0 g1 g2 g3 HX0 HP0 HOn0 HOn1 HOn2 HOn3
      generalize onF (bx, bY, bz) (cx, cy, cz) (dx, dy, dz) = on at *
      cases on with
      | false =>
        have HP2 := Lib.hid ((HG0.out rfl).symm.trans HP.out)
        go_wp2_with fail
        refine HOn.out.mono ?_
        rintro e w2 ⟨rfl, hb2⟩
        have HX2 := Lib.hid (HX.out.next hb2)
        clear hb2
        go_wp2
        go_roundg (gk - 1)
        case measure => omega
        case rel => exact ⟨2, met, f, by omega, rfl, by first | rfl | go_num, hm, HX2, HP2⟩
      | true =>
        rcases hm with rfl | rfl
        · have HP2 := Lib.hid ((HG1.out rfl).symm.trans HP.out)
          go_wp2_with fail
          refine HOn.out.mono ?_
          rintro e w2 ⟨rfl, hb2⟩
          have HX2 := Lib.hid (HX.out.next hb2)
          have HE2 := Lib.hid (HE.out.below hb2 HE.out.lt)
          clear hb2 e0 e1 e2 e3 e4 e5 e6 e7 e8
          have e0 := HE2.out.cell 0
          have e1 := HE2.out.cell 1
          have e2 := HE2.out.cell 2
          have c0 := HX2.out.bf.cell 0
          have c1 := HX2.out.bf.cell 1
          have c2 := HX2.out.bf.cell 2
          have fz0 := HX2.out.bf.frozen 0
          have fz1 := HX2.out.bf.frozen 1
          have fz2 := HX2.out.bf.frozen 2
          have HX3 := Lib.hid (HX2.out.put bx bY bz)
          go_wp2_with (with_reducible fail)
          go_region
          all_goals
            go_wp2
            go_roundg (gk - 1)
            case measure => omega
            case rel => exact ⟨2, 1, (bx, bY, bz), by omega, rfl, by first | rfl | go_num, Or.inr rfl, HX3.out.next ((Below.refl _ _).drew), HP2⟩
        · obtain ⟨fx, fy, fz⟩ := f
          by_cases hf : (bx, bY, bz) = (fx, fy, fz)
          · have HP2 := Lib.hid ((HG2.out rfl hf).symm.trans HP.out)
            cases hf
            go_wp2_with fail
            refine HOn.out.mono ?_
            rintro e w2 ⟨rfl, hb2⟩
            have HX2 := Lib.hid (HX.out.next hb2)
            have HE2 := Lib.hid (HE.out.below hb2 HE.out.lt)
            clear hb2 e0 e1 e2 e3 e4 e5 e6 e7 e8
            have e0 := HE2.out.cell 0
            have e1 := HE2.out.cell 1
            have e2 := HE2.out.cell 2
            have c0 := HX2.out.bf.cell 0
            have c1 := HX2.out.bf.cell 1
            have c2 := HX2.out.bf.cell 2
            go_wp2
            go_roundg (gk - 1)
            case measure => omega
            case rel => exact ⟨2, 1, _, by omega, rfl, by first | rfl | go_num, Or.inr rfl, HX2, HP2⟩
          · have HP2 := Lib.hid ((HG3.out rfl hf).symm.trans HP.out)
            rcases neq_ways hf with h1 | ⟨h1, h2⟩ | ⟨h1, h2, h3⟩
            all_goals
              clear hf
              go_wp2_with fail
              refine HOn.out.mono ?_
              rintro e w2 ⟨rfl, hb2⟩
              have HX2 := Lib.hid (HX.out.next hb2)
              have HE2 := Lib.hid (HE.out.below hb2 HE.out.lt)
              clear hb2 e0 e1 e2 e3 e4 e5 e6 e7 e8
              have e0 := HE2.out.cell 0
              have e1 := HE2.out.cell 1
              have e2 := HE2.out.cell 2
              have c0 := HX2.out.bf.cell 0
              have c1 := HX2.out.bf.cell 1
              have c2 := HX2.out.bf.cell 2
              go_wp2
              try rw [Exit.noGoto_ret]
              go_ret
              exact ⟨by rw [← HP2.out]; rfl, HX2.out.quad.bel⟩
    · have HP : Hid (endF met f (((cx, cy, cz), (ax, ay, az), (bx, bY, bz)) :: [((dx, dy, dz), (ax, ay, az), (bx, bY, bz))]) = endF 0 (0, 0, 0) [((ax, ay, az), (cx, cy, cz), (dx, dy, dz)), ((bx, bY, bz), (cx, cy, cz), (dx, dy, dz)), ((cx, cy, cz), (ax, ay, az), (bx, bY, bz)), ((dx, dy, dz), (ax, ay, az), (bx, bY, bz))]) := HP0.out
      have HX : Hid (EndAt w (ax, ay, az) (bx, bY, bz) (cx, cy, cz) (dx, dy, dz) f (wr.alloc (.cells #[.int .i64 cx, .int .i64 cy, .int .i64 cz, .int .i64 ax, .int .i64 ay, .int .i64 az, .int .i64 bx, .int .i64 bY, .int .i64 bz] 69))) := HX0.out.alloc _
      have HE : Hid (Blk (wr.alloc (.cells #[.int .i64 cx, .int .i64 cy, .int .i64 cz, .int .i64 ax, .int .i64 ay, .int .i64 az, .int .i64 bx, .int .i64 bY, .int .i64 bz] 69)) wr.heap.size 69 #[.int .i64 cx, .int .i64 cy, .int .i64 cz, .int .i64 ax, .int .i64 ay, .int .i64 az, .int .i64 bx, .int .i64 bY, .int .i64 bz]) := Blk.new wr _ _
      have e0 := HE.out.cell 0
      have e1 := HE.out.cell 1
      have e2 := HE.out.cell 2
      have e3 := HE.out.cell 3
      have e4 := HE.out.cell 4
      have e5 := HE.out.cell 5
      have e6 := HE.out.cell 6
      have e7 := HE.out.cell 7
      have e8 := HE.out.cell 8
      have HOn := Lib.hid (HOn2.out (wr.alloc (.cells #[.int .i64 cx, .int .i64 cy, .int .i64 cz, .int .i64 ax, .int .i64 ay, .int .i64 az, .int .i64 bx, .int .i64 bY, .int .i64 bz] 69)))
      have g0 := one_cut ((cx, cy, cz), (ax, ay, az), (bx, bY, bz)) [((dx, dy, dz), (ax, ay, az), (bx, bY, bz))] met f
      have g1 := one_first ((cx, cy, cz), (ax, ay, az), (bx, bY, bz)) [((dx, dy, dz), (ax, ay, az), (bx, bY, bz))] f
      have g2 := one_same ((cx, cy, cz), (ax, ay, az), (bx, bY, bz)) [((dx, dy, dz), (ax, ay, az), (bx, bY, bz))] f
      have g3 := one_other ((cx, cy, cz), (ax, ay, az), (bx, bY, bz)) [((dx, dy, dz), (ax, ay, az), (bx, bY, bz))] f
      simp only at g0 g1 g2 g3
      have HG0 := Lib.hid g0
      have HG1 := Lib.hid g1
      have HG2 := Lib.hid g2
      have HG3 := Lib.hid g3
      clear g0 g1 g2 g3 HX0 HP0 HOn0 HOn1 HOn2 HOn3
      generalize onF (cx, cy, cz) (ax, ay, az) (bx, bY, bz) = on at *
      cases on with
      | false =>
        have HP2 := Lib.hid ((HG0.out rfl).symm.trans HP.out)
        go_wp2_with fail
        refine HOn.out.mono ?_
        rintro e w2 ⟨rfl, hb2⟩
        have HX2 := Lib.hid (HX.out.next hb2)
        clear hb2
        go_wp2
        go_roundg (gk - 1)
        case measure => omega
        case rel => exact ⟨3, met, f, by omega, rfl, by first | rfl | go_num, hm, HX2, HP2⟩
      | true =>
        rcases hm with rfl | rfl
        · have HP2 := Lib.hid ((HG1.out rfl).symm.trans HP.out)
          go_wp2_with fail
          refine HOn.out.mono ?_
          rintro e w2 ⟨rfl, hb2⟩
          have HX2 := Lib.hid (HX.out.next hb2)
          have HE2 := Lib.hid (HE.out.below hb2 HE.out.lt)
          clear hb2 e0 e1 e2 e3 e4 e5 e6 e7 e8
          have e0 := HE2.out.cell 0
          have e1 := HE2.out.cell 1
          have e2 := HE2.out.cell 2
          have c0 := HX2.out.bf.cell 0
          have c1 := HX2.out.bf.cell 1
          have c2 := HX2.out.bf.cell 2
          have fz0 := HX2.out.bf.frozen 0
          have fz1 := HX2.out.bf.frozen 1
          have fz2 := HX2.out.bf.frozen 2
          have HX3 := Lib.hid (HX2.out.put cx cy cz)
          go_wp2_with (with_reducible fail)
          go_region
          all_goals
            go_wp2
            go_roundg (gk - 1)
            case measure => omega
            case rel => exact ⟨3, 1, (cx, cy, cz), by omega, rfl, by first | rfl | go_num, Or.inr rfl, HX3.out.next ((Below.refl _ _).drew), HP2⟩
        · obtain ⟨fx, fy, fz⟩ := f
          by_cases hf : (cx, cy, cz) = (fx, fy, fz)
          · have HP2 := Lib.hid ((HG2.out rfl hf).symm.trans HP.out)
            cases hf
            go_wp2_with fail
            refine HOn.out.mono ?_
            rintro e w2 ⟨rfl, hb2⟩
            have HX2 := Lib.hid (HX.out.next hb2)
            have HE2 := Lib.hid (HE.out.below hb2 HE.out.lt)
            clear hb2 e0 e1 e2 e3 e4 e5 e6 e7 e8
            have e0 := HE2.out.cell 0
            have e1 := HE2.out.cell 1
            have e2 := HE2.out.cell 2
            have c0 := HX2.out.bf.cell 0
            have c1 := HX2.out.bf.cell 1
            have c2 := HX2.out.bf.cell 2
            go_wp2
            go_roundg (gk - 1)
            case measure => omega
            case rel => exact ⟨3, 1, _, by omega, rfl, by first | rfl | go_num, Or.inr rfl, HX2, HP2⟩
          · have HP2 := Lib.hid ((HG3.out rfl hf).symm.trans HP.out)
            rcases neq_ways hf with h1 | ⟨h1, h2⟩ | ⟨h1, h2, h3⟩
            all_goals
              clear hf
              go_wp2_with fail
              refine HOn.out.mono ?_
              rintro e w2 ⟨rfl, hb2⟩
              have HX2 := Lib.hid (HX.out.next hb2)
              have HE2 := Lib.hid (HE.out.below hb2 HE.out.lt)
              clear hb2 e0 e1 e2 e3 e4 e5 e6 e7 e8
              have e0 := HE2.out.cell 0
              have e1 := HE2.out.cell 1
              have e2 := HE2.out.cell 2
              have c0 := HX2.out.bf.cell 0
              have c1 := HX2.out.bf.cell 1
              have c2 := HX2.out.bf.cell 2
              go_wp2
              try rw [Exit.noGoto_ret]
              go_ret
              exact ⟨by rw [← HP2.out]; rfl, HX2.out.quad.bel⟩
    · have HP : Hid (endF met f (((dx, dy, dz), (ax, ay, az), (bx, bY, bz)) :: []) = endF 0 (0, 0, 0) [((ax, ay, az), (cx, cy, cz), (dx, dy, dz)), ((bx, bY, bz), (cx, cy, cz), (dx, dy, dz)), ((cx, cy, cz), (ax, ay, az), (bx, bY, bz)), ((dx, dy, dz), (ax, ay, az), (bx, bY, bz))]) := HP0.out
      have HX : Hid (EndAt w (ax, ay, az) (bx, bY, bz) (cx, cy, cz) (dx, dy, dz) f (wr.alloc (.cells #[.int .i64 dx, .int .i64 dy, .int .i64 dz, .int .i64 ax, .int .i64 ay, .int .i64 az, .int .i64 bx, .int .i64 bY, .int .i64 bz] 69))) := HX0.out.alloc _
      have HE : Hid (Blk (wr.alloc (.cells #[.int .i64 dx, .int .i64 dy, .int .i64 dz, .int .i64 ax, .int .i64 ay, .int .i64 az, .int .i64 bx, .int .i64 bY, .int .i64 bz] 69)) wr.heap.size 69 #[.int .i64 dx, .int .i64 dy, .int .i64 dz, .int .i64 ax, .int .i64 ay, .int .i64 az, .int .i64 bx, .int .i64 bY, .int .i64 bz]) := Blk.new wr _ _
      have e0 := HE.out.cell 0
      have e1 := HE.out.cell 1
      have e2 := HE.out.cell 2
      have e3 := HE.out.cell 3
      have e4 := HE.out.cell 4
      have e5 := HE.out.cell 5
      have e6 := HE.out.cell 6
      have e7 := HE.out.cell 7
      have e8 := HE.out.cell 8
      have HOn := Lib.hid (HOn3.out (wr.alloc (.cells #[.int .i64 dx, .int .i64 dy, .int .i64 dz, .int .i64 ax, .int .i64 ay, .int .i64 az, .int .i64 bx, .int .i64 bY, .int .i64 bz] 69)))
      have g0 := one_cut ((dx, dy, dz), (ax, ay, az), (bx, bY, bz)) [] met f
      have g1 := one_first ((dx, dy, dz), (ax, ay, az), (bx, bY, bz)) [] f
      have g2 := one_same ((dx, dy, dz), (ax, ay, az), (bx, bY, bz)) [] f
      have g3 := one_other ((dx, dy, dz), (ax, ay, az), (bx, bY, bz)) [] f
      simp only at g0 g1 g2 g3
      have HG0 := Lib.hid g0
      have HG1 := Lib.hid g1
      have HG2 := Lib.hid g2
      have HG3 := Lib.hid g3
      clear g0 g1 g2 g3 HX0 HP0 HOn0 HOn1 HOn2 HOn3
      generalize onF (dx, dy, dz) (ax, ay, az) (bx, bY, bz) = on at *
      cases on with
      | false =>
        have HP2 := Lib.hid ((HG0.out rfl).symm.trans HP.out)
        go_wp2_with fail
        refine HOn.out.mono ?_
        rintro e w2 ⟨rfl, hb2⟩
        have HX2 := Lib.hid (HX.out.next hb2)
        clear hb2
        go_wp2
        go_roundg (gk - 1)
        case measure => omega
        case rel => exact ⟨4, met, f, by omega, rfl, by first | rfl | go_num, hm, HX2, HP2⟩
      | true =>
        rcases hm with rfl | rfl
        · have HP2 := Lib.hid ((HG1.out rfl).symm.trans HP.out)
          go_wp2_with fail
          refine HOn.out.mono ?_
          rintro e w2 ⟨rfl, hb2⟩
          have HX2 := Lib.hid (HX.out.next hb2)
          have HE2 := Lib.hid (HE.out.below hb2 HE.out.lt)
          clear hb2 e0 e1 e2 e3 e4 e5 e6 e7 e8
          have e0 := HE2.out.cell 0
          have e1 := HE2.out.cell 1
          have e2 := HE2.out.cell 2
          have c0 := HX2.out.bf.cell 0
          have c1 := HX2.out.bf.cell 1
          have c2 := HX2.out.bf.cell 2
          have fz0 := HX2.out.bf.frozen 0
          have fz1 := HX2.out.bf.frozen 1
          have fz2 := HX2.out.bf.frozen 2
          have HX3 := Lib.hid (HX2.out.put dx dy dz)
          go_wp2_with (with_reducible fail)
          go_region
          all_goals
            go_wp2
            go_roundg (gk - 1)
            case measure => omega
            case rel => exact ⟨4, 1, (dx, dy, dz), by omega, rfl, by first | rfl | go_num, Or.inr rfl, HX3.out.next ((Below.refl _ _).drew), HP2⟩
        · obtain ⟨fx, fy, fz⟩ := f
          by_cases hf : (dx, dy, dz) = (fx, fy, fz)
          · have HP2 := Lib.hid ((HG2.out rfl hf).symm.trans HP.out)
            cases hf
            go_wp2_with fail
            refine HOn.out.mono ?_
            rintro e w2 ⟨rfl, hb2⟩
            have HX2 := Lib.hid (HX.out.next hb2)
            have HE2 := Lib.hid (HE.out.below hb2 HE.out.lt)
            clear hb2 e0 e1 e2 e3 e4 e5 e6 e7 e8
            have e0 := HE2.out.cell 0
            have e1 := HE2.out.cell 1
            have e2 := HE2.out.cell 2
            have c0 := HX2.out.bf.cell 0
            have c1 := HX2.out.bf.cell 1
            have c2 := HX2.out.bf.cell 2
            go_wp2
            go_roundg (gk - 1)
            case measure => omega
            case rel => exact ⟨4, 1, _, by omega, rfl, by first | rfl | go_num, Or.inr rfl, HX2, HP2⟩
          · have HP2 := Lib.hid ((HG3.out rfl hf).symm.trans HP.out)
            rcases neq_ways hf with h1 | ⟨h1, h2⟩ | ⟨h1, h2, h3⟩
            all_goals
              clear hf
              go_wp2_with fail
              refine HOn.out.mono ?_
              rintro e w2 ⟨rfl, hb2⟩
              have HX2 := Lib.hid (HX.out.next hb2)
              have HE2 := Lib.hid (HE.out.below hb2 HE.out.lt)
              clear hb2 e0 e1 e2 e3 e4 e5 e6 e7 e8
              have e0 := HE2.out.cell 0
              have e1 := HE2.out.cell 1
              have e2 := HE2.out.cell 2
              have c0 := HX2.out.bf.cell 0
              have c1 := HX2.out.bf.cell 1
              have c2 := HX2.out.bf.cell 2
              go_wp2
              try rw [Exit.noGoto_ret]
              go_ret
              exact ⟨by rw [← HP2.out]; rfl, HX2.out.quad.bel⟩
    · have HP2 : Hid (met = endF 0 (0, 0, 0) [((ax, ay, az), (cx, cy, cz), (dx, dy, dz)), ((bx, bY, bz), (cx, cy, cz), (dx, dy, dz)), ((cx, cy, cz), (ax, ay, az), (bx, bY, bz)), ((dx, dy, dz), (ax, ay, az), (bx, bY, bz))]) := HP0.out
      go_wp2
      try rw [Exit.noGoto_ret]
      go_ret
      exact ⟨by rw [← HP2.out]; rfl, HX0.out.quad.bel⟩
end Go.Proofs.Ytnhoinonojhgiaa
