/- Of any three points and any two numbers of 16 bits GeomLaws answers true: who turns left by three points does from any of them on, and right the other way round; a ring told backwards has the area less than nothing; moved all along it has the same. Conditions: none. -/
import Derived.Test.YtnhoinonojhgiaaKnown09
import Derived.Test.YtnhoinonojhgiaaKnown08
import Derived.Test.YtnhoinonojhgiaaLawPts
namespace Go.Proofs.Ytnhoinonojhgiaa.geomLaws
open Go.ChangeShapes Go.WideShapes Go.ChangeAt Go.RowKit

theorem cross_in {a b c : P3} (h : rights [a, b, c] = true) : inW (crossF a b c) := by
  obtain ⟨h1, h2, h3⟩ := rights3 h
  have q1 := rightP_iff.1 h1
  have q2 := rightP_iff.1 h2
  have q3 := rightP_iff.1 h3
  have b1 : ∀ {x y : Int}, (-4294967296 ≤ x ∧ x ≤ 4294967296) → (-4294967296 ≤ y ∧ y ≤ 4294967296) → -18446744073709551616 ≤ x * y ∧ x * y ≤ 18446744073709551616 := fun {x y} hx hy => by
    have h : (x * y).natAbs ≤ 4294967296 * 4294967296 := by
      rw [Int.natAbs_mul]
      exact Nat.mul_le_mul (by omega) (by omega)
    omega
  have m1 := b1 (x := b.1 - a.1) (y := c.2.1 - a.2.1) (by omega) (by omega)
  have m2 := b1 (x := b.2.1 - a.2.1) (y := c.1 - a.1) (by omega) (by omega)
  unfold inW crossF
  omega
theorem area_in (a b c : P3) : inW (areaF [a, b, c]) := by
  rw [area_three]
  split
  · exact cross_in ‹_›
  · unfold inW; omega
theorem sign_turn (a b c : P3) : cmpI (areaF [a, b, c]) 0 = turnF a b c := by
  rw [area_three, turn_cross]
  split
  · rfl
  · rfl
set_option maxRecDepth 100000 in
set_option maxHeartbeats 2000000 in
theorem walk (ax ay az bx bY bz cx cy cz x y : Int) (w : World) (_ : i64P (ax, ay, az)) (_ : i64P (bx, bY, bz)) (_ : i64P (cx, cy, cz)) (hx : -32768 ≤ x ∧ x ≤ 32767) (hy : -32768 ≤ y ∧ y ≤ 32767) :
    Calls Try.prog 6 #[.agg #[.int .i64 ax, .int .i64 ay, .int .i64 az], .agg #[.int .i64 bx, .int .i64 bY, .int .i64 bz], .agg #[.int .i64 cx, .int .i64 cy, .int .i64 cz], .int .i16 x, .int .i16 y] w fun e w' => e = .returned (.bool true) ∧ Below w.heap.size w w' := by
  have HT0 := Lib.hid (Tri.new w (ax, ay, az) (bx, bY, bz) (cx, cy, cz))
  have HNa : Hid (∀ V : World, HasK 3 (V.alloc (.cells #[.int .i64 ax, .int .i64 ay, .int .i64 az, .int .i64 bx, .int .i64 bY, .int .i64 bz, .int .i64 cx, .int .i64 cy, .int .i64 cz] 23)) (some ⟨V.heap.size, 0, none⟩) 3 3 (p3Cells [(ax, ay, az), (bx, bY, bz), (cx, cy, cz)])) := fun V => HasK.new_at 3 V #[.int .i64 ax, .int .i64 ay, .int .i64 az, .int .i64 bx, .int .i64 bY, .int .i64 bz, .int .i64 cx, .int .i64 cy, .int .i64 cz] _ _ 3 rfl rfl
  have HNc : Hid (∀ V : World, HasK 3 (V.alloc (.cells #[.int .i64 cx, .int .i64 cy, .int .i64 cz, .int .i64 bx, .int .i64 bY, .int .i64 bz, .int .i64 ax, .int .i64 ay, .int .i64 az] 23)) (some ⟨V.heap.size, 0, none⟩) 3 3 (p3Cells [(cx, cy, cz), (bx, bY, bz), (ax, ay, az)])) := fun V => HasK.new_at 3 V #[.int .i64 cx, .int .i64 cy, .int .i64 cz, .int .i64 bx, .int .i64 bY, .int .i64 bz, .int .i64 ax, .int .i64 ay, .int .i64 az] _ _ 3 rfl rfl
  have hwx : IntKind.wrap .i64 x = x := by rw [IntKind.wrap_i64]; omega
  have hwy : IntKind.wrap .i64 y = y := by rw [IntKind.wrap_i64]; omega
  obtain ⟨X1, eX1⟩ : ∃ z, wrap64 (ax + x) = z := ⟨_, rfl⟩
  have gX1 : IntKind.wrap .i64 (ax + x) = X1 := by rw [IntKind.wrap_i64, ← eX1]; unfold wrap64; omega
  obtain ⟨Y1, eY1⟩ : ∃ z, wrap64 (ay + y) = z := ⟨_, rfl⟩
  have gY1 : IntKind.wrap .i64 (ay + y) = Y1 := by rw [IntKind.wrap_i64, ← eY1]; unfold wrap64; omega
  obtain ⟨X2, eX2⟩ : ∃ z, wrap64 (bx + x) = z := ⟨_, rfl⟩
  have gX2 : IntKind.wrap .i64 (bx + x) = X2 := by rw [IntKind.wrap_i64, ← eX2]; unfold wrap64; omega
  obtain ⟨Y2, eY2⟩ : ∃ z, wrap64 (bY + y) = z := ⟨_, rfl⟩
  have gY2 : IntKind.wrap .i64 (bY + y) = Y2 := by rw [IntKind.wrap_i64, ← eY2]; unfold wrap64; omega
  obtain ⟨X3, eX3⟩ : ∃ z, wrap64 (cx + x) = z := ⟨_, rfl⟩
  have gX3 : IntKind.wrap .i64 (cx + x) = X3 := by rw [IntKind.wrap_i64, ← eX3]; unfold wrap64; omega
  obtain ⟨Y3, eY3⟩ : ∃ z, wrap64 (cy + y) = z := ⟨_, rfl⟩
  have gY3 : IntKind.wrap .i64 (cy + y) = Y3 := by rw [IntKind.wrap_i64, ← eY3]; unfold wrap64; omega
  have HM : Hid (rights [(ax, ay, az), (bx, bY, bz), (cx, cy, cz)] = true → X1 = ax + x ∧ Y1 = ay + y ∧ X2 = bx + x ∧ Y2 = bY + y ∧ X3 = cx + x ∧ Y3 = cy + y) := fun h => by
    obtain ⟨h1, h2, h3⟩ := rights3 h
    have q1 := rightP_iff.1 h1
    have q2 := rightP_iff.1 h2
    have q3 := rightP_iff.1 h3
    simp only at q1 q2 q3
    refine ⟨?_, ?_, ?_, ?_, ?_, ?_⟩ <;> (first | rw [← eX1] | rw [← eY1] | rw [← eX2] | rw [← eY2] | rw [← eX3] | rw [← eY3]) <;> unfold wrap64 <;> omega
  have HTm : Hid (rights [(ax, ay, az), (bx, bY, bz), (cx, cy, cz)] = true → rights [(X1, Y1, az), (X2, Y2, bz), (X3, Y3, cz)] = true → turnF (X1, Y1, az) (X2, Y2, bz) (X3, Y3, cz) = turnF (ax, ay, az) (bx, bY, bz) (cx, cy, cz) ∧ areaF [(X1, Y1, az), (X2, Y2, bz), (X3, Y3, cz)] = areaF [(ax, ay, az), (bx, bY, bz), (cx, cy, cz)]) := fun h1 h2 => by
    obtain ⟨m1, m2, m3, m4, m5, m6⟩ := HM.out h1
    rw [turn_cross, turn_cross, area_three, area_three, if_pos h1, if_pos h2, if_pos h1, if_pos h2, m1, m2, m3, m4, m5, m6]
    have hc := cross_move (ax, ay, az) (bx, bY, bz) (cx, cy, cz) x y az bz cz
    simp only at hc
    exact ⟨by rw [hc], hc⟩
  have HNp : Hid (∀ V : World, HasK 3 (V.alloc (.cells #[.int .i64 X1, .int .i64 Y1, .int .i64 az, .int .i64 X2, .int .i64 Y2, .int .i64 bz, .int .i64 X3, .int .i64 Y3, .int .i64 cz] 23)) (some ⟨V.heap.size, 0, none⟩) 3 3 (p3Cells [(X1, Y1, az), (X2, Y2, bz), (X3, Y3, cz)])) := fun V => HasK.new_at 3 V #[.int .i64 X1, .int .i64 Y1, .int .i64 az, .int .i64 X2, .int .i64 Y2, .int .i64 bz, .int .i64 X3, .int .i64 Y3, .int .i64 cz] _ _ 3 rfl rfl
  have HG1 := Lib.hid (fun W => geomTurn_any ax ay az bx bY bz cx cy cz W)
  have HG2 := Lib.hid (fun W g (h : HasK 3 W (some ⟨g, 0, none⟩) 3 3 (p3Cells [(ax, ay, az), (bx, bY, bz), (cx, cy, cz)])) => geomArea_any (some ⟨g, 0, none⟩) 3 3 _ W h (by decide))
  have HG3 := Lib.hid (fun W => geomTurn_any bx bY bz cx cy cz ax ay az W)
  have HG4 := Lib.hid (fun W => geomTurn_any bx bY bz ax ay az cx cy cz W)
  rw [turn_next] at HG3
  rw [turn_swap] at HG4
  have HG5 := Lib.hid (fun W => wideSignC_any _ W (area_in (ax, ay, az) (bx, bY, bz) (cx, cy, cz)))
  rw [sign_turn] at HG5
  have HG6 := Lib.hid (fun W g (h : HasK 3 W (some ⟨g, 0, none⟩) 3 3 (p3Cells [(cx, cy, cz), (bx, bY, bz), (ax, ay, az)])) => geomArea_any (some ⟨g, 0, none⟩) 3 3 _ W h (by decide))
  rw [show areaF [(cx, cy, cz), (bx, bY, bz), (ax, ay, az)] = -areaF [(ax, ay, az), (bx, bY, bz), (cx, cy, cz)] from area_rev [(ax, ay, az), (bx, bY, bz), (cx, cy, cz)]] at HG6
  have HG7 := Lib.hid (fun W => wideNegC_any (areaF [(ax, ay, az), (bx, bY, bz), (cx, cy, cz)]) W)
  have HG8 := Lib.hid (fun W g (h : HasK 3 W (some ⟨g, 0, none⟩) 3 3 (p3Cells [(ax, ay, az), (bx, bY, bz), (cx, cy, cz)])) => geomRight_any (some ⟨g, 0, none⟩) 3 3 _ W h (by decide))
  have HG9 := Lib.hid (fun W g (h : HasK 3 W (some ⟨g, 0, none⟩) 3 3 (p3Cells [(X1, Y1, az), (X2, Y2, bz), (X3, Y3, cz)])) => geomRight_any (some ⟨g, 0, none⟩) 3 3 _ W h (by decide))
  have HG10 := Lib.hid (fun W => geomTurn_any X1 Y1 az X2 Y2 bz X3 Y3 cz W)
  have HG11 := Lib.hid (fun W g (h : HasK 3 W (some ⟨g, 0, none⟩) 3 3 (p3Cells [(X1, Y1, az), (X2, Y2, bz), (X3, Y3, cz)])) => geomArea_any (some ⟨g, 0, none⟩) 3 3 _ W h (by decide))
  have htr := turn_range (ax, ay, az) (bx, bY, bz) (cx, cy, cz)
  clear HM eX1 eY1 eX2 eY2 eX3 eY3
  generalize turnF (ax, ay, az) (bx, bY, bz) (cx, cy, cz) = t at *
  generalize areaF [(ax, ay, az), (bx, bY, bz), (cx, cy, cz)] = A at *
  generalize turnF (X1, Y1, az) (X2, Y2, bz) (X3, Y3, cz) = t' at *
  generalize areaF [(X1, Y1, az), (X2, Y2, bz), (X3, Y3, cz)] = A' at *
  generalize rights [(ax, ay, az), (bx, bY, bz), (cx, cy, cz)] = r1 at *
  generalize rights [(X1, Y1, az), (X2, Y2, bz), (X3, Y3, cz)] = r2 at *
  obtain ⟨u, hu⟩ : ∃ u, -t = u := ⟨_, rfl⟩
  rw [hu] at HG4
  have gu : IntKind.wrap .i64 (-u) = t := by rw [IntKind.wrap_i64]; omega
  have gv : wrap64 (-u) = t := by unfold wrap64; omega
  unfold numV at HG2 HG5 HG6 HG7 HG11
  clear hu htr
  go_enter Try.func6, Try.ntmps6
  go_wp2_with fail
  refine (HG1.out _).mono ?_
  rintro e w1 ⟨rfl, hb1⟩
  have HT1 := Lib.hid (HT0.out.next hb1)
  obtain ⟨c0, c1, c2, c3, c4, c5, c6, c7, c8⟩ := HT1.out.cells
  simp only at c0 c1 c2 c3 c4 c5 c6 c7 c8
  clear hb1 HT0 HG1
  go_wp2_with fail
  refine (HG2.out _ w1.heap.size (HNa.out w1)).mono ?_
  rintro e w2 ⟨rfl, hb2⟩
  have HT2 := Lib.hid ((HT1.out.next (new_call (new_alloc (Below.refl _ _) _) hb2)).next (new_alloc (Below.refl _ _) (.cells #[.int .i64 (hiW A), .int .u64 (loW A)] 34)))
  have HN2 := Lib.hid (Blk.new w2 34 #[.int .i64 (hiW A), .int .u64 (loW A)])
  clear hb2 HT1 HG2 c0 c1 c2 c3 c4 c5 c6 c7 c8
  go_wp2_with (with_reducible fail)
  generalize w2.alloc (.cells #[.int .i64 (hiW A), .int .u64 (loW A)] 34) = W2 at *
  generalize w2.heap.size = G at *
  have HS : Hid (∀ W, Below W2.heap.size W2 W → W.cell? ⟨w.heap.size, 0, none⟩ = some (.int .i64 ax) ∧ W.cell? ⟨w.heap.size, 1, none⟩ = some (.int .i64 ay) ∧ W.cell? ⟨w.heap.size, 2, none⟩ = some (.int .i64 az) ∧ W.cell? ⟨w.heap.size + 1, 0, none⟩ = some (.int .i64 bx) ∧ W.cell? ⟨w.heap.size + 1, 1, none⟩ = some (.int .i64 bY) ∧ W.cell? ⟨w.heap.size + 1, 2, none⟩ = some (.int .i64 bz) ∧ W.cell? ⟨w.heap.size + 2, 0, none⟩ = some (.int .i64 cx) ∧ W.cell? ⟨w.heap.size + 2, 1, none⟩ = some (.int .i64 cy) ∧ W.cell? ⟨w.heap.size + 2, 2, none⟩ = some (.int .i64 cz) ∧ W.cell? ⟨G, 0, none⟩ = some (.int .i64 (hiW A)) ∧ W.cell? ⟨G, 1, none⟩ = some (.int .u64 (loW A))) := fun W hW =>
    have h := HT2.out.next hW
    ⟨h.b0.cell 0, h.b0.cell 1, h.b0.cell 2, h.b1.cell 0, h.b1.cell 1, h.b1.cell 2, h.b2.cell 0, h.b2.cell 1, h.b2.cell 2, (HN2.out.below hW HN2.out.lt).cell 0, (HN2.out.below hW HN2.out.lt).cell 1⟩
  have HBv0 : Hid (Below W2.heap.size W2 W2.drew) := (Below.refl _ _).drew
  go_region_held3 (fun W => W.cell? ⟨w.heap.size, 0, none⟩ = some (.int .i64 ax) ∧ W.cell? ⟨w.heap.size, 1, none⟩ = some (.int .i64 ay) ∧ W.cell? ⟨w.heap.size, 2, none⟩ = some (.int .i64 az) ∧ W.cell? ⟨w.heap.size + 1, 0, none⟩ = some (.int .i64 bx) ∧ W.cell? ⟨w.heap.size + 1, 1, none⟩ = some (.int .i64 bY) ∧ W.cell? ⟨w.heap.size + 1, 2, none⟩ = some (.int .i64 bz) ∧ W.cell? ⟨w.heap.size + 2, 0, none⟩ = some (.int .i64 cx) ∧ W.cell? ⟨w.heap.size + 2, 1, none⟩ = some (.int .i64 cy) ∧ W.cell? ⟨w.heap.size + 2, 2, none⟩ = some (.int .i64 cz) ∧ W.cell? ⟨G, 0, none⟩ = some (.int .i64 (hiW A)) ∧ W.cell? ⟨G, 1, none⟩ = some (.int .u64 (loW A))) (first | (with_reducible exact HS.out _ HBv6.out) | (with_reducible exact HS.out _ HBv5.out) | (with_reducible exact HS.out _ HBv4.out) | (with_reducible exact HS.out _ HBv3.out) | (with_reducible exact HS.out _ HBv2.out) | (with_reducible exact HS.out _ HBv1.out) | (with_reducible exact HS.out _ HBv0.out)) (first
    | (go_at_call 11; (with_reducible refine (HG3.out W2.drew).mono ?_); rintro e v1 ⟨rfl, hb1⟩; have HBv1 := Lib.hid (new_call HBv0.out hb1); clear hb1)
    | (go_at_call 11; (with_reducible refine (HG4.out v1).mono ?_); rintro e v2 ⟨rfl, hb2⟩; have HBv2 := Lib.hid (new_call HBv1.out hb2); clear hb2)
    | (go_at_call 25; (with_reducible refine (HG5.out v2).mono ?_); rintro e v3 ⟨rfl, hb3⟩; have HBv3 := Lib.hid (new_call HBv2.out hb3); have HBv4 : Hid (Below W2.heap.size W2 (v3.alloc (.cells #[.int .i64 cx, .int .i64 cy, .int .i64 cz, .int .i64 bx, .int .i64 bY, .int .i64 bz, .int .i64 ax, .int .i64 ay, .int .i64 az] 23))) := new_alloc HBv3.out _; clear hb3)
    | (go_at_call 20; (with_reducible refine (HG6.out _ v3.heap.size (HNc.out v3)).mono ?_); rintro e v5 ⟨rfl, hb5⟩; have HBv5 := Lib.hid (new_call HBv4.out hb5); clear hb5)
    | (go_at_call 26; (with_reducible refine (HG7.out v5).mono ?_); rintro e v6 ⟨rfl, hb6⟩; have HBv6 := Lib.hid (new_call HBv5.out hb6); clear hb6))
  have HT6 := Lib.hid (HT2.out.next HBv6.out)
  have HN6 := Lib.hid (HN2.out.below HBv6.out HN2.out.lt)
  clear HS HBv0 HBv1 HBv2 HBv3 HBv4 HBv5 HBv6 HT2 HN2 HG3 HG4 HG5 HG6 HG7 HNc
  generalize v6 = v0 at *
  have HP0 := Lib.hid (Tri.new v0 (X1, Y1, az) (X2, Y2, bz) (X3, Y3, cz))
  have HT7 := Lib.hid (HT6.out.next HP0.out.bel)
  have HN7 := Lib.hid (HN6.out.below HP0.out.bel HN6.out.lt)
  obtain ⟨c0, c1, c2, c3, c4, c5, c6, c7, c8⟩ := HT6.out.cells
  simp only at c0 c1 c2 c3 c4 c5 c6 c7 c8
  have HC7 : Hid (∀ o, Below v0.heap.size v0 (v0.alloc o)) := fun o => new_alloc (Below.refl _ _) o
  have HTa := Lib.hid (HT6.out.next (HC7.out (.cells #[.int .i64 X1, .int .i64 Y1, .int .i64 az] 23)))
  have HTb := Lib.hid (HTa.out.next (new_alloc (Below.refl _ _) (.cells #[.int .i64 X2, .int .i64 Y2, .int .i64 bz] 23)))
  obtain ⟨_, _, _, d3, d4, d5, _, _, _⟩ := HTa.out.cells
  obtain ⟨_, _, _, _, _, _, d6, d7, d8⟩ := HTb.out.cells
  obtain ⟨f0, f1, f2, f3, f4, f5, f6, f7, f8⟩ := HT7.out.cells
  simp only at d3 d4 d5 d6 d7 d8 f0 f1 f2 f3 f4 f5 f6 f7 f8
  have HK8 : Hid (HasK 3 ((((v0.alloc (.cells #[.int .i64 X1, .int .i64 Y1, .int .i64 az] 23)).alloc (.cells #[.int .i64 X2, .int .i64 Y2, .int .i64 bz] 23)).alloc (.cells #[.int .i64 X3, .int .i64 Y3, .int .i64 cz] 23)).alloc (.cells #[.int .i64 ax, .int .i64 ay, .int .i64 az, .int .i64 bx, .int .i64 bY, .int .i64 bz, .int .i64 cx, .int .i64 cy, .int .i64 cz] 23)) (some ⟨v0.heap.size + 3, 0, none⟩) 3 3 (p3Cells [(ax, ay, az), (bx, bY, bz), (cx, cy, cz)])) := HasK.new_at 3 _ _ _ _ 3 (size_three v0 _ _ _) rfl
  have HT8 := Lib.hid (HT7.out.next (new_alloc (Below.refl _ _) (.cells #[.int .i64 ax, .int .i64 ay, .int .i64 az, .int .i64 bx, .int .i64 bY, .int .i64 bz, .int .i64 cx, .int .i64 cy, .int .i64 cz] 23)))
  have HP8 := Lib.hid (HP0.out.next (new_alloc (Below.refl _ _) (.cells #[.int .i64 ax, .int .i64 ay, .int .i64 az, .int .i64 bx, .int .i64 bY, .int .i64 bz, .int .i64 cx, .int .i64 cy, .int .i64 cz] 23)))
  have HN8 := Lib.hid (HN7.out.alloc (.cells #[.int .i64 ax, .int .i64 ay, .int .i64 az, .int .i64 bx, .int .i64 bY, .int .i64 bz, .int .i64 cx, .int .i64 cy, .int .i64 cz] 23))
  go_wp2_with fail
  refine (HG8.out _ (v0.heap.size + 3) HK8.out).mono ?_
  rintro e w4 ⟨rfl, hb4⟩
  have HT4 := Lib.hid (HT8.out.next hb4)
  have HP4 := Lib.hid (HP8.out.next hb4)
  have HN4 := Lib.hid (HN8.out.below hb4 HN8.out.lt)
  clear hb4 HT8 HP8 HN8 HK8 HG8 HT7 HP0 HN7 HTa HTb HT6 HN6 HC7 c0 c1 c2 c3 c4 c5 c6 c7 c8 d3 d4 d5 d6 d7 d8 f0 f1 f2 f3 f4 f5 f6 f7 f8
  cases r1 with
  | false =>
    go_wp2_with fail
    refine (known09 _).mono ?_
    rintro e w9 ⟨rfl, hb9⟩
    go_wp2
    go_ret
    exact ⟨rfl, new_call HT4.out.bel hb9⟩
  | true =>
    obtain ⟨c0, c1, c2, c3, c4, c5, c6, c7, c8⟩ := HP4.out.cells
    simp only at c0 c1 c2 c3 c4 c5 c6 c7 c8
    go_wp2_with fail
    refine (HG9.out _ w4.heap.size (HNp.out w4)).mono ?_
    rintro e w5 ⟨rfl, hb5⟩
    have hb5' := new_call (new_alloc (Below.refl w4.heap.size w4) (.cells #[.int .i64 X1, .int .i64 Y1, .int .i64 az, .int .i64 X2, .int .i64 Y2, .int .i64 bz, .int .i64 X3, .int .i64 Y3, .int .i64 cz] 23)) hb5
    have HT5 := Lib.hid (HT4.out.next hb5')
    have HP5 := Lib.hid (HP4.out.next hb5')
    have HN5 := Lib.hid (HN4.out.below hb5' HN4.out.lt)
    clear hb5 hb5' HT4 HP4 HN4 HG9 c0 c1 c2 c3 c4 c5 c6 c7 c8
    cases r2 with
    | false =>
      go_wp2_with fail
      refine (known09 _).mono ?_
      rintro e w9 ⟨rfl, hb9⟩
      go_wp2
      go_ret
      exact ⟨rfl, new_call HT5.out.bel hb9⟩
    | true =>
      obtain ⟨et, eA⟩ : t' = t ∧ A' = A := by simpa using HTm.out
      rw [et] at HG10
      rw [eA] at HG11
      clear et eA HTm
      have HS : Hid (∀ W, Below w5.heap.size w5 W → W.cell? ⟨v0.heap.size, 0, none⟩ = some (.int .i64 X1) ∧ W.cell? ⟨v0.heap.size, 1, none⟩ = some (.int .i64 Y1) ∧ W.cell? ⟨v0.heap.size, 2, none⟩ = some (.int .i64 az) ∧ W.cell? ⟨v0.heap.size + 1, 0, none⟩ = some (.int .i64 X2) ∧ W.cell? ⟨v0.heap.size + 1, 1, none⟩ = some (.int .i64 Y2) ∧ W.cell? ⟨v0.heap.size + 1, 2, none⟩ = some (.int .i64 bz) ∧ W.cell? ⟨v0.heap.size + 2, 0, none⟩ = some (.int .i64 X3) ∧ W.cell? ⟨v0.heap.size + 2, 1, none⟩ = some (.int .i64 Y3) ∧ W.cell? ⟨v0.heap.size + 2, 2, none⟩ = some (.int .i64 cz) ∧ W.cell? ⟨G, 0, none⟩ = some (.int .i64 (hiW A)) ∧ W.cell? ⟨G, 1, none⟩ = some (.int .u64 (loW A))) := fun W hW =>
        have h := HP5.out.next hW
        ⟨h.b0.cell 0, h.b0.cell 1, h.b0.cell 2, h.b1.cell 0, h.b1.cell 1, h.b1.cell 2, h.b2.cell 0, h.b2.cell 1, h.b2.cell 2, (HN5.out.below hW HN5.out.lt).cell 0, (HN5.out.below hW HN5.out.lt).cell 1⟩
      have HBv0 : Hid (Below w5.heap.size w5 w5.drew) := (Below.refl _ _).drew
      go_wp2_with (with_reducible fail)
      go_region_held3 (fun W => W.cell? ⟨v0.heap.size, 0, none⟩ = some (.int .i64 X1) ∧ W.cell? ⟨v0.heap.size, 1, none⟩ = some (.int .i64 Y1) ∧ W.cell? ⟨v0.heap.size, 2, none⟩ = some (.int .i64 az) ∧ W.cell? ⟨v0.heap.size + 1, 0, none⟩ = some (.int .i64 X2) ∧ W.cell? ⟨v0.heap.size + 1, 1, none⟩ = some (.int .i64 Y2) ∧ W.cell? ⟨v0.heap.size + 1, 2, none⟩ = some (.int .i64 bz) ∧ W.cell? ⟨v0.heap.size + 2, 0, none⟩ = some (.int .i64 X3) ∧ W.cell? ⟨v0.heap.size + 2, 1, none⟩ = some (.int .i64 Y3) ∧ W.cell? ⟨v0.heap.size + 2, 2, none⟩ = some (.int .i64 cz) ∧ W.cell? ⟨G, 0, none⟩ = some (.int .i64 (hiW A)) ∧ W.cell? ⟨G, 1, none⟩ = some (.int .u64 (loW A))) (first | (with_reducible exact HS.out _ HBv4.out) | (with_reducible exact HS.out _ HBv3.out) | (with_reducible exact HS.out _ HBv2.out) | (with_reducible exact HS.out _ HBv1.out) | (with_reducible exact HS.out _ HBv0.out)) (first
        | (go_at_call 11; (with_reducible refine (HG10.out w5.drew).mono ?_); rintro e v1 ⟨rfl, hb1⟩; have HBv1 := Lib.hid (new_call HBv0.out hb1); have HBv2 : Hid (Below w5.heap.size w5 (v1.alloc (.cells #[.int .i64 X1, .int .i64 Y1, .int .i64 az, .int .i64 X2, .int .i64 Y2, .int .i64 bz, .int .i64 X3, .int .i64 Y3, .int .i64 cz] 23))) := new_alloc HBv1.out _; clear hb1)
        | (go_at_call 20; (with_reducible refine (HG11.out _ v1.heap.size (HNp.out v1)).mono ?_); rintro e v3 ⟨rfl, hb3⟩; have HBv3 := Lib.hid (new_call HBv2.out hb3); clear hb3)
        | (go_at_call 17; (with_reducible refine (known09 _).mono ?_); rintro e v4 ⟨rfl, hb4⟩; have HBv4 := Lib.hid (new_call HBv3.out hb4); clear hb4))
      all_goals
        go_wp2
        go_ret
        exact ⟨rfl, new_call HT5.out.bel HBv4.out⟩

set_option maxRecDepth 100000 in
theorem lifted (os : Os) (started : os.Started) (H : Type) (enc : TypeId × Value → H) :
    ReturnsInHanded {} Try.checked os 6 .any (Rows.geomLawsSpec.pre6 enc Try.prog Try.f6 Rows.geomLawsRow.domain false) (Rows.geomLawsSpec.post enc Try.prog Try.f6 false true false false) := by
  refine returnsInHanded_of_change (C := Try.checked) Try.own started (by kernel_rfl) Try.func6
    (ChangeSpec.witness6 (enc := enc) (C := Try.checked) false ⟨#[], #[.agg #[.int .i64 0, .int .i64 0, .int .i64 0], .agg #[.int .i64 0, .int .i64 0, .int .i64 0], .agg #[.int .i64 0, .int .i64 0, .int .i64 0], .int .i16 0, .int .i16 0], []⟩ 8 (by kernel_rfl) (by kernel_rfl) (by kernel_rfl) (by kernel_rfl)) ?_
  intro W base args ds gs before hval0 hW _ _
  have hval : ∀ (j : Nat) t v, Try.f6.params[j]? = some t → args[j]? = some v → Value.okWide Try.prog W .any base t v := hval0
  have hW' := hW
  obtain ⟨p, q, hA0, hV, rfl, _, _⟩ := hW
  have hA : DataW.TrodAll enc Try.prog W 0 (fun _ => true) true Try.f6.params.toList args.toList ds p := hA0
  rw [Try.params6] at hA hval
  obtain ⟨v0, v1, v2, v3, v4, d0, d1, d2, d3, d4, p0, p1, p2, p3, p4, rfl, rfl, rfl, h0, h1, h2, h3, h4⟩ := trodAll_fivep hA
  obtain ⟨rfl, rfl⟩ := trodVars_none hV
  obtain ⟨x0, y0, z0, rfl, hh0⟩ := open_pt (hval 0 23 v0 rfl rfl) h0
  obtain ⟨x1, y1, z1, rfl, hh1⟩ := open_pt (hval 1 23 v1 rfl rfl) h1
  obtain ⟨x2, y2, z2, rfl, hh2⟩ := open_pt (hval 2 23 v2 rfl rfl) h2
  obtain ⟨a3, rfl, rfl, rfl, w3⟩ := open_int Try.underlying44 (hval 3 44 v3 rfl rfl) h3
  obtain ⟨a4, rfl, rfl, rfl, w4⟩ := open_int Try.underlying44 (hval 4 44 v4 rfl rfl) h4
  exact (walk x0 y0 z0 x1 y1 z1 x2 y2 z2 a3 a4 W hh0 hh1 hh2 (wf_i16 w3) (wf_i16 w4)).mono fun e W' he =>
    law_post rfl rfl (by rw [Try.params6]; intro t ht; simp at ht; rcases ht with rfl | rfl | rfl | rfl | rfl <;> exact ⟨by kernel_rfl, of_decide_eq_true (by kernel_rfl)⟩) hW' rfl he

theorem proved : Rows.GeomLawsSaid :=
  OpenClaim.holds_of_wide 6 Try.f6 rfl rfl rfl rfl rfl rfl rfl ⟨rfl, rfl, rfl, rfl, rfl⟩ rfl rfl rfl rfl rfl (by kernel_rfl) Try.func6 (by kernel_rfl)
    (of_decide_eq_true (by kernel_rfl)) (by unfold Func.isWrapper; first | (rw [if_pos (by decide +kernel)]; kernel_rfl) | (rw [if_neg (by decide +kernel)]; exact ⟨rfl, rfl⟩))
    (fun os started H enc _ => lifted os started H enc)
end Go.Proofs.Ytnhoinonojhgiaa.geomLaws
