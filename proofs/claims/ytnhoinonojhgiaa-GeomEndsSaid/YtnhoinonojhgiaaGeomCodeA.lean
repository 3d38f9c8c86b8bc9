/- The landed geom: coordinates, points of the plane, turns, what is between and on. -/
import Derived.Test.YtnhoinonojhgiaaGeomMore
import Derived.Test.YtnhoinonojhgiaaGeomRefE
import Derived.Test.YtnhoinonojhgiaaKnown08
namespace Go.Proofs.Ytnhoinonojhgiaa
open Go.RowKit

def coordI (n : Int) : Bool := decide (-2147483648 ≤ n) && decide (n ≤ 2147483647)
theorem coord_right (x y z : Int) : rightP (x, y, z) = (coordI x && coordI y && decide (z = 0)) := by
  unfold rightP coordI
  simp only [Bool.and_assoc]
set_option maxRecDepth 100000 in
theorem geomisCoord_any (n : Int) (w : World) : Calls Try.prog 32 #[.int .i64 n] w fun e w' => e = .returned (.bool (coordI n)) ∧ w = w' := by
  have hs : (decide (-2147483648 ≤ n) = false ∧ coordI n = false) ∨ (decide (-2147483648 ≤ n) = true ∧ decide (n ≤ 2147483647) = coordI n) := by
    unfold coordI
    cases decide (-2147483648 ≤ n) <;> simp
  generalize coordI n = r at *
  rcases hs with ⟨h1, rfl⟩ | ⟨h1, h2⟩
  all_goals
    go_enter Try.func32, Try.ntmps32
    go_wp2
    go_ret
    exact ⟨rfl, rfl⟩
theorem coord_ways (x y z : Int) :
    (coordI x = false ∧ rightP (x, y, z) = false) ∨
    (coordI x = true ∧ coordI y = false ∧ rightP (x, y, z) = false) ∨
    (coordI x = true ∧ coordI y = true ∧ (z != 0) = true ∧ rightP (x, y, z) = false) ∨
    (coordI x = true ∧ coordI y = true ∧ (z != 0) = false ∧ rightP (x, y, z) = true) := by
  rw [coord_right]
  by_cases hz : z = 0
  · subst hz
    cases coordI x <;> cases coordI y <;> simp
  · have h1 : (z != 0) = true := bne_iff_ne.2 hz
    have h2 : decide (z = 0) = false := by simpa using hz
    rw [h1, h2]
    cases coordI x <;> cases coordI y <;> simp
set_option maxRecDepth 100000 in
set_option maxHeartbeats 800000 in
theorem geomRight_any (A : Option Addr) (n c : Nat) (l : List P3) (w : World) (h : HasK 3 w A n c (p3Cells l)) (hn : n ≤ 9223372036854775807) : Calls Try.prog 15 #[.slice A n c] w fun e w' => e = .returned (.bool (rights l)) ∧ Below w.heap.size w w' := by
  have HL : Hid (l.length = n) := by have := h.len; rw [p3Cells_len] at this; show _ = _; omega
  have HH := Lib.hid h
  clear h
  go_enter Try.func15, Try.ntmps15
  go_wp2
  go_loopg [7] n (fun g s7 wx => ∃ i : Nat, i + g = n ∧ s7 = .int .i64 i ∧ Hid (rights (l.take i) = true) ∧ Hid (Below w.heap.size w wx))
  case atStart => exact ⟨0, by omega, rfl, rfl, Below.refl _ _⟩
  case round =>
    obtain ⟨i, hig, rfl, HR, HB⟩ := hrel
    by_cases hi : i < n
    · have ti : decide ((i : Int) < (n : Int)) = true := by simp; omega
      have i2 : (i : Int) < (n : Int) := by omega
      have hil : i < l.length := by rw [HL.out]; exact hi
      obtain ⟨b, off, rfl, hlt, _⟩ := (HH.out.kept HB.out).spot (by omega)
      obtain ⟨c0, c1, c2⟩ := p3_at (HH.out.kept HB.out) hil
      have HT : Hid (rights (l.take (i + 1)) = rightP l[i]) := by
        show _ = _
        rw [List.take_succ_eq_append_getElem hil]
        unfold rights
        rw [List.all_append, show (l.take i).all rightP = true from HR.out]
        simp
      have HF : Hid (rightP l[i] = false → rights l = false) := fun h => by
        unfold rights
        rw [List.all_eq_false]
        exact ⟨_, List.getElem_mem hil, by rw [h]; decide⟩
      generalize l[i] = p at *
      obtain ⟨x, y, z⟩ := p
      simp only at c0 c1 c2
      have HB2 := Lib.hid (new_alloc HB.out (.cells #[.int .i64 x, .int .i64 y, .int .i64 z] 23))
      have HX := Lib.hid (geomisCoord_any x)
      have HY := Lib.hid (geomisCoord_any y)
      clear hil hlt
      rcases coord_ways x y z with ⟨d1, hr⟩ | ⟨d1, d2, hr⟩ | ⟨d1, d2, d3, hr⟩ | ⟨d1, d2, d3, hr⟩
      · rw [d1] at HX
        have HE := Lib.hid (HF.out hr)
        clear hr HF HT d1
        go_wp2_with fail
        refine (HX.out _).mono ?_
        rintro e w1 ⟨rfl, rfl⟩
        go_wp2
        go_ret
        exact ⟨by rw [HE.out]; rfl, HB2.out⟩
      · rw [d1] at HX
        rw [d2] at HY
        have HE := Lib.hid (HF.out hr)
        clear hr HF HT d1 d2
        go_wp2_with fail
        refine (HX.out _).mono ?_
        rintro e w1 ⟨rfl, rfl⟩
        go_wp2_with fail
        refine (HY.out _).mono ?_
        rintro e w1 ⟨rfl, rfl⟩
        go_wp2
        go_ret
        exact ⟨by rw [HE.out]; rfl, HB2.out⟩
      · rw [d1] at HX
        rw [d2] at HY
        have HE := Lib.hid (HF.out hr)
        clear hr HF HT d1 d2
        go_wp2_with fail
        refine (HX.out _).mono ?_
        rintro e w1 ⟨rfl, rfl⟩
        go_wp2_with fail
        refine (HY.out _).mono ?_
        rintro e w1 ⟨rfl, rfl⟩
        go_wp2
        go_ret
        exact ⟨by rw [HE.out]; rfl, HB2.out⟩
      · rw [d1] at HX
        rw [d2] at HY
        rw [hr] at HT
        clear hr HF d1 d2
        go_wp2_with fail
        refine (HX.out _).mono ?_
        rintro e w1 ⟨rfl, rfl⟩
        go_wp2_with fail
        refine (HY.out _).mono ?_
        rintro e w1 ⟨rfl, rfl⟩
        go_wp2
        go_roundg (gk - 1)
        case measure => omega
        case rel => exact ⟨i + 1, by omega, by go_num, HT, HB2⟩
    · have ti : decide ((i : Int) < (n : Int)) = false := by simp; omega
      have HE : Hid (rights l = true) := by
        have h1 := HR.out
        rw [List.take_of_length_le (by rw [HL.out]; omega)] at h1
        exact h1
      go_wp2
      go_ret
      exact ⟨by rw [HE.out]; rfl, HB.out⟩
set_option maxRecDepth 100000 in
set_option maxHeartbeats 800000 in
theorem geomturn_any (ax ay az bx bY bz cx cy cz : Int) (w : World) (hr : rights [(ax, ay, az), (bx, bY, bz), (cx, cy, cz)] = true) : Calls Try.prog 27 #[.agg #[.int .i64 ax, .int .i64 ay, .int .i64 az], .agg #[.int .i64 bx, .int .i64 bY, .int .i64 bz], .agg #[.int .i64 cx, .int .i64 cy, .int .i64 cz]] w fun e w' => e = .returned (.int .i64 (turnF (ax, ay, az) (bx, bY, bz) (cx, cy, cz))) ∧ Below w.heap.size w w' := by
  have HT1 := Lib.hid (Tri.new w (ax, ay, az) (bx, bY, bz) (cx, cy, cz))
  have HE : Hid (turnF (ax, ay, az) (bx, bY, bz) (cx, cy, cz) = cmpI ((bx - ax) * (cy - ay)) ((bY - ay) * (cx - ax))) := if_pos hr
  rw [HE.out]
  obtain ⟨r1, r2, r3⟩ := rights3 hr
  have q1 := rightP_iff.1 r1
  have q2 := rightP_iff.1 r2
  have q3 := rightP_iff.1 r3
  simp only at q1 q2 q3
  obtain ⟨d1, e1⟩ : ∃ d, bx - ax = d := ⟨_, rfl⟩
  obtain ⟨d2, e2⟩ : ∃ d, cy - ay = d := ⟨_, rfl⟩
  obtain ⟨d3, e3⟩ : ∃ d, bY - ay = d := ⟨_, rfl⟩
  obtain ⟨d4, e4⟩ : ∃ d, cx - ax = d := ⟨_, rfl⟩
  have i1 : -4294967296 ≤ d1 ∧ d1 ≤ 4294967296 := by omega
  have i2 : -4294967296 ≤ d2 ∧ d2 ≤ 4294967296 := by omega
  have i3 : -4294967296 ≤ d3 ∧ d3 ≤ 4294967296 := by omega
  have i4 : -4294967296 ≤ d4 ∧ d4 ≤ 4294967296 := by omega
  have g1 : IntKind.wrap .i64 (bx - ax) = d1 := by rw [IntKind.wrap_i64]; omega
  have g2 : IntKind.wrap .i64 (cy - ay) = d2 := by rw [IntKind.wrap_i64]; omega
  have g3 : IntKind.wrap .i64 (bY - ay) = d3 := by rw [IntKind.wrap_i64]; omega
  have g4 : IntKind.wrap .i64 (cx - ax) = d4 := by rw [IntKind.wrap_i64]; omega
  have f1 : wrap64 (bx - ax) = d1 := by unfold wrap64; omega
  have f2 : wrap64 (cy - ay) = d2 := by unfold wrap64; omega
  have f3 : wrap64 (bY - ay) = d3 := by unfold wrap64; omega
  have f4 : wrap64 (cx - ax) = d4 := by unfold wrap64; omega
  have HP1 := Lib.hid (fun W => wideMul_any d1 d2 W (by unfold i64W; omega) (by unfold i64W; omega))
  have HP2 := Lib.hid (fun W => wideMul_any d3 d4 W (by unfold i64W; omega) (by unfold i64W; omega))
  have HCm := Lib.hid (fun W => wideCmpC_any (d1 * d2) (d3 * d4) W (prod_in9 i1 i2) (prod_in9 i3 i4))
  rw [e1, e2, e3, e4] at HE ⊢
  clear q1 q2 q3 r1 r2 r3 hr i1 i2 i3 i4 e1 e2 e3 e4 HE
  go_enter Try.func27, Try.ntmps27
  go_wp2_with (with_reducible fail)
  generalize (((w.alloc (.cells #[.int .i64 ax, .int .i64 ay, .int .i64 az] 23)).alloc (.cells #[.int .i64 bx, .int .i64 bY, .int .i64 bz] 23)).alloc (.cells #[.int .i64 cx, .int .i64 cy, .int .i64 cz] 23)) = w1 at *
  have HS : Hid (∀ W, Below w1.heap.size w1 W → W.cell? ⟨w.heap.size, 0, none⟩ = some (.int .i64 ax) ∧ W.cell? ⟨w.heap.size, 1, none⟩ = some (.int .i64 ay) ∧ W.cell? ⟨w.heap.size + 1, 0, none⟩ = some (.int .i64 bx) ∧ W.cell? ⟨w.heap.size + 1, 1, none⟩ = some (.int .i64 bY) ∧ W.cell? ⟨w.heap.size + 2, 0, none⟩ = some (.int .i64 cx) ∧ W.cell? ⟨w.heap.size + 2, 1, none⟩ = some (.int .i64 cy)) := fun W hW =>
    have h := HT1.out.next hW
    ⟨h.b0.cell 0, h.b0.cell 1, h.b1.cell 0, h.b1.cell 1, h.b2.cell 0, h.b2.cell 1⟩
  have HBv0 : Hid (Below w1.heap.size w1 w1.drew) := (Below.refl _ _).drew
  go_region_held3 (fun W => W.cell? ⟨w.heap.size, 0, none⟩ = some (.int .i64 ax) ∧ W.cell? ⟨w.heap.size, 1, none⟩ = some (.int .i64 ay) ∧ W.cell? ⟨w.heap.size + 1, 0, none⟩ = some (.int .i64 bx) ∧ W.cell? ⟨w.heap.size + 1, 1, none⟩ = some (.int .i64 bY) ∧ W.cell? ⟨w.heap.size + 2, 0, none⟩ = some (.int .i64 cx) ∧ W.cell? ⟨w.heap.size + 2, 1, none⟩ = some (.int .i64 cy)) (first | (with_reducible exact HS.out _ HBv3.out) | (with_reducible exact HS.out _ HBv2.out) | (with_reducible exact HS.out _ HBv1.out) | (with_reducible exact HS.out _ HBv0.out)) (first
    | (go_at_call 40; (with_reducible refine (HP1.out w1.drew).mono ?_); rintro e v1 ⟨rfl, hb1⟩; have HBv1 := Lib.hid (new_call HBv0.out hb1); clear hb1)
    | (go_at_call 40; (with_reducible refine (HP2.out v1).mono ?_); rintro e v2 ⟨rfl, hb2⟩; have HBv2 := Lib.hid (new_call HBv1.out hb2); clear hb2)
    | (go_at_call 40; (with_reducible refine (HP2.out w1.drew).mono ?_); rintro e v1 ⟨rfl, hb2⟩; have HBv1 := Lib.hid (new_call HBv0.out hb2); clear hb2)
    | (go_at_call 40; (with_reducible refine (HP1.out v1).mono ?_); rintro e v2 ⟨rfl, hb1⟩; have HBv2 := Lib.hid (new_call HBv1.out hb1); clear hb1)
    | (go_at_call 46; (with_reducible refine (HCm.out v2).mono ?_); rintro e v3 ⟨rfl, hb3⟩; have HBv3 := Lib.hid (new_call HBv2.out hb3); clear hb3))
  all_goals
    go_wp2
    go_ret
    exact ⟨rfl, (HT1.out.next HBv3.out).bel⟩
set_option maxRecDepth 100000 in
theorem geombetween_any (n a b : Int) (w : World) : Calls Try.prog 49 #[.int .i64 n, .int .i64 a, .int .i64 b] w fun e w' => e = .returned (.bool (withinF n a b)) ∧ w = w' := by
  rw [← between_is]
  rcases Int.lt_trichotomy a b with hab | rfl | hab
  all_goals
    go_enter Try.func49, Try.ntmps49
    go_wp2
    all_goals
      go_ret
      refine ⟨congrArg (fun r => Ending.returned (Value.bool r)) ?_, rfl⟩
      rw [Bool.eq_iff_iff]
      constructor <;> intro h <;> (try simp only [Bool.and_eq_true, decide_eq_true_eq, Bool.false_eq_true] at h ⊢) <;> omega
set_option maxRecDepth 100000 in
set_option maxHeartbeats 800000 in
theorem geomfar_any (a b c d : Int) (w : World) : Calls Try.prog 35 #[.int .i64 a, .int .i64 b, .int .i64 c, .int .i64 d] w fun e w' => e = .returned (.bool (farF a b c d)) ∧ w = w' := by
  unfold farF
  rcases Int.lt_trichotomy a b with hab | rfl | hab <;> rcases Int.lt_trichotomy c d with hcd | rfl | hcd
  all_goals
    go_enter Try.func35, Try.ntmps35
    go_wp2
    all_goals
      go_ret
      refine ⟨congrArg (fun r => Ending.returned (Value.bool r)) ?_, rfl⟩
      apply Bool.eq_iff_iff.2
      constructor <;> intro h <;> (try simp only [Bool.or_eq_true, decide_eq_true_eq] at h ⊢) <;> omega
theorem p3_load (W : World) (a b c : Value) (g : Nat) (h : Blk W g 23 #[a, b, c]) : (loadVar 23 ⟨g, 0, none⟩).run Try.prog W = .ok (.agg #[a, b, c]) W := by
  obtain ⟨kz, ks⟩ := zero_of_info p3Info
  exact run_loadVar_row _ _ _ _ _ _ _ h Try.underlying23 rfl (by rw [ks]; rfl)
theorem rights3_last {p a b : P3} (h : rights [p, a, b] = true) : rights [a, b, p] = true := by
  have := rights3 h
  simp [rights, this.1, this.2.1, this.2.2]
set_option maxRecDepth 100000 in
set_option maxHeartbeats 800000 in
theorem geomon_any (px py pz ax ay az bx bY bz : Int) (w : World) (hr : rights [(px, py, pz), (ax, ay, az), (bx, bY, bz)] = true) : Calls Try.prog 30 #[.agg #[.int .i64 px, .int .i64 py, .int .i64 pz], .agg #[.int .i64 ax, .int .i64 ay, .int .i64 az], .agg #[.int .i64 bx, .int .i64 bY, .int .i64 bz]] w fun e w' => e = .returned (.bool (onF (px, py, pz) (ax, ay, az) (bx, bY, bz))) ∧ Below w.heap.size w w' := by
  have HT1 := Lib.hid (Tri.new w (px, py, pz) (ax, ay, az) (bx, bY, bz))
  have HTu := Lib.hid (fun W => geomturn_any ax ay az bx bY bz px py pz W (rights3_last hr))
  have HW1 := Lib.hid (fun W => geombetween_any px ax bx W)
  have HW2 := Lib.hid (fun W => geombetween_any py ay bY W)
  have HE : Hid (onF (px, py, pz) (ax, ay, az) (bx, bY, bz) = (withinF px ax bx && (withinF py ay bY && decide (turnF (ax, ay, az) (bx, bY, bz) (px, py, pz) = 0)))) := by
    show _ = _
    unfold onF
    rw [hr]
    simp only
    cases withinF px ax bx <;> cases withinF py ay bY <;> cases decide (turnF (ax, ay, az) (bx, bY, bz) (px, py, pz) = 0) <;> rfl
  rw [HE.out]
  clear HE hr
  generalize turnF (ax, ay, az) (bx, bY, bz) (px, py, pz) = t at *
  generalize withinF px ax bx = u at *
  generalize withinF py ay bY = v at *
  have HT : Hid ((decide (t = 0) = true ∧ t = 0) ∨ (decide (t = 0) = false ∧ (t == 0) = false)) := by
    by_cases h : t = 0
    · exact Or.inl ⟨by simpa using h, h⟩
    · exact Or.inr ⟨by simpa using h, beq_eq_false_iff_ne.2 h⟩
  obtain ⟨c0, c1, c2, c3, c4, c5, c6, c7, c8⟩ := HT1.out.cells
  simp only at c0 c1 c2 c3 c4 c5 c6 c7 c8
  cases u with
  | false =>
    go_enter Try.func30, Try.ntmps30
    go_wp2_with fail
    refine (HW1.out _).mono ?_
    rintro e w3 ⟨rfl, rfl⟩
    go_wp2
    go_ret
    exact ⟨rfl, HT1.out.bel⟩
  | true =>
    cases v with
    | false =>
      go_enter Try.func30, Try.ntmps30
      go_wp2_with fail
      refine (HW1.out _).mono ?_
      rintro e w3 ⟨rfl, rfl⟩
      go_wp2_with fail
      refine (HW2.out _).mono ?_
      rintro e w3 ⟨rfl, rfl⟩
      go_wp2
      go_ret
      exact ⟨rfl, HT1.out.bel⟩
    | true =>
      go_enter Try.func30, Try.ntmps30
      go_wp2_with fail
      refine (HW1.out _).mono ?_
      rintro e w3 ⟨rfl, rfl⟩
      go_wp2_with fail
      refine (HW2.out _).mono ?_
      rintro e w3 ⟨rfl, rfl⟩
      go_wp2_with fail
      refine (HTu.out _).mono ?_
      rintro e w3 ⟨rfl, hb3⟩
      rcases HT.out with ⟨h1, rfl⟩ | ⟨h1, h2⟩
      · clear h1 HT HTu
        go_wp2
        go_ret
        exact ⟨rfl, (HT1.out.next hb3).bel⟩
      · clear HT HTu
        go_wp2
        go_ret
        exact ⟨by rw [h1]; rfl, (HT1.out.next hb3).bel⟩
set_option maxRecDepth 100000 in
set_option maxHeartbeats 800000 in
theorem geomfollowing_any (A : Option Addr) (n c : Nat) (l : List P3) (w : World) (h : HasK 3 w A n c (p3Cells l)) (hn : n ≤ 100000) (i : Nat) (hi : i < l.length) (x y z : Int) (hx : (if h2 : i + 1 < l.length then l[i + 1] else l[0]'(by omega)) = (x, y, z)) : Calls Try.prog 38 #[.slice A n c, .int .i64 i] w fun e w' => e = .returned (.agg #[.int .i64 x, .int .i64 y, .int .i64 z]) ∧ Below w.heap.size w w' := by
  have HL : Hid (l.length = n) := by have := h.len; rw [p3Cells_len] at this; show _ = _; omega
  obtain ⟨j, hj, hjl, hjp⟩ : ∃ j : Nat, j = (i + 1) % n ∧ ∃ hl : j < l.length, l[j] = (x, y, z) := by
    have hln := HL.out
    by_cases h2 : i + 1 < l.length
    · rw [dif_pos h2] at hx
      exact ⟨i + 1, (Nat.mod_eq_of_lt (by omega)).symm, h2, hx⟩
    · rw [dif_neg h2] at hx
      have h3 : i + 1 = n := by omega
      exact ⟨0, by rw [h3, Nat.mod_self], by omega, hx⟩
  obtain ⟨b, off, rfl, hlt, _⟩ := h.spot (by have := HL.out; omega)
  have HB := Lib.hid (new_alloc (Below.refl w.heap.size w) (.cells #[.int .i64 0, .int .i64 0, .int .i64 0] 23))
  obtain ⟨c0, c1, c2⟩ := p3_at (h.kept HB.out) hjl
  rw [hjp] at c0 c1 c2
  simp only at c0 c1 c2
  have hn0 : (n : Int) ≠ 0 := by have := HL.out; omega
  have g1 : IntKind.wrap .i64 ((i : Int) + 1) = (i : Int) + 1 := by rw [IntKind.wrap_i64]; have := HL.out; omega
  have g2 : ((i : Int) + 1).tmod (n : Int) = (j : Int) := by
    rw [Int.tmod_eq_emod_of_nonneg (by omega), hj]
    exact (Int.natCast_emod (i + 1) n).symm
  have j1 : j < n := by have := HL.out; omega
  have j2 : (j : Int) < (n : Int) := by omega
  have HK := Lib.hid (Blk.new w 23 #[.int .i64 x, .int .i64 y, .int .i64 z])
  clear hx hj hjp hjl
  go_enter Try.func38, Try.ntmps38
  go_wp2
  try rw [Exit.noGoto_ret]
  exact bodyPost_ret (results_cell8 Try.results38 rfl (p3_load _ _ _ _ _ HK.out)) rfl ⟨rfl, new_alloc (Below.refl _ _) _⟩
end Go.Proofs.Ytnhoinonojhgiaa
