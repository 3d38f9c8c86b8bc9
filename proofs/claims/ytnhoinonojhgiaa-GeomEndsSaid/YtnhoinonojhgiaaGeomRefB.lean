/- lapidaryref09: Turn, within, On. -/
import Derived.Test.YtnhoinonojhgiaaGeomRef
import Derived.Deep.RegionHeld3
namespace Go.Proofs.Ytnhoinonojhgiaa
open Go.RowKit

theorem prod_in9 {x y : Int} (hx : -4294967296 ≤ x ∧ x ≤ 4294967296) (hy : -4294967296 ≤ y ∧ y ≤ 4294967296) : inW (x * y) := by
  have h : (x * y).natAbs ≤ 4294967296 * 4294967296 := by
    rw [Int.natAbs_mul]
    exact Nat.mul_le_mul (by omega) (by omega)
  unfold inW
  omega
theorem rights3 {a b c : P3} (h : rights [a, b, c] = true) : rightP a = true ∧ rightP b = true ∧ rightP c = true := by
  simp [rights] at h
  exact h
/-- Three points in blocks of the call's own. -/
structure Tri (w : World) (a b c : P3) (wx : World) : Prop where
  b0 : Blk wx w.heap.size 23 #[.int .i64 a.1, .int .i64 a.2.1, .int .i64 a.2.2]
  b1 : Blk wx (w.heap.size + 1) 23 #[.int .i64 b.1, .int .i64 b.2.1, .int .i64 b.2.2]
  b2 : Blk wx (w.heap.size + 2) 23 #[.int .i64 c.1, .int .i64 c.2.1, .int .i64 c.2.2]
  bel : Below w.heap.size w wx
theorem blk_two (w : World) (o : Obj) (t : TypeId) (cs : Array Value) : Blk ((w.alloc o).alloc (.cells cs t)) (w.heap.size + 1) t cs := by
  have h := Blk.new (w.alloc o) t cs
  rw [show (w.alloc o).heap.size = w.heap.size + 1 from Array.size_push _] at h
  exact h
theorem blk_three (w : World) (o p : Obj) (t : TypeId) (cs : Array Value) : Blk (((w.alloc o).alloc p).alloc (.cells cs t)) (w.heap.size + 2) t cs := by
  have h := Blk.new ((w.alloc o).alloc p) t cs
  rw [show ((w.alloc o).alloc p).heap.size = w.heap.size + 2 from by show (Array.push _ _).size = _; rw [Array.size_push]; exact congrArg (· + 1) (Array.size_push _)] at h
  exact h
theorem size_three (w : World) (o p q : Obj) : w.heap.size + 3 = (((w.alloc o).alloc p).alloc q).heap.size := by
  show _ = (Array.push _ _).size
  rw [Array.size_push]
  show _ = (Array.push _ _).size + 1
  rw [Array.size_push]
  show _ = (Array.push _ _).size + 1 + 1
  rw [Array.size_push]
theorem Tri.new (w : World) (a b c : P3) : Tri w a b c (((w.alloc (.cells #[.int .i64 a.1, .int .i64 a.2.1, .int .i64 a.2.2] 23)).alloc (.cells #[.int .i64 b.1, .int .i64 b.2.1, .int .i64 b.2.2] 23)).alloc (.cells #[.int .i64 c.1, .int .i64 c.2.1, .int .i64 c.2.2] 23)) :=
  ⟨((Blk.new w _ _).alloc _).alloc _, (blk_two w _ _ _).alloc _, blk_three w _ _ _ _, new_alloc (new_alloc (new_alloc (Below.refl _ _) _) _) _⟩
theorem Tri.next {w wx w' : World} {a b c : P3} (h : Tri w a b c wx) (hb : Below wx.heap.size wx w') : Tri w a b c w' :=
  ⟨h.b0.below hb h.b0.lt, h.b1.below hb h.b1.lt, h.b2.below hb h.b2.lt, new_call h.bel hb⟩
/-- Their nine cells. -/
def TriC (g : Nat) (a b c : P3) (W : World) : Prop :=
  W.cell? ⟨g, 0, none⟩ = some (.int .i64 a.1) ∧ W.cell? ⟨g, 1, none⟩ = some (.int .i64 a.2.1) ∧ W.cell? ⟨g, 2, none⟩ = some (.int .i64 a.2.2) ∧
  W.cell? ⟨g + 1, 0, none⟩ = some (.int .i64 b.1) ∧ W.cell? ⟨g + 1, 1, none⟩ = some (.int .i64 b.2.1) ∧ W.cell? ⟨g + 1, 2, none⟩ = some (.int .i64 b.2.2) ∧
  W.cell? ⟨g + 2, 0, none⟩ = some (.int .i64 c.1) ∧ W.cell? ⟨g + 2, 1, none⟩ = some (.int .i64 c.2.1) ∧ W.cell? ⟨g + 2, 2, none⟩ = some (.int .i64 c.2.2)
theorem Tri.cells {w wx : World} {a b c : P3} (h : Tri w a b c wx) : TriC w.heap.size a b c wx :=
  ⟨h.b0.cell 0, h.b0.cell 1, h.b0.cell 2, h.b1.cell 0, h.b1.cell 1, h.b1.cell 2, h.b2.cell 0, h.b2.cell 1, h.b2.cell 2⟩
set_option maxRecDepth 100000 in
set_option maxHeartbeats 800000 in
theorem ref9Turn_any (ax ay az bx bY bz cx cy cz : Int) (w : World) : Calls Try.prog 12 #[.agg #[.int .i64 ax, .int .i64 ay, .int .i64 az], .agg #[.int .i64 bx, .int .i64 bY, .int .i64 bz], .agg #[.int .i64 cx, .int .i64 cy, .int .i64 cz]] w fun e w' => e = .returned (.int .i64 (turnF (ax, ay, az) (bx, bY, bz) (cx, cy, cz))) ∧ Below w.heap.size w w' := by
  have HT0 := Lib.hid (Tri.new w (ax, ay, az) (bx, bY, bz) (cx, cy, cz))
  have HR := Lib.hid (ref9Right_any (some ⟨w.heap.size + 3, 0, none⟩) 3 3 [(ax, ay, az), (bx, bY, bz), (cx, cy, cz)] ((((w.alloc (.cells #[.int .i64 ax, .int .i64 ay, .int .i64 az] 23)).alloc (.cells #[.int .i64 bx, .int .i64 bY, .int .i64 bz] 23)).alloc (.cells #[.int .i64 cx, .int .i64 cy, .int .i64 cz] 23)).alloc (.cells #[.int .i64 ax, .int .i64 ay, .int .i64 az, .int .i64 bx, .int .i64 bY, .int .i64 bz, .int .i64 cx, .int .i64 cy, .int .i64 cz] 23)) (HasK.new_at 3 _ _ _ _ 3 (size_three w _ _ _) rfl) (by decide))
  by_cases hr : rights [(ax, ay, az), (bx, bY, bz), (cx, cy, cz)] = true
  · have HE : Hid (turnF (ax, ay, az) (bx, bY, bz) (cx, cy, cz) = cmpI ((bx - ax) * (cy - ay)) ((bY - ay) * (cx - ax))) := if_pos hr
    rw [HE.out]
    obtain ⟨r1, r2, r3⟩ := rights3 hr
    have q1 := rightP_iff.1 r1
    have q2 := rightP_iff.1 r2
    have q3 := rightP_iff.1 r3
    simp only at q1 q2 q3
    obtain ⟨d1, e1⟩ : ∃ d, bx - ax = d := ⟨_, rfl⟩
    obtain ⟨d2, e2⟩ : ∃ d, cy - ay = d := ⟨_, rfl⟩
    obtain ⟨d3, e3⟩ : ∃ d, bY - ay = d := ⟨_, rfl⟩
    obtain ⟨d4, e4⟩ : ∃ d, cx - ax = d := ⟨_, rfl⟩
    have i1 : -4294967296 ≤ d1 ∧ d1 ≤ 4294967296 := by omega
    have i2 : -4294967296 ≤ d2 ∧ d2 ≤ 4294967296 := by omega
    have i3 : -4294967296 ≤ d3 ∧ d3 ≤ 4294967296 := by omega
    have i4 : -4294967296 ≤ d4 ∧ d4 ≤ 4294967296 := by omega
    have g1 : IntKind.wrap .i64 (bx - ax) = d1 := by rw [IntKind.wrap_i64]; omega
    have g2 : IntKind.wrap .i64 (cy - ay) = d2 := by rw [IntKind.wrap_i64]; omega
    have g3 : IntKind.wrap .i64 (bY - ay) = d3 := by rw [IntKind.wrap_i64]; omega
    have g4 : IntKind.wrap .i64 (cx - ax) = d4 := by rw [IntKind.wrap_i64]; omega
    have f1 : wrap64 (bx - ax) = d1 := by unfold wrap64; omega
    have f2 : wrap64 (cy - ay) = d2 := by unfold wrap64; omega
    have f3 : wrap64 (bY - ay) = d3 := by unfold wrap64; omega
    have f4 : wrap64 (cx - ax) = d4 := by unfold wrap64; omega
    have HP1 := Lib.hid (fun W => ref9product_any d1 d2 W (by unfold i64W; omega) (by unfold i64W; omega))
    have HP2 := Lib.hid (fun W => ref9product_any d3 d4 W (by unfold i64W; omega) (by unfold i64W; omega))
    have HCm := Lib.hid (fun A c B d W hA hB => ref8Cmp_any A c (d1 * d2) B d (d3 * d4) W hA hB (prod_in9 i1 i2) (prod_in9 i3 i4))
    rw [e1, e2, e3, e4] at HE ⊢
    rw [hr] at HR
    clear q1 q2 q3 r1 r2 r3 hr i1 i2 i3 i4 e1 e2 e3 e4 HE
    go_enter Try.func12, Try.ntmps12
    go_wp2_with fail
    refine HR.out.mono ?_
    rintro e w1 ⟨rfl, hb1⟩
    have HT1 := Lib.hid (HT0.out.next (new_call (new_alloc (Below.refl _ _) _) hb1))
    clear hb1 HT0 HR
    go_wp2_with (with_reducible fail)
    have HS : Hid (∀ W, Below w1.heap.size w1 W → W.cell? ⟨w.heap.size, 0, none⟩ = some (.int .i64 ax) ∧ W.cell? ⟨w.heap.size, 1, none⟩ = some (.int .i64 ay) ∧ W.cell? ⟨w.heap.size + 1, 0, none⟩ = some (.int .i64 bx) ∧ W.cell? ⟨w.heap.size + 1, 1, none⟩ = some (.int .i64 bY) ∧ W.cell? ⟨w.heap.size + 2, 0, none⟩ = some (.int .i64 cx) ∧ W.cell? ⟨w.heap.size + 2, 1, none⟩ = some (.int .i64 cy)) := fun W hW =>
      have h := HT1.out.next hW
      ⟨h.b0.cell 0, h.b0.cell 1, h.b1.cell 0, h.b1.cell 1, h.b2.cell 0, h.b2.cell 1⟩
    have HBv0 : Hid (Below w1.heap.size w1 w1.drew) := (Below.refl _ _).drew
    go_region_held3 (fun W => W.cell? ⟨w.heap.size, 0, none⟩ = some (.int .i64 ax) ∧ W.cell? ⟨w.heap.size, 1, none⟩ = some (.int .i64 ay) ∧ W.cell? ⟨w.heap.size + 1, 0, none⟩ = some (.int .i64 bx) ∧ W.cell? ⟨w.heap.size + 1, 1, none⟩ = some (.int .i64 bY) ∧ W.cell? ⟨w.heap.size + 2, 0, none⟩ = some (.int .i64 cx) ∧ W.cell? ⟨w.heap.size + 2, 1, none⟩ = some (.int .i64 cy)) (first | (with_reducible exact HS.out _ HBv3.out) | (with_reducible exact HS.out _ HBv2.out) | (with_reducible exact HS.out _ HBv1.out) | (with_reducible exact HS.out _ HBv0.out)) (first
      | (go_at_call 29; (with_reducible refine (HP1.out w1.drew).mono ?_); rintro e v1 ⟨A1, c1, rfl, hh1, hb1, _⟩; have HBv1 := Lib.hid (new_call HBv0.out hb1); have HH1 := Lib.hid hh1; clear hh1 hb1)
      | (go_at_call 29; (with_reducible refine (HP2.out v1).mono ?_); rintro e v2 ⟨A2, c2, rfl, hh2, hb2, _⟩; have HBv2 := Lib.hid (new_call HBv1.out hb2); have HCw := Lib.hid (HCm.out A1 c1 A2 c2 v2 (HH1.out.kept hb2) hh2); clear hh2 hb2)
      | (go_at_call 29; (with_reducible refine (HP2.out w1.drew).mono ?_); rintro e v1 ⟨A2, c2, rfl, hh2, hb2, _⟩; have HBv1 := Lib.hid (new_call HBv0.out hb2); have HH2 := Lib.hid hh2; clear hh2 hb2)
      | (go_at_call 29; (with_reducible refine (HP1.out v1).mono ?_); rintro e v2 ⟨A1, c1, rfl, hh1, hb1, _⟩; have HBv2 := Lib.hid (new_call HBv1.out hb1); have HCw := Lib.hid (HCm.out A1 c1 A2 c2 v2 hh1 (HH2.out.kept hb1)); clear hh1 hb1)
      | (go_at_call 28; (with_reducible refine HCw.out.mono ?_); rintro e v3 ⟨rfl, hb3⟩; have HBv3 := Lib.hid (new_call HBv2.out hb3); clear hb3))
    all_goals
      go_wp2
      go_ret
      exact ⟨rfl, (HT1.out.next HBv3.out).bel⟩
  · have hr2 : rights [(ax, ay, az), (bx, bY, bz), (cx, cy, cz)] = false := by simpa using hr
    have HE : Hid (turnF (ax, ay, az) (bx, bY, bz) (cx, cy, cz) = 0) := if_neg hr
    rw [HE.out]
    rw [hr2] at HR
    clear hr hr2
    go_enter Try.func12, Try.ntmps12
    go_wp2_with fail
    refine HR.out.mono ?_
    rintro e w1 ⟨rfl, hb1⟩
    go_wp2
    go_ret
    exact ⟨rfl, (HT0.out.next (new_call (new_alloc (Below.refl _ _) _) hb1)).bel⟩
set_option maxRecDepth 100000 in
theorem ref9within_any (n a b : Int) (w : World) : Calls Try.prog 31 #[.int .i64 n, .int .i64 a, .int .i64 b] w fun e w' => e = .returned (.bool (withinF n a b)) ∧ w = w' := by
  have h : withinF n a b = ((decide (a ≤ n) && decide (n ≤ b)) || (decide (b ≤ n) && decide (n ≤ a))) := rfl
  have hs : (decide (a ≤ n) = true ∧ decide (n ≤ b) = true ∧ withinF n a b = true) ∨ (decide (a ≤ n) = true ∧ decide (n ≤ b) = false ∧ decide (b ≤ n) = true ∧ decide (n ≤ a) = withinF n a b) ∨ (decide (a ≤ n) = true ∧ decide (n ≤ b) = false ∧ decide (b ≤ n) = false ∧ withinF n a b = false) ∨ (decide (a ≤ n) = false ∧ decide (b ≤ n) = true ∧ decide (n ≤ a) = withinF n a b) ∨ (decide (a ≤ n) = false ∧ decide (b ≤ n) = false ∧ withinF n a b = false) := by
    rw [h]
    cases decide (a ≤ n) <;> cases decide (n ≤ b) <;> cases decide (b ≤ n) <;> cases decide (n ≤ a) <;> simp
  generalize withinF n a b = r at *
  clear h
  rcases hs with ⟨h1, h2, rfl⟩ | ⟨h1, h2, h3, h4⟩ | ⟨h1, h2, h3, rfl⟩ | ⟨h1, h2, h3⟩ | ⟨h1, h2, rfl⟩
  all_goals
    go_enter Try.func31, Try.ntmps31
    go_wp2
    go_ret
    exact ⟨rfl, rfl⟩
set_option maxRecDepth 100000 in
set_option maxHeartbeats 800000 in
theorem ref9On_any (px py pz ax ay az bx bY bz : Int) (w : World) : Calls Try.prog 14 #[.agg #[.int .i64 px, .int .i64 py, .int .i64 pz], .agg #[.int .i64 ax, .int .i64 ay, .int .i64 az], .agg #[.int .i64 bx, .int .i64 bY, .int .i64 bz]] w fun e w' => e = .returned (.bool (onF (px, py, pz) (ax, ay, az) (bx, bY, bz))) ∧ Below w.heap.size w w' := by
  have HT0 := Lib.hid (Tri.new w (px, py, pz) (ax, ay, az) (bx, bY, bz))
  have HR := Lib.hid (ref9Right_any (some ⟨w.heap.size + 3, 0, none⟩) 3 3 [(px, py, pz), (ax, ay, az), (bx, bY, bz)] ((((w.alloc (.cells #[.int .i64 px, .int .i64 py, .int .i64 pz] 23)).alloc (.cells #[.int .i64 ax, .int .i64 ay, .int .i64 az] 23)).alloc (.cells #[.int .i64 bx, .int .i64 bY, .int .i64 bz] 23)).alloc (.cells #[.int .i64 px, .int .i64 py, .int .i64 pz, .int .i64 ax, .int .i64 ay, .int .i64 az, .int .i64 bx, .int .i64 bY, .int .i64 bz] 23)) (HasK.new_at 3 _ _ _ _ 3 (size_three w _ _ _) rfl) (by decide))
  have HTu := Lib.hid (fun W => ref9Turn_any ax ay az bx bY bz px py pz W)
  have HW1 := Lib.hid (fun W => ref9within_any px ax bx W)
  have HW2 := Lib.hid (fun W => ref9within_any py ay bY W)
  have HE : Hid (onF (px, py, pz) (ax, ay, az) (bx, bY, bz) = (rights [(px, py, pz), (ax, ay, az), (bx, bY, bz)] && decide (turnF (ax, ay, az) (bx, bY, bz) (px, py, pz) = 0) && withinF px ax bx && withinF py ay bY)) := rfl
  rw [HE.out]
  clear HE
  generalize rights [(px, py, pz), (ax, ay, az), (bx, bY, bz)] = R at *
  generalize turnF (ax, ay, az) (bx, bY, bz) (px, py, pz) = t at *
  generalize withinF px ax bx = u at *
  generalize withinF py ay bY = v at *
  cases R with
  | false =>
    go_enter Try.func14, Try.ntmps14
    go_wp2_with fail
    refine HR.out.mono ?_
    rintro e w1 ⟨rfl, hb1⟩
    have HT1 := Lib.hid (HT0.out.next (new_call (new_alloc (Below.refl _ _) _) hb1))
    clear hb1 HT0 HR
    go_wp2
    go_ret
    exact ⟨rfl, HT1.out.bel⟩
  | true =>
    have HT : Hid ((decide (t = 0) = true ∧ t = 0) ∨ (decide (t = 0) = false ∧ (t == 0) = false)) := by
      by_cases h : t = 0
      · exact Or.inl ⟨by simpa using h, h⟩
      · exact Or.inr ⟨by simpa using h, beq_eq_false_iff_ne.2 h⟩
    go_enter Try.func14, Try.ntmps14
    go_wp2_with fail
    refine HR.out.mono ?_
    rintro e w1 ⟨rfl, hb1⟩
    have HT1 := Lib.hid (HT0.out.next (new_call (new_alloc (Below.refl _ _) _) hb1))
    obtain ⟨c0, c1, c2, c3, c4, c5, c6, c7, c8⟩ := HT1.out.cells
    simp only at c0 c1 c2 c3 c4 c5 c6 c7 c8
    clear hb1 HT0 HR
    go_wp2_with fail
    refine (HTu.out _).mono ?_
    rintro e w2 ⟨rfl, hb2⟩
    have HT2 := Lib.hid (HT1.out.next hb2)
    clear hb2 HT1 c0 c1 c2 c3 c4 c5 c6 c7 c8
    obtain ⟨c0, c1, c2, c3, c4, c5, c6, c7, c8⟩ := HT2.out.cells
    simp only at c0 c1 c2 c3 c4 c5 c6 c7 c8
    rcases HT.out with ⟨h1, rfl⟩ | ⟨h1, h2⟩
    · clear h1 HT HTu
      cases u with
      | true =>
        go_wp2_with fail
        refine (HW1.out _).mono ?_
        rintro e w3 ⟨rfl, rfl⟩
        go_wp2_with fail
        refine (HW2.out _).mono ?_
        rintro e w3 ⟨rfl, rfl⟩
        go_wp2
        go_ret
        exact ⟨by cases v <;> rfl, HT2.out.bel⟩
      | false =>
        go_wp2_with fail
        refine (HW1.out _).mono ?_
        rintro e w3 ⟨rfl, rfl⟩
        go_wp2
        go_ret
        exact ⟨rfl, HT2.out.bel⟩
    · clear HT HTu
      go_wp2
      go_ret
      exact ⟨by rw [h1]; rfl, HT2.out.bel⟩
end Go.Proofs.Ytnhoinonojhgiaa
