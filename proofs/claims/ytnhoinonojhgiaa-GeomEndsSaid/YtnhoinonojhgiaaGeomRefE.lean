/- lapidaryref09: Meet. -/
import Derived.Test.YtnhoinonojhgiaaGeomRefD
import Derived.Test.YtnhoinonojhgiaaKeep
import Derived.BigRegion
namespace Go.Proofs.Ytnhoinonojhgiaa
open Go.RowKit

theorem blk_four (w : World) (o p q : Obj) (t : TypeId) (cs : Array Value) : Blk ((((w.alloc o).alloc p).alloc q).alloc (.cells cs t)) (w.heap.size + 3) t cs := by
  have h := Blk.new (((w.alloc o).alloc p).alloc q) t cs
  rw [← size_three w o p q] at h
  exact h
theorem size_four (w : World) (o p q r : Obj) : w.heap.size + 4 = ((((w.alloc o).alloc p).alloc q).alloc r).heap.size := by
  show _ = (Array.push _ _).size
  rw [Array.size_push]
  exact congrArg (· + 1) (size_three w o p q)
/-- Four points in blocks of the call's own, and all of them in a row. -/
structure Four (w : World) (a b c d : P3) (wx : World) : Prop where
  b0 : Blk wx w.heap.size 23 #[.int .i64 a.1, .int .i64 a.2.1, .int .i64 a.2.2]
  b1 : Blk wx (w.heap.size + 1) 23 #[.int .i64 b.1, .int .i64 b.2.1, .int .i64 b.2.2]
  b2 : Blk wx (w.heap.size + 2) 23 #[.int .i64 c.1, .int .i64 c.2.1, .int .i64 c.2.2]
  b3 : Blk wx (w.heap.size + 3) 23 #[.int .i64 d.1, .int .i64 d.2.1, .int .i64 d.2.2]
  row : HasK 3 wx (some ⟨w.heap.size + 4, 0, none⟩) 4 4 (p3Cells [a, b, c, d])
  big : w.heap.size + 5 ≤ wx.heap.size
  bel : Below w.heap.size w wx
theorem Four.next {w wx w' : World} {a b c d : P3} (h : Four w a b c d wx) (hb : Below (w.heap.size + 5) wx w') : Four w a b c d w' :=
  ⟨h.b0.below hb (by omega), h.b1.below hb (by omega), h.b2.below hb (by omega), h.b3.below hb (by omega), by
    refine ⟨h.row.1, h.row.2, h.row.3, fun hn => ?_⟩
    obtain ⟨b, off, e, hlt, hc⟩ := h.row.spot hn
    cases e
    refine ⟨_, _, rfl, Nat.lt_of_lt_of_le (by have := h.big; omega) hb.size, fun j u hj => (hb.cell (p := ⟨_, _, none⟩) (by show w.heap.size + 4 < w.heap.size + 5; omega)).trans (hc j u hj)⟩,
    Nat.le_trans h.big hb.size, h.bel.trans (hb.mono (by omega))⟩
theorem neq_ways {x y z a b c : Int} (h : (x, y, z) ≠ (a, b, c)) : (x == a) = false ∨ ((x == a) = true ∧ (y == b) = false) ∨ ((x == a) = true ∧ (y == b) = true ∧ (z == c) = false) := by
  by_cases h1 : x = a
  · by_cases h2 : y = b
    · by_cases h3 : z = c
      · subst h1 h2 h3; exact absurd rfl h
      · exact Or.inr (Or.inr ⟨beq_iff_eq.2 h1, beq_iff_eq.2 h2, beq_eq_false_iff_ne.2 h3⟩)
    · exact Or.inr (Or.inl ⟨beq_iff_eq.2 h1, beq_eq_false_iff_ne.2 h2⟩)
  · exact Or.inl (beq_eq_false_iff_ne.2 h1)
theorem one_mul_range {x y : Int} (hx : -1 ≤ x ∧ x ≤ 1) (hy : -1 ≤ y ∧ y ≤ 1) : -1 ≤ x * y ∧ x * y ≤ 1 := by
  rcases (show x = -1 ∨ x = 0 ∨ x = 1 by omega) with rfl | rfl | rfl <;> omega
set_option maxRecDepth 100000 in
set_option maxHeartbeats 4000000 in
theorem ref9Meet_any (ax ay az bx bY bz cx cy cz dx dy dz : Int) (w : World) : Calls Try.prog 19 #[.agg #[.int .i64 ax, .int .i64 ay, .int .i64 az], .agg #[.int .i64 bx, .int .i64 bY, .int .i64 bz], .agg #[.int .i64 cx, .int .i64 cy, .int .i64 cz], .agg #[.int .i64 dx, .int .i64 dy, .int .i64 dz]] w fun e w' => e = .returned (.int .i64 (meetF (ax, ay, az) (bx, bY, bz) (cx, cy, cz) (dx, dy, dz))) ∧ Below w.heap.size w w' := by
  have HF0 : Hid (Four w (ax, ay, az) (bx, bY, bz) (cx, cy, cz) (dx, dy, dz) (((((w.alloc (.cells #[.int .i64 ax, .int .i64 ay, .int .i64 az] 23)).alloc (.cells #[.int .i64 bx, .int .i64 bY, .int .i64 bz] 23)).alloc (.cells #[.int .i64 cx, .int .i64 cy, .int .i64 cz] 23)).alloc (.cells #[.int .i64 dx, .int .i64 dy, .int .i64 dz] 23)).alloc (.cells #[.int .i64 ax, .int .i64 ay, .int .i64 az, .int .i64 bx, .int .i64 bY, .int .i64 bz, .int .i64 cx, .int .i64 cy, .int .i64 cz, .int .i64 dx, .int .i64 dy, .int .i64 dz] 23))) := ⟨((((Blk.new w _ _).alloc _).alloc _).alloc _).alloc _, (((blk_two w _ _ _).alloc _).alloc _).alloc _, ((blk_three w _ _ _ _).alloc _).alloc _, (blk_four w _ _ _ _ _).alloc _, HasK.new_at 3 _ _ _ _ 4 (size_four w _ _ _ _) rfl, by show _ ≤ (Array.push _ _).size; rw [Array.size_push]; exact Nat.succ_le_succ (Nat.le_of_eq (size_four w _ _ _ _)), new_alloc (new_alloc (new_alloc (new_alloc (new_alloc (Below.refl _ _) _) _) _) _) _⟩
  have HR := Lib.hid (ref9Right_any (some ⟨w.heap.size + 4, 0, none⟩) 4 4 [(ax, ay, az), (bx, bY, bz), (cx, cy, cz), (dx, dy, dz)] _ HF0.out.row (by decide))
  by_cases hr : rights [(ax, ay, az), (bx, bY, bz), (cx, cy, cz), (dx, dy, dz)] = true
  · have HE : Hid (meetF (ax, ay, az) (bx, bY, bz) (cx, cy, cz) (dx, dy, dz) = if 1 < (endsF (ax, ay, az) (bx, bY, bz) (cx, cy, cz) (dx, dy, dz) [] [(ax, ay, az), (bx, bY, bz), (cx, cy, cz), (dx, dy, dz)]).length then 3 else if (endsF (ax, ay, az) (bx, bY, bz) (cx, cy, cz) (dx, dy, dz) [] [(ax, ay, az), (bx, bY, bz), (cx, cy, cz), (dx, dy, dz)]).length = 1 then 1 else if turnF (ax, ay, az) (bx, bY, bz) (cx, cy, cz) * turnF (ax, ay, az) (bx, bY, bz) (dx, dy, dz) < 0 ∧ turnF (cx, cy, cz) (dx, dy, dz) (ax, ay, az) * turnF (cx, cy, cz) (dx, dy, dz) (bx, bY, bz) < 0 then 2 else 0) := if_pos hr
    rw [hr] at HR
    clear hr
    go_enter Try.func19, Try.ntmps19
    go_wp2_with fail
    refine HR.out.mono ?_
    rintro e w1 ⟨rfl, hb1⟩
    have HF1 := Lib.hid (HF0.out.next (hb1.mono HF0.out.big))
    clear hb1 HF0 HR
    go_wp2
    go_loopg [10, 11] 4 (fun g s10 s11 wx => ∃ (i : Nat) (acc : List P3) (A10 : Option Addr) (c10 : Nat), i + g = 4 ∧ acc.length ≤ i ∧ s11 = .int .i64 i ∧ s10 = .slice A10 acc.length c10 ∧ Hid (OwnK 3 wx (w.heap.size + 5) 23 (.slice A10 acc.length c10) acc.length (p3Cells acc)) ∧ Hid (Four w (ax, ay, az) (bx, bY, bz) (cx, cy, cz) (dx, dy, dz) wx) ∧ Hid (endsF (ax, ay, az) (bx, bY, bz) (cx, cy, cz) (dx, dy, dz) [] [(ax, ay, az), (bx, bY, bz), (cx, cy, cz), (dx, dy, dz)] = endsF (ax, ay, az) (bx, bY, bz) (cx, cy, cz) (dx, dy, dz) acc (([(ax, ay, az), (bx, bY, bz), (cx, cy, cz), (dx, dy, dz)] : List P3).drop i)))
    case atStart => exact ⟨0, [], none, 0, by omega, by decide, rfl, rfl, OwnK.nil _ _ _ _, HF1, rfl⟩
    case round =>
      obtain ⟨i, acc, A10, c10, hig, hai, rfl, rfl, HO, HF, HP⟩ := hrel
      clear HF1
      by_cases hi : i < 4
      · have ti : decide ((i : Int) < 4) = true := by simp; omega
        have i2 : (i : Int) < 4 := by omega
        have hil : i < ([(ax, ay, az), (bx, bY, bz), (cx, cy, cz), (dx, dy, dz)] : List P3).length := by simpa using hi
        have HPt : Hid (∀ W, Below (w.heap.size + 5) wr W → W.cell? ⟨w.heap.size + 4, i * 3, none⟩ = some (.int .i64 ([(ax, ay, az), (bx, bY, bz), (cx, cy, cz), (dx, dy, dz)] : List P3)[i].1) ∧ W.cell? ⟨w.heap.size + 4, i * 3 + 1, none⟩ = some (.int .i64 ([(ax, ay, az), (bx, bY, bz), (cx, cy, cz), (dx, dy, dz)] : List P3)[i].2.1) ∧ W.cell? ⟨w.heap.size + 4, i * 3 + 2, none⟩ = some (.int .i64 ([(ax, ay, az), (bx, bY, bz), (cx, cy, cz), (dx, dy, dz)] : List P3)[i].2.2)) := fun W hW => by
          have h := p3_at (HF.out.next hW).row hil
          rw [Nat.zero_add] at h
          exact h
        have HDr : Hid (([(ax, ay, az), (bx, bY, bz), (cx, cy, cz), (dx, dy, dz)] : List P3).drop i = ([(ax, ay, az), (bx, bY, bz), (cx, cy, cz), (dx, dy, dz)] : List P3)[i] :: ([(ax, ay, az), (bx, bY, bz), (cx, cy, cz), (dx, dy, dz)] : List P3).drop (i + 1)) := List.drop_eq_getElem_cons hil
        generalize ([(ax, ay, az), (bx, bY, bz), (cx, cy, cz), (dx, dy, dz)] : List P3)[i] = p at *
        obtain ⟨px, py, pz⟩ := p
        simp only at HPt
        clear hil
        have HSt : Hid (endsF (ax, ay, az) (bx, bY, bz) (cx, cy, cz) (dx, dy, dz) acc ((px, py, pz) :: ([(ax, ay, az), (bx, bY, bz), (cx, cy, cz), (dx, dy, dz)] : List P3).drop (i + 1)) = if !onF (px, py, pz) (ax, ay, az) (bx, bY, bz) || !onF (px, py, pz) (cx, cy, cz) (dx, dy, dz) then endsF (ax, ay, az) (bx, bY, bz) (cx, cy, cz) (dx, dy, dz) acc (([(ax, ay, az), (bx, bY, bz), (cx, cy, cz), (dx, dy, dz)] : List P3).drop (i + 1)) else if acc.length = 0 ∨ acc.head? ≠ some (px, py, pz) then endsF (ax, ay, az) (bx, bY, bz) (cx, cy, cz) (dx, dy, dz) (acc ++ [(px, py, pz)]) (([(ax, ay, az), (bx, bY, bz), (cx, cy, cz), (dx, dy, dz)] : List P3).drop (i + 1)) else endsF (ax, ay, az) (bx, bY, bz) (cx, cy, cz) (dx, dy, dz) acc (([(ax, ay, az), (bx, bY, bz), (cx, cy, cz), (dx, dy, dz)] : List P3).drop (i + 1))) := rfl
        rw [HDr.out, HSt.out] at HP
        clear HDr HSt
        have HO1 := Lib.hid (fun W => ref9On_any px py pz ax ay az bx bY bz W)
        have HO2 := Lib.hid (fun W => ref9On_any px py pz cx cy cz dx dy dz W)
        generalize onF (px, py, pz) (ax, ay, az) (bx, bY, bz) = o1 at *
        generalize onF (px, py, pz) (cx, cy, cz) (dx, dy, dz) = o2 at *
        have hz := HF.out.big
        have HS : Hid (∀ W, Below wr.heap.size wr W → W.cell? ⟨w.heap.size, 0, none⟩ = some (.int .i64 ax) ∧ W.cell? ⟨w.heap.size, 1, none⟩ = some (.int .i64 ay) ∧ W.cell? ⟨w.heap.size, 2, none⟩ = some (.int .i64 az) ∧ W.cell? ⟨w.heap.size + 1, 0, none⟩ = some (.int .i64 bx) ∧ W.cell? ⟨w.heap.size + 1, 1, none⟩ = some (.int .i64 bY) ∧ W.cell? ⟨w.heap.size + 1, 2, none⟩ = some (.int .i64 bz) ∧ W.cell? ⟨w.heap.size + 2, 0, none⟩ = some (.int .i64 cx) ∧ W.cell? ⟨w.heap.size + 2, 1, none⟩ = some (.int .i64 cy) ∧ W.cell? ⟨w.heap.size + 2, 2, none⟩ = some (.int .i64 cz) ∧ W.cell? ⟨w.heap.size + 3, 0, none⟩ = some (.int .i64 dx) ∧ W.cell? ⟨w.heap.size + 3, 1, none⟩ = some (.int .i64 dy) ∧ W.cell? ⟨w.heap.size + 3, 2, none⟩ = some (.int .i64 dz) ∧ W.cell? ⟨w.heap.size + 4, i * 3, none⟩ = some (.int .i64 px) ∧ W.cell? ⟨w.heap.size + 4, i * 3 + 1, none⟩ = some (.int .i64 py) ∧ W.cell? ⟨w.heap.size + 4, i * 3 + 2, none⟩ = some (.int .i64 pz)) := fun W hW =>
          have h := HF.out.next (hW.mono hz)
          have q := HPt.out W (hW.mono hz)
          ⟨h.b0.cell 0, h.b0.cell 1, h.b0.cell 2, h.b1.cell 0, h.b1.cell 1, h.b1.cell 2, h.b2.cell 0, h.b2.cell 1, h.b2.cell 2, h.b3.cell 0, h.b3.cell 1, h.b3.cell 2, q.1, q.2.1, q.2.2⟩
        have HBv0 : Hid (Below wr.heap.size wr wr.drew) := (Below.refl _ _).drew
        cases o1 with
        | false =>
          go_wp2_with (with_reducible fail)
          refine wp_region_held_drew (S := fun W => W.cell? ⟨w.heap.size, 0, none⟩ = some (.int .i64 ax) ∧ W.cell? ⟨w.heap.size, 1, none⟩ = some (.int .i64 ay) ∧ W.cell? ⟨w.heap.size, 2, none⟩ = some (.int .i64 az) ∧ W.cell? ⟨w.heap.size + 1, 0, none⟩ = some (.int .i64 bx) ∧ W.cell? ⟨w.heap.size + 1, 1, none⟩ = some (.int .i64 bY) ∧ W.cell? ⟨w.heap.size + 1, 2, none⟩ = some (.int .i64 bz) ∧ W.cell? ⟨w.heap.size + 2, 0, none⟩ = some (.int .i64 cx) ∧ W.cell? ⟨w.heap.size + 2, 1, none⟩ = some (.int .i64 cy) ∧ W.cell? ⟨w.heap.size + 2, 2, none⟩ = some (.int .i64 cz) ∧ W.cell? ⟨w.heap.size + 3, 0, none⟩ = some (.int .i64 dx) ∧ W.cell? ⟨w.heap.size + 3, 1, none⟩ = some (.int .i64 dy) ∧ W.cell? ⟨w.heap.size + 3, 2, none⟩ = some (.int .i64 dz) ∧ W.cell? ⟨w.heap.size + 4, i * 3, none⟩ = some (.int .i64 px) ∧ W.cell? ⟨w.heap.size + 4, i * 3 + 1, none⟩ = some (.int .i64 py) ∧ W.cell? ⟨w.heap.size + 4, i * 3 + 2, none⟩ = some (.int .i64 pz)) (by kernel_rfl) (HS.out _ (Below.refl _ _).drew) (fun hHeld => ?_)
          refine wpAnyH_take (i := 0) (oi := { dst := some 24, op := Go.Op.move (Go.Operand.tmp 9), type := 28, pos := "ref.go:49", after := #[], guard := none }) (v := ?uv0) rfl (by kernel_rfl) (by kernel_rfl) (by kernel_rfl) (fun _ _ _ h => h) (Or.inl ⟨by rfl, ?uy0⟩) (by assumption) ?ur0
          case uy0 => (intro w hSw; (try dsimp only at hSw); go_simp; try with_reducible rfl)
          (try simp only [Act.put, List.setIfInBounds_toArray, List.set_cons_zero, List.set_cons_succ])
          refine wpAnyH_take (i := 1) (oi := { dst := some 25, op := Go.Op.move (Go.Operand.tmp 11), type := 3, pos := "ref.go:49", after := #[], guard := none }) (v := ?uv1) rfl (by kernel_rfl) (by kernel_rfl) (by kernel_rfl) (fun _ _ _ h => h) (Or.inl ⟨by rfl, ?uy1⟩) (by assumption) ?ur1
          case uy1 => (intro w hSw; (try dsimp only at hSw); go_simp; try with_reducible rfl)
          (try simp only [Act.put, List.setIfInBounds_toArray, List.set_cons_zero, List.set_cons_succ])
          refine wpAnyH_take (i := 2) (oi := { dst := some 26, op := Go.Op.indexAddr 28 (Go.Operand.tmp 24) (Go.Operand.tmp 25), type := 0, pos := "ref.go:49", after := #[{ on := 0, ground := Go.Ground.data }, { on := 1, ground := Go.Ground.data }], guard := none }) (v := ?uv2) rfl (by kernel_rfl) (by kernel_rfl) (by kernel_rfl) (fun _ _ _ h => h) (Or.inl ⟨by rfl, ?uy2⟩) (by assumption) ?ur2
          case uy2 => (intro w hSw; (try dsimp only at hSw); go_simp; try with_reducible rfl)
          (try simp only [Act.put, List.setIfInBounds_toArray, List.set_cons_zero, List.set_cons_succ])
          refine wpAnyH_take (i := 3) (oi := { dst := some 27, op := Go.Op.load 23 (Go.Operand.tmp 26), type := 23, pos := "ref.go:49", after := #[{ on := 2, ground := Go.Ground.data }], guard := none }) (v := ?uv3) rfl (by kernel_rfl) (by kernel_rfl) (by kernel_rfl) (fun _ _ _ h => h) (Or.inl ⟨by rfl, ?uy3⟩) (by assumption) ?ur3
          case uy3 => (intro w hSw; (try dsimp only at hSw); go_simp; try with_reducible rfl)
          (try simp only [Act.put, List.setIfInBounds_toArray, List.set_cons_zero, List.set_cons_succ])
          refine wpAnyH_take (i := 4) (oi := { dst := some 28, op := Go.Op.load 23 (Go.Operand.tmp 4), type := 23, pos := "ref.go:49", after := #[], guard := none }) (v := ?uv4) rfl (by kernel_rfl) (by kernel_rfl) (by kernel_rfl) (fun _ _ _ h => h) (Or.inl ⟨by rfl, ?uy4⟩) (by assumption) ?ur4
          case uy4 => (intro w hSw; (try dsimp only at hSw); go_simp; try with_reducible rfl)
          (try simp only [Act.put, List.setIfInBounds_toArray, List.set_cons_zero, List.set_cons_succ])
          refine wpAnyH_take (i := 5) (oi := { dst := some 29, op := Go.Op.load 23 (Go.Operand.tmp 5), type := 23, pos := "ref.go:49", after := #[], guard := none }) (v := ?uv5) rfl (by kernel_rfl) (by kernel_rfl) (by kernel_rfl) (fun _ _ _ h => h) (Or.inl ⟨by rfl, ?uy5⟩) (by assumption) ?ur5
          case uy5 => (intro w hSw; (try dsimp only at hSw); go_simp; try with_reducible rfl)
          (try simp only [Act.put, List.setIfInBounds_toArray, List.set_cons_zero, List.set_cons_succ])
          refine wpAnyH_ready (rs := [6]) (by kernel_rfl) (by simp) ?_
          refine AllReadyH.cons (o := { dst := some 30, op := Go.Op.call { callee := Go.Callee.value (Go.Operand.func 14), args := #[Go.Operand.tmp 27, Go.Operand.tmp 28, Go.Operand.tmp 29], argTypes := #[23, 23, 23] }, type := 4, pos := "ref.go:49", after := #[{ on := 3, ground := Go.Ground.data }, { on := 4, ground := Go.Ground.data }, { on := 5, ground := Go.Ground.data }], guard := none }) rfl (fun K hK => ?_) AllReadyH.nil
          go_simp
          (go_at_call 14; (with_reducible refine (HO1.out _).mono ?_); rintro e v1 ⟨rfl, hb1⟩; have HBv1 := Lib.hid (new_call HBv0.out hb1); clear hb1)
          go_wp2_with fail
          refine hK.out _ _ ?_ (fun hHeld => ?_)
          · (first | (with_reducible exact HS.out _ HBv4.out) | (with_reducible exact HS.out _ HBv3.out) | (with_reducible exact HS.out _ HBv2.out) | (with_reducible exact HS.out _ HBv1.out) | (with_reducible exact HS.out _ HBv0.out))
          clear hK K
          (try simp only [Act.put, List.setIfInBounds_toArray, List.set_cons_zero, List.set_cons_succ])
          refine wpAnyH_take (i := 7) (oi := { dst := some 31, op := Go.Op.unOp Go.UnOp.not 4 (Go.Operand.tmp 30), type := 4, pos := "ref.go:49", after := #[{ on := 6, ground := Go.Ground.data }], guard := none }) (v := ?uv7) rfl (by kernel_rfl) (by kernel_rfl) (by kernel_rfl) (fun _ _ _ h => h) (Or.inl ⟨by rfl, ?uy7⟩) (by assumption) ?ur7
          case uy7 => (intro w hSw; (try dsimp only at hSw); go_simp; try with_reducible rfl)
          (try simp only [Act.put, List.setIfInBounds_toArray, List.set_cons_zero, List.set_cons_succ])
          refine wpAnyH_take (i := 8) (oi := { dst := some 32, op := Go.Op.move (Go.Operand.tmp 31), type := 4, pos := "ref.go:49", after := #[{ on := 7, ground := Go.Ground.data }, { on := 6, ground := Go.Ground.chain }], guard := none }) (v := ?uv8) rfl (by kernel_rfl) (by kernel_rfl) (by kernel_rfl) (fun _ _ _ h => h) (Or.inl ⟨by rfl, ?uy8⟩) (by assumption) ?ur8
          case uy8 => (intro w hSw; (try dsimp only at hSw); go_simp; try with_reducible rfl)
          (try simp only [Act.put, List.setIfInBounds_toArray, List.set_cons_zero, List.set_cons_succ])
          refine wpAnyH_take (i := 9) (oi := { dst := some 33, op := Go.Op.move (Go.Operand.tmp 9), type := 28, pos := "ref.go:49", after := #[{ on := 8, ground := Go.Ground.guard }], guard := some (8, false) }) (v := undef) rfl (by kernel_rfl) (by kernel_rfl) (by kernel_rfl) (fun _ _ _ h => h) (Or.inr ⟨by rfl, rfl⟩) (by assumption) ?_
          (try simp only [Act.put, List.setIfInBounds_toArray, List.set_cons_zero, List.set_cons_succ])
          refine wpAnyH_take (i := 10) (oi := { dst := some 34, op := Go.Op.move (Go.Operand.tmp 11), type := 3, pos := "ref.go:49", after := #[{ on := 8, ground := Go.Ground.guard }], guard := some (8, false) }) (v := undef) rfl (by kernel_rfl) (by kernel_rfl) (by kernel_rfl) (fun _ _ _ h => h) (Or.inr ⟨by rfl, rfl⟩) (by assumption) ?_
          (try simp only [Act.put, List.setIfInBounds_toArray, List.set_cons_zero, List.set_cons_succ])
          refine wpAnyH_take (i := 11) (oi := { dst := some 35, op := Go.Op.indexAddr 28 (Go.Operand.tmp 33) (Go.Operand.tmp 34), type := 0, pos := "ref.go:49", after := #[{ on := 9, ground := Go.Ground.data }, { on := 10, ground := Go.Ground.data }, { on := 8, ground := Go.Ground.guard }], guard := some (8, false) }) (v := undef) rfl (by kernel_rfl) (by kernel_rfl) (by kernel_rfl) (fun _ _ _ h => h) (Or.inr ⟨by rfl, rfl⟩) (by assumption) ?_
          (try simp only [Act.put, List.setIfInBounds_toArray, List.set_cons_zero, List.set_cons_succ])
          refine wpAnyH_take (i := 12) (oi := { dst := some 36, op := Go.Op.load 23 (Go.Operand.tmp 35), type := 23, pos := "ref.go:49", after := #[{ on := 11, ground := Go.Ground.data }, { on := 8, ground := Go.Ground.guard }], guard := some (8, false) }) (v := undef) rfl (by kernel_rfl) (by kernel_rfl) (by kernel_rfl) (fun _ _ _ h => h) (Or.inr ⟨by rfl, rfl⟩) (by assumption) ?_
          (try simp only [Act.put, List.setIfInBounds_toArray, List.set_cons_zero, List.set_cons_succ])
          refine wpAnyH_take (i := 13) (oi := { dst := some 37, op := Go.Op.load 23 (Go.Operand.tmp 6), type := 23, pos := "ref.go:49", after := #[{ on := 8, ground := Go.Ground.guard }], guard := some (8, false) }) (v := undef) rfl (by kernel_rfl) (by kernel_rfl) (by kernel_rfl) (fun _ _ _ h => h) (Or.inr ⟨by rfl, rfl⟩) (by assumption) ?_
          (try simp only [Act.put, List.setIfInBounds_toArray, List.set_cons_zero, List.set_cons_succ])
          refine wpAnyH_take (i := 14) (oi := { dst := some 38, op := Go.Op.load 23 (Go.Operand.tmp 7), type := 23, pos := "ref.go:49", after := #[{ on := 8, ground := Go.Ground.guard }], guard := some (8, false) }) (v := undef) rfl (by kernel_rfl) (by kernel_rfl) (by kernel_rfl) (fun _ _ _ h => h) (Or.inr ⟨by rfl, rfl⟩) (by assumption) ?_
          (try simp only [Act.put, List.setIfInBounds_toArray, List.set_cons_zero, List.set_cons_succ])
          refine wpAnyH_take (i := 15) (oi := { dst := some 39, op := Go.Op.call { callee := Go.Callee.value (Go.Operand.func 14), args := #[Go.Operand.tmp 36, Go.Operand.tmp 37, Go.Operand.tmp 38], argTypes := #[23, 23, 23] }, type := 4, pos := "ref.go:49", after := #[{ on := 12, ground := Go.Ground.data }, { on := 13, ground := Go.Ground.data }, { on := 14, ground := Go.Ground.data }, { on := 8, ground := Go.Ground.chain }, { on := 8, ground := Go.Ground.guard }], guard := some (8, false) }) (v := undef) rfl (by kernel_rfl) (by kernel_rfl) (by kernel_rfl) (fun _ _ _ h => h) (Or.inr ⟨by rfl, rfl⟩) (by assumption) ?_
          (try simp only [Act.put, List.setIfInBounds_toArray, List.set_cons_zero, List.set_cons_succ])
          refine wpAnyH_take (i := 16) (oi := { dst := some 40, op := Go.Op.unOp Go.UnOp.not 4 (Go.Operand.tmp 39), type := 4, pos := "ref.go:49", after := #[{ on := 15, ground := Go.Ground.data }, { on := 8, ground := Go.Ground.guard }], guard := some (8, false) }) (v := undef) rfl (by kernel_rfl) (by kernel_rfl) (by kernel_rfl) (fun _ _ _ h => h) (Or.inr ⟨by rfl, rfl⟩) (by assumption) ?_
          (try simp only [Act.put, List.setIfInBounds_toArray, List.set_cons_zero, List.set_cons_succ])
          refine wpAnyH_take (i := 17) (oi := { dst := some 41, op := Go.Op.pick (Go.Operand.tmp 32) (Go.Operand.const (Go.Value.bool true)) (Go.Operand.tmp 40), type := 4, pos := "ref.go:49", after := #[{ on := 8, ground := Go.Ground.data }, { on := 16, ground := Go.Ground.data }], guard := none }) (v := ?uv17) rfl (by kernel_rfl) (by kernel_rfl) (by kernel_rfl) (fun _ _ _ h => h) (Or.inl ⟨by rfl, ?uy17⟩) (by assumption) ?ur17
          case uy17 => (intro w hSw; (try dsimp only at hSw); go_simp; try with_reducible rfl)
          (try simp only [Act.put, List.setIfInBounds_toArray, List.set_cons_zero, List.set_cons_succ])
          refine wpAnyH_done (by kernel_rfl) ?_ _
          have HF2 := Lib.hid (HF.out.next (HBv1.out.mono hz))
          have HO3 := Lib.hid (HO.out.keep HBv1.out)
          have HP2 : Hid (endsF (ax, ay, az) (bx, bY, bz) (cx, cy, cz) (dx, dy, dz) [] [(ax, ay, az), (bx, bY, bz), (cx, cy, cz), (dx, dy, dz)] = endsF (ax, ay, az) (bx, bY, bz) (cx, cy, cz) (dx, dy, dz) acc (([(ax, ay, az), (bx, bY, bz), (cx, cy, cz), (dx, dy, dz)] : List P3).drop (i + 1))) := by
            have h := HP.out
            rw [if_pos (by rfl)] at h
            exact h
          clear HP HPt HS HO1 HO2 HBv0 HBv1 HF HO
          go_wp2
          go_roundg (gk - 1)
          case measure => omega
          case rel => exact ⟨i + 1, acc, A10, c10, by omega, by omega, by go_num, rfl, HO3, HF2, HP2⟩
        | true =>
          go_wp2_with (with_reducible fail)
          go_region_held3 (fun W => W.cell? ⟨w.heap.size, 0, none⟩ = some (.int .i64 ax) ∧ W.cell? ⟨w.heap.size, 1, none⟩ = some (.int .i64 ay) ∧ W.cell? ⟨w.heap.size, 2, none⟩ = some (.int .i64 az) ∧ W.cell? ⟨w.heap.size + 1, 0, none⟩ = some (.int .i64 bx) ∧ W.cell? ⟨w.heap.size + 1, 1, none⟩ = some (.int .i64 bY) ∧ W.cell? ⟨w.heap.size + 1, 2, none⟩ = some (.int .i64 bz) ∧ W.cell? ⟨w.heap.size + 2, 0, none⟩ = some (.int .i64 cx) ∧ W.cell? ⟨w.heap.size + 2, 1, none⟩ = some (.int .i64 cy) ∧ W.cell? ⟨w.heap.size + 2, 2, none⟩ = some (.int .i64 cz) ∧ W.cell? ⟨w.heap.size + 3, 0, none⟩ = some (.int .i64 dx) ∧ W.cell? ⟨w.heap.size + 3, 1, none⟩ = some (.int .i64 dy) ∧ W.cell? ⟨w.heap.size + 3, 2, none⟩ = some (.int .i64 dz) ∧ W.cell? ⟨w.heap.size + 4, i * 3, none⟩ = some (.int .i64 px) ∧ W.cell? ⟨w.heap.size + 4, i * 3 + 1, none⟩ = some (.int .i64 py) ∧ W.cell? ⟨w.heap.size + 4, i * 3 + 2, none⟩ = some (.int .i64 pz)) (first | (with_reducible exact HS.out _ HBv4.out) | (with_reducible exact HS.out _ HBv3.out) | (with_reducible exact HS.out _ HBv2.out) | (with_reducible exact HS.out _ HBv1.out) | (with_reducible exact HS.out _ HBv0.out)) (first
            | (go_at_call 14; (with_reducible refine (HO1.out wr.drew).mono ?_); rintro e v1 ⟨rfl, hb1⟩; have HBv1 := Lib.hid (new_call HBv0.out hb1); clear hb1)
            | (go_at_call 14; (with_reducible refine (HO2.out v1).mono ?_); rintro e v2 ⟨rfl, hb2⟩; have HBv2 := Lib.hid (new_call HBv1.out hb2); clear hb2))
          have HF9 := Lib.hid (HF.out.next (HBv2.out.mono hz))
          have HO9 := Lib.hid (HO.out.keep HBv2.out)
          obtain ⟨z1, z2, z3⟩ := HPt.out v2 (HBv2.out.mono hz)
          clear HS HO1 HO2 HBv0 HBv1 HBv2 HF HO HPt
          cases o2 with
          | false =>
            have HP2 : Hid (endsF (ax, ay, az) (bx, bY, bz) (cx, cy, cz) (dx, dy, dz) [] [(ax, ay, az), (bx, bY, bz), (cx, cy, cz), (dx, dy, dz)] = endsF (ax, ay, az) (bx, bY, bz) (cx, cy, cz) (dx, dy, dz) acc (([(ax, ay, az), (bx, bY, bz), (cx, cy, cz), (dx, dy, dz)] : List P3).drop (i + 1))) := by
              have h := HP.out
              rw [if_pos (by rfl)] at h
              exact h
            clear HP z1 z2 z3
            go_wp2
            go_roundg (gk - 1)
            case measure => omega
            case rel => exact ⟨i + 1, acc, A10, c10, by omega, by omega, by go_num, rfl, HO9, HF9, HP2⟩
          | true =>
            have HP1 : Hid (endsF (ax, ay, az) (bx, bY, bz) (cx, cy, cz) (dx, dy, dz) [] [(ax, ay, az), (bx, bY, bz), (cx, cy, cz), (dx, dy, dz)] = if acc.length = 0 ∨ acc.head? ≠ some (px, py, pz) then endsF (ax, ay, az) (bx, bY, bz) (cx, cy, cz) (dx, dy, dz) (acc ++ [(px, py, pz)]) (([(ax, ay, az), (bx, bY, bz), (cx, cy, cz), (dx, dy, dz)] : List P3).drop (i + 1)) else endsF (ax, ay, az) (bx, bY, bz) (cx, cy, cz) (dx, dy, dz) acc (([(ax, ay, az), (bx, bY, bz), (cx, cy, cz), (dx, dy, dz)] : List P3).drop (i + 1))) := by
              have h := HP.out
              rw [if_neg (by decide)] at h
              exact h
            clear HP
            cases acc with
            | nil =>
              have HP2 : Hid (endsF (ax, ay, az) (bx, bY, bz) (cx, cy, cz) (dx, dy, dz) [] [(ax, ay, az), (bx, bY, bz), (cx, cy, cz), (dx, dy, dz)] = endsF (ax, ay, az) (bx, bY, bz) (cx, cy, cz) (dx, dy, dz) ([] ++ [(px, py, pz)]) (([(ax, ay, az), (bx, bY, bz), (cx, cy, cz), (dx, dy, dz)] : List P3).drop (i + 1))) := by
                exact HP1.out.trans (if_pos (Or.inl rfl))
              clear HP1
              go_wp2_with (with_reducible fail)
              go_region
              have HF8 := Lib.hid (HF9.out.next (Below.refl _ v2).drew)
              have HO8 := Lib.hid (HO9.out.keep (Below.refl _ v2).drew)
              have z4 : v2.drew.cell? ⟨w.heap.size + 4, i * 3, none⟩ = some (.int .i64 px) := z1
              have z5 : v2.drew.cell? ⟨w.heap.size + 4, i * 3 + 1, none⟩ = some (.int .i64 py) := z2
              have z6 : v2.drew.cell? ⟨w.heap.size + 4, i * 3 + 2, none⟩ = some (.int .i64 pz) := z3
              generalize v2.drew = v3 at *
              go_wp2_with (at_builtin
                           refine wpList_joinK rfl _ _ 28 rfl elemP3 (by decide) (w.heap.size + 5) _ _ _ rfl (HO8.out.alloc _) _ 1 1 (p3Cells [(px, py, pz)]) rfl (HasK.new_at 3 _ #[_, _, _] _ _ 1 rfl rfl) (p3Cells_one _) (by decide) (by decide) (Nat.le_trans HF8.out.big (new_alloc (Below.refl _ _) _).size) ?_
                           intro v7 w7 hown7 hbel7 _
                           rw [← p3Cells_app] at hown7
                           obtain ⟨A7, c7, hv7, _⟩ := hown7.has
                           subst hv7
                           have HO7 := Lib.hid hown7
                           have HF7 := Lib.hid (HF8.out.next ((new_alloc (Below.refl _ _) _).mono HF8.out.big |>.trans hbel7))
                           clear hown7 hbel7)
              go_roundg (gk - 1)
              case measure => omega
              case rel => exact ⟨i + 1, [] ++ [(px, py, pz)], A7, c7, by omega, by simp only [List.length_append, List.length_cons, List.length_nil] at *; omega, by go_num, by simp, by simpa using HO7, HF7, HP2⟩
            | cons f r =>
              obtain ⟨fx, fy, fz⟩ := f
              obtain ⟨_, _, e9, hh9⟩ := HO9.out.has
              cases e9
              obtain ⟨b9, o9, rfl, _, _⟩ := hh9.at_ (by simp)
              obtain ⟨y1, y2, y3⟩ := p3_at hh9 (i := 0) (by simp)
              simp only [Nat.zero_mul, Nat.add_zero, List.getElem_cons_zero] at y1 y2 y3
              have hl0 : (((((fx, fy, fz) :: r : List P3).length : Nat) : Int) == 0) = false := beq_eq_false_iff_ne.2 (by simp only [List.length_cons]; omega)
              have hl1 : (0 : Int) < ((((fx, fy, fz) :: r : List P3).length : Nat) : Int) := by simp only [List.length_cons]; omega
              have hl2 : 0 < ((fx, fy, fz) :: r : List P3).length := by simp
              obtain ⟨N, hN⟩ : ∃ N, ((fx, fy, fz) :: r : List P3).length = N := ⟨_, rfl⟩
              have HN := Lib.hid hN
              rw [hN] at HO9 hl0 hl1 hl2 hai ⊢
              clear hh9 hN
              by_cases hfp : (fx, fy, fz) = (px, py, pz)
              · have HP2 : Hid (endsF (ax, ay, az) (bx, bY, bz) (cx, cy, cz) (dx, dy, dz) [] [(ax, ay, az), (bx, bY, bz), (cx, cy, cz), (dx, dy, dz)] = endsF (ax, ay, az) (bx, bY, bz) (cx, cy, cz) (dx, dy, dz) ((fx, fy, fz) :: r) (([(ax, ay, az), (bx, bY, bz), (cx, cy, cz), (dx, dy, dz)] : List P3).drop (i + 1))) := by
                  exact HP1.out.trans (if_neg (fun h => by rcases h with h | h; exact absurd h (by simp); exact h (by rw [hfp]; rfl)))
                clear HP1
                cases hfp
                go_wp2_with (with_reducible fail)
                go_region
                go_wp2
                go_roundg (gk - 1)
                case measure => omega
                case rel => exact ⟨i + 1, (px, py, pz) :: r, _, c10, by omega, by rw [HN.out]; omega, by go_num, by rw [HN.out], by rw [HN.out]; exact Lib.hid (HO9.out.keep (Below.refl _ v2).drew), Lib.hid (HF9.out.next (Below.refl _ v2).drew), HP2⟩
              · have HP2 : Hid (endsF (ax, ay, az) (bx, bY, bz) (cx, cy, cz) (dx, dy, dz) [] [(ax, ay, az), (bx, bY, bz), (cx, cy, cz), (dx, dy, dz)] = endsF (ax, ay, az) (bx, bY, bz) (cx, cy, cz) (dx, dy, dz) (((fx, fy, fz) :: r) ++ [(px, py, pz)]) (([(ax, ay, az), (bx, bY, bz), (cx, cy, cz), (dx, dy, dz)] : List P3).drop (i + 1))) := by
                  exact HP1.out.trans (if_pos (Or.inr (fun h => hfp (by simpa using h))))
                clear HP1
                have hw := neq_ways hfp
                clear hfp
                rcases hw with e1 | ⟨e1, e2⟩ | ⟨e1, e2, e3⟩
                all_goals
                  go_wp2_with (with_reducible fail)
                  go_region
                  have HF8 := Lib.hid (HF9.out.next (Below.refl _ v2).drew)
                  have HO8 := Lib.hid (HO9.out.keep (Below.refl _ v2).drew)
                  have z4 : v2.drew.cell? ⟨w.heap.size + 4, i * 3, none⟩ = some (.int .i64 px) := z1
                  have z5 : v2.drew.cell? ⟨w.heap.size + 4, i * 3 + 1, none⟩ = some (.int .i64 py) := z2
                  have z6 : v2.drew.cell? ⟨w.heap.size + 4, i * 3 + 2, none⟩ = some (.int .i64 pz) := z3
                  generalize v2.drew = v3 at *
                  go_wp2_with (at_builtin
                               refine wpList_joinK rfl _ _ 28 rfl elemP3 (by decide) (w.heap.size + 5) _ _ _ rfl (HO8.out.alloc _) _ 1 1 (p3Cells [(px, py, pz)]) rfl (HasK.new_at 3 _ #[_, _, _] _ _ 1 rfl rfl) (p3Cells_one _) (by omega) (by decide) (Nat.le_trans HF8.out.big (new_alloc (Below.refl _ _) _).size) ?_
                               intro v7 w7 hown7 hbel7 _
                               rw [← p3Cells_app] at hown7
                               obtain ⟨A7, c7, hv7, _⟩ := hown7.has
                               subst hv7
                               have HO7 := Lib.hid hown7
                               have HF7 := Lib.hid (HF8.out.next ((new_alloc (Below.refl _ _) _).mono HF8.out.big |>.trans hbel7))
                               clear hown7 hbel7)
                  go_roundg (gk - 1)
                  case measure => omega
                  case rel => exact ⟨i + 1, ((fx, fy, fz) :: r) ++ [(px, py, pz)], A7, c7, by omega, by rw [List.length_append, HN.out]; simp; omega, by go_num, by rw [List.length_append, HN.out]; rfl, by rw [List.length_append, HN.out]; exact HO7, HF7, HP2⟩
      · have ti : decide ((i : Int) < 4) = false := by simp; omega
        obtain rfl : i = 4 := by omega
        have HZ : Hid (meetF (ax, ay, az) (bx, bY, bz) (cx, cy, cz) (dx, dy, dz) = if 1 < acc.length then 3 else if acc.length = 1 then 1 else if turnF (ax, ay, az) (bx, bY, bz) (cx, cy, cz) * turnF (ax, ay, az) (bx, bY, bz) (dx, dy, dz) < 0 ∧ turnF (cx, cy, cz) (dx, dy, dz) (ax, ay, az) * turnF (cx, cy, cz) (dx, dy, dz) (bx, bY, bz) < 0 then 2 else 0) := by
          have h := HP.out
          rw [show (([(ax, ay, az), (bx, bY, bz), (cx, cy, cz), (dx, dy, dz)] : List P3).drop 4) = [] from rfl, show endsF (ax, ay, az) (bx, bY, bz) (cx, cy, cz) (dx, dy, dz) acc [] = acc from rfl] at h
          show _ = _
          rw [HE.out, h]
        obtain ⟨k, hk⟩ : ∃ k, acc.length = k := ⟨_, rfl⟩
        have hz := HF.out.big
        rw [hk] at HZ ⊢
        clear HP HO HE hai hk
        by_cases h1 : 1 < k
        · have t1 : decide ((1 : Int) < (k : Int)) = true := by simp; omega
          rw [if_pos h1] at HZ
          go_wp2
          go_ret
          exact ⟨by rw [HZ.out]; rfl, HF.out.bel⟩
        · have t1 : decide ((1 : Int) < (k : Int)) = false := by simp; omega
          rw [if_neg h1] at HZ
          by_cases h2 : k = 1
          · subst h2
            rw [if_pos rfl] at HZ
            go_wp2
            go_ret
            exact ⟨by rw [HZ.out]; rfl, HF.out.bel⟩
          · obtain rfl : k = 0 := by omega
            rw [if_neg (by decide)] at HZ
            have HT1 := Lib.hid (fun W => ref9Turn_any ax ay az bx bY bz cx cy cz W)
            have HT2 := Lib.hid (fun W => ref9Turn_any ax ay az bx bY bz dx dy dz W)
            have HT3 := Lib.hid (fun W => ref9Turn_any cx cy cz dx dy dz ax ay az W)
            have HT4 := Lib.hid (fun W => ref9Turn_any cx cy cz dx dy dz bx bY bz W)
            have r1 := turn_range (ax, ay, az) (bx, bY, bz) (cx, cy, cz)
            have r2 := turn_range (ax, ay, az) (bx, bY, bz) (dx, dy, dz)
            have r3 := turn_range (cx, cy, cz) (dx, dy, dz) (ax, ay, az)
            have r4 := turn_range (cx, cy, cz) (dx, dy, dz) (bx, bY, bz)
            generalize turnF (ax, ay, az) (bx, bY, bz) (cx, cy, cz) = s1 at *
            generalize turnF (ax, ay, az) (bx, bY, bz) (dx, dy, dz) = s2 at *
            generalize turnF (cx, cy, cz) (dx, dy, dz) (ax, ay, az) = s3 at *
            generalize turnF (cx, cy, cz) (dx, dy, dz) (bx, bY, bz) = s4 at *
            have m1 := one_mul_range r1 r2
            have m2 := one_mul_range r3 r4
            obtain ⟨q1, hq1⟩ : ∃ q, s1 * s2 = q := ⟨_, rfl⟩
            obtain ⟨q2, hq2⟩ : ∃ q, s3 * s4 = q := ⟨_, rfl⟩
            have g1 : IntKind.wrap .i64 (s1 * s2) = q1 := by rw [IntKind.wrap_i64]; omega
            have g2 : IntKind.wrap .i64 (s3 * s4) = q2 := by rw [IntKind.wrap_i64]; omega
            have g3 : wrap64 (s1 * s2) = q1 := by unfold wrap64; omega
            have g4 : wrap64 (s3 * s4) = q2 := by unfold wrap64; omega
            rw [hq1, hq2] at HZ
            clear hq1 hq2 m1 m2 r1 r2 r3 r4
            have HS : Hid (∀ W, Below wr.heap.size wr W → W.cell? ⟨w.heap.size, 0, none⟩ = some (.int .i64 ax) ∧ W.cell? ⟨w.heap.size, 1, none⟩ = some (.int .i64 ay) ∧ W.cell? ⟨w.heap.size, 2, none⟩ = some (.int .i64 az) ∧ W.cell? ⟨w.heap.size + 1, 0, none⟩ = some (.int .i64 bx) ∧ W.cell? ⟨w.heap.size + 1, 1, none⟩ = some (.int .i64 bY) ∧ W.cell? ⟨w.heap.size + 1, 2, none⟩ = some (.int .i64 bz) ∧ W.cell? ⟨w.heap.size + 2, 0, none⟩ = some (.int .i64 cx) ∧ W.cell? ⟨w.heap.size + 2, 1, none⟩ = some (.int .i64 cy) ∧ W.cell? ⟨w.heap.size + 2, 2, none⟩ = some (.int .i64 cz) ∧ W.cell? ⟨w.heap.size + 3, 0, none⟩ = some (.int .i64 dx) ∧ W.cell? ⟨w.heap.size + 3, 1, none⟩ = some (.int .i64 dy) ∧ W.cell? ⟨w.heap.size + 3, 2, none⟩ = some (.int .i64 dz)) := fun W hW =>
              have h := HF.out.next (hW.mono hz)
              ⟨h.b0.cell 0, h.b0.cell 1, h.b0.cell 2, h.b1.cell 0, h.b1.cell 1, h.b1.cell 2, h.b2.cell 0, h.b2.cell 1, h.b2.cell 2, h.b3.cell 0, h.b3.cell 1, h.b3.cell 2⟩
            have HBv0 : Hid (Below wr.heap.size wr wr.drew) := (Below.refl _ _).drew
            have k0 : decide ((1 : Int) < 0) = false := rfl
            by_cases hn : q1 < 0
            · have d1 : decide (q1 < 0) = true := by simpa using hn
              go_wp2_with (with_reducible fail)
              go_region_held3 (fun W => W.cell? ⟨w.heap.size, 0, none⟩ = some (.int .i64 ax) ∧ W.cell? ⟨w.heap.size, 1, none⟩ = some (.int .i64 ay) ∧ W.cell? ⟨w.heap.size, 2, none⟩ = some (.int .i64 az) ∧ W.cell? ⟨w.heap.size + 1, 0, none⟩ = some (.int .i64 bx) ∧ W.cell? ⟨w.heap.size + 1, 1, none⟩ = some (.int .i64 bY) ∧ W.cell? ⟨w.heap.size + 1, 2, none⟩ = some (.int .i64 bz) ∧ W.cell? ⟨w.heap.size + 2, 0, none⟩ = some (.int .i64 cx) ∧ W.cell? ⟨w.heap.size + 2, 1, none⟩ = some (.int .i64 cy) ∧ W.cell? ⟨w.heap.size + 2, 2, none⟩ = some (.int .i64 cz) ∧ W.cell? ⟨w.heap.size + 3, 0, none⟩ = some (.int .i64 dx) ∧ W.cell? ⟨w.heap.size + 3, 1, none⟩ = some (.int .i64 dy) ∧ W.cell? ⟨w.heap.size + 3, 2, none⟩ = some (.int .i64 dz)) (first | (with_reducible exact HS.out _ HBv4.out) | (with_reducible exact HS.out _ HBv3.out) | (with_reducible exact HS.out _ HBv2.out) | (with_reducible exact HS.out _ HBv1.out) | (with_reducible exact HS.out _ HBv0.out)) (first
                | (go_at_call 12; (with_reducible refine (HT1.out wr.drew).mono ?_); rintro e v1 ⟨rfl, hb1⟩; have HBv1 := Lib.hid (new_call HBv0.out hb1); clear hb1)
                | (go_at_call 12; (with_reducible refine (HT2.out v1).mono ?_); rintro e v2 ⟨rfl, hb2⟩; have HBv2 := Lib.hid (new_call HBv1.out hb2); clear hb2)
                | (go_at_call 12; (with_reducible refine (HT3.out v2).mono ?_); rintro e v3 ⟨rfl, hb3⟩; have HBv3 := Lib.hid (new_call HBv2.out hb3); clear hb3)
                | (go_at_call 12; (with_reducible refine (HT4.out v3).mono ?_); rintro e v4 ⟨rfl, hb4⟩; have HBv4 := Lib.hid (new_call HBv3.out hb4); clear hb4))
              have HF4 := Lib.hid (HF.out.next (HBv4.out.mono hz))
              by_cases hm : q2 < 0
              · have d2 : decide (q2 < 0) = true := by simpa using hm
                rw [if_pos ⟨hn, hm⟩] at HZ
                go_wp2
                go_ret
                exact ⟨by rw [HZ.out]; rfl, HF4.out.bel⟩
              · have d2 : decide (q2 < 0) = false := by simpa using hm
                rw [if_neg (fun h => hm h.2)] at HZ
                go_wp2
                go_ret
                exact ⟨by rw [HZ.out]; rfl, HF4.out.bel⟩
            · have d1 : decide (q1 < 0) = false := by simpa using hn
              rw [if_neg (fun h => hn h.1)] at HZ
              clear hn
              go_wp2_with (with_reducible fail)
              refine wp_region_held_drew (S := fun W => W.cell? ⟨w.heap.size, 0, none⟩ = some (.int .i64 ax) ∧ W.cell? ⟨w.heap.size, 1, none⟩ = some (.int .i64 ay) ∧ W.cell? ⟨w.heap.size, 2, none⟩ = some (.int .i64 az) ∧ W.cell? ⟨w.heap.size + 1, 0, none⟩ = some (.int .i64 bx) ∧ W.cell? ⟨w.heap.size + 1, 1, none⟩ = some (.int .i64 bY) ∧ W.cell? ⟨w.heap.size + 1, 2, none⟩ = some (.int .i64 bz) ∧ W.cell? ⟨w.heap.size + 2, 0, none⟩ = some (.int .i64 cx) ∧ W.cell? ⟨w.heap.size + 2, 1, none⟩ = some (.int .i64 cy) ∧ W.cell? ⟨w.heap.size + 2, 2, none⟩ = some (.int .i64 cz) ∧ W.cell? ⟨w.heap.size + 3, 0, none⟩ = some (.int .i64 dx) ∧ W.cell? ⟨w.heap.size + 3, 1, none⟩ = some (.int .i64 dy) ∧ W.cell? ⟨w.heap.size + 3, 2, none⟩ = some (.int .i64 dz)) (by kernel_rfl) (HS.out _ (Below.refl _ _).drew) (fun hHeld => ?_)
              refine wpAnyH_take (i := 0) (oi := { dst := some 68, op := Go.Op.load 23 (Go.Operand.tmp 4), type := 23, pos := "ref.go:62", after := #[], guard := none }) (v := ?xv0) rfl (by kernel_rfl) (by kernel_rfl) (by kernel_rfl) (fun _ _ _ h => h) (Or.inl ⟨by rfl, ?xy0⟩) (by assumption) ?xr0
              case xy0 => (intro w hSw; (try dsimp only at hSw); go_simp; try with_reducible rfl)
              (try simp only [Act.put, List.setIfInBounds_toArray, List.set_cons_zero, List.set_cons_succ])
              refine wpAnyH_take (i := 1) (oi := { dst := some 69, op := Go.Op.load 23 (Go.Operand.tmp 5), type := 23, pos := "ref.go:62", after := #[], guard := none }) (v := ?xv1) rfl (by kernel_rfl) (by kernel_rfl) (by kernel_rfl) (fun _ _ _ h => h) (Or.inl ⟨by rfl, ?xy1⟩) (by assumption) ?xr1
              case xy1 => (intro w hSw; (try dsimp only at hSw); go_simp; try with_reducible rfl)
              (try simp only [Act.put, List.setIfInBounds_toArray, List.set_cons_zero, List.set_cons_succ])
              refine wpAnyH_take (i := 2) (oi := { dst := some 70, op := Go.Op.load 23 (Go.Operand.tmp 6), type := 23, pos := "ref.go:62", after := #[], guard := none }) (v := ?xv2) rfl (by kernel_rfl) (by kernel_rfl) (by kernel_rfl) (fun _ _ _ h => h) (Or.inl ⟨by rfl, ?xy2⟩) (by assumption) ?xr2
              case xy2 => (intro w hSw; (try dsimp only at hSw); go_simp; try with_reducible rfl)
              (try simp only [Act.put, List.setIfInBounds_toArray, List.set_cons_zero, List.set_cons_succ])
              refine wpAnyH_take (i := 4) (oi := { dst := some 72, op := Go.Op.load 23 (Go.Operand.tmp 4), type := 23, pos := "ref.go:62", after := #[], guard := none }) (v := ?xv4) rfl (by kernel_rfl) (by kernel_rfl) (by kernel_rfl) (fun _ _ _ h => h) (Or.inl ⟨by rfl, ?xy4⟩) (by assumption) ?xr4
              case xy4 => (intro w hSw; (try dsimp only at hSw); go_simp; try with_reducible rfl)
              (try simp only [Act.put, List.setIfInBounds_toArray, List.set_cons_zero, List.set_cons_succ])
              refine wpAnyH_take (i := 5) (oi := { dst := some 73, op := Go.Op.load 23 (Go.Operand.tmp 5), type := 23, pos := "ref.go:62", after := #[], guard := none }) (v := ?xv5) rfl (by kernel_rfl) (by kernel_rfl) (by kernel_rfl) (fun _ _ _ h => h) (Or.inl ⟨by rfl, ?xy5⟩) (by assumption) ?xr5
              case xy5 => (intro w hSw; (try dsimp only at hSw); go_simp; try with_reducible rfl)
              (try simp only [Act.put, List.setIfInBounds_toArray, List.set_cons_zero, List.set_cons_succ])
              refine wpAnyH_take (i := 6) (oi := { dst := some 74, op := Go.Op.load 23 (Go.Operand.tmp 7), type := 23, pos := "ref.go:62", after := #[], guard := none }) (v := ?xv6) rfl (by kernel_rfl) (by kernel_rfl) (by kernel_rfl) (fun _ _ _ h => h) (Or.inl ⟨by rfl, ?xy6⟩) (by assumption) ?xr6
              case xy6 => (intro w hSw; (try dsimp only at hSw); go_simp; try with_reducible rfl)
              (try simp only [Act.put, List.setIfInBounds_toArray, List.set_cons_zero, List.set_cons_succ])
              refine wpAnyH_ready (rs := [3]) (by kernel_rfl) (by simp) ?_
              refine AllReadyH.cons (o := { dst := some 71, op := Go.Op.call { callee := Go.Callee.value (Go.Operand.func 12), args := #[Go.Operand.tmp 68, Go.Operand.tmp 69, Go.Operand.tmp 70], argTypes := #[23, 23, 23] }, type := 3, pos := "ref.go:62", after := #[{ on := 0, ground := Go.Ground.data }, { on := 1, ground := Go.Ground.data }, { on := 2, ground := Go.Ground.data }], guard := none }) rfl (fun K hK => ?_) AllReadyH.nil
              go_simp
              (go_at_call 12; (with_reducible refine (HT1.out _).mono ?_); rintro e v1 ⟨rfl, hb1⟩; have HBv1 := Lib.hid (new_call HBv0.out hb1); clear hb1)
              go_wp2_with fail
              refine hK.out _ _ ?_ (fun hHeld => ?_)
              · (first | (with_reducible exact HS.out _ HBv4.out) | (with_reducible exact HS.out _ HBv3.out) | (with_reducible exact HS.out _ HBv2.out) | (with_reducible exact HS.out _ HBv1.out) | (with_reducible exact HS.out _ HBv0.out))
              clear hK K
              (try simp only [Act.put, List.setIfInBounds_toArray, List.set_cons_zero, List.set_cons_succ])
              refine wpAnyH_ready (rs := [7]) (by kernel_rfl) (by simp) ?_
              refine AllReadyH.cons (o := { dst := some 75, op := Go.Op.call { callee := Go.Callee.value (Go.Operand.func 12), args := #[Go.Operand.tmp 72, Go.Operand.tmp 73, Go.Operand.tmp 74], argTypes := #[23, 23, 23] }, type := 3, pos := "ref.go:62", after := #[{ on := 4, ground := Go.Ground.data }, { on := 5, ground := Go.Ground.data }, { on := 6, ground := Go.Ground.data }, { on := 3, ground := Go.Ground.chain }], guard := none }) rfl (fun K hK => ?_) AllReadyH.nil
              go_simp
              (go_at_call 12; (with_reducible refine (HT2.out _).mono ?_); rintro e v2 ⟨rfl, hb2⟩; have HBv2 := Lib.hid (new_call HBv1.out hb2); clear hb2)
              go_wp2_with fail
              refine hK.out _ _ ?_ (fun hHeld => ?_)
              · (first | (with_reducible exact HS.out _ HBv4.out) | (with_reducible exact HS.out _ HBv3.out) | (with_reducible exact HS.out _ HBv2.out) | (with_reducible exact HS.out _ HBv1.out) | (with_reducible exact HS.out _ HBv0.out))
              clear hK K
              (try simp only [Act.put, List.setIfInBounds_toArray, List.set_cons_zero, List.set_cons_succ])
              refine wpAnyH_take (i := 8) (oi := { dst := some 76, op := Go.Op.binOp Go.BinOp.mul 3 (Go.Operand.tmp 71) (Go.Operand.tmp 75) 3, type := 3, pos := "ref.go:62", after := #[{ on := 3, ground := Go.Ground.data }, { on := 7, ground := Go.Ground.data }], guard := none }) (v := ?xv8) rfl (by kernel_rfl) (by kernel_rfl) (by kernel_rfl) (fun _ _ _ h => h) (Or.inl ⟨by rfl, ?xy8⟩) (by assumption) ?xr8
              case xy8 => (intro w hSw; (try dsimp only at hSw); go_simp; try with_reducible rfl)
              (try simp only [Act.put, List.setIfInBounds_toArray, List.set_cons_zero, List.set_cons_succ])
              refine wpAnyH_take (i := 9) (oi := { dst := some 77, op := Go.Op.binOp Go.BinOp.lss 3 (Go.Operand.tmp 76) (Go.Operand.const (Go.Value.int Go.IntKind.i64 0)) 3, type := 4, pos := "ref.go:62", after := #[{ on := 8, ground := Go.Ground.data }], guard := none }) (v := ?xv9) rfl (by kernel_rfl) (by kernel_rfl) (by kernel_rfl) (fun _ _ _ h => h) (Or.inl ⟨by rfl, ?xy9⟩) (by assumption) ?xr9
              case xy9 => (intro w hSw; (try dsimp only at hSw); go_simp; try with_reducible rfl)
              (try simp only [Act.put, List.setIfInBounds_toArray, List.set_cons_zero, List.set_cons_succ])
              refine wpAnyH_take (i := 10) (oi := { dst := some 78, op := Go.Op.move (Go.Operand.tmp 77), type := 4, pos := "ref.go:62", after := #[{ on := 9, ground := Go.Ground.data }, { on := 7, ground := Go.Ground.chain }], guard := none }) (v := ?xv10) rfl (by kernel_rfl) (by kernel_rfl) (by kernel_rfl) (fun _ _ _ h => h) (Or.inl ⟨by rfl, ?xy10⟩) (by assumption) ?xr10
              case xy10 => (intro w hSw; (try dsimp only at hSw); go_simp; try with_reducible rfl)
              (try simp only [Act.put, List.setIfInBounds_toArray, List.set_cons_zero, List.set_cons_succ])
              refine wpAnyH_take (i := 11) (oi := { dst := some 79, op := Go.Op.load 23 (Go.Operand.tmp 6), type := 23, pos := "ref.go:62", after := #[{ on := 10, ground := Go.Ground.guard }], guard := some (10, true) }) (v := undef) rfl (by kernel_rfl) (by kernel_rfl) (by kernel_rfl) (fun _ _ _ h => h) (Or.inr ⟨by rfl, rfl⟩) (by assumption) ?_
              (try simp only [Act.put, List.setIfInBounds_toArray, List.set_cons_zero, List.set_cons_succ])
              refine wpAnyH_take (i := 12) (oi := { dst := some 80, op := Go.Op.load 23 (Go.Operand.tmp 7), type := 23, pos := "ref.go:62", after := #[{ on := 10, ground := Go.Ground.guard }], guard := some (10, true) }) (v := undef) rfl (by kernel_rfl) (by kernel_rfl) (by kernel_rfl) (fun _ _ _ h => h) (Or.inr ⟨by rfl, rfl⟩) (by assumption) ?_
              (try simp only [Act.put, List.setIfInBounds_toArray, List.set_cons_zero, List.set_cons_succ])
              refine wpAnyH_take (i := 13) (oi := { dst := some 81, op := Go.Op.load 23 (Go.Operand.tmp 4), type := 23, pos := "ref.go:62", after := #[{ on := 10, ground := Go.Ground.guard }], guard := some (10, true) }) (v := undef) rfl (by kernel_rfl) (by kernel_rfl) (by kernel_rfl) (fun _ _ _ h => h) (Or.inr ⟨by rfl, rfl⟩) (by assumption) ?_
              (try simp only [Act.put, List.setIfInBounds_toArray, List.set_cons_zero, List.set_cons_succ])
              refine wpAnyH_take (i := 14) (oi := { dst := some 82, op := Go.Op.call { callee := Go.Callee.value (Go.Operand.func 12), args := #[Go.Operand.tmp 79, Go.Operand.tmp 80, Go.Operand.tmp 81], argTypes := #[23, 23, 23] }, type := 3, pos := "ref.go:62", after := #[{ on := 11, ground := Go.Ground.data }, { on := 12, ground := Go.Ground.data }, { on := 13, ground := Go.Ground.data }, { on := 10, ground := Go.Ground.chain }, { on := 10, ground := Go.Ground.guard }], guard := some (10, true) }) (v := undef) rfl (by kernel_rfl) (by kernel_rfl) (by kernel_rfl) (fun _ _ _ h => h) (Or.inr ⟨by rfl, rfl⟩) (by assumption) ?_
              (try simp only [Act.put, List.setIfInBounds_toArray, List.set_cons_zero, List.set_cons_succ])
              refine wpAnyH_take (i := 15) (oi := { dst := some 83, op := Go.Op.load 23 (Go.Operand.tmp 6), type := 23, pos := "ref.go:62", after := #[{ on := 10, ground := Go.Ground.guard }], guard := some (10, true) }) (v := undef) rfl (by kernel_rfl) (by kernel_rfl) (by kernel_rfl) (fun _ _ _ h => h) (Or.inr ⟨by rfl, rfl⟩) (by assumption) ?_
              (try simp only [Act.put, List.setIfInBounds_toArray, List.set_cons_zero, List.set_cons_succ])
              refine wpAnyH_take (i := 16) (oi := { dst := some 84, op := Go.Op.load 23 (Go.Operand.tmp 7), type := 23, pos := "ref.go:62", after := #[{ on := 10, ground := Go.Ground.guard }], guard := some (10, true) }) (v := undef) rfl (by kernel_rfl) (by kernel_rfl) (by kernel_rfl) (fun _ _ _ h => h) (Or.inr ⟨by rfl, rfl⟩) (by assumption) ?_
              (try simp only [Act.put, List.setIfInBounds_toArray, List.set_cons_zero, List.set_cons_succ])
              refine wpAnyH_take (i := 17) (oi := { dst := some 85, op := Go.Op.load 23 (Go.Operand.tmp 5), type := 23, pos := "ref.go:62", after := #[{ on := 10, ground := Go.Ground.guard }], guard := some (10, true) }) (v := undef) rfl (by kernel_rfl) (by kernel_rfl) (by kernel_rfl) (fun _ _ _ h => h) (Or.inr ⟨by rfl, rfl⟩) (by assumption) ?_
              (try simp only [Act.put, List.setIfInBounds_toArray, List.set_cons_zero, List.set_cons_succ])
              refine wpAnyH_take (i := 18) (oi := { dst := some 86, op := Go.Op.call { callee := Go.Callee.value (Go.Operand.func 12), args := #[Go.Operand.tmp 83, Go.Operand.tmp 84, Go.Operand.tmp 85], argTypes := #[23, 23, 23] }, type := 3, pos := "ref.go:62", after := #[{ on := 15, ground := Go.Ground.data }, { on := 16, ground := Go.Ground.data }, { on := 17, ground := Go.Ground.data }, { on := 14, ground := Go.Ground.chain }, { on := 10, ground := Go.Ground.guard }], guard := some (10, true) }) (v := undef) rfl (by kernel_rfl) (by kernel_rfl) (by kernel_rfl) (fun _ _ _ h => h) (Or.inr ⟨by rfl, rfl⟩) (by assumption) ?_
              (try simp only [Act.put, List.setIfInBounds_toArray, List.set_cons_zero, List.set_cons_succ])
              refine wpAnyH_take (i := 19) (oi := { dst := some 87, op := Go.Op.binOp Go.BinOp.mul 3 (Go.Operand.tmp 82) (Go.Operand.tmp 86) 3, type := 3, pos := "ref.go:62", after := #[{ on := 14, ground := Go.Ground.data }, { on := 18, ground := Go.Ground.data }, { on := 10, ground := Go.Ground.guard }], guard := some (10, true) }) (v := undef) rfl (by kernel_rfl) (by kernel_rfl) (by kernel_rfl) (fun _ _ _ h => h) (Or.inr ⟨by rfl, rfl⟩) (by assumption) ?_
              (try simp only [Act.put, List.setIfInBounds_toArray, List.set_cons_zero, List.set_cons_succ])
              refine wpAnyH_take (i := 20) (oi := { dst := some 88, op := Go.Op.binOp Go.BinOp.lss 3 (Go.Operand.tmp 87) (Go.Operand.const (Go.Value.int Go.IntKind.i64 0)) 3, type := 4, pos := "ref.go:62", after := #[{ on := 19, ground := Go.Ground.data }, { on := 10, ground := Go.Ground.guard }], guard := some (10, true) }) (v := undef) rfl (by kernel_rfl) (by kernel_rfl) (by kernel_rfl) (fun _ _ _ h => h) (Or.inr ⟨by rfl, rfl⟩) (by assumption) ?_
              (try simp only [Act.put, List.setIfInBounds_toArray, List.set_cons_zero, List.set_cons_succ])
              refine wpAnyH_take (i := 21) (oi := { dst := some 89, op := Go.Op.pick (Go.Operand.tmp 78) (Go.Operand.tmp 88) (Go.Operand.const (Go.Value.bool false)), type := 4, pos := "ref.go:62", after := #[{ on := 10, ground := Go.Ground.data }, { on := 20, ground := Go.Ground.data }], guard := none }) (v := ?xv21) rfl (by kernel_rfl) (by kernel_rfl) (by kernel_rfl) (fun _ _ _ h => h) (Or.inl ⟨by rfl, ?xy21⟩) (by assumption) ?xr21
              case xy21 => (intro w hSw; (try dsimp only at hSw); go_simp; try with_reducible rfl)
              (try simp only [Act.put, List.setIfInBounds_toArray, List.set_cons_zero, List.set_cons_succ])
              refine wpAnyH_done (by kernel_rfl) ?_ _
              have HF4 := Lib.hid (HF.out.next (HBv2.out.mono hz))
              go_wp2
              go_ret
              exact ⟨by rw [HZ.out]; rfl, HF4.out.bel⟩
  · have hr2 : rights [(ax, ay, az), (bx, bY, bz), (cx, cy, cz), (dx, dy, dz)] = false := by simpa using hr
    have HE : Hid (meetF (ax, ay, az) (bx, bY, bz) (cx, cy, cz) (dx, dy, dz) = 0) := if_neg hr
    rw [hr2] at HR
    clear hr hr2
    go_enter Try.func19, Try.ntmps19
    go_wp2_with fail
    refine HR.out.mono ?_
    rintro e w1 ⟨rfl, hb1⟩
    have HF1 := Lib.hid (HF0.out.next (hb1.mono HF0.out.big))
    go_wp2
    go_ret
    exact ⟨by rw [HE.out]; rfl, HF1.out.bel⟩
end Go.Proofs.Ytnhoinonojhgiaa
