/- The landed geom: Area. -/
import Derived.Test.YtnhoinonojhgiaaGeomCodeB
namespace Go.Proofs.Ytnhoinonojhgiaa
open Go.RowKit

/-- The answer's place, and the sum so far in its own. -/
structure AreaAt (w : World) (G : Nat) (x : Int) (wx : World) : Prop where
  b0 : Blk wx w.heap.size 34 #[.int .i64 0, .int .u64 0]
  b1 : Blk wx G 34 #[.int .i64 (hiW x), .int .u64 (loW x)]
  gt : w.heap.size < G
  bel : Below w.heap.size w wx
theorem AreaAt.next {w wx w' : World} {G : Nat} {x : Int} (h : AreaAt w G x wx) (hb : Below wx.heap.size wx w') : AreaAt w G x w' :=
  ⟨h.b0.below hb h.b0.lt, h.b1.below hb h.b1.lt, h.gt, new_call h.bel hb⟩
theorem AreaAt.alloc {w wx : World} {G : Nat} {x : Int} (h : AreaAt w G x wx) (o : Obj) : AreaAt w G x (wx.alloc o) := ⟨h.b0.alloc _, h.b1.alloc _, h.gt, new_alloc h.bel _⟩
theorem AreaAt.put {w wx : World} {G : Nat} {x : Int} (h : AreaAt w G x wx) (y : Int) : AreaAt w G y ((wx.setCell ⟨G, 0, none⟩ (.int .i64 (hiW y))).setCell ⟨G, 1, none⟩ (.int .u64 (loW y))) := by
  have hg := h.gt
  exact ⟨(h.b0.far (by show w.heap.size ≠ G; omega) _).far (by show w.heap.size ≠ G; omega) _, (h.b1.set_ 0 _).set_ 1 _, h.gt, (h.bel.setCell (by show w.heap.size ≤ G; omega) _).setCell (by show w.heap.size ≤ G; omega) _⟩
/-- And the two points of a side. -/
structure AreaS (w : World) (G P Q : Nat) (x : Int) (p q : P3) (wx : World) : Prop where
  own : AreaAt w G x wx
  bp : Blk wx P 23 #[.int .i64 p.1, .int .i64 p.2.1, .int .i64 p.2.2]
  bq : Blk wx Q 23 #[.int .i64 q.1, .int .i64 q.2.1, .int .i64 q.2.2]
theorem AreaS.next {w wx w' : World} {G P Q : Nat} {x : Int} {p q : P3} (h : AreaS w G P Q x p q wx) (hb : Below wx.heap.size wx w') : AreaS w G P Q x p q w' :=
  ⟨h.own.next hb, h.bp.below hb h.bp.lt, h.bq.below hb h.bq.lt⟩
theorem AreaS.put {w wx : World} {G P Q : Nat} {x : Int} {p q : P3} (h : AreaS w G P Q x p q wx) (hP : P ≠ G) (hQ : Q ≠ G) (y : Int) : AreaS w G P Q y p q ((wx.setCell ⟨G, 0, none⟩ (.int .i64 (hiW y))).setCell ⟨G, 1, none⟩ (.int .u64 (loW y))) :=
  ⟨h.own.put y, (h.bp.far hP _).far hP _, (h.bq.far hQ _).far hQ _⟩
theorem AreaS.side {w wx : World} {G P Q : Nat} {x : Int} {p q : P3} (h : AreaS w G P Q x p q wx) : wx.cell? ⟨P, 0, none⟩ = some (.int .i64 p.1) ∧ wx.cell? ⟨P, 1, none⟩ = some (.int .i64 p.2.1) ∧ wx.cell? ⟨Q, 0, none⟩ = some (.int .i64 q.1) ∧ wx.cell? ⟨Q, 1, none⟩ = some (.int .i64 q.2.1) :=
  ⟨h.bp.cell 0, h.bp.cell 1, h.bq.cell 0, h.bq.cell 1⟩
theorem sum_two (x a b : Int) : numV (valW (hiW x) (loW x) + sumN [(hiW a, loW a), (hiW (-b), loW (-b))]) = numV (x + (a - b)) := by
  refine numV_cong ?_
  have e : sumN [(hiW a, loW a), (hiW (-b), loW (-b))] = valW (hiW a) (loW a) + valW (hiW (-b)) (loW (-b)) := by
    show valW _ _ + (valW _ _ + 0) = _
    rw [Int.add_zero]
  rw [e, Int.sub_eq_add_neg]
  exact ((cong_num x).add ((cong_num a).add (cong_num (-b)))).symm
set_option maxRecDepth 100000 in
set_option maxHeartbeats 2000000 in
theorem geomArea_any (A : Option Addr) (n c : Nat) (l : List P3) (w : World) (h : HasK 3 w A n c (p3Cells l)) (hn : n ≤ 100000) : Calls Try.prog 20 #[.slice A n c] w fun e w' => e = .returned (numV (areaF l)) ∧ Below w.heap.size w w' := by
  obtain ⟨kz, ks⟩ := zero_of_info numInfo
  have HL : Hid (l.length = n) := by have := h.len; rw [p3Cells_len] at this; show _ = _; omega
  have HH := Lib.hid h
  have HK0 : Hid (Blk (w.alloc (.cells #[.int .i64 0, .int .u64 0] 34)) w.heap.size 34 #[.int .i64 0, .int .u64 0]) := Blk.new w _ _
  have HB0 := Lib.hid (new_alloc (Below.refl w.heap.size w) (.cells #[.int .i64 0, .int .u64 0] 34))
  have HRt := Lib.hid (fun W (hW : Below w.heap.size w W) => geomRight_any A n c l W (h.kept hW) (by omega))
  clear h
  by_cases hr : rights l = true
  · have HA : Hid (areaF l = sumS (sides l)) := if_pos hr
    have HRi := Lib.hid (fun i hi => rightP_iff.1 (right_at (i := i) hr hi))
    rw [HA.out]
    rw [hr] at HRt
    go_enter Try.func20, Try.ntmps20
    go_wp2_with fail
    refine (HRt.out _ HB0.out).mono ?_
    rintro e w1 ⟨rfl, hb1⟩
    have HK1 := Lib.hid (HK0.out.below hb1 HK0.out.lt)
    have HB1 := Lib.hid (new_call HB0.out hb1)
    clear hb1 HRt HK0 HB0
    have HS2 : Hid (AreaAt w w1.heap.size 0 (w1.alloc (.cells #[.int .i64 0, .int .u64 0] 34))) := by
      have hb := Blk.new w1 34 #[.int .i64 0, .int .u64 0]
      refine ⟨HK1.out.alloc _, ?_, HK1.out.lt, new_alloc HB1.out _⟩
      rw [hi0, lo0]
      exact hb
    clear hr
    go_wp2
    generalize w1.heap.size = G at *
    go_loopg [13] n (fun g s13 wx => ∃ (i : Nat) (x : Int), i + g = n ∧ s13 = .int .i64 i ∧ Hid (AreaAt w G x wx) ∧ Hid (x + sumS ((sides l).drop i) = sumS (sides l)))
    case atStart => exact ⟨0, 0, by omega, rfl, HS2, by show _ = _; simp⟩
    case round =>
      obtain ⟨i, x, hig, rfl, HS, HP⟩ := hrel
      clear HS2
      by_cases hi : i < n
      · have ti : decide ((i : Int) < (n : Int)) = true := by simp; omega
        have i2 : (i : Int) < (n : Int) := by omega
        have hil : i < l.length := by rw [HL.out]; exact hi
        obtain ⟨b, off, rfl, hlt, _⟩ := (HH.out.kept HS.out.bel).at_ (by omega)
        obtain ⟨z1, z2, z3⟩ := p3_at (HH.out.kept HS.out.bel) hil
        obtain ⟨q, hq⟩ : ∃ q, (if h2 : i + 1 < l.length then l[i + 1] else l[0]'(by omega)) = q := ⟨_, rfl⟩
        have HD := Lib.hid (sums_drop hil rfl hq)
        have hx := HRi.out i hil
        have hy : (-2147483648 ≤ q.1 ∧ q.1 ≤ 2147483647) ∧ (-2147483648 ≤ q.2.1 ∧ q.2.1 ≤ 2147483647) ∧ q.2.2 = 0 := by
          by_cases h2 : i + 1 < l.length
          · rw [dif_pos h2] at hq
            have h1 := HRi.out (i + 1) h2
            rw [hq] at h1
            exact h1
          · rw [dif_neg h2] at hq
            have h1 := HRi.out 0 (by omega)
            rw [hq] at h1
            exact h1
        obtain ⟨x2, y2, z2'⟩ := q
        have HFo := Lib.hid (fun W (hW : Below w.heap.size w W) => geomfollowing_any (some ⟨b, off, none⟩) n c l W (HH.out.kept hW) hn i hil x2 y2 z2' hq)
        clear hq
        generalize l[i] = p at *
        obtain ⟨x1, y1, z1'⟩ := p
        simp only at hx hy HD z1 z2 z3
        have HM1 : Hid (∀ W, Calls Try.prog 40 #[.int .i64 x1, .int .i64 y2] W fun e w' => e = .returned (.agg #[.int .i64 (hiW (x1 * y2)), .int .u64 (loW (x1 * y2))]) ∧ Below W.heap.size W w') := fun W => wideMul_any x1 y2 W (by unfold i64W; omega) (by unfold i64W; omega)
        have HM2 : Hid (∀ W, Calls Try.prog 40 #[.int .i64 y1, .int .i64 x2] W fun e w' => e = .returned (.agg #[.int .i64 (hiW (y1 * x2)), .int .u64 (loW (y1 * x2))]) ∧ Below W.heap.size W w') := fun W => wideMul_any y1 x2 W (by unfold i64W; omega) (by unfold i64W; omega)
        have HN : Hid (∀ W, Calls Try.prog 26 #[.agg #[.int .i64 (hiW (y1 * x2)), .int .u64 (loW (y1 * x2))]] W fun e w' => e = .returned (.agg #[.int .i64 (hiW (-(y1 * x2))), .int .u64 (loW (-(y1 * x2)))]) ∧ Below W.heap.size W w') := fun W => wideNegC_any (y1 * x2) W
        have HAd : Hid (∀ V : World, Calls Try.prog 39 #[.agg #[.int .i64 (hiW x), .int .u64 (loW x)], .slice (some ⟨V.heap.size, 0, none⟩) 2 2] (V.alloc (.cells #[.int .i64 (hiW (x1 * y2)), .int .u64 (loW (x1 * y2)), .int .i64 (hiW (-(y1 * x2))), .int .u64 (loW (-(y1 * x2)))] 34)) fun e w' => e = .returned (.agg #[.int .i64 (hiW (x + (x1 * y2 - y1 * x2))), .int .u64 (loW (x + (x1 * y2 - y1 * x2)))]) ∧ Below V.heap.size V w') := fun V => by
          refine (wideAdd_any (hiW x) (loW x) (some ⟨V.heap.size, 0, none⟩) 2 2 [(hiW (x1 * y2), loW (x1 * y2)), (hiW (-(y1 * x2)), loW (-(y1 * x2)))] _ (hi_in x) (lo_in x) (HasK.new_at 2 V _ _ _ 2 rfl rfl) (by
            intro p hp
            simp only [List.mem_cons, List.not_mem_nil, or_false] at hp
            rcases hp with rfl | rfl
            · exact ⟨hi_in _, lo_in _⟩
            · exact ⟨hi_in _, lo_in _⟩) (by decide)).mono ?_
          rintro e w' ⟨rfl, hb⟩
          exact ⟨congrArg Ending.returned (sum_two x (x1 * y2) (y1 * x2)), new_call (new_alloc (Below.refl _ _) _) hb⟩
        have HP2 : Hid (x + (x1 * y2 - y1 * x2) + sumS ((sides l).drop (i + 1)) = sumS (sides l)) := by show _ = _; have h1 := HP.out; rw [HD.out] at h1; omega
        clear hx hy HD HP hil hlt
        generalize hiW (x1 * y2) = H1 at *
        generalize loW (x1 * y2) = L1 at *
        generalize hiW (-(y1 * x2)) = H3 at *
        generalize loW (-(y1 * x2)) = L3 at *
        generalize hiW (y1 * x2) = H2 at *
        generalize loW (y1 * x2) = L2 at *
        generalize x + (x1 * y2 - y1 * x2) = y at *
        have HBa : Hid (Below w.heap.size w (wr.alloc (.cells #[.int .i64 x1, .int .i64 y1, .int .i64 z1'] 23))) := new_alloc HS.out.bel _
        have HKp : Hid (Blk (wr.alloc (.cells #[.int .i64 x1, .int .i64 y1, .int .i64 z1'] 23)) wr.heap.size 23 #[.int .i64 x1, .int .i64 y1, .int .i64 z1']) := Blk.new wr _ _
        have HSa : Hid (AreaAt w G x (wr.alloc (.cells #[.int .i64 x1, .int .i64 y1, .int .i64 z1'] 23))) := HS.out.alloc _
        go_wp2_with fail
        refine (HFo.out _ HBa.out).mono ?_
        rintro e w3 ⟨rfl, hb3⟩
        have HT : Hid (AreaS w G wr.heap.size w3.heap.size x (x1, y1, z1') (x2, y2, z2') (w3.alloc (.cells #[.int .i64 x2, .int .i64 y2, .int .i64 z2'] 23))) := ⟨(HSa.out.next hb3).alloc _, (HKp.out.below hb3 HKp.out.lt).alloc _, Blk.new w3 _ _⟩
        have hPG : wr.heap.size ≠ G := by have := HS.out.b1.lt; omega
        have hQG : w3.heap.size ≠ G := by have := HS.out.b1.lt; have := hb3.size; have : (wr.alloc (.cells #[.int .i64 x1, .int .i64 y1, .int .i64 z1'] 23)).heap.size = wr.heap.size + 1 := Array.size_push _; omega
        clear hb3 HSa HKp HBa HFo z1 z2 z3 HS
        go_wp2_with (with_reducible fail)
        generalize wr.heap.size = P at *
        generalize w3.alloc (.cells #[.int .i64 x2, .int .i64 y2, .int .i64 z2'] 23) = wc at *
        generalize w3.heap.size = Q at *
        have HC : Hid (∀ W, Below wc.heap.size wc W → W.cell? ⟨P, 0, none⟩ = some (.int .i64 x1) ∧ W.cell? ⟨P, 1, none⟩ = some (.int .i64 y1) ∧ W.cell? ⟨Q, 0, none⟩ = some (.int .i64 x2) ∧ W.cell? ⟨Q, 1, none⟩ = some (.int .i64 y2)) := fun W hW =>
          have h := HT.out.next hW
          ⟨h.bp.cell 0, h.bp.cell 1, h.bq.cell 0, h.bq.cell 1⟩
        have HG : Hid (∀ W, Below wc.heap.size wc W → W.cell? ⟨G, 0, none⟩ = some (.int .i64 (hiW x)) ∧ W.cell? ⟨G, 1, none⟩ = some (.int .u64 (loW x))) := fun W hW =>
          have h := HT.out.next hW
          ⟨h.own.b1.cell 0, h.own.b1.cell 1⟩
        have HB0 : Hid (Below wc.heap.size wc wc.drew) := (Below.refl _ _).drew
        obtain ⟨a5, a6⟩ := HG.out wc.drew HB0.out
        refine wp_region_held_drew (S := (fun W => W.cell? ⟨P, 0, none⟩ = some (.int .i64 x1) ∧ W.cell? ⟨P, 1, none⟩ = some (.int .i64 y1) ∧ W.cell? ⟨Q, 0, none⟩ = some (.int .i64 x2) ∧ W.cell? ⟨Q, 1, none⟩ = some (.int .i64 y2))) (by kernel_rfl) (HC.out _ HB0.out) (fun hHeld => ?_)
        refine wpAnyH_take (i := 1) (oi := { dst := some 22, op := Go.Op.fieldAddr 23 (Go.Operand.tmp 5) 0, type := 0, pos := "geom.go:51", after := #[], guard := none }) (v := ?uv8x1) rfl (by kernel_rfl) (by kernel_rfl) (by kernel_rfl) (fun _ _ _ h => h) (Or.inl ⟨by rfl, ?uy8x1⟩) (by assumption) ?ur8x1
        case uy8x1 => (intro w hSw; (try dsimp only at hSw); go_simp; try with_reducible rfl)
        (try simp only [Act.put, List.setIfInBounds_toArray, List.set_cons_zero, List.set_cons_succ])
        refine wpAnyH_take (i := 2) (oi := { dst := some 23, op := Go.Op.load 3 (Go.Operand.tmp 22), type := 3, pos := "geom.go:51", after := #[{ on := 1, ground := Go.Ground.data }], guard := none }) (v := ?uv8x2) rfl (by kernel_rfl) (by kernel_rfl) (by kernel_rfl) (fun _ _ _ h => h) (Or.inl ⟨by rfl, ?uy8x2⟩) (by assumption) ?ur8x2
        case uy8x2 => (intro w hSw; (try dsimp only at hSw); go_simp; try with_reducible rfl)
        (try simp only [Act.put, List.setIfInBounds_toArray, List.set_cons_zero, List.set_cons_succ])
        refine wpAnyH_take (i := 3) (oi := { dst := some 24, op := Go.Op.fieldAddr 23 (Go.Operand.tmp 6) 1, type := 0, pos := "geom.go:51", after := #[], guard := none }) (v := ?uv8x3) rfl (by kernel_rfl) (by kernel_rfl) (by kernel_rfl) (fun _ _ _ h => h) (Or.inl ⟨by rfl, ?uy8x3⟩) (by assumption) ?ur8x3
        case uy8x3 => (intro w hSw; (try dsimp only at hSw); go_simp; try with_reducible rfl)
        (try simp only [Act.put, List.setIfInBounds_toArray, List.set_cons_zero, List.set_cons_succ])
        refine wpAnyH_take (i := 4) (oi := { dst := some 25, op := Go.Op.load 3 (Go.Operand.tmp 24), type := 3, pos := "geom.go:51", after := #[{ on := 3, ground := Go.Ground.data }], guard := none }) (v := ?uv8x4) rfl (by kernel_rfl) (by kernel_rfl) (by kernel_rfl) (fun _ _ _ h => h) (Or.inl ⟨by rfl, ?uy8x4⟩) (by assumption) ?ur8x4
        case uy8x4 => (intro w hSw; (try dsimp only at hSw); go_simp; try with_reducible rfl)
        (try simp only [Act.put, List.setIfInBounds_toArray, List.set_cons_zero, List.set_cons_succ])
        refine wpAnyH_take (i := 6) (oi := { dst := some 27, op := Go.Op.fieldAddr 23 (Go.Operand.tmp 5) 1, type := 0, pos := "geom.go:51", after := #[], guard := none }) (v := ?uv8x6) rfl (by kernel_rfl) (by kernel_rfl) (by kernel_rfl) (fun _ _ _ h => h) (Or.inl ⟨by rfl, ?uy8x6⟩) (by assumption) ?ur8x6
        case uy8x6 => (intro w hSw; (try dsimp only at hSw); go_simp; try with_reducible rfl)
        (try simp only [Act.put, List.setIfInBounds_toArray, List.set_cons_zero, List.set_cons_succ])
        refine wpAnyH_take (i := 7) (oi := { dst := some 28, op := Go.Op.load 3 (Go.Operand.tmp 27), type := 3, pos := "geom.go:51", after := #[{ on := 6, ground := Go.Ground.data }], guard := none }) (v := ?uv8x7) rfl (by kernel_rfl) (by kernel_rfl) (by kernel_rfl) (fun _ _ _ h => h) (Or.inl ⟨by rfl, ?uy8x7⟩) (by assumption) ?ur8x7
        case uy8x7 => (intro w hSw; (try dsimp only at hSw); go_simp; try with_reducible rfl)
        (try simp only [Act.put, List.setIfInBounds_toArray, List.set_cons_zero, List.set_cons_succ])
        refine wpAnyH_take (i := 8) (oi := { dst := some 29, op := Go.Op.fieldAddr 23 (Go.Operand.tmp 6) 0, type := 0, pos := "geom.go:51", after := #[], guard := none }) (v := ?uv8x8) rfl (by kernel_rfl) (by kernel_rfl) (by kernel_rfl) (fun _ _ _ h => h) (Or.inl ⟨by rfl, ?uy8x8⟩) (by assumption) ?ur8x8
        case uy8x8 => (intro w hSw; (try dsimp only at hSw); go_simp; try with_reducible rfl)
        (try simp only [Act.put, List.setIfInBounds_toArray, List.set_cons_zero, List.set_cons_succ])
        refine wpAnyH_take (i := 9) (oi := { dst := some 30, op := Go.Op.load 3 (Go.Operand.tmp 29), type := 3, pos := "geom.go:51", after := #[{ on := 8, ground := Go.Ground.data }], guard := none }) (v := ?uv8x9) rfl (by kernel_rfl) (by kernel_rfl) (by kernel_rfl) (fun _ _ _ h => h) (Or.inl ⟨by rfl, ?uy8x9⟩) (by assumption) ?ur8x9
        case uy8x9 => (intro w hSw; (try dsimp only at hSw); go_simp; try with_reducible rfl)
        (try simp only [Act.put, List.setIfInBounds_toArray, List.set_cons_zero, List.set_cons_succ])
        refine wpAnyH_ready (rs := [0, 5]) (by kernel_rfl) (by simp) ?_
        refine AllReadyH.cons (o := { dst := some 21, op := Go.Op.load 34 (Go.Operand.tmp 3), type := 34, pos := "geom.go:51", after := #[], guard := none }) rfl (fun K hK => ?_) (AllReadyH.cons (o := { dst := some 26, op := Go.Op.call { callee := Go.Callee.value (Go.Operand.func 40), args := #[Go.Operand.tmp 23, Go.Operand.tmp 25], argTypes := #[3, 3] }, type := 34, pos := "geom.go:51", after := #[{ on := 2, ground := Go.Ground.data }, { on := 4, ground := Go.Ground.data }], guard := none }) rfl (fun K hK => ?_) AllReadyH.nil)
        · go_simp
          refine hK.out _ _ ?_ (fun hHeld => ?_)
          · with_reducible exact HC.out _ HB0.out
          clear hK K
          (try simp only [Act.put, List.setIfInBounds_toArray, List.set_cons_zero, List.set_cons_succ])
          refine wpAnyH_ready (rs := [5]) (by kernel_rfl) (by simp) ?_
          refine AllReadyH.cons (o := { dst := some 26, op := Go.Op.call { callee := Go.Callee.value (Go.Operand.func 40), args := #[Go.Operand.tmp 23, Go.Operand.tmp 25], argTypes := #[3, 3] }, type := 34, pos := "geom.go:51", after := #[{ on := 2, ground := Go.Ground.data }, { on := 4, ground := Go.Ground.data }], guard := none }) rfl (fun K hK => ?_) AllReadyH.nil
          go_simp
          (go_at_call 40; (with_reducible refine (HM1.out wc.drew).mono ?_); rintro e v1 ⟨rfl, hb1⟩; have HB1 := Lib.hid (new_call HB0.out hb1); obtain ⟨s5, s6⟩ := HG.out v1 HB1.out; clear hb1)
          go_simp
          refine hK.out _ _ ?_ (fun hHeld => ?_)
          · with_reducible exact HC.out _ HB1.out
          clear hK K
          (try simp only [Act.put, List.setIfInBounds_toArray, List.set_cons_zero, List.set_cons_succ])
          refine wpAnyH_ready (rs := [10]) (by kernel_rfl) (by simp) ?_
          refine AllReadyH.cons (o := { dst := some 31, op := Go.Op.call { callee := Go.Callee.value (Go.Operand.func 40), args := #[Go.Operand.tmp 28, Go.Operand.tmp 30], argTypes := #[3, 3] }, type := 34, pos := "geom.go:51", after := #[{ on := 7, ground := Go.Ground.data }, { on := 9, ground := Go.Ground.data }, { on := 5, ground := Go.Ground.chain }], guard := none }) rfl (fun K hK => ?_) AllReadyH.nil
          go_simp
          (go_at_call 40; (with_reducible refine (HM2.out v1).mono ?_); rintro e v2 ⟨rfl, hb2⟩; have HB2 := Lib.hid (new_call HB1.out hb2); obtain ⟨r5, r6⟩ := HG.out v2 HB2.out; clear hb2)
          go_simp
          refine hK.out _ _ ?_ (fun hHeld => ?_)
          · with_reducible exact HC.out _ HB2.out
          clear hK K
          (try simp only [Act.put, List.setIfInBounds_toArray, List.set_cons_zero, List.set_cons_succ])
          refine wpAnyH_ready (rs := [11]) (by kernel_rfl) (by simp) ?_
          refine AllReadyH.cons (o := { dst := some 32, op := Go.Op.call { callee := Go.Callee.value (Go.Operand.func 26), args := #[Go.Operand.tmp 31], argTypes := #[34] }, type := 34, pos := "geom.go:51", after := #[{ on := 10, ground := Go.Ground.data }, { on := 10, ground := Go.Ground.chain }], guard := none }) rfl (fun K hK => ?_) AllReadyH.nil
          go_simp
          (go_at_call 26; (with_reducible refine (HN.out v2).mono ?_); rintro e v3 ⟨rfl, hb3⟩; have HB3 := Lib.hid (new_call HB2.out hb3); obtain ⟨t5, t6⟩ := HG.out v3 HB3.out; have HBz := Lib.hid (new_alloc HB3.out (.cells #[.int .i64 H1, .int .u64 L1, .int .i64 H3, .int .u64 L3] 34)); obtain ⟨o5, o6⟩ := HG.out _ HBz.out; clear hb3)
          go_simp
          refine hK.out _ _ ?_ (fun hHeld => ?_)
          · with_reducible exact HC.out _ HB3.out
          clear hK K
          (try simp only [Act.put, List.setIfInBounds_toArray, List.set_cons_zero, List.set_cons_succ])
          refine wpAnyH_ready (rs := [12]) (by kernel_rfl) (by simp) ?_
          refine AllReadyH.cons (o := { dst := some 33, op := Go.Op.buildSlice 71 2 #[(0, Go.Operand.tmp 26), (1, Go.Operand.tmp 32)], type := 71, pos := "geom.go:51", after := #[{ on := 5, ground := Go.Ground.data }, { on := 11, ground := Go.Ground.data }], guard := none }) rfl (fun K hK => ?_) AllReadyH.nil
          go_simp
          refine hK.out _ _ ?_ (fun hHeld => ?_)
          · with_reducible exact HC.out _ HBz.out
          clear hK K
          (try simp only [Act.put, List.setIfInBounds_toArray, List.set_cons_zero, List.set_cons_succ])
          refine wpAnyH_ready (rs := [13]) (by kernel_rfl) (by simp) ?_
          refine AllReadyH.cons (o := { dst := some 34, op := Go.Op.call { callee := Go.Callee.value (Go.Operand.func 39), args := #[Go.Operand.tmp 21, Go.Operand.tmp 33], argTypes := #[34, 71] }, type := 34, pos := "geom.go:51", after := #[{ on := 0, ground := Go.Ground.data }, { on := 12, ground := Go.Ground.data }, { on := 11, ground := Go.Ground.chain }], guard := none }) rfl (fun K hK => ?_) AllReadyH.nil
          go_simp
          (go_at_call 39; (with_reducible refine (HAd.out v3).mono ?_); rintro e v4 ⟨rfl, hb4⟩; have HB4 := Lib.hid (new_call HB3.out hb4); have HT4 := Lib.hid (HT.out.next HB4.out); have fz := HT4.out.own.b1.frozen 0; have fz1 := HT4.out.own.b1.frozen 1; obtain ⟨q5, q6⟩ := HG.out v4 HB4.out; have HPt := Lib.hid (HT4.out.put hPG hQG y); have HSn := Lib.hid (HPt.out.side); clear hb4)
          go_simp
          refine hK.out _ _ ?_ (fun hHeld => ?_)
          · with_reducible exact HC.out _ HB4.out
          clear hK K
          (try simp only [Act.put, List.setIfInBounds_toArray, List.set_cons_zero, List.set_cons_succ])
          refine wpAnyH_ready (rs := [14]) (by kernel_rfl) (by simp) ?_
          refine AllReadyH.cons (o := { dst := none, op := Go.Op.store 34 (Go.Operand.tmp 3) (Go.Operand.tmp 34), type := 0, pos := "geom.go:51", after := #[{ on := 13, ground := Go.Ground.data }, { on := 13, ground := Go.Ground.chain }, { on := 0, ground := Go.Ground.phase }, { on := 1, ground := Go.Ground.phase }, { on := 2, ground := Go.Ground.phase }, { on := 3, ground := Go.Ground.phase }, { on := 4, ground := Go.Ground.phase }, { on := 5, ground := Go.Ground.phase }, { on := 6, ground := Go.Ground.phase }, { on := 7, ground := Go.Ground.phase }, { on := 8, ground := Go.Ground.phase }, { on := 9, ground := Go.Ground.phase }, { on := 10, ground := Go.Ground.phase }, { on := 11, ground := Go.Ground.phase }, { on := 12, ground := Go.Ground.phase }, { on := 13, ground := Go.Ground.phase }], guard := none }) rfl (fun K hK => ?_) AllReadyH.nil
          go_simp
          refine hK.out _ _ ?_ (fun hHeld => ?_)
          · with_reducible exact HSn.out
          clear hK K
          (try simp only [Act.put, List.setIfInBounds_toArray, List.set_cons_zero, List.set_cons_succ])
          refine wpAnyH_done (by kernel_rfl) ?_ _
          go_wp2
          go_roundg (gk - 1)
          case measure => omega
          case rel => exact ⟨i + 1, y, by omega, by go_num, Lib.hid HPt.out.own, HP2⟩
        · go_simp
          (go_at_call 40; (with_reducible refine (HM1.out wc.drew).mono ?_); rintro e v1 ⟨rfl, hb1⟩; have HB1 := Lib.hid (new_call HB0.out hb1); obtain ⟨s5, s6⟩ := HG.out v1 HB1.out; clear hb1)
          go_simp
          refine hK.out _ _ ?_ (fun hHeld => ?_)
          · with_reducible exact HC.out _ HB1.out
          clear hK K
          (try simp only [Act.put, List.setIfInBounds_toArray, List.set_cons_zero, List.set_cons_succ])
          refine wpAnyH_ready (rs := [0, 10]) (by kernel_rfl) (by simp) ?_
          refine AllReadyH.cons (o := { dst := some 21, op := Go.Op.load 34 (Go.Operand.tmp 3), type := 34, pos := "geom.go:51", after := #[], guard := none }) rfl (fun K hK => ?_) (AllReadyH.cons (o := { dst := some 31, op := Go.Op.call { callee := Go.Callee.value (Go.Operand.func 40), args := #[Go.Operand.tmp 28, Go.Operand.tmp 30], argTypes := #[3, 3] }, type := 34, pos := "geom.go:51", after := #[{ on := 7, ground := Go.Ground.data }, { on := 9, ground := Go.Ground.data }, { on := 5, ground := Go.Ground.chain }], guard := none }) rfl (fun K hK => ?_) AllReadyH.nil)
          · go_simp
            refine hK.out _ _ ?_ (fun hHeld => ?_)
            · with_reducible exact HC.out _ HB1.out
            clear hK K
            (try simp only [Act.put, List.setIfInBounds_toArray, List.set_cons_zero, List.set_cons_succ])
            refine wpAnyH_ready (rs := [10]) (by kernel_rfl) (by simp) ?_
            refine AllReadyH.cons (o := { dst := some 31, op := Go.Op.call { callee := Go.Callee.value (Go.Operand.func 40), args := #[Go.Operand.tmp 28, Go.Operand.tmp 30], argTypes := #[3, 3] }, type := 34, pos := "geom.go:51", after := #[{ on := 7, ground := Go.Ground.data }, { on := 9, ground := Go.Ground.data }, { on := 5, ground := Go.Ground.chain }], guard := none }) rfl (fun K hK => ?_) AllReadyH.nil
            go_simp
            (go_at_call 40; (with_reducible refine (HM2.out v1).mono ?_); rintro e v2 ⟨rfl, hb2⟩; have HB2 := Lib.hid (new_call HB1.out hb2); obtain ⟨r5, r6⟩ := HG.out v2 HB2.out; clear hb2)
            go_simp
            refine hK.out _ _ ?_ (fun hHeld => ?_)
            · with_reducible exact HC.out _ HB2.out
            clear hK K
            (try simp only [Act.put, List.setIfInBounds_toArray, List.set_cons_zero, List.set_cons_succ])
            refine wpAnyH_ready (rs := [11]) (by kernel_rfl) (by simp) ?_
            refine AllReadyH.cons (o := { dst := some 32, op := Go.Op.call { callee := Go.Callee.value (Go.Operand.func 26), args := #[Go.Operand.tmp 31], argTypes := #[34] }, type := 34, pos := "geom.go:51", after := #[{ on := 10, ground := Go.Ground.data }, { on := 10, ground := Go.Ground.chain }], guard := none }) rfl (fun K hK => ?_) AllReadyH.nil
            go_simp
            (go_at_call 26; (with_reducible refine (HN.out v2).mono ?_); rintro e v3 ⟨rfl, hb3⟩; have HB3 := Lib.hid (new_call HB2.out hb3); obtain ⟨t5, t6⟩ := HG.out v3 HB3.out; have HBz := Lib.hid (new_alloc HB3.out (.cells #[.int .i64 H1, .int .u64 L1, .int .i64 H3, .int .u64 L3] 34)); obtain ⟨o5, o6⟩ := HG.out _ HBz.out; clear hb3)
            go_simp
            refine hK.out _ _ ?_ (fun hHeld => ?_)
            · with_reducible exact HC.out _ HB3.out
            clear hK K
            (try simp only [Act.put, List.setIfInBounds_toArray, List.set_cons_zero, List.set_cons_succ])
            refine wpAnyH_ready (rs := [12]) (by kernel_rfl) (by simp) ?_
            refine AllReadyH.cons (o := { dst := some 33, op := Go.Op.buildSlice 71 2 #[(0, Go.Operand.tmp 26), (1, Go.Operand.tmp 32)], type := 71, pos := "geom.go:51", after := #[{ on := 5, ground := Go.Ground.data }, { on := 11, ground := Go.Ground.data }], guard := none }) rfl (fun K hK => ?_) AllReadyH.nil
            go_simp
            refine hK.out _ _ ?_ (fun hHeld => ?_)
            · with_reducible exact HC.out _ HBz.out
            clear hK K
            (try simp only [Act.put, List.setIfInBounds_toArray, List.set_cons_zero, List.set_cons_succ])
            refine wpAnyH_ready (rs := [13]) (by kernel_rfl) (by simp) ?_
            refine AllReadyH.cons (o := { dst := some 34, op := Go.Op.call { callee := Go.Callee.value (Go.Operand.func 39), args := #[Go.Operand.tmp 21, Go.Operand.tmp 33], argTypes := #[34, 71] }, type := 34, pos := "geom.go:51", after := #[{ on := 0, ground := Go.Ground.data }, { on := 12, ground := Go.Ground.data }, { on := 11, ground := Go.Ground.chain }], guard := none }) rfl (fun K hK => ?_) AllReadyH.nil
            go_simp
            (go_at_call 39; (with_reducible refine (HAd.out v3).mono ?_); rintro e v4 ⟨rfl, hb4⟩; have HB4 := Lib.hid (new_call HB3.out hb4); have HT4 := Lib.hid (HT.out.next HB4.out); have fz := HT4.out.own.b1.frozen 0; have fz1 := HT4.out.own.b1.frozen 1; obtain ⟨q5, q6⟩ := HG.out v4 HB4.out; have HPt := Lib.hid (HT4.out.put hPG hQG y); have HSn := Lib.hid (HPt.out.side); clear hb4)
            go_simp
            refine hK.out _ _ ?_ (fun hHeld => ?_)
            · with_reducible exact HC.out _ HB4.out
            clear hK K
            (try simp only [Act.put, List.setIfInBounds_toArray, List.set_cons_zero, List.set_cons_succ])
            refine wpAnyH_ready (rs := [14]) (by kernel_rfl) (by simp) ?_
            refine AllReadyH.cons (o := { dst := none, op := Go.Op.store 34 (Go.Operand.tmp 3) (Go.Operand.tmp 34), type := 0, pos := "geom.go:51", after := #[{ on := 13, ground := Go.Ground.data }, { on := 13, ground := Go.Ground.chain }, { on := 0, ground := Go.Ground.phase }, { on := 1, ground := Go.Ground.phase }, { on := 2, ground := Go.Ground.phase }, { on := 3, ground := Go.Ground.phase }, { on := 4, ground := Go.Ground.phase }, { on := 5, ground := Go.Ground.phase }, { on := 6, ground := Go.Ground.phase }, { on := 7, ground := Go.Ground.phase }, { on := 8, ground := Go.Ground.phase }, { on := 9, ground := Go.Ground.phase }, { on := 10, ground := Go.Ground.phase }, { on := 11, ground := Go.Ground.phase }, { on := 12, ground := Go.Ground.phase }, { on := 13, ground := Go.Ground.phase }], guard := none }) rfl (fun K hK => ?_) AllReadyH.nil
            go_simp
            refine hK.out _ _ ?_ (fun hHeld => ?_)
            · with_reducible exact HSn.out
            clear hK K
            (try simp only [Act.put, List.setIfInBounds_toArray, List.set_cons_zero, List.set_cons_succ])
            refine wpAnyH_done (by kernel_rfl) ?_ _
            go_wp2
            go_roundg (gk - 1)
            case measure => omega
            case rel => exact ⟨i + 1, y, by omega, by go_num, Lib.hid HPt.out.own, HP2⟩
          · go_simp
            (go_at_call 40; (with_reducible refine (HM2.out v1).mono ?_); rintro e v2 ⟨rfl, hb2⟩; have HB2 := Lib.hid (new_call HB1.out hb2); obtain ⟨r5, r6⟩ := HG.out v2 HB2.out; clear hb2)
            go_simp
            refine hK.out _ _ ?_ (fun hHeld => ?_)
            · with_reducible exact HC.out _ HB2.out
            clear hK K
            (try simp only [Act.put, List.setIfInBounds_toArray, List.set_cons_zero, List.set_cons_succ])
            refine wpAnyH_ready (rs := [0, 11]) (by kernel_rfl) (by simp) ?_
            refine AllReadyH.cons (o := { dst := some 21, op := Go.Op.load 34 (Go.Operand.tmp 3), type := 34, pos := "geom.go:51", after := #[], guard := none }) rfl (fun K hK => ?_) (AllReadyH.cons (o := { dst := some 32, op := Go.Op.call { callee := Go.Callee.value (Go.Operand.func 26), args := #[Go.Operand.tmp 31], argTypes := #[34] }, type := 34, pos := "geom.go:51", after := #[{ on := 10, ground := Go.Ground.data }, { on := 10, ground := Go.Ground.chain }], guard := none }) rfl (fun K hK => ?_) AllReadyH.nil)
            · go_simp
              refine hK.out _ _ ?_ (fun hHeld => ?_)
              · with_reducible exact HC.out _ HB2.out
              clear hK K
              (try simp only [Act.put, List.setIfInBounds_toArray, List.set_cons_zero, List.set_cons_succ])
              refine wpAnyH_ready (rs := [11]) (by kernel_rfl) (by simp) ?_
              refine AllReadyH.cons (o := { dst := some 32, op := Go.Op.call { callee := Go.Callee.value (Go.Operand.func 26), args := #[Go.Operand.tmp 31], argTypes := #[34] }, type := 34, pos := "geom.go:51", after := #[{ on := 10, ground := Go.Ground.data }, { on := 10, ground := Go.Ground.chain }], guard := none }) rfl (fun K hK => ?_) AllReadyH.nil
              go_simp
              (go_at_call 26; (with_reducible refine (HN.out v2).mono ?_); rintro e v3 ⟨rfl, hb3⟩; have HB3 := Lib.hid (new_call HB2.out hb3); obtain ⟨t5, t6⟩ := HG.out v3 HB3.out; have HBz := Lib.hid (new_alloc HB3.out (.cells #[.int .i64 H1, .int .u64 L1, .int .i64 H3, .int .u64 L3] 34)); obtain ⟨o5, o6⟩ := HG.out _ HBz.out; clear hb3)
              go_simp
              refine hK.out _ _ ?_ (fun hHeld => ?_)
              · with_reducible exact HC.out _ HB3.out
              clear hK K
              (try simp only [Act.put, List.setIfInBounds_toArray, List.set_cons_zero, List.set_cons_succ])
              refine wpAnyH_ready (rs := [12]) (by kernel_rfl) (by simp) ?_
              refine AllReadyH.cons (o := { dst := some 33, op := Go.Op.buildSlice 71 2 #[(0, Go.Operand.tmp 26), (1, Go.Operand.tmp 32)], type := 71, pos := "geom.go:51", after := #[{ on := 5, ground := Go.Ground.data }, { on := 11, ground := Go.Ground.data }], guard := none }) rfl (fun K hK => ?_) AllReadyH.nil
              go_simp
              refine hK.out _ _ ?_ (fun hHeld => ?_)
              · with_reducible exact HC.out _ HBz.out
              clear hK K
              (try simp only [Act.put, List.setIfInBounds_toArray, List.set_cons_zero, List.set_cons_succ])
              refine wpAnyH_ready (rs := [13]) (by kernel_rfl) (by simp) ?_
              refine AllReadyH.cons (o := { dst := some 34, op := Go.Op.call { callee := Go.Callee.value (Go.Operand.func 39), args := #[Go.Operand.tmp 21, Go.Operand.tmp 33], argTypes := #[34, 71] }, type := 34, pos := "geom.go:51", after := #[{ on := 0, ground := Go.Ground.data }, { on := 12, ground := Go.Ground.data }, { on := 11, ground := Go.Ground.chain }], guard := none }) rfl (fun K hK => ?_) AllReadyH.nil
              go_simp
              (go_at_call 39; (with_reducible refine (HAd.out v3).mono ?_); rintro e v4 ⟨rfl, hb4⟩; have HB4 := Lib.hid (new_call HB3.out hb4); have HT4 := Lib.hid (HT.out.next HB4.out); have fz := HT4.out.own.b1.frozen 0; have fz1 := HT4.out.own.b1.frozen 1; obtain ⟨q5, q6⟩ := HG.out v4 HB4.out; have HPt := Lib.hid (HT4.out.put hPG hQG y); have HSn := Lib.hid (HPt.out.side); clear hb4)
              go_simp
              refine hK.out _ _ ?_ (fun hHeld => ?_)
              · with_reducible exact HC.out _ HB4.out
              clear hK K
              (try simp only [Act.put, List.setIfInBounds_toArray, List.set_cons_zero, List.set_cons_succ])
              refine wpAnyH_ready (rs := [14]) (by kernel_rfl) (by simp) ?_
              refine AllReadyH.cons (o := { dst := none, op := Go.Op.store 34 (Go.Operand.tmp 3) (Go.Operand.tmp 34), type := 0, pos := "geom.go:51", after := #[{ on := 13, ground := Go.Ground.data }, { on := 13, ground := Go.Ground.chain }, { on := 0, ground := Go.Ground.phase }, { on := 1, ground := Go.Ground.phase }, { on := 2, ground := Go.Ground.phase }, { on := 3, ground := Go.Ground.phase }, { on := 4, ground := Go.Ground.phase }, { on := 5, ground := Go.Ground.phase }, { on := 6, ground := Go.Ground.phase }, { on := 7, ground := Go.Ground.phase }, { on := 8, ground := Go.Ground.phase }, { on := 9, ground := Go.Ground.phase }, { on := 10, ground := Go.Ground.phase }, { on := 11, ground := Go.Ground.phase }, { on := 12, ground := Go.Ground.phase }, { on := 13, ground := Go.Ground.phase }], guard := none }) rfl (fun K hK => ?_) AllReadyH.nil
              go_simp
              refine hK.out _ _ ?_ (fun hHeld => ?_)
              · with_reducible exact HSn.out
              clear hK K
              (try simp only [Act.put, List.setIfInBounds_toArray, List.set_cons_zero, List.set_cons_succ])
              refine wpAnyH_done (by kernel_rfl) ?_ _
              go_wp2
              go_roundg (gk - 1)
              case measure => omega
              case rel => exact ⟨i + 1, y, by omega, by go_num, Lib.hid HPt.out.own, HP2⟩
            · go_simp
              (go_at_call 26; (with_reducible refine (HN.out v2).mono ?_); rintro e v3 ⟨rfl, hb3⟩; have HB3 := Lib.hid (new_call HB2.out hb3); obtain ⟨t5, t6⟩ := HG.out v3 HB3.out; have HBz := Lib.hid (new_alloc HB3.out (.cells #[.int .i64 H1, .int .u64 L1, .int .i64 H3, .int .u64 L3] 34)); obtain ⟨o5, o6⟩ := HG.out _ HBz.out; clear hb3)
              go_simp
              refine hK.out _ _ ?_ (fun hHeld => ?_)
              · with_reducible exact HC.out _ HB3.out
              clear hK K
              (try simp only [Act.put, List.setIfInBounds_toArray, List.set_cons_zero, List.set_cons_succ])
              refine wpAnyH_ready (rs := [0, 12]) (by kernel_rfl) (by simp) ?_
              refine AllReadyH.cons (o := { dst := some 21, op := Go.Op.load 34 (Go.Operand.tmp 3), type := 34, pos := "geom.go:51", after := #[], guard := none }) rfl (fun K hK => ?_) (AllReadyH.cons (o := { dst := some 33, op := Go.Op.buildSlice 71 2 #[(0, Go.Operand.tmp 26), (1, Go.Operand.tmp 32)], type := 71, pos := "geom.go:51", after := #[{ on := 5, ground := Go.Ground.data }, { on := 11, ground := Go.Ground.data }], guard := none }) rfl (fun K hK => ?_) AllReadyH.nil)
              · go_simp
                refine hK.out _ _ ?_ (fun hHeld => ?_)
                · with_reducible exact HC.out _ HB3.out
                clear hK K
                (try simp only [Act.put, List.setIfInBounds_toArray, List.set_cons_zero, List.set_cons_succ])
                refine wpAnyH_ready (rs := [12]) (by kernel_rfl) (by simp) ?_
                refine AllReadyH.cons (o := { dst := some 33, op := Go.Op.buildSlice 71 2 #[(0, Go.Operand.tmp 26), (1, Go.Operand.tmp 32)], type := 71, pos := "geom.go:51", after := #[{ on := 5, ground := Go.Ground.data }, { on := 11, ground := Go.Ground.data }], guard := none }) rfl (fun K hK => ?_) AllReadyH.nil
                go_simp
                refine hK.out _ _ ?_ (fun hHeld => ?_)
                · with_reducible exact HC.out _ HBz.out
                clear hK K
                (try simp only [Act.put, List.setIfInBounds_toArray, List.set_cons_zero, List.set_cons_succ])
                refine wpAnyH_ready (rs := [13]) (by kernel_rfl) (by simp) ?_
                refine AllReadyH.cons (o := { dst := some 34, op := Go.Op.call { callee := Go.Callee.value (Go.Operand.func 39), args := #[Go.Operand.tmp 21, Go.Operand.tmp 33], argTypes := #[34, 71] }, type := 34, pos := "geom.go:51", after := #[{ on := 0, ground := Go.Ground.data }, { on := 12, ground := Go.Ground.data }, { on := 11, ground := Go.Ground.chain }], guard := none }) rfl (fun K hK => ?_) AllReadyH.nil
                go_simp
                (go_at_call 39; (with_reducible refine (HAd.out v3).mono ?_); rintro e v4 ⟨rfl, hb4⟩; have HB4 := Lib.hid (new_call HB3.out hb4); have HT4 := Lib.hid (HT.out.next HB4.out); have fz := HT4.out.own.b1.frozen 0; have fz1 := HT4.out.own.b1.frozen 1; obtain ⟨q5, q6⟩ := HG.out v4 HB4.out; have HPt := Lib.hid (HT4.out.put hPG hQG y); have HSn := Lib.hid (HPt.out.side); clear hb4)
                go_simp
                refine hK.out _ _ ?_ (fun hHeld => ?_)
                · with_reducible exact HC.out _ HB4.out
                clear hK K
                (try simp only [Act.put, List.setIfInBounds_toArray, List.set_cons_zero, List.set_cons_succ])
                refine wpAnyH_ready (rs := [14]) (by kernel_rfl) (by simp) ?_
                refine AllReadyH.cons (o := { dst := none, op := Go.Op.store 34 (Go.Operand.tmp 3) (Go.Operand.tmp 34), type := 0, pos := "geom.go:51", after := #[{ on := 13, ground := Go.Ground.data }, { on := 13, ground := Go.Ground.chain }, { on := 0, ground := Go.Ground.phase }, { on := 1, ground := Go.Ground.phase }, { on := 2, ground := Go.Ground.phase }, { on := 3, ground := Go.Ground.phase }, { on := 4, ground := Go.Ground.phase }, { on := 5, ground := Go.Ground.phase }, { on := 6, ground := Go.Ground.phase }, { on := 7, ground := Go.Ground.phase }, { on := 8, ground := Go.Ground.phase }, { on := 9, ground := Go.Ground.phase }, { on := 10, ground := Go.Ground.phase }, { on := 11, ground := Go.Ground.phase }, { on := 12, ground := Go.Ground.phase }, { on := 13, ground := Go.Ground.phase }], guard := none }) rfl (fun K hK => ?_) AllReadyH.nil
                go_simp
                refine hK.out _ _ ?_ (fun hHeld => ?_)
                · with_reducible exact HSn.out
                clear hK K
                (try simp only [Act.put, List.setIfInBounds_toArray, List.set_cons_zero, List.set_cons_succ])
                refine wpAnyH_done (by kernel_rfl) ?_ _
                go_wp2
                go_roundg (gk - 1)
                case measure => omega
                case rel => exact ⟨i + 1, y, by omega, by go_num, Lib.hid HPt.out.own, HP2⟩
              · go_simp
                refine hK.out _ _ ?_ (fun hHeld => ?_)
                · with_reducible exact HC.out _ HBz.out
                clear hK K
                (try simp only [Act.put, List.setIfInBounds_toArray, List.set_cons_zero, List.set_cons_succ])
                refine wpAnyH_ready (rs := [0]) (by kernel_rfl) (by simp) ?_
                refine AllReadyH.cons (o := { dst := some 21, op := Go.Op.load 34 (Go.Operand.tmp 3), type := 34, pos := "geom.go:51", after := #[], guard := none }) rfl (fun K hK => ?_) AllReadyH.nil
                go_simp
                refine hK.out _ _ ?_ (fun hHeld => ?_)
                · with_reducible exact HC.out _ HBz.out
                clear hK K
                (try simp only [Act.put, List.setIfInBounds_toArray, List.set_cons_zero, List.set_cons_succ])
                refine wpAnyH_ready (rs := [13]) (by kernel_rfl) (by simp) ?_
                refine AllReadyH.cons (o := { dst := some 34, op := Go.Op.call { callee := Go.Callee.value (Go.Operand.func 39), args := #[Go.Operand.tmp 21, Go.Operand.tmp 33], argTypes := #[34, 71] }, type := 34, pos := "geom.go:51", after := #[{ on := 0, ground := Go.Ground.data }, { on := 12, ground := Go.Ground.data }, { on := 11, ground := Go.Ground.chain }], guard := none }) rfl (fun K hK => ?_) AllReadyH.nil
                go_simp
                (go_at_call 39; (with_reducible refine (HAd.out v3).mono ?_); rintro e v4 ⟨rfl, hb4⟩; have HB4 := Lib.hid (new_call HB3.out hb4); have HT4 := Lib.hid (HT.out.next HB4.out); have fz := HT4.out.own.b1.frozen 0; have fz1 := HT4.out.own.b1.frozen 1; obtain ⟨q5, q6⟩ := HG.out v4 HB4.out; have HPt := Lib.hid (HT4.out.put hPG hQG y); have HSn := Lib.hid (HPt.out.side); clear hb4)
                go_simp
                refine hK.out _ _ ?_ (fun hHeld => ?_)
                · with_reducible exact HC.out _ HB4.out
                clear hK K
                (try simp only [Act.put, List.setIfInBounds_toArray, List.set_cons_zero, List.set_cons_succ])
                refine wpAnyH_ready (rs := [14]) (by kernel_rfl) (by simp) ?_
                refine AllReadyH.cons (o := { dst := none, op := Go.Op.store 34 (Go.Operand.tmp 3) (Go.Operand.tmp 34), type := 0, pos := "geom.go:51", after := #[{ on := 13, ground := Go.Ground.data }, { on := 13, ground := Go.Ground.chain }, { on := 0, ground := Go.Ground.phase }, { on := 1, ground := Go.Ground.phase }, { on := 2, ground := Go.Ground.phase }, { on := 3, ground := Go.Ground.phase }, { on := 4, ground := Go.Ground.phase }, { on := 5, ground := Go.Ground.phase }, { on := 6, ground := Go.Ground.phase }, { on := 7, ground := Go.Ground.phase }, { on := 8, ground := Go.Ground.phase }, { on := 9, ground := Go.Ground.phase }, { on := 10, ground := Go.Ground.phase }, { on := 11, ground := Go.Ground.phase }, { on := 12, ground := Go.Ground.phase }, { on := 13, ground := Go.Ground.phase }], guard := none }) rfl (fun K hK => ?_) AllReadyH.nil
                go_simp
                refine hK.out _ _ ?_ (fun hHeld => ?_)
                · with_reducible exact HSn.out
                clear hK K
                (try simp only [Act.put, List.setIfInBounds_toArray, List.set_cons_zero, List.set_cons_succ])
                refine wpAnyH_done (by kernel_rfl) ?_ _
                go_wp2
                go_roundg (gk - 1)
                case measure => omega
                case rel => exact ⟨i + 1, y, by omega, by go_num, Lib.hid HPt.out.own, HP2⟩
      · have ti : decide ((i : Int) < (n : Int)) = false := by simp; omega
        have HP2 : Hid (x = sumS (sides l)) := by
          have h1 := HP.out
          rw [List.drop_of_length_le (by rw [sides_len, HL.out]; omega), show sumS [] = 0 from rfl, Int.add_zero] at h1
          exact h1
        have HE : Hid (numV x = numV (sumS (sides l))) := congrArg numV HP2.out
        have y0 : wr.cell? ⟨G, 0, none⟩ = some (.int .i64 (hiW x)) := HS.out.b1.cell 0
        have y1 : wr.cell? ⟨G, 1, none⟩ = some (.int .u64 (loW x)) := HS.out.b1.cell 1
        have z0 := HS.out.b0.cell 0
        have z1 := HS.out.b0.cell 1
        have fz := HS.out.b0.frozen 0
        have fz1 := HS.out.b0.frozen 1
        have HK := Lib.hid ((HS.out.b0.set_ 0 (.int .i64 (hiW x))).set_ 1 (.int .u64 (loW x)))
        have HBn : Hid (Below w.heap.size w ((wr.setCell ⟨w.heap.size, 0, none⟩ (.int .i64 (hiW x))).setCell ⟨w.heap.size, 1, none⟩ (.int .u64 (loW x)))) := (HS.out.bel.setCell (Nat.le_refl _) _).setCell (Nat.le_refl _) _
        go_wp2
        try rw [Exit.noGoto_ret]
        exact bodyPost_ret (results_cell8 Try.results20 rfl (num_load _ _ _ _ HK.out)) rfl ⟨congrArg Ending.returned HE.out, HBn.out⟩
  · have hr2 : rights l = false := by simpa using hr
    have HA : Hid (areaF l = 0) := if_neg hr
    rw [HA.out]
    rw [hr2] at HRt
    clear hr hr2
    go_enter Try.func20, Try.ntmps20
    go_wp2_with fail
    refine (HRt.out _ HB0.out).mono ?_
    rintro e w1 ⟨rfl, hb1⟩
    have HK1 := Lib.hid (HK0.out.below hb1 HK0.out.lt)
    have HB1 := Lib.hid (new_call HB0.out hb1)
    clear hb1 HRt HK0 HB0
    have z0 := HK1.out.cell 0
    have z1 := HK1.out.cell 1
    have fz0 := HK1.out.frozen 0
    have fz1 := HK1.out.frozen 1
    have HK2 := Lib.hid ((HK1.out.set_ 0 (.int .i64 0)).set_ 1 (.int .u64 0))
    have HB2 : Hid (Below w.heap.size w ((w1.setCell ⟨w.heap.size, 0, none⟩ (.int .i64 0)).setCell ⟨w.heap.size, 1, none⟩ (.int .u64 0))) := (HB1.out.setCell (Nat.le_refl _) _).setCell (Nat.le_refl _) _
    go_wp2
    try rw [Exit.noGoto_ret]
    exact bodyPost_ret (results_cell8 Try.results20 rfl (num_load _ _ _ _ HK2.out)) rfl ⟨congrArg Ending.returned num0.symm, HB2.out⟩
end Go.Proofs.Ytnhoinonojhgiaa
