/- Of any two words and any two numbers of 32 bits WideLaws answers true: a product hangs on no order, and with a sum it is the sum of products; a number and 0 less it are nothing; a word comes back. Conditions: none. -/
import Derived.Test.YtjecognpechapaaKnown08
import Derived.Test.YtjecognpechapaaLaw
namespace Go.Proofs.Ytjecognpechapaa.wideLaws
open Go.ChangeShapes Go.WideShapes Go.ChangeAt Go.RowKit

theorem prod_in {x y : Int} (hx : i64W x) (hy : i64W y) : inW (x * y) := by
  unfold i64W at hx hy
  have h : (x * y).natAbs ≤ 9223372036854775808 * 9223372036854775808 := by
    rw [Int.natAbs_mul]
    exact Nat.mul_le_mul (by omega) (by omega)
  unfold inW
  omega
theorem word_in {x : Int} (hx : i64W x) : inW x := by unfold i64W at hx; unfold inW; omega
set_option maxRecDepth 100000 in
set_option maxHeartbeats 2000000 in
theorem walk (a b c d : Int) (w : World) (ha : -9223372036854775808 ≤ a ∧ a ≤ 9223372036854775807) (hb : -9223372036854775808 ≤ b ∧ b ≤ 9223372036854775807) (hc : -2147483648 ≤ c ∧ c ≤ 2147483647) (hd : -2147483648 ≤ d ∧ d ≤ 2147483647) :
    Calls Try.prog 6 #[.int .i64 a, .int .i64 b, .int .i32 c, .int .i32 d] w fun e w' => e = .returned (.bool true) ∧ Below w.heap.size w w' := by
  have ic : i64W c := by unfold i64W; omega
  have id : i64W d := by unfold i64W; omega
  have HM1 := Lib.hid (fun W => wideMul_any a b W ha hb)
  have HM2 := Lib.hid (fun W => wideMul_any a (c + d) W ha (by unfold i64W; omega))
  have HM3 := Lib.hid (fun W => wideMul_any a c W ha ic)
  have HM4 := Lib.hid (fun W => wideMul_any d a W id ha)
  have HA5 := Lib.hid (fun V => wideAddC_any (a * c) (d * a) V)
  rw [show a * c + d * a = a * (c + d) by rw [Int.mul_add, Int.mul_comm d a]] at HA5
  have HO6 := Lib.hid (fun W => wideOf_any a W ha)
  have HI7 := Lib.hid (fun W => wideIntC_any a W (word_in ha))
  rw [show intR a = (a, true) from if_pos ha] at HI7
  have HI8 := Lib.hid (fun W => wideIntC_any (a * b) W (prod_in ha hb))
  have HMt := Lib.hid (fun W => wideMul_any b a W hb ha)
  rw [Int.mul_comm b a] at HMt
  have HNg := Lib.hid (fun W => wideNegC_any (a * b) W)
  have HAz := Lib.hid (fun W g (hs : HasK 2 W (some ⟨g, 0, none⟩) 1 1 (numCells [(hiW (-(a * b)), loW (-(a * b)))])) => wideAdd_any (hiW (a * b)) (loW (a * b)) (some ⟨g, 0, none⟩) 1 1 [(hiW (-(a * b)), loW (-(a * b)))] W (hi_in _) (lo_in _) hs (by intro p hp; obtain rfl := List.mem_singleton.1 hp; exact ⟨hi_in _, lo_in _⟩) (by decide))
  have hz : numV (valW (hiW (a * b)) (loW (a * b)) + sumN [(hiW (-(a * b)), loW (-(a * b)))]) = .agg #[.int .i64 0, .int .u64 0] := by
    rw [sumN_one]
    have h1 : Cong (valW (hiW (a * b)) (loW (a * b)) + valW (hiW (-(a * b))) (loW (-(a * b)))) 0 := by
      have h2 := ((cong_num (a * b)).add (cong_num (-(a * b)))).symm
      rw [show a * b + -(a * b) = 0 by omega] at h2
      exact h2
    rw [numV_cong h1]
    exact num_is (by unfold hiW wrap64; omega) (by unfold loW; omega)
  rw [hz] at HAz
  have hsum : wrap64 (c + d) = c + d := by unfold wrap64; omega
  have hsu2 : IntKind.wrap .i64 (c + d) = c + d := by rw [IntKind.wrap_i64]; omega
  unfold numV at HM1 HM2 HM3 HM4 HA5 HO6 HI7 HI8 HMt HNg
  have HPi : Hid (intR (a * b) = (a * b, true) ∧ i64W (a * b) ∨ intR (a * b) = (0, false)) := by
    by_cases h : i64W (a * b)
    · exact Or.inl ⟨if_pos h, h⟩
    · exact Or.inr (if_neg h)
  generalize a * (c + d) = Q at *
  generalize a * c = r1 at *
  generalize d * a = r2 at *
  obtain ⟨P, hP⟩ : ∃ P, a * b = P := ⟨_, rfl⟩
  have HPe := Lib.hid hP
  rw [hP] at HM1 HI8 HMt HNg HAz HPi
  clear hP hz
  generalize intR P = ir at *
  obtain ⟨m, has⟩ := ir
  simp only at HI8
  clear ha hb ic id
  go_enter Try.func6, Try.ntmps6
  go_wp2_with fail
  refine (HM1.out _).mono ?_
  rintro e w1 ⟨rfl, hb1⟩
  have HB1 := Lib.hid (new_alloc hb1 (.cells #[.int .i64 (hiW P), .int .u64 (loW P)] 25))
  have HX1 := Lib.hid (Blk.new w1 25 #[.int .i64 (hiW P), .int .u64 (loW P)])
  clear hb1 HM1
  go_wp2_with fail
  refine (HM2.out _).mono ?_
  rintro e w2 ⟨rfl, hb2⟩
  have HB2 := Lib.hid (new_alloc (new_call HB1.out hb2) (.cells #[.int .i64 (hiW Q), .int .u64 (loW Q)] 25))
  have HX2 := Lib.hid ((HX1.out.below hb2 HX1.out.lt).alloc (.cells #[.int .i64 (hiW Q), .int .u64 (loW Q)] 25))
  have HY2 := Lib.hid (Blk.new w2 25 #[.int .i64 (hiW Q), .int .u64 (loW Q)])
  clear hb2 HB1 HX1 HM2
  go_wp2_with fail
  refine (HM3.out _).mono ?_
  rintro e w3 ⟨rfl, hb3⟩
  have HB3 := Lib.hid (new_call HB2.out hb3)
  have HX3 := Lib.hid (HX2.out.below hb3 HX2.out.lt)
  have HY3 := Lib.hid (HY2.out.below hb3 HY2.out.lt)
  clear hb3 HB2 HX2 HY2 HM3
  go_wp2_with fail
  refine (HM4.out _).mono ?_
  rintro e w4 ⟨rfl, hb4⟩
  have HB4 := Lib.hid (new_call HB3.out hb4)
  have HX4 := Lib.hid (HX3.out.below hb4 HX3.out.lt)
  have HY4 := Lib.hid (HY3.out.below hb4 HY3.out.lt)
  clear hb4 HB3 HX3 HY3 HM4
  go_wp2_with fail
  refine (HA5.out w4).mono ?_
  rintro e w5 ⟨rfl, hb5⟩
  have HB5 := Lib.hid (new_alloc (new_call HB4.out hb5) (.cells #[.int .i64 (hiW Q), .int .u64 (loW Q)] 25))
  have HX5 := Lib.hid ((HX4.out.below hb5 HX4.out.lt).alloc (.cells #[.int .i64 (hiW Q), .int .u64 (loW Q)] 25))
  have HY5 := Lib.hid ((HY4.out.below hb5 HY4.out.lt).alloc (.cells #[.int .i64 (hiW Q), .int .u64 (loW Q)] 25))
  have HZ5 := Lib.hid (Blk.new w5 25 #[.int .i64 (hiW Q), .int .u64 (loW Q)])
  clear hb5 HB4 HX4 HY4 HA5
  go_wp2_with fail
  refine (HO6.out _).mono ?_
  rintro e w6 ⟨rfl, hb6⟩
  have HB6 := Lib.hid (new_call HB5.out hb6)
  have HX6 := Lib.hid (HX5.out.below hb6 HX5.out.lt)
  have HY6 := Lib.hid (HY5.out.below hb6 HY5.out.lt)
  have HZ6 := Lib.hid (HZ5.out.below hb6 HZ5.out.lt)
  clear hb6 HB5 HX5 HY5 HZ5 HO6
  go_wp2_with fail
  refine (HI7.out _).mono ?_
  rintro e w7 ⟨rfl, hb7⟩
  have HB7 := Lib.hid (new_call HB6.out hb7)
  have HX7 := Lib.hid (HX6.out.below hb7 HX6.out.lt)
  have HY7 := Lib.hid (HY6.out.below hb7 HY6.out.lt)
  have HZ7 := Lib.hid (HZ6.out.below hb7 HZ6.out.lt)
  have x0 : w7.cell? ⟨w1.heap.size, 0, none⟩ = some (.int .i64 (hiW P)) := HX7.out.cell 0
  have x1 : w7.cell? ⟨w1.heap.size, 1, none⟩ = some (.int .u64 (loW P)) := HX7.out.cell 1
  clear hb7 HB6 HX6 HY6 HZ6 HI7
  go_wp2_with fail
  refine (HI8.out _).mono ?_
  rintro e w8 ⟨rfl, hb8⟩
  have HB8 := Lib.hid (new_call HB7.out hb8)
  have HX8 := Lib.hid (HX7.out.below hb8 HX7.out.lt)
  have HY8 := Lib.hid (HY7.out.below hb8 HY7.out.lt)
  have HZ8 := Lib.hid (HZ7.out.below hb8 HZ7.out.lt)
  clear hb8 HB7 HX7 HY7 HZ7 HI8 x0 x1
  have HS : Hid (∀ W, Below w8.heap.size w8 W → W.cell? ⟨w1.heap.size, 0, none⟩ = some (.int .i64 (hiW P)) ∧ W.cell? ⟨w1.heap.size, 1, none⟩ = some (.int .u64 (loW P)) ∧ W.cell? ⟨w2.heap.size, 0, none⟩ = some (.int .i64 (hiW Q)) ∧ W.cell? ⟨w2.heap.size, 1, none⟩ = some (.int .u64 (loW Q)) ∧ W.cell? ⟨w5.heap.size, 0, none⟩ = some (.int .i64 (hiW Q)) ∧ W.cell? ⟨w5.heap.size, 1, none⟩ = some (.int .u64 (loW Q))) := fun W hW =>
    ⟨(HX8.out.below hW HX8.out.lt).cell 0, (HX8.out.below hW HX8.out.lt).cell 1, (HY8.out.below hW HY8.out.lt).cell 0, (HY8.out.below hW HY8.out.lt).cell 1, (HZ8.out.below hW HZ8.out.lt).cell 0, (HZ8.out.below hW HZ8.out.lt).cell 1⟩
  have HBv0 : Hid (Below w8.heap.size w8 w8) := Below.refl _ _
  have HEnd : Hid (has = false ∨ (has = true ∧ m = IntKind.wrap .i64 (a * b))) := by
    rcases HPi.out with ⟨h, h2⟩ | h
    · right
      cases h
      refine ⟨rfl, ?_⟩
      rw [HPe.out, IntKind.wrap_i64]
      unfold i64W at h2
      omega
    · left; cases h; rfl
  clear HPi HPe
  rcases HEnd.out with rfl | ⟨rfl, hm⟩
  · go_wp2_with fail
    refine wp_region_held_drew (S := (fun W => W.cell? ⟨w1.heap.size, 0, none⟩ = some (.int .i64 (hiW P)) ∧ W.cell? ⟨w1.heap.size, 1, none⟩ = some (.int .u64 (loW P)) ∧ W.cell? ⟨w2.heap.size, 0, none⟩ = some (.int .i64 (hiW Q)) ∧ W.cell? ⟨w2.heap.size, 1, none⟩ = some (.int .u64 (loW Q)) ∧ W.cell? ⟨w5.heap.size, 0, none⟩ = some (.int .i64 (hiW Q)) ∧ W.cell? ⟨w5.heap.size, 1, none⟩ = some (.int .u64 (loW Q)))) (by kernel_rfl) (HS.out _ (Below.refl _ _).drew) (fun hHeld => ?_)
    refine wpAnyH_take (i := 0) (oi := { dst := some 47, op := Go.Op.load 25 (Go.Operand.tmp 9), type := 25, pos := "law.go:50", after := #[], guard := none }) (v := ?uv0) rfl (by kernel_rfl) (by kernel_rfl) (by kernel_rfl) (fun _ _ _ h => h) (Or.inl ⟨by rfl, ?uy0⟩) (by assumption) ?ur0
    case uy0 => (intro w hSw; (try dsimp only at hSw); go_simp; try with_reducible rfl)
    (try simp only [Act.put, List.setIfInBounds_toArray, List.set_cons_zero, List.set_cons_succ])
    refine wpAnyH_take (i := 1) (oi := { dst := some 48, op := Go.Op.move (Go.Operand.tmp 1), type := 3, pos := "law.go:50", after := #[], guard := none }) (v := ?uv1) rfl (by kernel_rfl) (by kernel_rfl) (by kernel_rfl) (fun _ _ _ h => h) (Or.inl ⟨by rfl, ?uy1⟩) (by assumption) ?ur1
    case uy1 => (intro w hSw; (try dsimp only at hSw); go_simp; try with_reducible rfl)
    (try simp only [Act.put, List.setIfInBounds_toArray, List.set_cons_zero, List.set_cons_succ])
    refine wpAnyH_take (i := 2) (oi := { dst := some 49, op := Go.Op.move (Go.Operand.tmp 0), type := 3, pos := "law.go:50", after := #[], guard := none }) (v := ?uv2) rfl (by kernel_rfl) (by kernel_rfl) (by kernel_rfl) (fun _ _ _ h => h) (Or.inl ⟨by rfl, ?uy2⟩) (by assumption) ?ur2
    case uy2 => (intro w hSw; (try dsimp only at hSw); go_simp; try with_reducible rfl)
    (try simp only [Act.put, List.setIfInBounds_toArray, List.set_cons_zero, List.set_cons_succ])
    refine wpAnyH_ready (rs := [3]) (by kernel_rfl) (by simp) ?_
    refine AllReadyH.cons (o := { dst := some 50, op := Go.Op.call { callee := Go.Callee.value (Go.Operand.func 12), args := #[Go.Operand.tmp 48, Go.Operand.tmp 49], argTypes := #[3, 3] }, type := 25, pos := "law.go:50", after := #[{ on := 1, ground := Go.Ground.data }, { on := 2, ground := Go.Ground.data }], guard := none }) rfl (fun K hK => ?_) AllReadyH.nil
    go_simp
    (go_at_call 12; (with_reducible refine (HMt.out _).mono ?_); rintro e v1 ⟨rfl, hb1⟩; have HBv1 : Hid (Below w8.heap.size w8 v1) := new_call (Below.refl w8.heap.size w8).drew hb1; clear hb1)
    go_wp2_with fail
    refine hK.out _ _ ?_ (fun hHeld => ?_)
    · (first | (with_reducible exact HS.out _ HBv5.out) | (with_reducible exact HS.out _ HBv4.out) | (with_reducible exact HS.out _ HBv3.out) | (with_reducible exact HS.out _ HBv2.out) | (with_reducible exact HS.out _ HBv1.out))
    clear hK K
    (try simp only [Act.put, List.setIfInBounds_toArray, List.set_cons_zero, List.set_cons_succ])
    refine wpAnyH_take (i := 4) (oi := { dst := some 51, op := Go.Op.binOp Go.BinOp.eql 25 (Go.Operand.tmp 47) (Go.Operand.tmp 50) 25, type := 4, pos := "law.go:50", after := #[{ on := 0, ground := Go.Ground.data }, { on := 3, ground := Go.Ground.data }], guard := none }) (v := ?uv4) rfl (by kernel_rfl) (by kernel_rfl) (by kernel_rfl) (fun _ _ _ h => h) (Or.inl ⟨by rfl, ?uy4⟩) (by assumption) ?ur4
    case uy4 => (intro w hSw; (try dsimp only at hSw); go_simp; try with_reducible rfl)
    (try simp only [Act.put, List.setIfInBounds_toArray, List.set_cons_zero, List.set_cons_succ])
    refine wpAnyH_take (i := 5) (oi := { dst := some 52, op := Go.Op.move (Go.Operand.tmp 51), type := 4, pos := "law.go:50", after := #[{ on := 4, ground := Go.Ground.data }, { on := 3, ground := Go.Ground.chain }], guard := none }) (v := ?uv5) rfl (by kernel_rfl) (by kernel_rfl) (by kernel_rfl) (fun _ _ _ h => h) (Or.inl ⟨by rfl, ?uy5⟩) (by assumption) ?ur5
    case uy5 => (intro w hSw; (try dsimp only at hSw); go_simp; try with_reducible rfl)
    (try simp only [Act.put, List.setIfInBounds_toArray, List.set_cons_zero, List.set_cons_succ])
    refine wpAnyH_take (i := 6) (oi := { dst := some 53, op := Go.Op.load 25 (Go.Operand.tmp 10), type := 25, pos := "law.go:50", after := #[{ on := 5, ground := Go.Ground.guard }], guard := some (5, true) }) (v := ?uv6) rfl (by kernel_rfl) (by kernel_rfl) (by kernel_rfl) (fun _ _ _ h => h) (Or.inl ⟨by rfl, ?uy6⟩) (by assumption) ?ur6
    case uy6 => (intro w hSw; (try dsimp only at hSw); go_simp; try with_reducible rfl)
    (try simp only [Act.put, List.setIfInBounds_toArray, List.set_cons_zero, List.set_cons_succ])
    refine wpAnyH_take (i := 7) (oi := { dst := some 54, op := Go.Op.load 25 (Go.Operand.tmp 11), type := 25, pos := "law.go:50", after := #[{ on := 5, ground := Go.Ground.guard }], guard := some (5, true) }) (v := ?uv7) rfl (by kernel_rfl) (by kernel_rfl) (by kernel_rfl) (fun _ _ _ h => h) (Or.inl ⟨by rfl, ?uy7⟩) (by assumption) ?ur7
    case uy7 => (intro w hSw; (try dsimp only at hSw); go_simp; try with_reducible rfl)
    (try simp only [Act.put, List.setIfInBounds_toArray, List.set_cons_zero, List.set_cons_succ])
    refine wpAnyH_take (i := 8) (oi := { dst := some 55, op := Go.Op.binOp Go.BinOp.eql 25 (Go.Operand.tmp 53) (Go.Operand.tmp 54) 25, type := 4, pos := "law.go:50", after := #[{ on := 6, ground := Go.Ground.data }, { on := 7, ground := Go.Ground.data }, { on := 5, ground := Go.Ground.guard }], guard := some (5, true) }) (v := ?uv8) rfl (by kernel_rfl) (by kernel_rfl) (by kernel_rfl) (fun _ _ _ h => h) (Or.inl ⟨by rfl, ?uy8⟩) (by assumption) ?ur8
    case uy8 => (intro w hSw; (try dsimp only at hSw); go_simp; try with_reducible rfl)
    (try simp only [Act.put, List.setIfInBounds_toArray, List.set_cons_zero, List.set_cons_succ])
    refine wpAnyH_take (i := 9) (oi := { dst := some 56, op := Go.Op.pick (Go.Operand.tmp 52) (Go.Operand.tmp 55) (Go.Operand.const (Go.Value.bool false)), type := 4, pos := "law.go:50", after := #[{ on := 5, ground := Go.Ground.data }, { on := 8, ground := Go.Ground.data }], guard := none }) (v := ?uv9) rfl (by kernel_rfl) (by kernel_rfl) (by kernel_rfl) (fun _ _ _ h => h) (Or.inl ⟨by rfl, ?uy9⟩) (by assumption) ?ur9
    case uy9 => (intro w hSw; (try dsimp only at hSw); go_simp; try with_reducible rfl)
    (try simp only [Act.put, List.setIfInBounds_toArray, List.set_cons_zero, List.set_cons_succ])
    refine wpAnyH_take (i := 10) (oi := { dst := some 57, op := Go.Op.move (Go.Operand.tmp 56), type := 4, pos := "law.go:50", after := #[{ on := 9, ground := Go.Ground.data }, { on := 5, ground := Go.Ground.chain }], guard := none }) (v := ?uv10) rfl (by kernel_rfl) (by kernel_rfl) (by kernel_rfl) (fun _ _ _ h => h) (Or.inl ⟨by rfl, ?uy10⟩) (by assumption) ?ur10
    case uy10 => (intro w hSw; (try dsimp only at hSw); go_simp; try with_reducible rfl)
    (try simp only [Act.put, List.setIfInBounds_toArray, List.set_cons_zero, List.set_cons_succ])
    refine wpAnyH_take (i := 11) (oi := { dst := some 58, op := Go.Op.load 25 (Go.Operand.tmp 9), type := 25, pos := "law.go:50", after := #[{ on := 10, ground := Go.Ground.guard }], guard := some (10, true) }) (v := ?uv11) rfl (by kernel_rfl) (by kernel_rfl) (by kernel_rfl) (fun _ _ _ h => h) (Or.inl ⟨by rfl, ?uy11⟩) (by assumption) ?ur11
    case uy11 => (intro w hSw; (try dsimp only at hSw); go_simp; try with_reducible rfl)
    (try simp only [Act.put, List.setIfInBounds_toArray, List.set_cons_zero, List.set_cons_succ])
    refine wpAnyH_take (i := 12) (oi := { dst := some 59, op := Go.Op.load 25 (Go.Operand.tmp 9), type := 25, pos := "law.go:50", after := #[{ on := 10, ground := Go.Ground.guard }], guard := some (10, true) }) (v := ?uv12) rfl (by kernel_rfl) (by kernel_rfl) (by kernel_rfl) (fun _ _ _ h => h) (Or.inl ⟨by rfl, ?uy12⟩) (by assumption) ?ur12
    case uy12 => (intro w hSw; (try dsimp only at hSw); go_simp; try with_reducible rfl)
    (try simp only [Act.put, List.setIfInBounds_toArray, List.set_cons_zero, List.set_cons_succ])
    refine wpAnyH_take (i := 16) (oi := { dst := some 63, op := Go.Op.build 25 #[], type := 25, pos := "law.go:50", after := #[{ on := 10, ground := Go.Ground.guard }], guard := some (10, true) }) (v := ?uv16) rfl (by kernel_rfl) (by kernel_rfl) (by kernel_rfl) (fun _ _ _ h => h) (Or.inl ⟨by rfl, ?uy16⟩) (by assumption) ?ur16
    case uy16 => (intro w hSw; (try dsimp only at hSw); go_simp; try with_reducible rfl)
    (try simp only [Act.put, List.setIfInBounds_toArray, List.set_cons_zero, List.set_cons_succ])
    refine wpAnyH_ready (rs := [13]) (by kernel_rfl) (by simp) ?_
    refine AllReadyH.cons (o := { dst := some 60, op := Go.Op.call { callee := Go.Callee.value (Go.Operand.func 20), args := #[Go.Operand.tmp 59], argTypes := #[25] }, type := 25, pos := "law.go:50", after := #[{ on := 12, ground := Go.Ground.data }, { on := 10, ground := Go.Ground.chain }, { on := 10, ground := Go.Ground.guard }], guard := some (10, true) }) rfl (fun K hK => ?_) AllReadyH.nil
    go_simp
    (go_at_call 20; (with_reducible refine (HNg.out _).mono ?_); rintro e v2 ⟨rfl, hb2⟩; have HBv2 := Lib.hid (new_call HBv1.out hb2); have HBv3 : Hid (Below w8.heap.size w8 (v2.alloc (.cells #[.int .i64 (hiW (-P)), .int .u64 (loW (-P))] 25))) := new_alloc HBv2.out _; clear hb2)
    go_wp2_with fail
    refine hK.out _ _ ?_ (fun hHeld => ?_)
    · (first | (with_reducible exact HS.out _ HBv5.out) | (with_reducible exact HS.out _ HBv4.out) | (with_reducible exact HS.out _ HBv3.out) | (with_reducible exact HS.out _ HBv2.out) | (with_reducible exact HS.out _ HBv1.out))
    clear hK K
    (try simp only [Act.put, List.setIfInBounds_toArray, List.set_cons_zero, List.set_cons_succ])
    refine wpAnyH_ready (rs := [14]) (by kernel_rfl) (by simp) ?_
    refine AllReadyH.cons (o := { dst := some 61, op := Go.Op.buildSlice 52 1 #[(0, Go.Operand.tmp 60)], type := 52, pos := "law.go:50", after := #[{ on := 13, ground := Go.Ground.data }, { on := 10, ground := Go.Ground.guard }], guard := some (10, true) }) rfl (fun K hK => ?_) AllReadyH.nil
    go_simp
    refine hK.out _ _ ?_ (fun hHeld => ?_)
    · (first | (with_reducible exact HS.out _ HBv5.out) | (with_reducible exact HS.out _ HBv4.out) | (with_reducible exact HS.out _ HBv3.out) | (with_reducible exact HS.out _ HBv2.out) | (with_reducible exact HS.out _ HBv1.out))
    clear hK K
    (try simp only [Act.put, List.setIfInBounds_toArray, List.set_cons_zero, List.set_cons_succ])
    refine wpAnyH_ready (rs := [15]) (by kernel_rfl) (by simp) ?_
    refine AllReadyH.cons (o := { dst := some 62, op := Go.Op.call { callee := Go.Callee.value (Go.Operand.func 18), args := #[Go.Operand.tmp 58, Go.Operand.tmp 61], argTypes := #[25, 52] }, type := 25, pos := "law.go:50", after := #[{ on := 11, ground := Go.Ground.data }, { on := 14, ground := Go.Ground.data }, { on := 13, ground := Go.Ground.chain }, { on := 10, ground := Go.Ground.guard }], guard := some (10, true) }) rfl (fun K hK => ?_) AllReadyH.nil
    go_simp
    (go_at_call 18; (with_reducible refine (HAz.out _ v2.heap.size (HasK.new_at 2 v2 #[.int .i64 (hiW (-P)), .int .u64 (loW (-P))] 25 _ 1 rfl rfl)).mono ?_); rintro e v4 ⟨rfl, hb4⟩; have HBv4 := Lib.hid (new_call HBv3.out hb4); clear hb4)
    go_wp2_with fail
    refine hK.out _ _ ?_ (fun hHeld => ?_)
    · (first | (with_reducible exact HS.out _ HBv5.out) | (with_reducible exact HS.out _ HBv4.out) | (with_reducible exact HS.out _ HBv3.out) | (with_reducible exact HS.out _ HBv2.out) | (with_reducible exact HS.out _ HBv1.out))
    clear hK K
    (try simp only [Act.put, List.setIfInBounds_toArray, List.set_cons_zero, List.set_cons_succ])
    refine wpAnyH_take (i := 17) (oi := { dst := some 64, op := Go.Op.binOp Go.BinOp.eql 25 (Go.Operand.tmp 62) (Go.Operand.tmp 63) 25, type := 4, pos := "law.go:50", after := #[{ on := 15, ground := Go.Ground.data }, { on := 16, ground := Go.Ground.data }, { on := 10, ground := Go.Ground.guard }], guard := some (10, true) }) (v := ?uv17) rfl (by kernel_rfl) (by kernel_rfl) (by kernel_rfl) (fun _ _ _ h => h) (Or.inl ⟨by rfl, ?uy17⟩) (by assumption) ?ur17
    case uy17 => (intro w hSw; (try dsimp only at hSw); go_simp; try with_reducible rfl)
    (try simp only [Act.put, List.setIfInBounds_toArray, List.set_cons_zero, List.set_cons_succ])
    refine wpAnyH_take (i := 18) (oi := { dst := some 65, op := Go.Op.pick (Go.Operand.tmp 57) (Go.Operand.tmp 64) (Go.Operand.const (Go.Value.bool false)), type := 4, pos := "law.go:50", after := #[{ on := 10, ground := Go.Ground.data }, { on := 17, ground := Go.Ground.data }], guard := none }) (v := ?uv18) rfl (by kernel_rfl) (by kernel_rfl) (by kernel_rfl) (fun _ _ _ h => h) (Or.inl ⟨by rfl, ?uy18⟩) (by assumption) ?ur18
    case uy18 => (intro w hSw; (try dsimp only at hSw); go_simp; try with_reducible rfl)
    (try simp only [Act.put, List.setIfInBounds_toArray, List.set_cons_zero, List.set_cons_succ])
    refine wpAnyH_take (i := 19) (oi := { dst := some 66, op := Go.Op.move (Go.Operand.tmp 65), type := 4, pos := "law.go:50", after := #[{ on := 18, ground := Go.Ground.data }, { on := 15, ground := Go.Ground.chain }], guard := none }) (v := ?uv19) rfl (by kernel_rfl) (by kernel_rfl) (by kernel_rfl) (fun _ _ _ h => h) (Or.inl ⟨by rfl, ?uy19⟩) (by assumption) ?ur19
    case uy19 => (intro w hSw; (try dsimp only at hSw); go_simp; try with_reducible rfl)
    (try simp only [Act.put, List.setIfInBounds_toArray, List.set_cons_zero, List.set_cons_succ])
    refine wpAnyH_take (i := 20) (oi := { dst := some 67, op := Go.Op.move (Go.Operand.tmp 12), type := 3, pos := "law.go:50", after := #[{ on := 19, ground := Go.Ground.guard }], guard := some (19, true) }) (v := ?uv20) rfl (by kernel_rfl) (by kernel_rfl) (by kernel_rfl) (fun _ _ _ h => h) (Or.inl ⟨by rfl, ?uy20⟩) (by assumption) ?ur20
    case uy20 => (intro w hSw; (try dsimp only at hSw); go_simp; try with_reducible rfl)
    (try simp only [Act.put, List.setIfInBounds_toArray, List.set_cons_zero, List.set_cons_succ])
    refine wpAnyH_take (i := 21) (oi := { dst := some 68, op := Go.Op.move (Go.Operand.tmp 0), type := 3, pos := "law.go:50", after := #[{ on := 19, ground := Go.Ground.guard }], guard := some (19, true) }) (v := ?uv21) rfl (by kernel_rfl) (by kernel_rfl) (by kernel_rfl) (fun _ _ _ h => h) (Or.inl ⟨by rfl, ?uy21⟩) (by assumption) ?ur21
    case uy21 => (intro w hSw; (try dsimp only at hSw); go_simp; try with_reducible rfl)
    (try simp only [Act.put, List.setIfInBounds_toArray, List.set_cons_zero, List.set_cons_succ])
    refine wpAnyH_take (i := 22) (oi := { dst := some 69, op := Go.Op.binOp Go.BinOp.eql 3 (Go.Operand.tmp 67) (Go.Operand.tmp 68) 3, type := 4, pos := "law.go:50", after := #[{ on := 20, ground := Go.Ground.data }, { on := 21, ground := Go.Ground.data }, { on := 19, ground := Go.Ground.guard }], guard := some (19, true) }) (v := ?uv22) rfl (by kernel_rfl) (by kernel_rfl) (by kernel_rfl) (fun _ _ _ h => h) (Or.inl ⟨by rfl, ?uy22⟩) (by assumption) ?ur22
    case uy22 => (intro w hSw; (try dsimp only at hSw); go_simp; try with_reducible rfl)
    (try simp only [Act.put, List.setIfInBounds_toArray, List.set_cons_zero, List.set_cons_succ])
    refine wpAnyH_take (i := 23) (oi := { dst := some 70, op := Go.Op.pick (Go.Operand.tmp 66) (Go.Operand.tmp 69) (Go.Operand.const (Go.Value.bool false)), type := 4, pos := "law.go:50", after := #[{ on := 19, ground := Go.Ground.data }, { on := 22, ground := Go.Ground.data }], guard := none }) (v := ?uv23) rfl (by kernel_rfl) (by kernel_rfl) (by kernel_rfl) (fun _ _ _ h => h) (Or.inl ⟨by rfl, ?uy23⟩) (by assumption) ?ur23
    case uy23 => (intro w hSw; (try dsimp only at hSw); go_simp; try with_reducible rfl)
    (try simp only [Act.put, List.setIfInBounds_toArray, List.set_cons_zero, List.set_cons_succ])
    refine wpAnyH_take (i := 24) (oi := { dst := some 71, op := Go.Op.move (Go.Operand.tmp 70), type := 4, pos := "law.go:50", after := #[{ on := 23, ground := Go.Ground.data }, { on := 19, ground := Go.Ground.chain }], guard := none }) (v := ?uv24) rfl (by kernel_rfl) (by kernel_rfl) (by kernel_rfl) (fun _ _ _ h => h) (Or.inl ⟨by rfl, ?uy24⟩) (by assumption) ?ur24
    case uy24 => (intro w hSw; (try dsimp only at hSw); go_simp; try with_reducible rfl)
    (try simp only [Act.put, List.setIfInBounds_toArray, List.set_cons_zero, List.set_cons_succ])
    refine wpAnyH_take (i := 25) (oi := { dst := some 72, op := Go.Op.move (Go.Operand.tmp 13), type := 4, pos := "law.go:50", after := #[{ on := 24, ground := Go.Ground.guard }], guard := some (24, true) }) (v := ?uv25) rfl (by kernel_rfl) (by kernel_rfl) (by kernel_rfl) (fun _ _ _ h => h) (Or.inl ⟨by rfl, ?uy25⟩) (by assumption) ?ur25
    case uy25 => (intro w hSw; (try dsimp only at hSw); go_simp; try with_reducible rfl)
    (try simp only [Act.put, List.setIfInBounds_toArray, List.set_cons_zero, List.set_cons_succ])
    refine wpAnyH_take (i := 26) (oi := { dst := some 73, op := Go.Op.pick (Go.Operand.tmp 71) (Go.Operand.tmp 72) (Go.Operand.const (Go.Value.bool false)), type := 4, pos := "law.go:50", after := #[{ on := 24, ground := Go.Ground.data }, { on := 25, ground := Go.Ground.data }], guard := none }) (v := ?uv26) rfl (by kernel_rfl) (by kernel_rfl) (by kernel_rfl) (fun _ _ _ h => h) (Or.inl ⟨by rfl, ?uy26⟩) (by assumption) ?ur26
    case uy26 => (intro w hSw; (try dsimp only at hSw); go_simp; try with_reducible rfl)
    (try simp only [Act.put, List.setIfInBounds_toArray, List.set_cons_zero, List.set_cons_succ])
    refine wpAnyH_take (i := 27) (oi := { dst := some 74, op := Go.Op.move (Go.Operand.tmp 73), type := 4, pos := "law.go:50", after := #[{ on := 26, ground := Go.Ground.data }, { on := 24, ground := Go.Ground.chain }], guard := none }) (v := ?uv27) rfl (by kernel_rfl) (by kernel_rfl) (by kernel_rfl) (fun _ _ _ h => h) (Or.inl ⟨by rfl, ?uy27⟩) (by assumption) ?ur27
    case uy27 => (intro w hSw; (try dsimp only at hSw); go_simp; try with_reducible rfl)
    (try simp only [Act.put, List.setIfInBounds_toArray, List.set_cons_zero, List.set_cons_succ])
    refine wpAnyH_take (i := 28) (oi := { dst := some 75, op := Go.Op.move (Go.Operand.tmp 15), type := 4, pos := "law.go:50", after := #[{ on := 27, ground := Go.Ground.guard }], guard := some (27, true) }) (v := ?uv28) rfl (by kernel_rfl) (by kernel_rfl) (by kernel_rfl) (fun _ _ _ h => h) (Or.inl ⟨by rfl, ?uy28⟩) (by assumption) ?ur28
    case uy28 => (intro w hSw; (try dsimp only at hSw); go_simp; try with_reducible rfl)
    (try simp only [Act.put, List.setIfInBounds_toArray, List.set_cons_zero, List.set_cons_succ])
    refine wpAnyH_take (i := 29) (oi := { dst := some 76, op := Go.Op.unOp Go.UnOp.not 4 (Go.Operand.tmp 75), type := 4, pos := "law.go:50", after := #[{ on := 28, ground := Go.Ground.data }, { on := 27, ground := Go.Ground.guard }], guard := some (27, true) }) (v := ?uv29) rfl (by kernel_rfl) (by kernel_rfl) (by kernel_rfl) (fun _ _ _ h => h) (Or.inl ⟨by rfl, ?uy29⟩) (by assumption) ?ur29
    case uy29 => (intro w hSw; (try dsimp only at hSw); go_simp; try with_reducible rfl)
    (try simp only [Act.put, List.setIfInBounds_toArray, List.set_cons_zero, List.set_cons_succ])
    refine wpAnyH_take (i := 30) (oi := { dst := some 77, op := Go.Op.move (Go.Operand.tmp 76), type := 4, pos := "law.go:50", after := #[{ on := 29, ground := Go.Ground.data }, { on := 27, ground := Go.Ground.chain }, { on := 27, ground := Go.Ground.guard }], guard := some (27, true) }) (v := ?uv30) rfl (by kernel_rfl) (by kernel_rfl) (by kernel_rfl) (fun _ _ _ h => h) (Or.inl ⟨by rfl, ?uy30⟩) (by assumption) ?ur30
    case uy30 => (intro w hSw; (try dsimp only at hSw); go_simp; try with_reducible rfl)
    (try simp only [Act.put, List.setIfInBounds_toArray, List.set_cons_zero, List.set_cons_succ])
    refine wpAnyH_take (i := 31) (oi := { dst := some 78, op := Go.Op.move (Go.Operand.tmp 14), type := 3, pos := "law.go:50", after := #[{ on := 30, ground := Go.Ground.guard }], guard := some (30, false) }) (v := undef) rfl (by kernel_rfl) (by kernel_rfl) (by kernel_rfl) (fun _ _ _ h => h) (Or.inr ⟨by rfl, rfl⟩) (by assumption) ?_
    (try simp only [Act.put, List.setIfInBounds_toArray, List.set_cons_zero, List.set_cons_succ])
    refine wpAnyH_take (i := 32) (oi := { dst := some 79, op := Go.Op.move (Go.Operand.tmp 0), type := 3, pos := "law.go:50", after := #[{ on := 30, ground := Go.Ground.guard }], guard := some (30, false) }) (v := undef) rfl (by kernel_rfl) (by kernel_rfl) (by kernel_rfl) (fun _ _ _ h => h) (Or.inr ⟨by rfl, rfl⟩) (by assumption) ?_
    (try simp only [Act.put, List.setIfInBounds_toArray, List.set_cons_zero, List.set_cons_succ])
    refine wpAnyH_take (i := 33) (oi := { dst := some 80, op := Go.Op.move (Go.Operand.tmp 1), type := 3, pos := "law.go:50", after := #[{ on := 30, ground := Go.Ground.guard }], guard := some (30, false) }) (v := undef) rfl (by kernel_rfl) (by kernel_rfl) (by kernel_rfl) (fun _ _ _ h => h) (Or.inr ⟨by rfl, rfl⟩) (by assumption) ?_
    (try simp only [Act.put, List.setIfInBounds_toArray, List.set_cons_zero, List.set_cons_succ])
    refine wpAnyH_take (i := 34) (oi := { dst := some 81, op := Go.Op.binOp Go.BinOp.mul 3 (Go.Operand.tmp 79) (Go.Operand.tmp 80) 3, type := 3, pos := "law.go:50", after := #[{ on := 32, ground := Go.Ground.data }, { on := 33, ground := Go.Ground.data }, { on := 30, ground := Go.Ground.guard }], guard := some (30, false) }) (v := undef) rfl (by kernel_rfl) (by kernel_rfl) (by kernel_rfl) (fun _ _ _ h => h) (Or.inr ⟨by rfl, rfl⟩) (by assumption) ?_
    (try simp only [Act.put, List.setIfInBounds_toArray, List.set_cons_zero, List.set_cons_succ])
    refine wpAnyH_take (i := 35) (oi := { dst := some 82, op := Go.Op.binOp Go.BinOp.eql 3 (Go.Operand.tmp 78) (Go.Operand.tmp 81) 3, type := 4, pos := "law.go:50", after := #[{ on := 31, ground := Go.Ground.data }, { on := 34, ground := Go.Ground.data }, { on := 30, ground := Go.Ground.guard }], guard := some (30, false) }) (v := undef) rfl (by kernel_rfl) (by kernel_rfl) (by kernel_rfl) (fun _ _ _ h => h) (Or.inr ⟨by rfl, rfl⟩) (by assumption) ?_
    (try simp only [Act.put, List.setIfInBounds_toArray, List.set_cons_zero, List.set_cons_succ])
    refine wpAnyH_take (i := 36) (oi := { dst := some 83, op := Go.Op.pick (Go.Operand.tmp 77) (Go.Operand.const (Go.Value.bool true)) (Go.Operand.tmp 82), type := 4, pos := "law.go:50", after := #[{ on := 30, ground := Go.Ground.data }, { on := 35, ground := Go.Ground.data }, { on := 27, ground := Go.Ground.guard }], guard := some (27, true) }) (v := ?uv36) rfl (by kernel_rfl) (by kernel_rfl) (by kernel_rfl) (fun _ _ _ h => h) (Or.inl ⟨by rfl, ?uy36⟩) (by assumption) ?ur36
    case uy36 => (intro w hSw; (try dsimp only at hSw); go_simp; try with_reducible rfl)
    (try simp only [Act.put, List.setIfInBounds_toArray, List.set_cons_zero, List.set_cons_succ])
    refine wpAnyH_take (i := 37) (oi := { dst := some 84, op := Go.Op.pick (Go.Operand.tmp 74) (Go.Operand.tmp 83) (Go.Operand.const (Go.Value.bool false)), type := 4, pos := "law.go:50", after := #[{ on := 27, ground := Go.Ground.data }, { on := 36, ground := Go.Ground.data }], guard := none }) (v := ?uv37) rfl (by kernel_rfl) (by kernel_rfl) (by kernel_rfl) (fun _ _ _ h => h) (Or.inl ⟨by rfl, ?uy37⟩) (by assumption) ?ur37
    case uy37 => (intro w hSw; (try dsimp only at hSw); go_simp; try with_reducible rfl)
    (try simp only [Act.put, List.setIfInBounds_toArray, List.set_cons_zero, List.set_cons_succ])
    refine wpAnyH_take (i := 38) (oi := { dst := some 85, op := Go.Op.move (Go.Operand.tmp 84), type := 4, pos := "law.go:50", after := #[{ on := 37, ground := Go.Ground.data }, { on := 30, ground := Go.Ground.chain }], guard := none }) (v := ?uv38) rfl (by kernel_rfl) (by kernel_rfl) (by kernel_rfl) (fun _ _ _ h => h) (Or.inl ⟨by rfl, ?uy38⟩) (by assumption) ?ur38
    case uy38 => (intro w hSw; (try dsimp only at hSw); go_simp; try with_reducible rfl)
    (try simp only [Act.put, List.setIfInBounds_toArray, List.set_cons_zero, List.set_cons_succ])
    refine wpAnyH_ready (rs := [39]) (by kernel_rfl) (by simp) ?_
    refine AllReadyH.cons (o := { dst := some 86, op := Go.Op.call { callee := Go.Callee.value (Go.Operand.func 16), args := #[], argTypes := #[] }, type := 4, pos := "law.go:50", after := #[{ on := 38, ground := Go.Ground.chain }, { on := 38, ground := Go.Ground.guard }], guard := some (38, true) }) rfl (fun K hK => ?_) AllReadyH.nil
    go_simp
    (go_at_call 16; (with_reducible refine (known08 _).mono ?_); rintro e v5 ⟨rfl, hb5⟩; have HBv5 := Lib.hid (new_call HBv4.out hb5); clear hb5)
    go_wp2_with fail
    refine hK.out _ _ ?_ (fun hHeld => ?_)
    · (first | (with_reducible exact HS.out _ HBv5.out) | (with_reducible exact HS.out _ HBv4.out) | (with_reducible exact HS.out _ HBv3.out) | (with_reducible exact HS.out _ HBv2.out) | (with_reducible exact HS.out _ HBv1.out))
    clear hK K
    (try simp only [Act.put, List.setIfInBounds_toArray, List.set_cons_zero, List.set_cons_succ])
    refine wpAnyH_take (i := 40) (oi := { dst := some 87, op := Go.Op.pick (Go.Operand.tmp 85) (Go.Operand.tmp 86) (Go.Operand.const (Go.Value.bool false)), type := 4, pos := "law.go:50", after := #[{ on := 38, ground := Go.Ground.data }, { on := 39, ground := Go.Ground.data }], guard := none }) (v := ?uv40) rfl (by kernel_rfl) (by kernel_rfl) (by kernel_rfl) (fun _ _ _ h => h) (Or.inl ⟨by rfl, ?uy40⟩) (by assumption) ?ur40
    case uy40 => (intro w hSw; (try dsimp only at hSw); go_simp; try with_reducible rfl)
    (try simp only [Act.put, List.setIfInBounds_toArray, List.set_cons_zero, List.set_cons_succ])
    refine wpAnyH_take (i := 41) (oi := { dst := some 8, op := Go.Op.assign (Go.Operand.tmp 87), type := 4, pos := "law.go:50", after := #[{ on := 40, ground := Go.Ground.data }, { on := 39, ground := Go.Ground.chain }, { on := 0, ground := Go.Ground.phase }, { on := 1, ground := Go.Ground.phase }, { on := 2, ground := Go.Ground.phase }, { on := 3, ground := Go.Ground.phase }, { on := 4, ground := Go.Ground.phase }, { on := 5, ground := Go.Ground.phase }, { on := 6, ground := Go.Ground.phase }, { on := 7, ground := Go.Ground.phase }, { on := 8, ground := Go.Ground.phase }, { on := 9, ground := Go.Ground.phase }, { on := 10, ground := Go.Ground.phase }, { on := 11, ground := Go.Ground.phase }, { on := 12, ground := Go.Ground.phase }, { on := 13, ground := Go.Ground.phase }, { on := 14, ground := Go.Ground.phase }, { on := 15, ground := Go.Ground.phase }, { on := 16, ground := Go.Ground.phase }, { on := 17, ground := Go.Ground.phase }, { on := 18, ground := Go.Ground.phase }, { on := 19, ground := Go.Ground.phase }, { on := 20, ground := Go.Ground.phase }, { on := 21, ground := Go.Ground.phase }, { on := 22, ground := Go.Ground.phase }, { on := 23, ground := Go.Ground.phase }, { on := 24, ground := Go.Ground.phase }, { on := 25, ground := Go.Ground.phase }, { on := 26, ground := Go.Ground.phase }, { on := 27, ground := Go.Ground.phase }, { on := 28, ground := Go.Ground.phase }, { on := 29, ground := Go.Ground.phase }, { on := 30, ground := Go.Ground.phase }, { on := 31, ground := Go.Ground.phase }, { on := 32, ground := Go.Ground.phase }, { on := 33, ground := Go.Ground.phase }, { on := 34, ground := Go.Ground.phase }, { on := 35, ground := Go.Ground.phase }, { on := 36, ground := Go.Ground.phase }, { on := 37, ground := Go.Ground.phase }, { on := 38, ground := Go.Ground.phase }, { on := 39, ground := Go.Ground.phase }, { on := 40, ground := Go.Ground.phase }], guard := none }) (v := ?uv41) rfl (by kernel_rfl) (by kernel_rfl) (by kernel_rfl) (fun _ _ _ h => h) (Or.inl ⟨by rfl, ?uy41⟩) (by assumption) ?ur41
    case uy41 => (intro w hSw; (try dsimp only at hSw); go_simp; try with_reducible rfl)
    (try simp only [Act.put, List.setIfInBounds_toArray, List.set_cons_zero, List.set_cons_succ])
    refine wpAnyH_done (by kernel_rfl) ?_ _
    all_goals
      go_wp2
      go_ret
      exact ⟨rfl, new_call HB8.out HBv5.out⟩
  · have hm2 : IntKind.wrap .i64 (a * b) = m := hm.symm
    clear hm HEnd
    go_wp2_with fail
    go_region_held3 (fun W => W.cell? ⟨w1.heap.size, 0, none⟩ = some (.int .i64 (hiW P)) ∧ W.cell? ⟨w1.heap.size, 1, none⟩ = some (.int .u64 (loW P)) ∧ W.cell? ⟨w2.heap.size, 0, none⟩ = some (.int .i64 (hiW Q)) ∧ W.cell? ⟨w2.heap.size, 1, none⟩ = some (.int .u64 (loW Q)) ∧ W.cell? ⟨w5.heap.size, 0, none⟩ = some (.int .i64 (hiW Q)) ∧ W.cell? ⟨w5.heap.size, 1, none⟩ = some (.int .u64 (loW Q))) (first | (with_reducible exact HS.out _ HBv5.out) | (with_reducible exact HS.out _ HBv4.out) | (with_reducible exact HS.out _ HBv3.out) | (with_reducible exact HS.out _ HBv2.out) | (with_reducible exact HS.out _ HBv1.out) | (with_reducible exact HS.out _ HBv0.out) | exact HS.out _ HBv0.out.drew) (first
      | (go_at_call 12; (with_reducible refine (HMt.out _).mono ?_); rintro e v1 ⟨rfl, hb1⟩; have HBv1 : Hid (Below w8.heap.size w8 v1) := new_call (Below.refl w8.heap.size w8).drew hb1; clear hb1)
      | (go_at_call 20; (with_reducible refine (HNg.out _).mono ?_); rintro e v2 ⟨rfl, hb2⟩; have HBv2 := Lib.hid (new_call HBv1.out hb2); have HBv3 : Hid (Below w8.heap.size w8 (v2.alloc (.cells #[.int .i64 (hiW (-P)), .int .u64 (loW (-P))] 25))) := new_alloc HBv2.out _; clear hb2)
      | (go_at_call 18; (with_reducible refine (HAz.out _ v2.heap.size (HasK.new_at 2 v2 #[.int .i64 (hiW (-P)), .int .u64 (loW (-P))] 25 _ 1 rfl rfl)).mono ?_); rintro e v4 ⟨rfl, hb4⟩; have HBv4 := Lib.hid (new_call HBv3.out hb4); clear hb4)
      | (go_at_call 16; (with_reducible refine (known08 _).mono ?_); rintro e v5 ⟨rfl, hb5⟩; have HBv5 := Lib.hid (new_call HBv4.out hb5); clear hb5))
    all_goals
      go_wp2
      go_ret
      exact ⟨rfl, new_call HB8.out HBv5.out⟩

set_option maxRecDepth 100000 in
theorem lifted (os : Os) (started : os.Started) (H : Type) (enc : TypeId × Value → H) :
    ReturnsInHanded {} Try.checked os 6 .any (Rows.wideLawsSpec.pre6 enc Try.prog Try.f6 Rows.wideLawsRow.domain false) (Rows.wideLawsSpec.post enc Try.prog Try.f6 false true false false) := by
  refine returnsInHanded_of_change (C := Try.checked) Try.own started (by kernel_rfl) Try.func6
    (ChangeSpec.witness6 (enc := enc) (C := Try.checked) false ⟨#[], #[.int .i64 0, .int .i64 0, .int .i32 0, .int .i32 0], []⟩ 8 (by kernel_rfl) (by kernel_rfl) (by kernel_rfl) (by kernel_rfl)) ?_
  intro W base args ds gs before hval0 hW _ _
  have hval : ∀ (j : Nat) t v, Try.f6.params[j]? = some t → args[j]? = some v → Value.okWide Try.prog W .any base t v := hval0
  have hW' := hW
  obtain ⟨p, q, hA0, hV, rfl, _, _⟩ := hW
  have hA : DataW.TrodAll enc Try.prog W 0 (fun _ => true) true Try.f6.params.toList args.toList ds p := hA0
  rw [Try.params6] at hA hval
  obtain ⟨v0, v1, v2, v3, d0, d1, d2, d3, p0, p1, p2, p3, rfl, rfl, rfl, h0, h1, h2, h3⟩ := trodAll_four hA
  obtain ⟨rfl, rfl⟩ := trodVars_none hV
  obtain ⟨a0, rfl, rfl, rfl, w0⟩ := open_int Try.underlying3 (hval 0 3 v0 rfl rfl) h0
  obtain ⟨a1, rfl, rfl, rfl, w1⟩ := open_int Try.underlying3 (hval 1 3 v1 rfl rfl) h1
  obtain ⟨a2, rfl, rfl, rfl, w2⟩ := open_int Try.underlying21 (hval 2 21 v2 rfl rfl) h2
  obtain ⟨a3, rfl, rfl, rfl, w3⟩ := open_int Try.underlying21 (hval 3 21 v3 rfl rfl) h3
  exact (walk a0 a1 a2 a3 W (wf_i64 w0) (wf_i64 w1) (wf_i32 w2) (wf_i32 w3)).mono fun e W' he =>
    law_post rfl rfl (by rw [Try.params6]; intro t ht; simp at ht; rcases ht with rfl | rfl | rfl | rfl <;> exact ⟨by kernel_rfl, of_decide_eq_true (by kernel_rfl)⟩) hW' rfl he

theorem proved : Rows.WideLawsSaid :=
  OpenClaim.holds_of_wide 6 Try.f6 rfl rfl rfl rfl rfl rfl rfl ⟨rfl, rfl, rfl, rfl, rfl⟩ rfl rfl rfl rfl rfl (by kernel_rfl) Try.func6 (by kernel_rfl)
    (of_decide_eq_true (by kernel_rfl)) (by unfold Func.isWrapper; first | (rw [if_pos (by decide +kernel)]; kernel_rfl) | (rw [if_neg (by decide +kernel)]; exact ⟨rfl, rfl⟩))
    (fun os started H enc _ => lifted os started H enc)
end Go.Proofs.Ytjecognpechapaa.wideLaws
