/- The landed walk: a triangle met; a vertex reached. -/
import Derived.Test.YthjmojglcfmkmaaDoorWalkCodeD
namespace Go.Proofs.YthjmojglcfmkmaaDoor
open Go.RowKit

theorem num_at {W : World} {gn n : Nat} {a : Nat → Int} {V : List Int} (h : Blk W gn 3 (rowA a n)) (ha : ∀ v : Nat, v < n → a v = findW V (v : Int)) (v : Nat) (hv : v < n) {f : Int} (hf : findW V (v : Int) = f) : W.cell? ⟨gn, v, none⟩ = some (.int .i64 f) := by
  rw [h.cell v, rowA_at _ hv, ha v hv, hf]
set_option maxRecDepth 100000 in
set_option maxHeartbeats 4000000 in
theorem walkMeet_any (F : Nat → Prop) (g b gm gn m n : Nat) (T : List P3) (s : WS) (i x y z : Nat) (w : World) (hF : ∀ k, w.heap.size ≤ k → F k) (h : RA F g b gm gn m n T s w) (hi : i < m) (hx : x < n) (hy : y < n) (hz : z < n) (ho : s.O.length ≤ 100000000) (hn : s.N.length ≤ 100000000) :
    Calls Tryd.prog 70 #[.pointer (some ⟨g, 0, none⟩), .int .i64 (i : Int), .int .i64 (x : Int), .int .i64 (y : Int), .int .i64 (z : Int)] w (ROut F g b gm gn m n T { s with O := s.O ++ [i], N := s.N ++ [(findW s.V (x : Int), findW s.V (y : Int), findW s.V (z : Int))] } w) := by
  obtain ⟨q, a, vG, vS, vV, vO, vN, h, hq, ha⟩ := h
  have HQ := Lib.hid hq
  have HA := Lib.hid ha
  have hax := ha x hx
  have hay := ha y hy
  have haz := ha z hz
  have hr := h.rows
  obtain ⟨Ao, co, rfl, _⟩ := hr.rO.has
  obtain ⟨An, cn, rfl, _⟩ := hr.rN.has
  have i2 : (i : Int) < (m : Int) := by omega
  have x2 : (x : Int) < (n : Int) := by omega
  have y2 : (y : Int) < (n : Int) := by omega
  have z2 : (z : Int) < (n : Int) := by omega
  have HX := Lib.hid h
  have hm := h.setM i true
  have HX1 := Lib.hid hm.1
  have HC1 := Lib.hid hm.2
  have b1 := h.box.cell 1
  have d1 := h.mt.cell i
  rw [rowB_at _ hi] at d1
  have f1 := h.mt.frozen i
  have b6 := HX1.out.box.cell 6
  have HFr := Lib.hid hF
  have HX2 := Lib.hid (HX1.out.next (new_alloc (Below.refl _ _) (.cells #[.int .i64 (i : Int)] 3)))
  have HN2 := Lib.hid (Has.new_at (w.setCell ⟨gm, i, none⟩ (.bool true)) #[.int .i64 (i : Int)] 3 w.heap.size (by simp)).toK
  have HF2 : Hid (∀ j, ((w.setCell ⟨gm, i, none⟩ (.bool true)).alloc (.cells #[.int .i64 (i : Int)] 3)).heap.size ≤ j → F j) := fun j hj => HFr.out j (Nat.le_trans (by simp) hj)
  have HC2 : Hid (Chg F w ((w.setCell ⟨gm, i, none⟩ (.bool true)).alloc (.cells #[.int .i64 (i : Int)] 3))) := HC1.out.then_ (Chg.of_below (D := F) (new_alloc (Below.refl _ _) _)) (fun _ _ e => e)
  have k6 := HX2.out.box.cell 6
  have HXn := Lib.hid hx
  have HYn := Lib.hid hy
  have HZn := Lib.hid hz
  have HQi : Hid (∀ j, j < m → putB q i true j = decide (j ∈ s.O ++ [i])) := fun j hj => by
    unfold putB
    by_cases e : j = i
    · rw [if_pos e, e]
      exact (decide_eq_true (List.mem_append_right _ (List.mem_singleton.2 rfl))).symm
    · rw [if_neg e, HQ.out j hj]
      apply decide_eq_decide.2
      rw [List.mem_append, List.mem_singleton]
      exact ⟨Or.inl, fun h => h.resolve_right e⟩
  generalize q i = oldq at d1
  clear h hr hq ha hF hm hi hx hy hz HQ
  go_enter Tryd.func70, Tryd.ntmps70
  go_wp2_with (at_builtin
               (refine wpList_joinGK rfl _ _ 79 rfl elemMi.toK (by decide) 0 _ s.O.length (natVs s.O) rfl HX2.out.rows.rO _ 1 1 (intVs [(i : Int)]) rfl HN2.out (intVs_one _) (by omega) (by decide) (Nat.zero_le _) ?_)
               rintro v5 w5 ho hg hw
               obtain ⟨A5, c5, rfl, _⟩ := OwnK.has ho
               obtain ⟨hX, hB, hC⟩ := HX2.out.putO HF2.out (l := s.O ++ [i]) (by rw [List.length_append, ← natVs_app]; exact ho) hg hw
               have HX5 := Lib.hid hX
               have HC5 := Lib.hid hC
               have f5 := hB.frozen 6
               have k7 := hB.cell 6
               clear hX hB hC ho hg hw)
  have HCV := Lib.hid (HC2.out.then_ HC5.out (fun _ _ e => e))
  generalize w5.setCell ⟨g, 6, none⟩ (.slice A5 (s.O.length + 1) c5) = V at *
  clear HX HX1 HX2 HN2 HC1 HC2 HC5 HF2 b1 d1 f1 b6 k6 f5 k7
  have c7 := HX5.out.box.cell 7
  have HK1 := Lib.hid (num_at HX5.out.nm HA.out)
  clear hax hay haz
  obtain ⟨fx, hfx⟩ : ∃ f, findW s.V (x : Int) = f := ⟨_, rfl⟩
  obtain ⟨fy, hfy⟩ : ∃ f, findW s.V (y : Int) = f := ⟨_, rfl⟩
  obtain ⟨fz, hfz⟩ : ∃ f, findW s.V (z : Int) = f := ⟨_, rfl⟩
  have HFx := Lib.hid hfx
  have HFy := Lib.hid hfy
  have HFz := Lib.hid hfz
  have HXa := Lib.hid (HX5.out.next (new_alloc (Below.refl _ V) (.cells #[.int .i64 fx, .int .i64 fy, .int .i64 fz] 58)).drew)
  have HNa : Hid (HasK 3 (V.alloc (.cells #[.int .i64 fx, .int .i64 fy, .int .i64 fz] 58)).drew (some ⟨V.heap.size, 0, none⟩) 1 1 (p3Cells [(fx, fy, fz)])) := (HasK.new_at 3 V #[.int .i64 fx, .int .i64 fy, .int .i64 fz] 58 _ 1 rfl rfl).kept (Below.refl _ _).drew
  have HFa : Hid (∀ j, (V.alloc (.cells #[.int .i64 fx, .int .i64 fy, .int .i64 fz] 58)).drew.heap.size ≤ j → F j) := fun j hj => HFr.out j (Nat.le_trans HCV.out.size (Nat.le_trans (Nat.le_trans (Nat.le_succ _) (Nat.le_of_eq (Array.size_push _).symm)) hj))
  have HCa : Hid (Chg F w (V.alloc (.cells #[.int .i64 fx, .int .i64 fy, .int .i64 fz] 58)).drew) := HCV.out.then_ (Chg.of_below (D := F) (new_alloc (Below.refl _ _) _).drew) (fun _ _ e => e)
  have a7 : (V.alloc (.cells #[.int .i64 fx, .int .i64 fy, .int .i64 fz] 58)).cell? ⟨g, 7, none⟩ = some (.slice An s.N.length cn) := HXa.out.box.cell 7
  have HK2 := Lib.hid (num_at HXa.out.nm HA.out)
  have d7 : V.drew.cell? ⟨g, 7, none⟩ = some (.slice An s.N.length cn) := HX5.out.box.cell 7
  have a8 : (V.alloc (.cells #[.int .i64 fx, .int .i64 fy, .int .i64 fz] 58)).drew.cell? ⟨g, 7, none⟩ = some (.slice An s.N.length cn) := HXa.out.box.cell 7
  have p2 : V.drew.cell? ⟨g, 2, none⟩ = some (.slice (some ⟨gn, 0, none⟩) n n) := HX5.out.box.cell 2
  have px : V.drew.cell? ⟨gn, x, none⟩ = some (.int .i64 fx) := HK1.out x HXn.out hfx
  have py : V.drew.cell? ⟨gn, y, none⟩ = some (.int .i64 fy) := HK1.out y HYn.out hfy
  have pz : V.drew.cell? ⟨gn, z, none⟩ = some (.int .i64 fz) := HK1.out z HZn.out hfz
  have q2 : (V.alloc (.cells #[.int .i64 fx, .int .i64 fy, .int .i64 fz] 58)).drew.cell? ⟨g, 2, none⟩ = some (.slice (some ⟨gn, 0, none⟩) n n) := HXa.out.box.cell 2
  have qx : (V.alloc (.cells #[.int .i64 fx, .int .i64 fy, .int .i64 fz] 58)).drew.cell? ⟨gn, x, none⟩ = some (.int .i64 fx) := HK2.out x HXn.out hfx
  have qy : (V.alloc (.cells #[.int .i64 fx, .int .i64 fy, .int .i64 fz] 58)).drew.cell? ⟨gn, y, none⟩ = some (.int .i64 fy) := HK2.out y HYn.out hfy
  have qz : (V.alloc (.cells #[.int .i64 fx, .int .i64 fy, .int .i64 fz] 58)).drew.cell? ⟨gn, z, none⟩ = some (.int .i64 fz) := HK2.out z HZn.out hfz
  refine wp_region_held_drew (S := fun W => W.cell? ⟨g, 2, none⟩ = some (.slice (some ⟨gn, 0, none⟩) n n) ∧ W.cell? ⟨gn, x, none⟩ = some (.int .i64 fx) ∧ W.cell? ⟨gn, y, none⟩ = some (.int .i64 fy) ∧ W.cell? ⟨gn, z, none⟩ = some (.int .i64 fz)) (by kernel_rfl) ⟨p2, px, py, pz⟩ (fun hHeld => ?_)
  refine wpAnyH_take (i := 0) (oi := { dst := some 26, op := Go.Op.move (Go.Operand.tmp 0), type := 74, pos := "route.go:128", after := #[], guard := none }) (v := ?uvr2x0) rfl (by kernel_rfl) (by kernel_rfl) (by kernel_rfl) (fun _ _ _ h => h) (Or.inl ⟨by rfl, ?uyr2x0⟩) (by assumption) ?urr2x0
  case uyr2x0 => (intro w hSw; (try dsimp only at hSw); go_simp; try with_reducible rfl)
  (try simp only [Act.put, List.setIfInBounds_toArray, List.set_cons_zero, List.set_cons_succ])
  refine wpAnyH_take (i := 1) (oi := { dst := some 27, op := Go.Op.move (Go.Operand.tmp 0), type := 74, pos := "route.go:128", after := #[], guard := none }) (v := ?uvr2x1) rfl (by kernel_rfl) (by kernel_rfl) (by kernel_rfl) (fun _ _ _ h => h) (Or.inl ⟨by rfl, ?uyr2x1⟩) (by assumption) ?urr2x1
  case uyr2x1 => (intro w hSw; (try dsimp only at hSw); go_simp; try with_reducible rfl)
  (try simp only [Act.put, List.setIfInBounds_toArray, List.set_cons_zero, List.set_cons_succ])
  refine wpAnyH_take (i := 2) (oi := { dst := some 28, op := Go.Op.nilCheck (Go.Operand.tmp 27), type := 0, pos := "route.go:128", after := #[{ on := 1, ground := Go.Ground.data }], guard := none }) (v := ?uvr2x2) rfl (by kernel_rfl) (by kernel_rfl) (by kernel_rfl) (fun _ _ _ h => h) (Or.inl ⟨by rfl, ?uyr2x2⟩) (by assumption) ?urr2x2
  case uyr2x2 => (intro w hSw; (try dsimp only at hSw); go_simp; try with_reducible rfl)
  (try simp only [Act.put, List.setIfInBounds_toArray, List.set_cons_zero, List.set_cons_succ])
  refine wpAnyH_take (i := 3) (oi := { dst := some 29, op := Go.Op.fieldAddr 82 (Go.Operand.tmp 28) 7, type := 0, pos := "route.go:128", after := #[{ on := 2, ground := Go.Ground.data }], guard := none }) (v := ?uvr2x3) rfl (by kernel_rfl) (by kernel_rfl) (by kernel_rfl) (fun _ _ _ h => h) (Or.inl ⟨by rfl, ?uyr2x3⟩) (by assumption) ?urr2x3
  case uyr2x3 => (intro w hSw; (try dsimp only at hSw); go_simp; try with_reducible rfl)
  (try simp only [Act.put, List.setIfInBounds_toArray, List.set_cons_zero, List.set_cons_succ])
  refine wpAnyH_take (i := 5) (oi := { dst := some 31, op := Go.Op.move (Go.Operand.tmp 0), type := 74, pos := "route.go:128", after := #[], guard := none }) (v := ?uvr2x4) rfl (by kernel_rfl) (by kernel_rfl) (by kernel_rfl) (fun _ _ _ h => h) (Or.inl ⟨by rfl, ?uyr2x4⟩) (by assumption) ?urr2x4
  case uyr2x4 => (intro w hSw; (try dsimp only at hSw); go_simp; try with_reducible rfl)
  (try simp only [Act.put, List.setIfInBounds_toArray, List.set_cons_zero, List.set_cons_succ])
  refine wpAnyH_take (i := 6) (oi := { dst := some 32, op := Go.Op.nilCheck (Go.Operand.tmp 31), type := 0, pos := "route.go:128", after := #[{ on := 5, ground := Go.Ground.data }], guard := none }) (v := ?uvr2x5) rfl (by kernel_rfl) (by kernel_rfl) (by kernel_rfl) (fun _ _ _ h => h) (Or.inl ⟨by rfl, ?uyr2x5⟩) (by assumption) ?urr2x5
  case uyr2x5 => (intro w hSw; (try dsimp only at hSw); go_simp; try with_reducible rfl)
  (try simp only [Act.put, List.setIfInBounds_toArray, List.set_cons_zero, List.set_cons_succ])
  refine wpAnyH_take (i := 7) (oi := { dst := some 33, op := Go.Op.fieldAddr 82 (Go.Operand.tmp 32) 2, type := 0, pos := "route.go:128", after := #[{ on := 6, ground := Go.Ground.data }], guard := none }) (v := ?uvr2x6) rfl (by kernel_rfl) (by kernel_rfl) (by kernel_rfl) (fun _ _ _ h => h) (Or.inl ⟨by rfl, ?uyr2x6⟩) (by assumption) ?urr2x6
  case uyr2x6 => (intro w hSw; (try dsimp only at hSw); go_simp; try with_reducible rfl)
  (try simp only [Act.put, List.setIfInBounds_toArray, List.set_cons_zero, List.set_cons_succ])
  refine wpAnyH_take (i := 8) (oi := { dst := some 34, op := Go.Op.load 79 (Go.Operand.tmp 33), type := 79, pos := "route.go:128", after := #[{ on := 7, ground := Go.Ground.data }], guard := none }) (v := ?uvr2x7) rfl (by kernel_rfl) (by kernel_rfl) (by kernel_rfl) (fun _ _ _ h => h) (Or.inl ⟨by rfl, ?uyr2x7⟩) (by assumption) ?urr2x7
  case uyr2x7 => (intro w hSw; (try dsimp only at hSw); go_simp; try with_reducible rfl)
  (try simp only [Act.put, List.setIfInBounds_toArray, List.set_cons_zero, List.set_cons_succ])
  refine wpAnyH_take (i := 9) (oi := { dst := some 35, op := Go.Op.move (Go.Operand.tmp 2), type := 3, pos := "route.go:128", after := #[], guard := none }) (v := ?uvr2x8) rfl (by kernel_rfl) (by kernel_rfl) (by kernel_rfl) (fun _ _ _ h => h) (Or.inl ⟨by rfl, ?uyr2x8⟩) (by assumption) ?urr2x8
  case uyr2x8 => (intro w hSw; (try dsimp only at hSw); go_simp; try with_reducible rfl)
  (try simp only [Act.put, List.setIfInBounds_toArray, List.set_cons_zero, List.set_cons_succ])
  refine wpAnyH_take (i := 10) (oi := { dst := some 36, op := Go.Op.indexAddr 79 (Go.Operand.tmp 34) (Go.Operand.tmp 35), type := 0, pos := "route.go:128", after := #[{ on := 8, ground := Go.Ground.data }, { on := 9, ground := Go.Ground.data }], guard := none }) (v := ?uvr2x9) rfl (by kernel_rfl) (by kernel_rfl) (by kernel_rfl) (fun _ _ _ h => h) (Or.inl ⟨by rfl, ?uyr2x9⟩) (by assumption) ?urr2x9
  case uyr2x9 => (intro w hSw; (try dsimp only at hSw); go_simp; try with_reducible rfl)
  (try simp only [Act.put, List.setIfInBounds_toArray, List.set_cons_zero, List.set_cons_succ])
  refine wpAnyH_take (i := 11) (oi := { dst := some 37, op := Go.Op.load 3 (Go.Operand.tmp 36), type := 3, pos := "route.go:128", after := #[{ on := 10, ground := Go.Ground.data }], guard := none }) (v := ?uvr2x10) rfl (by kernel_rfl) (by kernel_rfl) (by kernel_rfl) (fun _ _ _ h => h) (Or.inl ⟨by rfl, ?uyr2x10⟩) (by assumption) ?urr2x10
  case uyr2x10 => (intro w hSw; (try dsimp only at hSw); go_simp; try with_reducible rfl)
  (try simp only [Act.put, List.setIfInBounds_toArray, List.set_cons_zero, List.set_cons_succ])
  refine wpAnyH_take (i := 12) (oi := { dst := some 38, op := Go.Op.move (Go.Operand.tmp 0), type := 74, pos := "route.go:128", after := #[], guard := none }) (v := ?uvr2x11) rfl (by kernel_rfl) (by kernel_rfl) (by kernel_rfl) (fun _ _ _ h => h) (Or.inl ⟨by rfl, ?uyr2x11⟩) (by assumption) ?urr2x11
  case uyr2x11 => (intro w hSw; (try dsimp only at hSw); go_simp; try with_reducible rfl)
  (try simp only [Act.put, List.setIfInBounds_toArray, List.set_cons_zero, List.set_cons_succ])
  refine wpAnyH_take (i := 13) (oi := { dst := some 39, op := Go.Op.nilCheck (Go.Operand.tmp 38), type := 0, pos := "route.go:128", after := #[{ on := 12, ground := Go.Ground.data }], guard := none }) (v := ?uvr2x12) rfl (by kernel_rfl) (by kernel_rfl) (by kernel_rfl) (fun _ _ _ h => h) (Or.inl ⟨by rfl, ?uyr2x12⟩) (by assumption) ?urr2x12
  case uyr2x12 => (intro w hSw; (try dsimp only at hSw); go_simp; try with_reducible rfl)
  (try simp only [Act.put, List.setIfInBounds_toArray, List.set_cons_zero, List.set_cons_succ])
  refine wpAnyH_take (i := 14) (oi := { dst := some 40, op := Go.Op.fieldAddr 82 (Go.Operand.tmp 39) 2, type := 0, pos := "route.go:128", after := #[{ on := 13, ground := Go.Ground.data }], guard := none }) (v := ?uvr2x13) rfl (by kernel_rfl) (by kernel_rfl) (by kernel_rfl) (fun _ _ _ h => h) (Or.inl ⟨by rfl, ?uyr2x13⟩) (by assumption) ?urr2x13
  case uyr2x13 => (intro w hSw; (try dsimp only at hSw); go_simp; try with_reducible rfl)
  (try simp only [Act.put, List.setIfInBounds_toArray, List.set_cons_zero, List.set_cons_succ])
  refine wpAnyH_take (i := 15) (oi := { dst := some 41, op := Go.Op.load 79 (Go.Operand.tmp 40), type := 79, pos := "route.go:128", after := #[{ on := 14, ground := Go.Ground.data }], guard := none }) (v := ?uvr2x14) rfl (by kernel_rfl) (by kernel_rfl) (by kernel_rfl) (fun _ _ _ h => h) (Or.inl ⟨by rfl, ?uyr2x14⟩) (by assumption) ?urr2x14
  case uyr2x14 => (intro w hSw; (try dsimp only at hSw); go_simp; try with_reducible rfl)
  (try simp only [Act.put, List.setIfInBounds_toArray, List.set_cons_zero, List.set_cons_succ])
  refine wpAnyH_take (i := 16) (oi := { dst := some 42, op := Go.Op.move (Go.Operand.tmp 3), type := 3, pos := "route.go:128", after := #[], guard := none }) (v := ?uvr2x15) rfl (by kernel_rfl) (by kernel_rfl) (by kernel_rfl) (fun _ _ _ h => h) (Or.inl ⟨by rfl, ?uyr2x15⟩) (by assumption) ?urr2x15
  case uyr2x15 => (intro w hSw; (try dsimp only at hSw); go_simp; try with_reducible rfl)
  (try simp only [Act.put, List.setIfInBounds_toArray, List.set_cons_zero, List.set_cons_succ])
  refine wpAnyH_take (i := 17) (oi := { dst := some 43, op := Go.Op.indexAddr 79 (Go.Operand.tmp 41) (Go.Operand.tmp 42), type := 0, pos := "route.go:128", after := #[{ on := 15, ground := Go.Ground.data }, { on := 16, ground := Go.Ground.data }], guard := none }) (v := ?uvr2x16) rfl (by kernel_rfl) (by kernel_rfl) (by kernel_rfl) (fun _ _ _ h => h) (Or.inl ⟨by rfl, ?uyr2x16⟩) (by assumption) ?urr2x16
  case uyr2x16 => (intro w hSw; (try dsimp only at hSw); go_simp; try with_reducible rfl)
  (try simp only [Act.put, List.setIfInBounds_toArray, List.set_cons_zero, List.set_cons_succ])
  refine wpAnyH_take (i := 18) (oi := { dst := some 44, op := Go.Op.load 3 (Go.Operand.tmp 43), type := 3, pos := "route.go:128", after := #[{ on := 17, ground := Go.Ground.data }], guard := none }) (v := ?uvr2x17) rfl (by kernel_rfl) (by kernel_rfl) (by kernel_rfl) (fun _ _ _ h => h) (Or.inl ⟨by rfl, ?uyr2x17⟩) (by assumption) ?urr2x17
  case uyr2x17 => (intro w hSw; (try dsimp only at hSw); go_simp; try with_reducible rfl)
  (try simp only [Act.put, List.setIfInBounds_toArray, List.set_cons_zero, List.set_cons_succ])
  refine wpAnyH_take (i := 19) (oi := { dst := some 45, op := Go.Op.move (Go.Operand.tmp 0), type := 74, pos := "route.go:128", after := #[], guard := none }) (v := ?uvr2x18) rfl (by kernel_rfl) (by kernel_rfl) (by kernel_rfl) (fun _ _ _ h => h) (Or.inl ⟨by rfl, ?uyr2x18⟩) (by assumption) ?urr2x18
  case uyr2x18 => (intro w hSw; (try dsimp only at hSw); go_simp; try with_reducible rfl)
  (try simp only [Act.put, List.setIfInBounds_toArray, List.set_cons_zero, List.set_cons_succ])
  refine wpAnyH_take (i := 20) (oi := { dst := some 46, op := Go.Op.nilCheck (Go.Operand.tmp 45), type := 0, pos := "route.go:128", after := #[{ on := 19, ground := Go.Ground.data }], guard := none }) (v := ?uvr2x19) rfl (by kernel_rfl) (by kernel_rfl) (by kernel_rfl) (fun _ _ _ h => h) (Or.inl ⟨by rfl, ?uyr2x19⟩) (by assumption) ?urr2x19
  case uyr2x19 => (intro w hSw; (try dsimp only at hSw); go_simp; try with_reducible rfl)
  (try simp only [Act.put, List.setIfInBounds_toArray, List.set_cons_zero, List.set_cons_succ])
  refine wpAnyH_take (i := 21) (oi := { dst := some 47, op := Go.Op.fieldAddr 82 (Go.Operand.tmp 46) 2, type := 0, pos := "route.go:128", after := #[{ on := 20, ground := Go.Ground.data }], guard := none }) (v := ?uvr2x20) rfl (by kernel_rfl) (by kernel_rfl) (by kernel_rfl) (fun _ _ _ h => h) (Or.inl ⟨by rfl, ?uyr2x20⟩) (by assumption) ?urr2x20
  case uyr2x20 => (intro w hSw; (try dsimp only at hSw); go_simp; try with_reducible rfl)
  (try simp only [Act.put, List.setIfInBounds_toArray, List.set_cons_zero, List.set_cons_succ])
  refine wpAnyH_take (i := 22) (oi := { dst := some 48, op := Go.Op.load 79 (Go.Operand.tmp 47), type := 79, pos := "route.go:128", after := #[{ on := 21, ground := Go.Ground.data }], guard := none }) (v := ?uvr2x21) rfl (by kernel_rfl) (by kernel_rfl) (by kernel_rfl) (fun _ _ _ h => h) (Or.inl ⟨by rfl, ?uyr2x21⟩) (by assumption) ?urr2x21
  case uyr2x21 => (intro w hSw; (try dsimp only at hSw); go_simp; try with_reducible rfl)
  (try simp only [Act.put, List.setIfInBounds_toArray, List.set_cons_zero, List.set_cons_succ])
  refine wpAnyH_take (i := 23) (oi := { dst := some 49, op := Go.Op.move (Go.Operand.tmp 4), type := 3, pos := "route.go:128", after := #[], guard := none }) (v := ?uvr2x22) rfl (by kernel_rfl) (by kernel_rfl) (by kernel_rfl) (fun _ _ _ h => h) (Or.inl ⟨by rfl, ?uyr2x22⟩) (by assumption) ?urr2x22
  case uyr2x22 => (intro w hSw; (try dsimp only at hSw); go_simp; try with_reducible rfl)
  (try simp only [Act.put, List.setIfInBounds_toArray, List.set_cons_zero, List.set_cons_succ])
  refine wpAnyH_take (i := 24) (oi := { dst := some 50, op := Go.Op.indexAddr 79 (Go.Operand.tmp 48) (Go.Operand.tmp 49), type := 0, pos := "route.go:128", after := #[{ on := 22, ground := Go.Ground.data }, { on := 23, ground := Go.Ground.data }], guard := none }) (v := ?uvr2x23) rfl (by kernel_rfl) (by kernel_rfl) (by kernel_rfl) (fun _ _ _ h => h) (Or.inl ⟨by rfl, ?uyr2x23⟩) (by assumption) ?urr2x23
  case uyr2x23 => (intro w hSw; (try dsimp only at hSw); go_simp; try with_reducible rfl)
  (try simp only [Act.put, List.setIfInBounds_toArray, List.set_cons_zero, List.set_cons_succ])
  refine wpAnyH_take (i := 25) (oi := { dst := some 51, op := Go.Op.load 3 (Go.Operand.tmp 50), type := 3, pos := "route.go:128", after := #[{ on := 24, ground := Go.Ground.data }], guard := none }) (v := ?uvr2x24) rfl (by kernel_rfl) (by kernel_rfl) (by kernel_rfl) (fun _ _ _ h => h) (Or.inl ⟨by rfl, ?uyr2x24⟩) (by assumption) ?urr2x24
  case uyr2x24 => (intro w hSw; (try dsimp only at hSw); go_simp; try with_reducible rfl)
  (try simp only [Act.put, List.setIfInBounds_toArray, List.set_cons_zero, List.set_cons_succ])
  refine wpAnyH_take (i := 26) (oi := { dst := some 52, op := Go.Op.build 58 #[(0, Go.Operand.tmp 37), (1, Go.Operand.tmp 44), (2, Go.Operand.tmp 51)], type := 58, pos := "route.go:128", after := #[{ on := 11, ground := Go.Ground.data }, { on := 18, ground := Go.Ground.data }, { on := 25, ground := Go.Ground.data }], guard := none }) (v := ?uvr2x25) rfl (by kernel_rfl) (by kernel_rfl) (by kernel_rfl) (fun _ _ _ h => h) (Or.inl ⟨by rfl, ?uyr2x25⟩) (by assumption) ?urr2x25
  case uyr2x25 => (intro w hSw; (try dsimp only at hSw); go_simp; try with_reducible rfl)
  (try simp only [Act.put, List.setIfInBounds_toArray, List.set_cons_zero, List.set_cons_succ])
  refine wpAnyH_ready (rs := [4, 27]) (by kernel_rfl) (by simp) ?_
  refine AllReadyH.cons (o := { dst := some 30, op := Go.Op.load 26 (Go.Operand.tmp 29), type := 26, pos := "route.go:128", after := #[{ on := 3, ground := Go.Ground.data }], guard := none }) rfl (fun K hK => ?_) (AllReadyH.cons (o := { dst := some 53, op := Go.Op.buildSlice 26 1 #[(0, Go.Operand.tmp 52)], type := 26, pos := "route.go:128", after := #[{ on := 26, ground := Go.Ground.data }], guard := none }) rfl (fun K hK => ?_) AllReadyH.nil)
  · go_simp
    refine hK.out _ _ ?_ (fun hHeld => ?_)
    · exact ⟨p2, px, py, pz⟩
    clear hK K
    (try simp only [Act.put, List.setIfInBounds_toArray, List.set_cons_zero, List.set_cons_succ])
    refine wpAnyH_ready (rs := [27]) (by kernel_rfl) (by simp) ?_
    refine AllReadyH.cons (o := { dst := some 53, op := Go.Op.buildSlice 26 1 #[(0, Go.Operand.tmp 52)], type := 26, pos := "route.go:128", after := #[{ on := 26, ground := Go.Ground.data }], guard := none }) rfl (fun K hK => ?_) AllReadyH.nil
    go_simp
    refine hK.out _ _ ?_ (fun hHeld => ?_)
    · exact ⟨q2, qx, qy, qz⟩
    clear hK K
    (try simp only [Act.put, List.setIfInBounds_toArray, List.set_cons_zero, List.set_cons_succ])
    refine wpAnyH_ready (rs := [28]) (by kernel_rfl) (by simp) ?_
    refine AllReadyH.cons (o := { dst := some 54, op := Go.Op.call { callee := Go.Callee.builtin Go.Builtin.append, args := #[Go.Operand.tmp 30, Go.Operand.tmp 53], argTypes := #[26, 26] }, type := 26, pos := "route.go:128", after := #[{ on := 4, ground := Go.Ground.data }, { on := 27, ground := Go.Ground.data }], guard := none }) rfl (fun K hK => ?_) AllReadyH.nil
    (refine step_joinGK rfl _ _ 26 rfl elemT3 (by decide) 0 _ s.N.length (p3Cells s.N) rfl HXa.out.rows.rN _ 1 1 (p3Cells [(fx, fy, fz)]) rfl HNa.out (p3Cells_one _) (by omega) (by decide) (Nat.zero_le _) ?_
     intro v6 w6 ho hg hw
     obtain ⟨A6, c6, rfl, _⟩ := OwnK.has ho
     obtain ⟨hX, hB, hC⟩ := HXa.out.putN HFa.out (l := s.N ++ [(fx, fy, fz)]) (by rw [List.length_append, p3Cells_app]; exact ho) hg hw
     have HX6 := Lib.hid hX
     have HC6 := Lib.hid hC
     have f7 := hB.frozen 7
     have k7 := hB.cell 7
     have HK6 := Lib.hid (num_at (HXa.out.nm.chg (HXa.out.rows.chgN hg) no_n) HA.out)
     have HK7 := Lib.hid (num_at HX6.out.nm HA.out)
     have r2 : w6.cell? ⟨g, 2, none⟩ = some (.slice (some ⟨gn, 0, none⟩) n n) := hB.cell 2
     have rx : w6.cell? ⟨gn, x, none⟩ = some (.int .i64 fx) := HK6.out x HXn.out hfx
     have ry : w6.cell? ⟨gn, y, none⟩ = some (.int .i64 fy) := HK6.out y HYn.out hfy
     have rz : w6.cell? ⟨gn, z, none⟩ = some (.int .i64 fz) := HK6.out z HZn.out hfz
     have t2 : (w6.setCell ⟨g, 7, none⟩ (.slice A6 (s.N.length + 1) c6)).cell? ⟨g, 2, none⟩ = some (.slice (some ⟨gn, 0, none⟩) n n) := HX6.out.box.cell 2
     have tx : (w6.setCell ⟨g, 7, none⟩ (.slice A6 (s.N.length + 1) c6)).cell? ⟨gn, x, none⟩ = some (.int .i64 fx) := HK7.out x HXn.out hfx
     have ty : (w6.setCell ⟨g, 7, none⟩ (.slice A6 (s.N.length + 1) c6)).cell? ⟨gn, y, none⟩ = some (.int .i64 fy) := HK7.out y HYn.out hfy
     have tz : (w6.setCell ⟨g, 7, none⟩ (.slice A6 (s.N.length + 1) c6)).cell? ⟨gn, z, none⟩ = some (.int .i64 fz) := HK7.out z HZn.out hfz
     clear hX hB hC ho hg hw)
    refine hK.out _ _ ?_ (fun hHeld => ?_)
    · exact ⟨r2, rx, ry, rz⟩
    clear hK K
    (try simp only [Act.put, List.setIfInBounds_toArray, List.set_cons_zero, List.set_cons_succ])
    refine wpAnyH_take (i := 29) (oi := { dst := some 55, op := Go.Op.nilCheck (Go.Operand.tmp 26), type := 0, pos := "route.go:128", after := #[{ on := 0, ground := Go.Ground.data }, { on := 0, ground := Go.Ground.phase }, { on := 1, ground := Go.Ground.phase }, { on := 2, ground := Go.Ground.phase }, { on := 3, ground := Go.Ground.phase }, { on := 4, ground := Go.Ground.phase }, { on := 5, ground := Go.Ground.phase }, { on := 6, ground := Go.Ground.phase }, { on := 7, ground := Go.Ground.phase }, { on := 8, ground := Go.Ground.phase }, { on := 9, ground := Go.Ground.phase }, { on := 10, ground := Go.Ground.phase }, { on := 11, ground := Go.Ground.phase }, { on := 12, ground := Go.Ground.phase }, { on := 13, ground := Go.Ground.phase }, { on := 14, ground := Go.Ground.phase }, { on := 15, ground := Go.Ground.phase }, { on := 16, ground := Go.Ground.phase }, { on := 17, ground := Go.Ground.phase }, { on := 18, ground := Go.Ground.phase }, { on := 19, ground := Go.Ground.phase }, { on := 20, ground := Go.Ground.phase }, { on := 21, ground := Go.Ground.phase }, { on := 22, ground := Go.Ground.phase }, { on := 23, ground := Go.Ground.phase }, { on := 24, ground := Go.Ground.phase }, { on := 25, ground := Go.Ground.phase }, { on := 26, ground := Go.Ground.phase }, { on := 27, ground := Go.Ground.phase }, { on := 28, ground := Go.Ground.phase }], guard := none }) (v := ?uvr2x26) rfl (by kernel_rfl) (by kernel_rfl) (by kernel_rfl) (fun _ _ _ h => h) (Or.inl ⟨by rfl, ?uyr2x26⟩) (by assumption) ?urr2x26
    case uyr2x26 => (intro w hSw; (try dsimp only at hSw); go_simp; try with_reducible rfl)
    (try simp only [Act.put, List.setIfInBounds_toArray, List.set_cons_zero, List.set_cons_succ])
    refine wpAnyH_take (i := 30) (oi := { dst := some 56, op := Go.Op.fieldAddr 82 (Go.Operand.tmp 55) 7, type := 0, pos := "route.go:128", after := #[{ on := 29, ground := Go.Ground.data }, { on := 0, ground := Go.Ground.phase }, { on := 1, ground := Go.Ground.phase }, { on := 2, ground := Go.Ground.phase }, { on := 3, ground := Go.Ground.phase }, { on := 4, ground := Go.Ground.phase }, { on := 5, ground := Go.Ground.phase }, { on := 6, ground := Go.Ground.phase }, { on := 7, ground := Go.Ground.phase }, { on := 8, ground := Go.Ground.phase }, { on := 9, ground := Go.Ground.phase }, { on := 10, ground := Go.Ground.phase }, { on := 11, ground := Go.Ground.phase }, { on := 12, ground := Go.Ground.phase }, { on := 13, ground := Go.Ground.phase }, { on := 14, ground := Go.Ground.phase }, { on := 15, ground := Go.Ground.phase }, { on := 16, ground := Go.Ground.phase }, { on := 17, ground := Go.Ground.phase }, { on := 18, ground := Go.Ground.phase }, { on := 19, ground := Go.Ground.phase }, { on := 20, ground := Go.Ground.phase }, { on := 21, ground := Go.Ground.phase }, { on := 22, ground := Go.Ground.phase }, { on := 23, ground := Go.Ground.phase }, { on := 24, ground := Go.Ground.phase }, { on := 25, ground := Go.Ground.phase }, { on := 26, ground := Go.Ground.phase }, { on := 27, ground := Go.Ground.phase }, { on := 28, ground := Go.Ground.phase }], guard := none }) (v := ?uvr2x27) rfl (by kernel_rfl) (by kernel_rfl) (by kernel_rfl) (fun _ _ _ h => h) (Or.inl ⟨by rfl, ?uyr2x27⟩) (by assumption) ?urr2x27
    case uyr2x27 => (intro w hSw; (try dsimp only at hSw); go_simp; try with_reducible rfl)
    (try simp only [Act.put, List.setIfInBounds_toArray, List.set_cons_zero, List.set_cons_succ])
    refine wpAnyH_ready (rs := [31]) (by kernel_rfl) (by simp) ?_
    refine AllReadyH.cons (o := { dst := none, op := Go.Op.store 26 (Go.Operand.tmp 56) (Go.Operand.tmp 54), type := 0, pos := "route.go:128", after := #[{ on := 30, ground := Go.Ground.data }, { on := 28, ground := Go.Ground.data }, { on := 28, ground := Go.Ground.chain }, { on := 0, ground := Go.Ground.phase }, { on := 1, ground := Go.Ground.phase }, { on := 2, ground := Go.Ground.phase }, { on := 3, ground := Go.Ground.phase }, { on := 4, ground := Go.Ground.phase }, { on := 5, ground := Go.Ground.phase }, { on := 6, ground := Go.Ground.phase }, { on := 7, ground := Go.Ground.phase }, { on := 8, ground := Go.Ground.phase }, { on := 9, ground := Go.Ground.phase }, { on := 10, ground := Go.Ground.phase }, { on := 11, ground := Go.Ground.phase }, { on := 12, ground := Go.Ground.phase }, { on := 13, ground := Go.Ground.phase }, { on := 14, ground := Go.Ground.phase }, { on := 15, ground := Go.Ground.phase }, { on := 16, ground := Go.Ground.phase }, { on := 17, ground := Go.Ground.phase }, { on := 18, ground := Go.Ground.phase }, { on := 19, ground := Go.Ground.phase }, { on := 20, ground := Go.Ground.phase }, { on := 21, ground := Go.Ground.phase }, { on := 22, ground := Go.Ground.phase }, { on := 23, ground := Go.Ground.phase }, { on := 24, ground := Go.Ground.phase }, { on := 25, ground := Go.Ground.phase }, { on := 26, ground := Go.Ground.phase }, { on := 27, ground := Go.Ground.phase }, { on := 28, ground := Go.Ground.phase }], guard := none }) rfl (fun K hK => ?_) AllReadyH.nil
    go_simp
    refine hK.out _ _ ?_ (fun hHeld => ?_)
    · exact ⟨t2, tx, ty, tz⟩
    clear hK K
    refine wpAnyH_done (by kernel_rfl) ?_ _
    go_end0
    have hN : s.N ++ [(findW s.V (x : Int), findW s.V (y : Int), findW s.V (z : Int))] = s.N ++ [(fx, fy, fz)] := by rw [HFx.out, HFy.out, HFz.out]
    rw [hN]
    exact ⟨rfl, ⟨_, a, _, _, _, _, _, HX6.out, HQi.out, HA.out⟩, HCa.out.then_ HC6.out (fun _ _ e => e)⟩
  · go_simp
    refine hK.out _ _ ?_ (fun hHeld => ?_)
    · exact ⟨q2, qx, qy, qz⟩
    clear hK K
    (try simp only [Act.put, List.setIfInBounds_toArray, List.set_cons_zero, List.set_cons_succ])
    refine wpAnyH_ready (rs := [4]) (by kernel_rfl) (by simp) ?_
    refine AllReadyH.cons (o := { dst := some 30, op := Go.Op.load 26 (Go.Operand.tmp 29), type := 26, pos := "route.go:128", after := #[{ on := 3, ground := Go.Ground.data }], guard := none }) rfl (fun K hK => ?_) AllReadyH.nil
    go_simp
    refine hK.out _ _ ?_ (fun hHeld => ?_)
    · exact ⟨q2, qx, qy, qz⟩
    clear hK K
    (try simp only [Act.put, List.setIfInBounds_toArray, List.set_cons_zero, List.set_cons_succ])
    refine wpAnyH_ready (rs := [28]) (by kernel_rfl) (by simp) ?_
    refine AllReadyH.cons (o := { dst := some 54, op := Go.Op.call { callee := Go.Callee.builtin Go.Builtin.append, args := #[Go.Operand.tmp 30, Go.Operand.tmp 53], argTypes := #[26, 26] }, type := 26, pos := "route.go:128", after := #[{ on := 4, ground := Go.Ground.data }, { on := 27, ground := Go.Ground.data }], guard := none }) rfl (fun K hK => ?_) AllReadyH.nil
    (refine step_joinGK rfl _ _ 26 rfl elemT3 (by decide) 0 _ s.N.length (p3Cells s.N) rfl HXa.out.rows.rN _ 1 1 (p3Cells [(fx, fy, fz)]) rfl HNa.out (p3Cells_one _) (by omega) (by decide) (Nat.zero_le _) ?_
     intro v6 w6 ho hg hw
     obtain ⟨A6, c6, rfl, _⟩ := OwnK.has ho
     obtain ⟨hX, hB, hC⟩ := HXa.out.putN HFa.out (l := s.N ++ [(fx, fy, fz)]) (by rw [List.length_append, p3Cells_app]; exact ho) hg hw
     have HX6 := Lib.hid hX
     have HC6 := Lib.hid hC
     have f7 := hB.frozen 7
     have k7 := hB.cell 7
     have HK6 := Lib.hid (num_at (HXa.out.nm.chg (HXa.out.rows.chgN hg) no_n) HA.out)
     have HK7 := Lib.hid (num_at HX6.out.nm HA.out)
     have r2 : w6.cell? ⟨g, 2, none⟩ = some (.slice (some ⟨gn, 0, none⟩) n n) := hB.cell 2
     have rx : w6.cell? ⟨gn, x, none⟩ = some (.int .i64 fx) := HK6.out x HXn.out hfx
     have ry : w6.cell? ⟨gn, y, none⟩ = some (.int .i64 fy) := HK6.out y HYn.out hfy
     have rz : w6.cell? ⟨gn, z, none⟩ = some (.int .i64 fz) := HK6.out z HZn.out hfz
     have t2 : (w6.setCell ⟨g, 7, none⟩ (.slice A6 (s.N.length + 1) c6)).cell? ⟨g, 2, none⟩ = some (.slice (some ⟨gn, 0, none⟩) n n) := HX6.out.box.cell 2
     have tx : (w6.setCell ⟨g, 7, none⟩ (.slice A6 (s.N.length + 1) c6)).cell? ⟨gn, x, none⟩ = some (.int .i64 fx) := HK7.out x HXn.out hfx
     have ty : (w6.setCell ⟨g, 7, none⟩ (.slice A6 (s.N.length + 1) c6)).cell? ⟨gn, y, none⟩ = some (.int .i64 fy) := HK7.out y HYn.out hfy
     have tz : (w6.setCell ⟨g, 7, none⟩ (.slice A6 (s.N.length + 1) c6)).cell? ⟨gn, z, none⟩ = some (.int .i64 fz) := HK7.out z HZn.out hfz
     clear hX hB hC ho hg hw)
    refine hK.out _ _ ?_ (fun hHeld => ?_)
    · exact ⟨r2, rx, ry, rz⟩
    clear hK K
    (try simp only [Act.put, List.setIfInBounds_toArray, List.set_cons_zero, List.set_cons_succ])
    refine wpAnyH_take (i := 29) (oi := { dst := some 55, op := Go.Op.nilCheck (Go.Operand.tmp 26), type := 0, pos := "route.go:128", after := #[{ on := 0, ground := Go.Ground.data }, { on := 0, ground := Go.Ground.phase }, { on := 1, ground := Go.Ground.phase }, { on := 2, ground := Go.Ground.phase }, { on := 3, ground := Go.Ground.phase }, { on := 4, ground := Go.Ground.phase }, { on := 5, ground := Go.Ground.phase }, { on := 6, ground := Go.Ground.phase }, { on := 7, ground := Go.Ground.phase }, { on := 8, ground := Go.Ground.phase }, { on := 9, ground := Go.Ground.phase }, { on := 10, ground := Go.Ground.phase }, { on := 11, ground := Go.Ground.phase }, { on := 12, ground := Go.Ground.phase }, { on := 13, ground := Go.Ground.phase }, { on := 14, ground := Go.Ground.phase }, { on := 15, ground := Go.Ground.phase }, { on := 16, ground := Go.Ground.phase }, { on := 17, ground := Go.Ground.phase }, { on := 18, ground := Go.Ground.phase }, { on := 19, ground := Go.Ground.phase }, { on := 20, ground := Go.Ground.phase }, { on := 21, ground := Go.Ground.phase }, { on := 22, ground := Go.Ground.phase }, { on := 23, ground := Go.Ground.phase }, { on := 24, ground := Go.Ground.phase }, { on := 25, ground := Go.Ground.phase }, { on := 26, ground := Go.Ground.phase }, { on := 27, ground := Go.Ground.phase }, { on := 28, ground := Go.Ground.phase }], guard := none }) (v := ?uvr2x28) rfl (by kernel_rfl) (by kernel_rfl) (by kernel_rfl) (fun _ _ _ h => h) (Or.inl ⟨by rfl, ?uyr2x28⟩) (by assumption) ?urr2x28
    case uyr2x28 => (intro w hSw; (try dsimp only at hSw); go_simp; try with_reducible rfl)
    (try simp only [Act.put, List.setIfInBounds_toArray, List.set_cons_zero, List.set_cons_succ])
    refine wpAnyH_take (i := 30) (oi := { dst := some 56, op := Go.Op.fieldAddr 82 (Go.Operand.tmp 55) 7, type := 0, pos := "route.go:128", after := #[{ on := 29, ground := Go.Ground.data }, { on := 0, ground := Go.Ground.phase }, { on := 1, ground := Go.Ground.phase }, { on := 2, ground := Go.Ground.phase }, { on := 3, ground := Go.Ground.phase }, { on := 4, ground := Go.Ground.phase }, { on := 5, ground := Go.Ground.phase }, { on := 6, ground := Go.Ground.phase }, { on := 7, ground := Go.Ground.phase }, { on := 8, ground := Go.Ground.phase }, { on := 9, ground := Go.Ground.phase }, { on := 10, ground := Go.Ground.phase }, { on := 11, ground := Go.Ground.phase }, { on := 12, ground := Go.Ground.phase }, { on := 13, ground := Go.Ground.phase }, { on := 14, ground := Go.Ground.phase }, { on := 15, ground := Go.Ground.phase }, { on := 16, ground := Go.Ground.phase }, { on := 17, ground := Go.Ground.phase }, { on := 18, ground := Go.Ground.phase }, { on := 19, ground := Go.Ground.phase }, { on := 20, ground := Go.Ground.phase }, { on := 21, ground := Go.Ground.phase }, { on := 22, ground := Go.Ground.phase }, { on := 23, ground := Go.Ground.phase }, { on := 24, ground := Go.Ground.phase }, { on := 25, ground := Go.Ground.phase }, { on := 26, ground := Go.Ground.phase }, { on := 27, ground := Go.Ground.phase }, { on := 28, ground := Go.Ground.phase }], guard := none }) (v := ?uvr2x29) rfl (by kernel_rfl) (by kernel_rfl) (by kernel_rfl) (fun _ _ _ h => h) (Or.inl ⟨by rfl, ?uyr2x29⟩) (by assumption) ?urr2x29
    case uyr2x29 => (intro w hSw; (try dsimp only at hSw); go_simp; try with_reducible rfl)
    (try simp only [Act.put, List.setIfInBounds_toArray, List.set_cons_zero, List.set_cons_succ])
    refine wpAnyH_ready (rs := [31]) (by kernel_rfl) (by simp) ?_
    refine AllReadyH.cons (o := { dst := none, op := Go.Op.store 26 (Go.Operand.tmp 56) (Go.Operand.tmp 54), type := 0, pos := "route.go:128", after := #[{ on := 30, ground := Go.Ground.data }, { on := 28, ground := Go.Ground.data }, { on := 28, ground := Go.Ground.chain }, { on := 0, ground := Go.Ground.phase }, { on := 1, ground := Go.Ground.phase }, { on := 2, ground := Go.Ground.phase }, { on := 3, ground := Go.Ground.phase }, { on := 4, ground := Go.Ground.phase }, { on := 5, ground := Go.Ground.phase }, { on := 6, ground := Go.Ground.phase }, { on := 7, ground := Go.Ground.phase }, { on := 8, ground := Go.Ground.phase }, { on := 9, ground := Go.Ground.phase }, { on := 10, ground := Go.Ground.phase }, { on := 11, ground := Go.Ground.phase }, { on := 12, ground := Go.Ground.phase }, { on := 13, ground := Go.Ground.phase }, { on := 14, ground := Go.Ground.phase }, { on := 15, ground := Go.Ground.phase }, { on := 16, ground := Go.Ground.phase }, { on := 17, ground := Go.Ground.phase }, { on := 18, ground := Go.Ground.phase }, { on := 19, ground := Go.Ground.phase }, { on := 20, ground := Go.Ground.phase }, { on := 21, ground := Go.Ground.phase }, { on := 22, ground := Go.Ground.phase }, { on := 23, ground := Go.Ground.phase }, { on := 24, ground := Go.Ground.phase }, { on := 25, ground := Go.Ground.phase }, { on := 26, ground := Go.Ground.phase }, { on := 27, ground := Go.Ground.phase }, { on := 28, ground := Go.Ground.phase }], guard := none }) rfl (fun K hK => ?_) AllReadyH.nil
    go_simp
    refine hK.out _ _ ?_ (fun hHeld => ?_)
    · exact ⟨t2, tx, ty, tz⟩
    clear hK K
    refine wpAnyH_done (by kernel_rfl) ?_ _
    go_end0
    have hN : s.N ++ [(findW s.V (x : Int), findW s.V (y : Int), findW s.V (z : Int))] = s.N ++ [(fx, fy, fz)] := by rw [HFx.out, HFy.out, HFz.out]
    rw [hN]
    exact ⟨rfl, ⟨_, a, _, _, _, _, _, HX6.out, HQi.out, HA.out⟩, HCa.out.then_ HC6.out (fun _ _ e => e)⟩
end Go.Proofs.YthjmojglcfmkmaaDoor
