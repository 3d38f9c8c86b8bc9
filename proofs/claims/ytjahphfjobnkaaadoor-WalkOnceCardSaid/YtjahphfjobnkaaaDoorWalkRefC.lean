/- lapidaryref11: take. -/
import Derived.Test.YtjahphfjobnkaaaDoorWalkRef
import Derived.Deep.RegionHeld3
import Derived.Deep.CutRange
namespace Go.Proofs.YtjahphfjobnkaaaDoor
open Go.RowKit

/-- A triangle taken. -/
def takeW (s : WS) (i : Nat) (a b c z : Int) : WS := { V := s.V, O := s.O ++ [i], N := s.N ++ [(findW s.V a, findW s.V b, findW s.V c)], G := (if z = 0 then s.G ++ [(a, b)] else s.G) ++ [(b, c), (c, a)], S := s.S }
theorem seed_take (T : List P3) (s : WS) (i : Nat) : seedW T s i = takeW { s with V := meetW (meetW (meetW s.V (T[i]?.getD (0, 0, 0)).1) (T[i]?.getD (0, 0, 0)).2.1) (T[i]?.getD (0, 0, 0)).2.2, S := s.S ++ [(0, 0)] } i (T[i]?.getD (0, 0, 0)).1 (T[i]?.getD (0, 0, 0)).2.1 (T[i]?.getD (0, 0, 0)).2.2 0 := by
  unfold seedW takeW
  simp
theorem step_take (T : List P3) (s : WS) (i : Nat) (p q : Int) : stepTo T s i p q = takeW { s with V := meetW s.V (thirdV (T[i]?.getD (0, 0, 0)) p q), G := s.G.dropLast, S := s.S ++ [if thirdV (T[i]?.getD (0, 0, 0)) p q ∈ s.V then (3, findW s.V (thirdV (T[i]?.getD (0, 0, 0)) p q)) else (2, 0)] } i q p (thirdV (T[i]?.getD (0, 0, 0)) p q) 1 := by
  unfold stepTo takeW
  simp
theorem own_plain {w : World} {base : Nat} {e : TypeId} {A : Option Addr} {n c : Nat} {xs : List Value} (h : OwnK 1 w base e (.slice A n c) n xs) : Has w A n c xs := by
  obtain ⟨A', c', e, h2⟩ := h.has
  cases e
  exact h2.plain
theorem blk_second {w : World} {t t' : TypeId} {cs cs' : Array Value} : Blk ((w.alloc (.cells cs t)).alloc (.cells cs' t')) (w.heap.size + 1) t' cs' := by
  have h := Blk.new (w.alloc (.cells cs t)) t' cs'
  rw [show (w.alloc (.cells cs t)).heap.size = w.heap.size + 1 from Array.size_push _] at h
  exact h
set_option maxRecDepth 100000 in
set_option maxHeartbeats 4000000 in
theorem ref11take_any (F : Nat → Prop) (a b c d f : Value) (s : WS) (i : Nat) (x y u z : Int) (w : World) (hF : ∀ k, w.heap.size ≤ k → F k) (h : WRows w F 79 a b c d f s) (hl : s.V.length ≤ 100000000) (hl2 : s.O.length ≤ 100000000) (hl3 : s.N.length ≤ 100000000) (hl4 : s.G.length ≤ 100000000) :
    Calls Tryd.prog 29 #[.agg #[a, b, c, d, f], .int .i64 (i : Int), .int .i64 x, .int .i64 y, .int .i64 u, .int .i64 z] w (WOut F (takeW s i x y u z) w) := by
  obtain ⟨Ab, cb, rfl, _⟩ := h.rO.has
  obtain ⟨Ac, cc, rfl, _⟩ := h.rN.has
  obtain ⟨Ad, cd, rfl, _⟩ := h.rG.has
  obtain ⟨Af, cf, rfl, _⟩ := h.rS.has
  obtain ⟨A, ca, rfl, _⟩ := h.rV.has
  have HX0 : Hid (WBox w F 2 w.heap.size _ _ _ _ _ s ((w.alloc (.cells #[.slice A s.V.length ca, .slice Ab s.O.length cb, .slice Ac s.N.length cc, .slice Ad s.G.length cd, .slice Af s.S.length cf] 37)).alloc (.cells #[.slice none 0 0, .slice none 0 0, .slice none 0 0, .slice none 0 0, .slice none 0 0] 37))) := wbox_new hF h (K := 2) (by decide) ((Below.refl _ _).alloc (by simp) _) (by simp)
  have HQ0 : Hid (Blk ((w.alloc (.cells #[.slice A s.V.length ca, .slice Ab s.O.length cb, .slice Ac s.N.length cc, .slice Ad s.G.length cd, .slice Af s.S.length cf] 37)).alloc (.cells #[.slice none 0 0, .slice none 0 0, .slice none 0 0, .slice none 0 0, .slice none 0 0] 37)) (w.heap.size + 1) 37 #[.slice none 0 0, .slice none 0 0, .slice none 0 0, .slice none 0 0, .slice none 0 0]) := blk_second
  obtain ⟨kz, ks⟩ := zero_of_info wInfo
  obtain ⟨fx, hfx⟩ : ∃ q, findW s.V x = q := ⟨_, rfl⟩
  obtain ⟨fy, hfy⟩ : ∃ q, findW s.V y = q := ⟨_, rfl⟩
  obtain ⟨fu, hfu⟩ : ∃ q, findW s.V u = q := ⟨_, rfl⟩
  have HE : Hid (takeW s i x y u z = { V := s.V, O := s.O ++ [i], N := s.N ++ [(fx, fy, fu)], G := (if z = 0 then s.G ++ [(x, y)] else s.G) ++ [(y, u), (u, x)], S := s.S }) := by
    show _ = _
    unfold takeW
    rw [hfx, hfy, hfu]
  have HFx := Lib.hid (fun W (hW : Has W A s.V.length ca (intVs s.V)) => hfx ▸ ref11find_any A s.V.length ca s.V x W hW (by omega))
  have HFy := Lib.hid (fun W (hW : Has W A s.V.length ca (intVs s.V)) => hfy ▸ ref11find_any A s.V.length ca s.V y W hW (by omega))
  have HFu := Lib.hid (fun W (hW : Has W A s.V.length ca (intVs s.V)) => hfu ▸ ref11find_any A s.V.length ca s.V u W hW (by omega))
  clear hF h hfx hfy hfu
  have HN1 := Lib.hid (Has.new_at ((w.alloc (.cells #[.slice A s.V.length ca, .slice Ab s.O.length cb, .slice Ac s.N.length cc, .slice Ad s.G.length cd, .slice Af s.S.length cf] 37)).alloc (.cells #[.slice none 0 0, .slice none 0 0, .slice none 0 0, .slice none 0 0, .slice none 0 0] 37)) #[.int .i64 (i : Int)] 3 (w.heap.size + 1 + 1) (by simp)).toK
  have HX1 := Lib.hid (HX0.out.next (new_alloc (Below.refl _ _) (.cells #[.int .i64 (i : Int)] 3)))
  have HQ1 := Lib.hid (HQ0.out.alloc (.cells #[.int .i64 (i : Int)] 3))
  have m0 := HX1.out.box.cell 0
  have m1 := HX1.out.box.cell 1
  have m2 := HX1.out.box.cell 2
  have m3 := HX1.out.box.cell 3
  have m4 := HX1.out.box.cell 4
  clear HX0 HQ0
  go_enter Tryd.func29, Tryd.ntmps29
  go_wp2_with (at_builtin
               go_loud (
               (refine wpList_joinGK rfl _ _ 32 rfl elemMi.toK (by decide) 0 _ s.O.length (natVs s.O) rfl HX1.out.rows.rO _ 1 1 (intVs [(i : Int)]) rfl HN1.out (intVs_one _) (by omega) (by decide) (Nat.zero_le _) ?_)
               rintro v5 w5 ho hg hw
               obtain ⟨A5, c5, rfl, _⟩ := OwnK.has ho
               obtain ⟨hX, hB⟩ := HX1.out.putO (l := s.O ++ [i]) (by rw [List.length_append, ← natVs_app]; exact ho) hg hw
               have HQ5 := Lib.hid (HQ1.out.chg (HX1.out.rows.chgO hg) (fun e => e.2 ⟨Nat.le_succ _, Nat.lt_succ_self _⟩))
               have HX5 := Lib.hid hX
               have HB5 := Lib.hid hB
               clear hX hB ho hg hw
               have k0 := HB5.out.cell 0
               have k1 := HB5.out.cell 1
               have k2 := HB5.out.cell 2
               have k3 := HB5.out.cell 3
               have k4 := HB5.out.cell 4
               have f5 := HB5.out.frozen 1
               have HQ6 := Lib.hid (HQ5.out.far (p := ⟨w.heap.size, 1, none⟩) (Ne.symm (Nat.ne_of_lt (Nat.lt_succ_self _))) (.slice A5 (s.O.length + 1) c5))))
  clear HX1 HQ1 HN1 HB5 HQ5
  clear k0 k1 k2 k3 k4 f5 m0 m1 m2 m3 m4
  generalize w5.setCell ⟨w.heap.size, 1, none⟩ (.slice A5 (s.O.length + 1) c5) = V at *
  have HXd := Lib.hid (HX5.out.next (Below.refl _ V).drew)
  have HHa := Lib.hid (own_plain HX5.out.rows.rV)
  have HHd : Hid (Has V.drew A s.V.length ca (intVs s.V)) := own_plain HXd.out.rows.rV
  have c0 : V.cell? ⟨w.heap.size, 0, none⟩ = some (.slice A s.V.length ca) := HX5.out.box.cell 0
  have c2 : V.cell? ⟨w.heap.size, 2, none⟩ = some (.slice Ac s.N.length cc) := HX5.out.box.cell 2
  have d0 : V.drew.cell? ⟨w.heap.size, 0, none⟩ = some (.slice A s.V.length ca) := HXd.out.box.cell 0
  have d2 : V.drew.cell? ⟨w.heap.size, 2, none⟩ = some (.slice Ac s.N.length cc) := HXd.out.box.cell 2
  have HXa := Lib.hid (HX5.out.next (new_alloc (Below.refl _ V) (.cells #[.int .i64 fx, .int .i64 fy, .int .i64 fu] 50)).drew)
  have HQa : Hid (Blk (V.alloc (.cells #[.int .i64 fx, .int .i64 fy, .int .i64 fu] 50)).drew (w.heap.size + 1) 37 #[.slice none 0 0, .slice none 0 0, .slice none 0 0, .slice none 0 0, .slice none 0 0]) := HQ6.out.alloc _
  have HN3 : Hid (HasK 3 (V.alloc (.cells #[.int .i64 fx, .int .i64 fy, .int .i64 fu] 50)).drew (some ⟨V.heap.size, 0, none⟩) 1 1 (p3Cells [(fx, fy, fu)])) := (HasK.new_at 3 V #[.int .i64 fx, .int .i64 fy, .int .i64 fu] 50 _ 1 rfl rfl).kept (Below.refl _ _).drew
  have e0 : (V.alloc (.cells #[.int .i64 fx, .int .i64 fy, .int .i64 fu] 50)).drew.cell? ⟨w.heap.size, 0, none⟩ = some (.slice A s.V.length ca) := HXa.out.box.cell 0
  have e2 : (V.alloc (.cells #[.int .i64 fx, .int .i64 fy, .int .i64 fu] 50)).drew.cell? ⟨w.heap.size, 2, none⟩ = some (.slice Ac s.N.length cc) := HXa.out.box.cell 2
  go_cut [] from 19 (fun wx => ∃ (A6 : Option Addr) (c6 : Nat), Hid (WBox w F 2 w.heap.size (.slice A s.V.length ca) (.slice A5 (s.O.length + 1) c5) (.slice A6 (s.N.length + 1) c6) (.slice Ad s.G.length cd) (.slice Af s.S.length cf) { V := s.V, O := s.O ++ [i], N := s.N ++ [(fx, fy, fu)], G := s.G, S := s.S } wx) ∧ Hid (Blk wx (w.heap.size + 1) 37 #[.slice none 0 0, .slice none 0 0, .slice none 0 0, .slice none 0 0, .slice none 0 0]))
  case first =>
    refine wp_region_held_drew (S := fun W => W.cell? ⟨w.heap.size, 0, none⟩ = some (.slice A s.V.length ca)) (by kernel_rfl) d0 (fun hHeld => ?_)
    refine wpAnyH_take (i := 0) (oi := { dst := some 19, op := Go.Op.fieldAddr 37 (Go.Operand.tmp 6) 2, type := 0, pos := "ref.go:42", after := #[], guard := none }) (v := ?uvr2x0) rfl (by kernel_rfl) (by kernel_rfl) (by kernel_rfl) (fun _ _ _ h => h) (Or.inl ⟨by rfl, ?uyr2x0⟩) (by assumption) ?urr2x0
    case uyr2x0 => (intro w hSw; (try dsimp only at hSw); go_simp; try with_reducible rfl)
    (try simp only [Act.put, List.setIfInBounds_toArray, List.set_cons_zero, List.set_cons_succ])
    refine wpAnyH_take (i := 2) (oi := { dst := some 21, op := Go.Op.fieldAddr 37 (Go.Operand.tmp 6) 0, type := 0, pos := "ref.go:42", after := #[], guard := none }) (v := ?uvr2x1) rfl (by kernel_rfl) (by kernel_rfl) (by kernel_rfl) (fun _ _ _ h => h) (Or.inl ⟨by rfl, ?uyr2x1⟩) (by assumption) ?urr2x1
    case uyr2x1 => (intro w hSw; (try dsimp only at hSw); go_simp; try with_reducible rfl)
    (try simp only [Act.put, List.setIfInBounds_toArray, List.set_cons_zero, List.set_cons_succ])
    refine wpAnyH_take (i := 3) (oi := { dst := some 22, op := Go.Op.load 32 (Go.Operand.tmp 21), type := 32, pos := "ref.go:42", after := #[{ on := 2, ground := Go.Ground.data }], guard := none }) (v := ?uvr2x2) rfl (by kernel_rfl) (by kernel_rfl) (by kernel_rfl) (fun _ _ _ h => h) (Or.inl ⟨by rfl, ?uyr2x2⟩) (by assumption) ?urr2x2
    case uyr2x2 => (intro w hSw; (try dsimp only at hSw); go_simp; try with_reducible rfl)
    (try simp only [Act.put, List.setIfInBounds_toArray, List.set_cons_zero, List.set_cons_succ])
    refine wpAnyH_take (i := 4) (oi := { dst := some 23, op := Go.Op.move (Go.Operand.tmp 2), type := 3, pos := "ref.go:42", after := #[], guard := none }) (v := ?uvr2x3) rfl (by kernel_rfl) (by kernel_rfl) (by kernel_rfl) (fun _ _ _ h => h) (Or.inl ⟨by rfl, ?uyr2x3⟩) (by assumption) ?urr2x3
    case uyr2x3 => (intro w hSw; (try dsimp only at hSw); go_simp; try with_reducible rfl)
    (try simp only [Act.put, List.setIfInBounds_toArray, List.set_cons_zero, List.set_cons_succ])
    refine wpAnyH_take (i := 6) (oi := { dst := some 25, op := Go.Op.fieldAddr 37 (Go.Operand.tmp 6) 0, type := 0, pos := "ref.go:42", after := #[], guard := none }) (v := ?uvr2x4) rfl (by kernel_rfl) (by kernel_rfl) (by kernel_rfl) (fun _ _ _ h => h) (Or.inl ⟨by rfl, ?uyr2x4⟩) (by assumption) ?urr2x4
    case uyr2x4 => (intro w hSw; (try dsimp only at hSw); go_simp; try with_reducible rfl)
    (try simp only [Act.put, List.setIfInBounds_toArray, List.set_cons_zero, List.set_cons_succ])
    refine wpAnyH_take (i := 7) (oi := { dst := some 26, op := Go.Op.load 32 (Go.Operand.tmp 25), type := 32, pos := "ref.go:42", after := #[{ on := 6, ground := Go.Ground.data }], guard := none }) (v := ?uvr2x5) rfl (by kernel_rfl) (by kernel_rfl) (by kernel_rfl) (fun _ _ _ h => h) (Or.inl ⟨by rfl, ?uyr2x5⟩) (by assumption) ?urr2x5
    case uyr2x5 => (intro w hSw; (try dsimp only at hSw); go_simp; try with_reducible rfl)
    (try simp only [Act.put, List.setIfInBounds_toArray, List.set_cons_zero, List.set_cons_succ])
    refine wpAnyH_take (i := 8) (oi := { dst := some 27, op := Go.Op.move (Go.Operand.tmp 3), type := 3, pos := "ref.go:42", after := #[], guard := none }) (v := ?uvr2x6) rfl (by kernel_rfl) (by kernel_rfl) (by kernel_rfl) (fun _ _ _ h => h) (Or.inl ⟨by rfl, ?uyr2x6⟩) (by assumption) ?urr2x6
    case uyr2x6 => (intro w hSw; (try dsimp only at hSw); go_simp; try with_reducible rfl)
    (try simp only [Act.put, List.setIfInBounds_toArray, List.set_cons_zero, List.set_cons_succ])
    refine wpAnyH_take (i := 10) (oi := { dst := some 29, op := Go.Op.fieldAddr 37 (Go.Operand.tmp 6) 0, type := 0, pos := "ref.go:42", after := #[], guard := none }) (v := ?uvr2x7) rfl (by kernel_rfl) (by kernel_rfl) (by kernel_rfl) (fun _ _ _ h => h) (Or.inl ⟨by rfl, ?uyr2x7⟩) (by assumption) ?urr2x7
    case uyr2x7 => (intro w hSw; (try dsimp only at hSw); go_simp; try with_reducible rfl)
    (try simp only [Act.put, List.setIfInBounds_toArray, List.set_cons_zero, List.set_cons_succ])
    refine wpAnyH_take (i := 11) (oi := { dst := some 30, op := Go.Op.load 32 (Go.Operand.tmp 29), type := 32, pos := "ref.go:42", after := #[{ on := 10, ground := Go.Ground.data }], guard := none }) (v := ?uvr2x8) rfl (by kernel_rfl) (by kernel_rfl) (by kernel_rfl) (fun _ _ _ h => h) (Or.inl ⟨by rfl, ?uyr2x8⟩) (by assumption) ?urr2x8
    case uyr2x8 => (intro w hSw; (try dsimp only at hSw); go_simp; try with_reducible rfl)
    (try simp only [Act.put, List.setIfInBounds_toArray, List.set_cons_zero, List.set_cons_succ])
    refine wpAnyH_take (i := 12) (oi := { dst := some 31, op := Go.Op.move (Go.Operand.tmp 4), type := 3, pos := "ref.go:42", after := #[], guard := none }) (v := ?uvr2x9) rfl (by kernel_rfl) (by kernel_rfl) (by kernel_rfl) (fun _ _ _ h => h) (Or.inl ⟨by rfl, ?uyr2x9⟩) (by assumption) ?urr2x9
    case uyr2x9 => (intro w hSw; (try dsimp only at hSw); go_simp; try with_reducible rfl)
    (try simp only [Act.put, List.setIfInBounds_toArray, List.set_cons_zero, List.set_cons_succ])
    refine wpAnyH_ready (rs := [1, 5]) (by kernel_rfl) (by simp) ?_
    refine AllReadyH.cons (o := { dst := some 20, op := Go.Op.load 23 (Go.Operand.tmp 19), type := 23, pos := "ref.go:42", after := #[{ on := 0, ground := Go.Ground.data }], guard := none }) rfl (fun K hK => ?_) (AllReadyH.cons (o := { dst := some 24, op := Go.Op.call { callee := Go.Callee.value (Go.Operand.func 27), args := #[Go.Operand.tmp 22, Go.Operand.tmp 23], argTypes := #[32, 3] }, type := 3, pos := "ref.go:42", after := #[{ on := 3, ground := Go.Ground.data }, { on := 4, ground := Go.Ground.data }], guard := none }) rfl (fun K hK => ?_) AllReadyH.nil)
    · go_simp
      refine hK.out _ _ ?_ (fun hHeld => ?_)
      · exact d0
      clear hK K
      (try simp only [Act.put, List.setIfInBounds_toArray, List.set_cons_zero, List.set_cons_succ])
      refine wpAnyH_ready (rs := [5]) (by kernel_rfl) (by simp) ?_
      refine AllReadyH.cons (o := { dst := some 24, op := Go.Op.call { callee := Go.Callee.value (Go.Operand.func 27), args := #[Go.Operand.tmp 22, Go.Operand.tmp 23], argTypes := #[32, 3] }, type := 3, pos := "ref.go:42", after := #[{ on := 3, ground := Go.Ground.data }, { on := 4, ground := Go.Ground.data }], guard := none }) rfl (fun K hK => ?_) AllReadyH.nil
      go_simp
      (go_at_call 27; (with_reducible refine (HFx.out _ HHd.out).mono ?_); rintro e wz ⟨rfl, rfl⟩)
      go_simp
      refine hK.out _ _ ?_ (fun hHeld => ?_)
      · exact d0
      clear hK K
      (try simp only [Act.put, List.setIfInBounds_toArray, List.set_cons_zero, List.set_cons_succ])
      refine wpAnyH_ready (rs := [9]) (by kernel_rfl) (by simp) ?_
      refine AllReadyH.cons (o := { dst := some 28, op := Go.Op.call { callee := Go.Callee.value (Go.Operand.func 27), args := #[Go.Operand.tmp 26, Go.Operand.tmp 27], argTypes := #[32, 3] }, type := 3, pos := "ref.go:42", after := #[{ on := 7, ground := Go.Ground.data }, { on := 8, ground := Go.Ground.data }, { on := 5, ground := Go.Ground.chain }], guard := none }) rfl (fun K hK => ?_) AllReadyH.nil
      go_simp
      (go_at_call 27; (with_reducible refine (HFy.out _ HHd.out).mono ?_); rintro e wz ⟨rfl, rfl⟩)
      go_simp
      refine hK.out _ _ ?_ (fun hHeld => ?_)
      · exact d0
      clear hK K
      (try simp only [Act.put, List.setIfInBounds_toArray, List.set_cons_zero, List.set_cons_succ])
      refine wpAnyH_ready (rs := [13]) (by kernel_rfl) (by simp) ?_
      refine AllReadyH.cons (o := { dst := some 32, op := Go.Op.call { callee := Go.Callee.value (Go.Operand.func 27), args := #[Go.Operand.tmp 30, Go.Operand.tmp 31], argTypes := #[32, 3] }, type := 3, pos := "ref.go:42", after := #[{ on := 11, ground := Go.Ground.data }, { on := 12, ground := Go.Ground.data }, { on := 9, ground := Go.Ground.chain }], guard := none }) rfl (fun K hK => ?_) AllReadyH.nil
      go_simp
      (go_at_call 27; (with_reducible refine (HFu.out _ HHd.out).mono ?_); rintro e wz ⟨rfl, rfl⟩)
      go_simp
      refine hK.out _ _ ?_ (fun hHeld => ?_)
      · exact d0
      clear hK K
      (try simp only [Act.put, List.setIfInBounds_toArray, List.set_cons_zero, List.set_cons_succ])
      refine wpAnyH_take (i := 14) (oi := { dst := some 33, op := Go.Op.build 50 #[(0, Go.Operand.tmp 24), (1, Go.Operand.tmp 28), (2, Go.Operand.tmp 32)], type := 50, pos := "ref.go:42", after := #[{ on := 5, ground := Go.Ground.data }, { on := 9, ground := Go.Ground.data }, { on := 13, ground := Go.Ground.data }], guard := none }) (v := ?uvr2x10) rfl (by kernel_rfl) (by kernel_rfl) (by kernel_rfl) (fun _ _ _ h => h) (Or.inl ⟨by rfl, ?uyr2x10⟩) (by assumption) ?urr2x10
      case uyr2x10 => (intro w hSw; (try dsimp only at hSw); go_simp; try with_reducible rfl)
      (try simp only [Act.put, List.setIfInBounds_toArray, List.set_cons_zero, List.set_cons_succ])
      refine wpAnyH_ready (rs := [15]) (by kernel_rfl) (by simp) ?_
      refine AllReadyH.cons (o := { dst := some 34, op := Go.Op.buildSlice 23 1 #[(0, Go.Operand.tmp 33)], type := 23, pos := "ref.go:42", after := #[{ on := 14, ground := Go.Ground.data }], guard := none }) rfl (fun K hK => ?_) AllReadyH.nil
      go_simp
      refine hK.out _ _ ?_ (fun hHeld => ?_)
      · exact e0
      clear hK K
      (try simp only [Act.put, List.setIfInBounds_toArray, List.set_cons_zero, List.set_cons_succ])
      refine wpAnyH_ready (rs := [16]) (by kernel_rfl) (by simp) ?_
      refine AllReadyH.cons (o := { dst := some 35, op := Go.Op.call { callee := Go.Callee.builtin Go.Builtin.append, args := #[Go.Operand.tmp 20, Go.Operand.tmp 34], argTypes := #[23, 23] }, type := 23, pos := "ref.go:42", after := #[{ on := 1, ground := Go.Ground.data }, { on := 15, ground := Go.Ground.data }, { on := 13, ground := Go.Ground.chain }], guard := none }) rfl (fun K hK => ?_) AllReadyH.nil
      (refine step_joinGK rfl _ _ 23 rfl elemT3 (by decide) 0 _ s.N.length (p3Cells s.N) rfl HXa.out.rows.rN _ 1 1 (p3Cells [(fx, fy, fu)]) rfl HN3.out (p3Cells_one _) (by omega) (by decide) (Nat.zero_le _) ?_
       intro v6 w6 ho hg hw
       obtain ⟨A6, c6, rfl, _⟩ := OwnK.has ho
       obtain ⟨hX, hB⟩ := HXa.out.putN (l := s.N ++ [(fx, fy, fu)]) (by rw [List.length_append, p3Cells_app]; exact ho) hg hw
       have HQ7 := Lib.hid (HQa.out.chg (HXa.out.rows.chgN hg) (fun e => e.2 ⟨Nat.le_succ _, Nat.lt_succ_self _⟩))
       have HX7 := Lib.hid hX
       have HB7 := Lib.hid hB
       have n0 : (w6.setCell ⟨w.heap.size, 2, none⟩ (.slice A6 (s.N.length + 1) c6)).cell? ⟨w.heap.size, 0, none⟩ = some (.slice A s.V.length ca) := HX7.out.box.cell 0
       have m0 : w6.cell? ⟨w.heap.size, 0, none⟩ = some (.slice A s.V.length ca) := HB7.out.cell 0
       have m2 : w6.cell? ⟨w.heap.size, 2, none⟩ = some (.slice Ac s.N.length cc) := HB7.out.cell 2
       have f2 := HB7.out.frozen 2
       clear hX hB ho hg hw)
      refine hK.out _ _ ?_ (fun hHeld => ?_)
      · exact m0
      clear hK K
      (try simp only [Act.put, List.setIfInBounds_toArray, List.set_cons_zero, List.set_cons_succ])
      refine wpAnyH_take (i := 17) (oi := { dst := some 36, op := Go.Op.fieldAddr 37 (Go.Operand.tmp 6) 2, type := 0, pos := "ref.go:42", after := #[{ on := 0, ground := Go.Ground.phase }, { on := 1, ground := Go.Ground.phase }, { on := 2, ground := Go.Ground.phase }, { on := 3, ground := Go.Ground.phase }, { on := 4, ground := Go.Ground.phase }, { on := 5, ground := Go.Ground.phase }, { on := 6, ground := Go.Ground.phase }, { on := 7, ground := Go.Ground.phase }, { on := 8, ground := Go.Ground.phase }, { on := 9, ground := Go.Ground.phase }, { on := 10, ground := Go.Ground.phase }, { on := 11, ground := Go.Ground.phase }, { on := 12, ground := Go.Ground.phase }, { on := 13, ground := Go.Ground.phase }, { on := 14, ground := Go.Ground.phase }, { on := 15, ground := Go.Ground.phase }, { on := 16, ground := Go.Ground.phase }], guard := none }) (v := ?uvr2x11) rfl (by kernel_rfl) (by kernel_rfl) (by kernel_rfl) (fun _ _ _ h => h) (Or.inl ⟨by rfl, ?uyr2x11⟩) (by assumption) ?urr2x11
      case uyr2x11 => (intro w hSw; (try dsimp only at hSw); go_simp; try with_reducible rfl)
      (try simp only [Act.put, List.setIfInBounds_toArray, List.set_cons_zero, List.set_cons_succ])
      refine wpAnyH_ready (rs := [18]) (by kernel_rfl) (by simp) ?_
      refine AllReadyH.cons (o := { dst := none, op := Go.Op.store 23 (Go.Operand.tmp 36) (Go.Operand.tmp 35), type := 0, pos := "ref.go:42", after := #[{ on := 17, ground := Go.Ground.data }, { on := 16, ground := Go.Ground.data }, { on := 16, ground := Go.Ground.chain }, { on := 0, ground := Go.Ground.phase }, { on := 1, ground := Go.Ground.phase }, { on := 2, ground := Go.Ground.phase }, { on := 3, ground := Go.Ground.phase }, { on := 4, ground := Go.Ground.phase }, { on := 5, ground := Go.Ground.phase }, { on := 6, ground := Go.Ground.phase }, { on := 7, ground := Go.Ground.phase }, { on := 8, ground := Go.Ground.phase }, { on := 9, ground := Go.Ground.phase }, { on := 10, ground := Go.Ground.phase }, { on := 11, ground := Go.Ground.phase }, { on := 12, ground := Go.Ground.phase }, { on := 13, ground := Go.Ground.phase }, { on := 14, ground := Go.Ground.phase }, { on := 15, ground := Go.Ground.phase }, { on := 16, ground := Go.Ground.phase }], guard := none }) rfl (fun K hK => ?_) AllReadyH.nil
      go_simp
      refine hK.out _ _ ?_ (fun hHeld => ?_)
      · exact n0
      clear hK K
      (try simp only [Act.put, List.setIfInBounds_toArray, List.set_cons_zero, List.set_cons_succ])
      refine wpAnyH_done (by kernel_rfl) ?_ _
      go_wp2_with (with_reducible fail)
      go_meet
      case rel => exact ⟨A6, c6, HX7.out, HQ7.out.far (p := ⟨w.heap.size, 2, none⟩) (Ne.symm (Nat.ne_of_lt (Nat.lt_succ_self _))) _⟩
    · go_simp
      (go_at_call 27; (with_reducible refine (HFx.out _ HHd.out).mono ?_); rintro e wz ⟨rfl, rfl⟩)
      go_simp
      refine hK.out _ _ ?_ (fun hHeld => ?_)
      · exact d0
      clear hK K
      (try simp only [Act.put, List.setIfInBounds_toArray, List.set_cons_zero, List.set_cons_succ])
      refine wpAnyH_ready (rs := [1, 9]) (by kernel_rfl) (by simp) ?_
      refine AllReadyH.cons (o := { dst := some 20, op := Go.Op.load 23 (Go.Operand.tmp 19), type := 23, pos := "ref.go:42", after := #[{ on := 0, ground := Go.Ground.data }], guard := none }) rfl (fun K hK => ?_) (AllReadyH.cons (o := { dst := some 28, op := Go.Op.call { callee := Go.Callee.value (Go.Operand.func 27), args := #[Go.Operand.tmp 26, Go.Operand.tmp 27], argTypes := #[32, 3] }, type := 3, pos := "ref.go:42", after := #[{ on := 7, ground := Go.Ground.data }, { on := 8, ground := Go.Ground.data }, { on := 5, ground := Go.Ground.chain }], guard := none }) rfl (fun K hK => ?_) AllReadyH.nil)
      · go_simp
        refine hK.out _ _ ?_ (fun hHeld => ?_)
        · exact d0
        clear hK K
        (try simp only [Act.put, List.setIfInBounds_toArray, List.set_cons_zero, List.set_cons_succ])
        refine wpAnyH_ready (rs := [9]) (by kernel_rfl) (by simp) ?_
        refine AllReadyH.cons (o := { dst := some 28, op := Go.Op.call { callee := Go.Callee.value (Go.Operand.func 27), args := #[Go.Operand.tmp 26, Go.Operand.tmp 27], argTypes := #[32, 3] }, type := 3, pos := "ref.go:42", after := #[{ on := 7, ground := Go.Ground.data }, { on := 8, ground := Go.Ground.data }, { on := 5, ground := Go.Ground.chain }], guard := none }) rfl (fun K hK => ?_) AllReadyH.nil
        go_simp
        (go_at_call 27; (with_reducible refine (HFy.out _ HHd.out).mono ?_); rintro e wz ⟨rfl, rfl⟩)
        go_simp
        refine hK.out _ _ ?_ (fun hHeld => ?_)
        · exact d0
        clear hK K
        (try simp only [Act.put, List.setIfInBounds_toArray, List.set_cons_zero, List.set_cons_succ])
        refine wpAnyH_ready (rs := [13]) (by kernel_rfl) (by simp) ?_
        refine AllReadyH.cons (o := { dst := some 32, op := Go.Op.call { callee := Go.Callee.value (Go.Operand.func 27), args := #[Go.Operand.tmp 30, Go.Operand.tmp 31], argTypes := #[32, 3] }, type := 3, pos := "ref.go:42", after := #[{ on := 11, ground := Go.Ground.data }, { on := 12, ground := Go.Ground.data }, { on := 9, ground := Go.Ground.chain }], guard := none }) rfl (fun K hK => ?_) AllReadyH.nil
        go_simp
        (go_at_call 27; (with_reducible refine (HFu.out _ HHd.out).mono ?_); rintro e wz ⟨rfl, rfl⟩)
        go_simp
        refine hK.out _ _ ?_ (fun hHeld => ?_)
        · exact d0
        clear hK K
        (try simp only [Act.put, List.setIfInBounds_toArray, List.set_cons_zero, List.set_cons_succ])
        refine wpAnyH_take (i := 14) (oi := { dst := some 33, op := Go.Op.build 50 #[(0, Go.Operand.tmp 24), (1, Go.Operand.tmp 28), (2, Go.Operand.tmp 32)], type := 50, pos := "ref.go:42", after := #[{ on := 5, ground := Go.Ground.data }, { on := 9, ground := Go.Ground.data }, { on := 13, ground := Go.Ground.data }], guard := none }) (v := ?uvr2x12) rfl (by kernel_rfl) (by kernel_rfl) (by kernel_rfl) (fun _ _ _ h => h) (Or.inl ⟨by rfl, ?uyr2x12⟩) (by assumption) ?urr2x12
        case uyr2x12 => (intro w hSw; (try dsimp only at hSw); go_simp; try with_reducible rfl)
        (try simp only [Act.put, List.setIfInBounds_toArray, List.set_cons_zero, List.set_cons_succ])
        refine wpAnyH_ready (rs := [15]) (by kernel_rfl) (by simp) ?_
        refine AllReadyH.cons (o := { dst := some 34, op := Go.Op.buildSlice 23 1 #[(0, Go.Operand.tmp 33)], type := 23, pos := "ref.go:42", after := #[{ on := 14, ground := Go.Ground.data }], guard := none }) rfl (fun K hK => ?_) AllReadyH.nil
        go_simp
        refine hK.out _ _ ?_ (fun hHeld => ?_)
        · exact e0
        clear hK K
        (try simp only [Act.put, List.setIfInBounds_toArray, List.set_cons_zero, List.set_cons_succ])
        refine wpAnyH_ready (rs := [16]) (by kernel_rfl) (by simp) ?_
        refine AllReadyH.cons (o := { dst := some 35, op := Go.Op.call { callee := Go.Callee.builtin Go.Builtin.append, args := #[Go.Operand.tmp 20, Go.Operand.tmp 34], argTypes := #[23, 23] }, type := 23, pos := "ref.go:42", after := #[{ on := 1, ground := Go.Ground.data }, { on := 15, ground := Go.Ground.data }, { on := 13, ground := Go.Ground.chain }], guard := none }) rfl (fun K hK => ?_) AllReadyH.nil
        (refine step_joinGK rfl _ _ 23 rfl elemT3 (by decide) 0 _ s.N.length (p3Cells s.N) rfl HXa.out.rows.rN _ 1 1 (p3Cells [(fx, fy, fu)]) rfl HN3.out (p3Cells_one _) (by omega) (by decide) (Nat.zero_le _) ?_
         intro v6 w6 ho hg hw
         obtain ⟨A6, c6, rfl, _⟩ := OwnK.has ho
         obtain ⟨hX, hB⟩ := HXa.out.putN (l := s.N ++ [(fx, fy, fu)]) (by rw [List.length_append, p3Cells_app]; exact ho) hg hw
         have HQ7 := Lib.hid (HQa.out.chg (HXa.out.rows.chgN hg) (fun e => e.2 ⟨Nat.le_succ _, Nat.lt_succ_self _⟩))
         have HX7 := Lib.hid hX
         have HB7 := Lib.hid hB
         have n0 : (w6.setCell ⟨w.heap.size, 2, none⟩ (.slice A6 (s.N.length + 1) c6)).cell? ⟨w.heap.size, 0, none⟩ = some (.slice A s.V.length ca) := HX7.out.box.cell 0
         have m0 : w6.cell? ⟨w.heap.size, 0, none⟩ = some (.slice A s.V.length ca) := HB7.out.cell 0
         have m2 : w6.cell? ⟨w.heap.size, 2, none⟩ = some (.slice Ac s.N.length cc) := HB7.out.cell 2
         have f2 := HB7.out.frozen 2
         clear hX hB ho hg hw)
        refine hK.out _ _ ?_ (fun hHeld => ?_)
        · exact m0
        clear hK K
        (try simp only [Act.put, List.setIfInBounds_toArray, List.set_cons_zero, List.set_cons_succ])
        refine wpAnyH_take (i := 17) (oi := { dst := some 36, op := Go.Op.fieldAddr 37 (Go.Operand.tmp 6) 2, type := 0, pos := "ref.go:42", after := #[{ on := 0, ground := Go.Ground.phase }, { on := 1, ground := Go.Ground.phase }, { on := 2, ground := Go.Ground.phase }, { on := 3, ground := Go.Ground.phase }, { on := 4, ground := Go.Ground.phase }, { on := 5, ground := Go.Ground.phase }, { on := 6, ground := Go.Ground.phase }, { on := 7, ground := Go.Ground.phase }, { on := 8, ground := Go.Ground.phase }, { on := 9, ground := Go.Ground.phase }, { on := 10, ground := Go.Ground.phase }, { on := 11, ground := Go.Ground.phase }, { on := 12, ground := Go.Ground.phase }, { on := 13, ground := Go.Ground.phase }, { on := 14, ground := Go.Ground.phase }, { on := 15, ground := Go.Ground.phase }, { on := 16, ground := Go.Ground.phase }], guard := none }) (v := ?uvr2x13) rfl (by kernel_rfl) (by kernel_rfl) (by kernel_rfl) (fun _ _ _ h => h) (Or.inl ⟨by rfl, ?uyr2x13⟩) (by assumption) ?urr2x13
        case uyr2x13 => (intro w hSw; (try dsimp only at hSw); go_simp; try with_reducible rfl)
        (try simp only [Act.put, List.setIfInBounds_toArray, List.set_cons_zero, List.set_cons_succ])
        refine wpAnyH_ready (rs := [18]) (by kernel_rfl) (by simp) ?_
        refine AllReadyH.cons (o := { dst := none, op := Go.Op.store 23 (Go.Operand.tmp 36) (Go.Operand.tmp 35), type := 0, pos := "ref.go:42", after := #[{ on := 17, ground := Go.Ground.data }, { on := 16, ground := Go.Ground.data }, { on := 16, ground := Go.Ground.chain }, { on := 0, ground := Go.Ground.phase }, { on := 1, ground := Go.Ground.phase }, { on := 2, ground := Go.Ground.phase }, { on := 3, ground := Go.Ground.phase }, { on := 4, ground := Go.Ground.phase }, { on := 5, ground := Go.Ground.phase }, { on := 6, ground := Go.Ground.phase }, { on := 7, ground := Go.Ground.phase }, { on := 8, ground := Go.Ground.phase }, { on := 9, ground := Go.Ground.phase }, { on := 10, ground := Go.Ground.phase }, { on := 11, ground := Go.Ground.phase }, { on := 12, ground := Go.Ground.phase }, { on := 13, ground := Go.Ground.phase }, { on := 14, ground := Go.Ground.phase }, { on := 15, ground := Go.Ground.phase }, { on := 16, ground := Go.Ground.phase }], guard := none }) rfl (fun K hK => ?_) AllReadyH.nil
        go_simp
        refine hK.out _ _ ?_ (fun hHeld => ?_)
        · exact n0
        clear hK K
        (try simp only [Act.put, List.setIfInBounds_toArray, List.set_cons_zero, List.set_cons_succ])
        refine wpAnyH_done (by kernel_rfl) ?_ _
        go_wp2_with (with_reducible fail)
        go_meet
        case rel => exact ⟨A6, c6, HX7.out, HQ7.out.far (p := ⟨w.heap.size, 2, none⟩) (Ne.symm (Nat.ne_of_lt (Nat.lt_succ_self _))) _⟩
      · go_simp
        (go_at_call 27; (with_reducible refine (HFy.out _ HHd.out).mono ?_); rintro e wz ⟨rfl, rfl⟩)
        go_simp
        refine hK.out _ _ ?_ (fun hHeld => ?_)
        · exact d0
        clear hK K
        (try simp only [Act.put, List.setIfInBounds_toArray, List.set_cons_zero, List.set_cons_succ])
        refine wpAnyH_ready (rs := [1, 13]) (by kernel_rfl) (by simp) ?_
        refine AllReadyH.cons (o := { dst := some 20, op := Go.Op.load 23 (Go.Operand.tmp 19), type := 23, pos := "ref.go:42", after := #[{ on := 0, ground := Go.Ground.data }], guard := none }) rfl (fun K hK => ?_) (AllReadyH.cons (o := { dst := some 32, op := Go.Op.call { callee := Go.Callee.value (Go.Operand.func 27), args := #[Go.Operand.tmp 30, Go.Operand.tmp 31], argTypes := #[32, 3] }, type := 3, pos := "ref.go:42", after := #[{ on := 11, ground := Go.Ground.data }, { on := 12, ground := Go.Ground.data }, { on := 9, ground := Go.Ground.chain }], guard := none }) rfl (fun K hK => ?_) AllReadyH.nil)
        · go_simp
          refine hK.out _ _ ?_ (fun hHeld => ?_)
          · exact d0
          clear hK K
          (try simp only [Act.put, List.setIfInBounds_toArray, List.set_cons_zero, List.set_cons_succ])
          refine wpAnyH_ready (rs := [13]) (by kernel_rfl) (by simp) ?_
          refine AllReadyH.cons (o := { dst := some 32, op := Go.Op.call { callee := Go.Callee.value (Go.Operand.func 27), args := #[Go.Operand.tmp 30, Go.Operand.tmp 31], argTypes := #[32, 3] }, type := 3, pos := "ref.go:42", after := #[{ on := 11, ground := Go.Ground.data }, { on := 12, ground := Go.Ground.data }, { on := 9, ground := Go.Ground.chain }], guard := none }) rfl (fun K hK => ?_) AllReadyH.nil
          go_simp
          (go_at_call 27; (with_reducible refine (HFu.out _ HHd.out).mono ?_); rintro e wz ⟨rfl, rfl⟩)
          go_simp
          refine hK.out _ _ ?_ (fun hHeld => ?_)
          · exact d0
          clear hK K
          (try simp only [Act.put, List.setIfInBounds_toArray, List.set_cons_zero, List.set_cons_succ])
          refine wpAnyH_take (i := 14) (oi := { dst := some 33, op := Go.Op.build 50 #[(0, Go.Operand.tmp 24), (1, Go.Operand.tmp 28), (2, Go.Operand.tmp 32)], type := 50, pos := "ref.go:42", after := #[{ on := 5, ground := Go.Ground.data }, { on := 9, ground := Go.Ground.data }, { on := 13, ground := Go.Ground.data }], guard := none }) (v := ?uvr2x14) rfl (by kernel_rfl) (by kernel_rfl) (by kernel_rfl) (fun _ _ _ h => h) (Or.inl ⟨by rfl, ?uyr2x14⟩) (by assumption) ?urr2x14
          case uyr2x14 => (intro w hSw; (try dsimp only at hSw); go_simp; try with_reducible rfl)
          (try simp only [Act.put, List.setIfInBounds_toArray, List.set_cons_zero, List.set_cons_succ])
          refine wpAnyH_ready (rs := [15]) (by kernel_rfl) (by simp) ?_
          refine AllReadyH.cons (o := { dst := some 34, op := Go.Op.buildSlice 23 1 #[(0, Go.Operand.tmp 33)], type := 23, pos := "ref.go:42", after := #[{ on := 14, ground := Go.Ground.data }], guard := none }) rfl (fun K hK => ?_) AllReadyH.nil
          go_simp
          refine hK.out _ _ ?_ (fun hHeld => ?_)
          · exact e0
          clear hK K
          (try simp only [Act.put, List.setIfInBounds_toArray, List.set_cons_zero, List.set_cons_succ])
          refine wpAnyH_ready (rs := [16]) (by kernel_rfl) (by simp) ?_
          refine AllReadyH.cons (o := { dst := some 35, op := Go.Op.call { callee := Go.Callee.builtin Go.Builtin.append, args := #[Go.Operand.tmp 20, Go.Operand.tmp 34], argTypes := #[23, 23] }, type := 23, pos := "ref.go:42", after := #[{ on := 1, ground := Go.Ground.data }, { on := 15, ground := Go.Ground.data }, { on := 13, ground := Go.Ground.chain }], guard := none }) rfl (fun K hK => ?_) AllReadyH.nil
          (refine step_joinGK rfl _ _ 23 rfl elemT3 (by decide) 0 _ s.N.length (p3Cells s.N) rfl HXa.out.rows.rN _ 1 1 (p3Cells [(fx, fy, fu)]) rfl HN3.out (p3Cells_one _) (by omega) (by decide) (Nat.zero_le _) ?_
           intro v6 w6 ho hg hw
           obtain ⟨A6, c6, rfl, _⟩ := OwnK.has ho
           obtain ⟨hX, hB⟩ := HXa.out.putN (l := s.N ++ [(fx, fy, fu)]) (by rw [List.length_append, p3Cells_app]; exact ho) hg hw
           have HQ7 := Lib.hid (HQa.out.chg (HXa.out.rows.chgN hg) (fun e => e.2 ⟨Nat.le_succ _, Nat.lt_succ_self _⟩))
           have HX7 := Lib.hid hX
           have HB7 := Lib.hid hB
           have n0 : (w6.setCell ⟨w.heap.size, 2, none⟩ (.slice A6 (s.N.length + 1) c6)).cell? ⟨w.heap.size, 0, none⟩ = some (.slice A s.V.length ca) := HX7.out.box.cell 0
           have m0 : w6.cell? ⟨w.heap.size, 0, none⟩ = some (.slice A s.V.length ca) := HB7.out.cell 0
           have m2 : w6.cell? ⟨w.heap.size, 2, none⟩ = some (.slice Ac s.N.length cc) := HB7.out.cell 2
           have f2 := HB7.out.frozen 2
           clear hX hB ho hg hw)
          refine hK.out _ _ ?_ (fun hHeld => ?_)
          · exact m0
          clear hK K
          (try simp only [Act.put, List.setIfInBounds_toArray, List.set_cons_zero, List.set_cons_succ])
          refine wpAnyH_take (i := 17) (oi := { dst := some 36, op := Go.Op.fieldAddr 37 (Go.Operand.tmp 6) 2, type := 0, pos := "ref.go:42", after := #[{ on := 0, ground := Go.Ground.phase }, { on := 1, ground := Go.Ground.phase }, { on := 2, ground := Go.Ground.phase }, { on := 3, ground := Go.Ground.phase }, { on := 4, ground := Go.Ground.phase }, { on := 5, ground := Go.Ground.phase }, { on := 6, ground := Go.Ground.phase }, { on := 7, ground := Go.Ground.phase }, { on := 8, ground := Go.Ground.phase }, { on := 9, ground := Go.Ground.phase }, { on := 10, ground := Go.Ground.phase }, { on := 11, ground := Go.Ground.phase }, { on := 12, ground := Go.Ground.phase }, { on := 13, ground := Go.Ground.phase }, { on := 14, ground := Go.Ground.phase }, { on := 15, ground := Go.Ground.phase }, { on := 16, ground := Go.Ground.phase }], guard := none }) (v := ?uvr2x15) rfl (by kernel_rfl) (by kernel_rfl) (by kernel_rfl) (fun _ _ _ h => h) (Or.inl ⟨by rfl, ?uyr2x15⟩) (by assumption) ?urr2x15
          case uyr2x15 => (intro w hSw; (try dsimp only at hSw); go_simp; try with_reducible rfl)
          (try simp only [Act.put, List.setIfInBounds_toArray, List.set_cons_zero, List.set_cons_succ])
          refine wpAnyH_ready (rs := [18]) (by kernel_rfl) (by simp) ?_
          refine AllReadyH.cons (o := { dst := none, op := Go.Op.store 23 (Go.Operand.tmp 36) (Go.Operand.tmp 35), type := 0, pos := "ref.go:42", after := #[{ on := 17, ground := Go.Ground.data }, { on := 16, ground := Go.Ground.data }, { on := 16, ground := Go.Ground.chain }, { on := 0, ground := Go.Ground.phase }, { on := 1, ground := Go.Ground.phase }, { on := 2, ground := Go.Ground.phase }, { on := 3, ground := Go.Ground.phase }, { on := 4, ground := Go.Ground.phase }, { on := 5, ground := Go.Ground.phase }, { on := 6, ground := Go.Ground.phase }, { on := 7, ground := Go.Ground.phase }, { on := 8, ground := Go.Ground.phase }, { on := 9, ground := Go.Ground.phase }, { on := 10, ground := Go.Ground.phase }, { on := 11, ground := Go.Ground.phase }, { on := 12, ground := Go.Ground.phase }, { on := 13, ground := Go.Ground.phase }, { on := 14, ground := Go.Ground.phase }, { on := 15, ground := Go.Ground.phase }, { on := 16, ground := Go.Ground.phase }], guard := none }) rfl (fun K hK => ?_) AllReadyH.nil
          go_simp
          refine hK.out _ _ ?_ (fun hHeld => ?_)
          · exact n0
          clear hK K
          (try simp only [Act.put, List.setIfInBounds_toArray, List.set_cons_zero, List.set_cons_succ])
          refine wpAnyH_done (by kernel_rfl) ?_ _
          go_wp2_with (with_reducible fail)
          go_meet
          case rel => exact ⟨A6, c6, HX7.out, HQ7.out.far (p := ⟨w.heap.size, 2, none⟩) (Ne.symm (Nat.ne_of_lt (Nat.lt_succ_self _))) _⟩
        · go_simp
          (go_at_call 27; (with_reducible refine (HFu.out _ HHd.out).mono ?_); rintro e wz ⟨rfl, rfl⟩)
          go_simp
          refine hK.out _ _ ?_ (fun hHeld => ?_)
          · exact d0
          clear hK K
          (try simp only [Act.put, List.setIfInBounds_toArray, List.set_cons_zero, List.set_cons_succ])
          refine wpAnyH_take (i := 14) (oi := { dst := some 33, op := Go.Op.build 50 #[(0, Go.Operand.tmp 24), (1, Go.Operand.tmp 28), (2, Go.Operand.tmp 32)], type := 50, pos := "ref.go:42", after := #[{ on := 5, ground := Go.Ground.data }, { on := 9, ground := Go.Ground.data }, { on := 13, ground := Go.Ground.data }], guard := none }) (v := ?uvr2x16) rfl (by kernel_rfl) (by kernel_rfl) (by kernel_rfl) (fun _ _ _ h => h) (Or.inl ⟨by rfl, ?uyr2x16⟩) (by assumption) ?urr2x16
          case uyr2x16 => (intro w hSw; (try dsimp only at hSw); go_simp; try with_reducible rfl)
          (try simp only [Act.put, List.setIfInBounds_toArray, List.set_cons_zero, List.set_cons_succ])
          refine wpAnyH_ready (rs := [1, 15]) (by kernel_rfl) (by simp) ?_
          refine AllReadyH.cons (o := { dst := some 20, op := Go.Op.load 23 (Go.Operand.tmp 19), type := 23, pos := "ref.go:42", after := #[{ on := 0, ground := Go.Ground.data }], guard := none }) rfl (fun K hK => ?_) (AllReadyH.cons (o := { dst := some 34, op := Go.Op.buildSlice 23 1 #[(0, Go.Operand.tmp 33)], type := 23, pos := "ref.go:42", after := #[{ on := 14, ground := Go.Ground.data }], guard := none }) rfl (fun K hK => ?_) AllReadyH.nil)
          · go_simp
            refine hK.out _ _ ?_ (fun hHeld => ?_)
            · exact d0
            clear hK K
            (try simp only [Act.put, List.setIfInBounds_toArray, List.set_cons_zero, List.set_cons_succ])
            refine wpAnyH_ready (rs := [15]) (by kernel_rfl) (by simp) ?_
            refine AllReadyH.cons (o := { dst := some 34, op := Go.Op.buildSlice 23 1 #[(0, Go.Operand.tmp 33)], type := 23, pos := "ref.go:42", after := #[{ on := 14, ground := Go.Ground.data }], guard := none }) rfl (fun K hK => ?_) AllReadyH.nil
            go_simp
            refine hK.out _ _ ?_ (fun hHeld => ?_)
            · exact e0
            clear hK K
            (try simp only [Act.put, List.setIfInBounds_toArray, List.set_cons_zero, List.set_cons_succ])
            refine wpAnyH_ready (rs := [16]) (by kernel_rfl) (by simp) ?_
            refine AllReadyH.cons (o := { dst := some 35, op := Go.Op.call { callee := Go.Callee.builtin Go.Builtin.append, args := #[Go.Operand.tmp 20, Go.Operand.tmp 34], argTypes := #[23, 23] }, type := 23, pos := "ref.go:42", after := #[{ on := 1, ground := Go.Ground.data }, { on := 15, ground := Go.Ground.data }, { on := 13, ground := Go.Ground.chain }], guard := none }) rfl (fun K hK => ?_) AllReadyH.nil
            (refine step_joinGK rfl _ _ 23 rfl elemT3 (by decide) 0 _ s.N.length (p3Cells s.N) rfl HXa.out.rows.rN _ 1 1 (p3Cells [(fx, fy, fu)]) rfl HN3.out (p3Cells_one _) (by omega) (by decide) (Nat.zero_le _) ?_
             intro v6 w6 ho hg hw
             obtain ⟨A6, c6, rfl, _⟩ := OwnK.has ho
             obtain ⟨hX, hB⟩ := HXa.out.putN (l := s.N ++ [(fx, fy, fu)]) (by rw [List.length_append, p3Cells_app]; exact ho) hg hw
             have HQ7 := Lib.hid (HQa.out.chg (HXa.out.rows.chgN hg) (fun e => e.2 ⟨Nat.le_succ _, Nat.lt_succ_self _⟩))
             have HX7 := Lib.hid hX
             have HB7 := Lib.hid hB
             have n0 : (w6.setCell ⟨w.heap.size, 2, none⟩ (.slice A6 (s.N.length + 1) c6)).cell? ⟨w.heap.size, 0, none⟩ = some (.slice A s.V.length ca) := HX7.out.box.cell 0
             have m0 : w6.cell? ⟨w.heap.size, 0, none⟩ = some (.slice A s.V.length ca) := HB7.out.cell 0
             have m2 : w6.cell? ⟨w.heap.size, 2, none⟩ = some (.slice Ac s.N.length cc) := HB7.out.cell 2
             have f2 := HB7.out.frozen 2
             clear hX hB ho hg hw)
            refine hK.out _ _ ?_ (fun hHeld => ?_)
            · exact m0
            clear hK K
            (try simp only [Act.put, List.setIfInBounds_toArray, List.set_cons_zero, List.set_cons_succ])
            refine wpAnyH_take (i := 17) (oi := { dst := some 36, op := Go.Op.fieldAddr 37 (Go.Operand.tmp 6) 2, type := 0, pos := "ref.go:42", after := #[{ on := 0, ground := Go.Ground.phase }, { on := 1, ground := Go.Ground.phase }, { on := 2, ground := Go.Ground.phase }, { on := 3, ground := Go.Ground.phase }, { on := 4, ground := Go.Ground.phase }, { on := 5, ground := Go.Ground.phase }, { on := 6, ground := Go.Ground.phase }, { on := 7, ground := Go.Ground.phase }, { on := 8, ground := Go.Ground.phase }, { on := 9, ground := Go.Ground.phase }, { on := 10, ground := Go.Ground.phase }, { on := 11, ground := Go.Ground.phase }, { on := 12, ground := Go.Ground.phase }, { on := 13, ground := Go.Ground.phase }, { on := 14, ground := Go.Ground.phase }, { on := 15, ground := Go.Ground.phase }, { on := 16, ground := Go.Ground.phase }], guard := none }) (v := ?uvr2x17) rfl (by kernel_rfl) (by kernel_rfl) (by kernel_rfl) (fun _ _ _ h => h) (Or.inl ⟨by rfl, ?uyr2x17⟩) (by assumption) ?urr2x17
            case uyr2x17 => (intro w hSw; (try dsimp only at hSw); go_simp; try with_reducible rfl)
            (try simp only [Act.put, List.setIfInBounds_toArray, List.set_cons_zero, List.set_cons_succ])
            refine wpAnyH_ready (rs := [18]) (by kernel_rfl) (by simp) ?_
            refine AllReadyH.cons (o := { dst := none, op := Go.Op.store 23 (Go.Operand.tmp 36) (Go.Operand.tmp 35), type := 0, pos := "ref.go:42", after := #[{ on := 17, ground := Go.Ground.data }, { on := 16, ground := Go.Ground.data }, { on := 16, ground := Go.Ground.chain }, { on := 0, ground := Go.Ground.phase }, { on := 1, ground := Go.Ground.phase }, { on := 2, ground := Go.Ground.phase }, { on := 3, ground := Go.Ground.phase }, { on := 4, ground := Go.Ground.phase }, { on := 5, ground := Go.Ground.phase }, { on := 6, ground := Go.Ground.phase }, { on := 7, ground := Go.Ground.phase }, { on := 8, ground := Go.Ground.phase }, { on := 9, ground := Go.Ground.phase }, { on := 10, ground := Go.Ground.phase }, { on := 11, ground := Go.Ground.phase }, { on := 12, ground := Go.Ground.phase }, { on := 13, ground := Go.Ground.phase }, { on := 14, ground := Go.Ground.phase }, { on := 15, ground := Go.Ground.phase }, { on := 16, ground := Go.Ground.phase }], guard := none }) rfl (fun K hK => ?_) AllReadyH.nil
            go_simp
            refine hK.out _ _ ?_ (fun hHeld => ?_)
            · exact n0
            clear hK K
            (try simp only [Act.put, List.setIfInBounds_toArray, List.set_cons_zero, List.set_cons_succ])
            refine wpAnyH_done (by kernel_rfl) ?_ _
            go_wp2_with (with_reducible fail)
            go_meet
            case rel => exact ⟨A6, c6, HX7.out, HQ7.out.far (p := ⟨w.heap.size, 2, none⟩) (Ne.symm (Nat.ne_of_lt (Nat.lt_succ_self _))) _⟩
          · go_simp
            refine hK.out _ _ ?_ (fun hHeld => ?_)
            · exact e0
            clear hK K
            (try simp only [Act.put, List.setIfInBounds_toArray, List.set_cons_zero, List.set_cons_succ])
            refine wpAnyH_ready (rs := [1]) (by kernel_rfl) (by simp) ?_
            refine AllReadyH.cons (o := { dst := some 20, op := Go.Op.load 23 (Go.Operand.tmp 19), type := 23, pos := "ref.go:42", after := #[{ on := 0, ground := Go.Ground.data }], guard := none }) rfl (fun K hK => ?_) AllReadyH.nil
            go_simp
            refine hK.out _ _ ?_ (fun hHeld => ?_)
            · exact e0
            clear hK K
            (try simp only [Act.put, List.setIfInBounds_toArray, List.set_cons_zero, List.set_cons_succ])
            refine wpAnyH_ready (rs := [16]) (by kernel_rfl) (by simp) ?_
            refine AllReadyH.cons (o := { dst := some 35, op := Go.Op.call { callee := Go.Callee.builtin Go.Builtin.append, args := #[Go.Operand.tmp 20, Go.Operand.tmp 34], argTypes := #[23, 23] }, type := 23, pos := "ref.go:42", after := #[{ on := 1, ground := Go.Ground.data }, { on := 15, ground := Go.Ground.data }, { on := 13, ground := Go.Ground.chain }], guard := none }) rfl (fun K hK => ?_) AllReadyH.nil
            (refine step_joinGK rfl _ _ 23 rfl elemT3 (by decide) 0 _ s.N.length (p3Cells s.N) rfl HXa.out.rows.rN _ 1 1 (p3Cells [(fx, fy, fu)]) rfl HN3.out (p3Cells_one _) (by omega) (by decide) (Nat.zero_le _) ?_
             intro v6 w6 ho hg hw
             obtain ⟨A6, c6, rfl, _⟩ := OwnK.has ho
             obtain ⟨hX, hB⟩ := HXa.out.putN (l := s.N ++ [(fx, fy, fu)]) (by rw [List.length_append, p3Cells_app]; exact ho) hg hw
             have HQ7 := Lib.hid (HQa.out.chg (HXa.out.rows.chgN hg) (fun e => e.2 ⟨Nat.le_succ _, Nat.lt_succ_self _⟩))
             have HX7 := Lib.hid hX
             have HB7 := Lib.hid hB
             have n0 : (w6.setCell ⟨w.heap.size, 2, none⟩ (.slice A6 (s.N.length + 1) c6)).cell? ⟨w.heap.size, 0, none⟩ = some (.slice A s.V.length ca) := HX7.out.box.cell 0
             have m0 : w6.cell? ⟨w.heap.size, 0, none⟩ = some (.slice A s.V.length ca) := HB7.out.cell 0
             have m2 : w6.cell? ⟨w.heap.size, 2, none⟩ = some (.slice Ac s.N.length cc) := HB7.out.cell 2
             have f2 := HB7.out.frozen 2
             clear hX hB ho hg hw)
            refine hK.out _ _ ?_ (fun hHeld => ?_)
            · exact m0
            clear hK K
            (try simp only [Act.put, List.setIfInBounds_toArray, List.set_cons_zero, List.set_cons_succ])
            refine wpAnyH_take (i := 17) (oi := { dst := some 36, op := Go.Op.fieldAddr 37 (Go.Operand.tmp 6) 2, type := 0, pos := "ref.go:42", after := #[{ on := 0, ground := Go.Ground.phase }, { on := 1, ground := Go.Ground.phase }, { on := 2, ground := Go.Ground.phase }, { on := 3, ground := Go.Ground.phase }, { on := 4, ground := Go.Ground.phase }, { on := 5, ground := Go.Ground.phase }, { on := 6, ground := Go.Ground.phase }, { on := 7, ground := Go.Ground.phase }, { on := 8, ground := Go.Ground.phase }, { on := 9, ground := Go.Ground.phase }, { on := 10, ground := Go.Ground.phase }, { on := 11, ground := Go.Ground.phase }, { on := 12, ground := Go.Ground.phase }, { on := 13, ground := Go.Ground.phase }, { on := 14, ground := Go.Ground.phase }, { on := 15, ground := Go.Ground.phase }, { on := 16, ground := Go.Ground.phase }], guard := none }) (v := ?uvr2x18) rfl (by kernel_rfl) (by kernel_rfl) (by kernel_rfl) (fun _ _ _ h => h) (Or.inl ⟨by rfl, ?uyr2x18⟩) (by assumption) ?urr2x18
            case uyr2x18 => (intro w hSw; (try dsimp only at hSw); go_simp; try with_reducible rfl)
            (try simp only [Act.put, List.setIfInBounds_toArray, List.set_cons_zero, List.set_cons_succ])
            refine wpAnyH_ready (rs := [18]) (by kernel_rfl) (by simp) ?_
            refine AllReadyH.cons (o := { dst := none, op := Go.Op.store 23 (Go.Operand.tmp 36) (Go.Operand.tmp 35), type := 0, pos := "ref.go:42", after := #[{ on := 17, ground := Go.Ground.data }, { on := 16, ground := Go.Ground.data }, { on := 16, ground := Go.Ground.chain }, { on := 0, ground := Go.Ground.phase }, { on := 1, ground := Go.Ground.phase }, { on := 2, ground := Go.Ground.phase }, { on := 3, ground := Go.Ground.phase }, { on := 4, ground := Go.Ground.phase }, { on := 5, ground := Go.Ground.phase }, { on := 6, ground := Go.Ground.phase }, { on := 7, ground := Go.Ground.phase }, { on := 8, ground := Go.Ground.phase }, { on := 9, ground := Go.Ground.phase }, { on := 10, ground := Go.Ground.phase }, { on := 11, ground := Go.Ground.phase }, { on := 12, ground := Go.Ground.phase }, { on := 13, ground := Go.Ground.phase }, { on := 14, ground := Go.Ground.phase }, { on := 15, ground := Go.Ground.phase }, { on := 16, ground := Go.Ground.phase }], guard := none }) rfl (fun K hK => ?_) AllReadyH.nil
            go_simp
            refine hK.out _ _ ?_ (fun hHeld => ?_)
            · exact n0
            clear hK K
            (try simp only [Act.put, List.setIfInBounds_toArray, List.set_cons_zero, List.set_cons_succ])
            refine wpAnyH_done (by kernel_rfl) ?_ _
            go_wp2_with (with_reducible fail)
            go_meet
            case rel => exact ⟨A6, c6, HX7.out, HQ7.out.far (p := ⟨w.heap.size, 2, none⟩) (Ne.symm (Nat.ne_of_lt (Nat.lt_succ_self _))) _⟩
  case rest =>
    clear HX5 HQ6 HXd HHa HHd HXa HQa HN3 c0 c2 d0 d2 e0 e2 HFx HFy HFu
    obtain ⟨A6, c6, HX6, HQ6⟩ := hcut
    have p0 := HX6.out.box.cell 0
    have p3 := HX6.out.box.cell 3
    by_cases hz : z = 0
    · have tz : (z == 0) = true := beq_iff_eq.2 hz
      have HE2 : Hid (takeW s i x y u z = { V := s.V, O := s.O ++ [i], N := s.N ++ [(fx, fy, fu)], G := s.G ++ [(x, y)] ++ [(y, u), (u, x)], S := s.S }) := by show _ = _; rw [HE.out, if_pos hz]
      clear hz HE
      have HXa := Lib.hid (HX6.out.next (new_alloc (Below.refl _ wc) (.cells #[.int .i64 x, .int .i64 y] 79)))
      have HQa := Lib.hid (HQ6.out.alloc (.cells #[.int .i64 x, .int .i64 y] 79))
      have HN7 : Hid (HasK 2 (wc.alloc (.cells #[.int .i64 x, .int .i64 y] 79)) (some ⟨wc.heap.size, 0, none⟩) 1 1 (e2Cells [(x, y)])) := HasK.new_at 2 wc #[.int .i64 x, .int .i64 y] 79 _ 1 rfl rfl
      have m0 := HXa.out.box.cell 0
      have m1 := HXa.out.box.cell 1
      have m2 := HXa.out.box.cell 2
      have m3 := HXa.out.box.cell 3
      have m4 := HXa.out.box.cell 4
      go_wp2_with (at_builtin
                   first
                     | ((refine wpList_joinGK rfl _ _ 35 rfl elemE2 (by decide) 0 _ s.G.length (e2Cells s.G) rfl HXa.out.rows.rG _ 1 1 (e2Cells [(x, y)]) rfl HN7.out (e2Cells_one _) (by omega) (by decide) (Nat.zero_le _) ?_)
                        rintro v7 w7 ho hg hw
                        obtain ⟨A7, c7, rfl, _⟩ := OwnK.has ho
                        obtain ⟨hX, hB⟩ := HXa.out.putG (l := s.G ++ [(x, y)]) (by rw [List.length_append, e2Cells_app]; exact ho) hg hw
                        have HQ7 := Lib.hid (HQa.out.chg (HXa.out.rows.chgG hg) (fun e => e.2 ⟨Nat.le_succ _, Nat.lt_succ_self _⟩))
                        have HX7 := Lib.hid hX
                        have HB7 := Lib.hid hB
                        clear hX hB ho hg hw
                        have f7 := HB7.out.frozen 3
                        have k0 := HB7.out.cell 0
                        have k1 := HB7.out.cell 1
                        have k2 := HB7.out.cell 2
                        have k3 := HB7.out.cell 3
                        have k4 := HB7.out.cell 4
                        have HQ7s := Lib.hid (HQ7.out.far (p := ⟨w.heap.size, 3, none⟩) (Ne.symm (Nat.ne_of_lt (Nat.lt_succ_self _))) (.slice A7 (s.G.length + 1) c7))
                        have HXb := Lib.hid (HX7.out.next (new_alloc (Below.refl _ _) (.cells #[.int .i64 y, .int .i64 u, .int .i64 u, .int .i64 x] 79)))
                        have HQb := Lib.hid (HQ7s.out.alloc (.cells #[.int .i64 y, .int .i64 u, .int .i64 u, .int .i64 x] 79))
                        have hz7 : (w7.setCell ⟨w.heap.size, 3, none⟩ (.slice A7 (s.G.length + 1) c7)).heap.size = w7.heap.size := by simp
                        have HN8 : Hid (HasK 2 ((w7.setCell ⟨w.heap.size, 3, none⟩ (.slice A7 (s.G.length + 1) c7)).alloc (.cells #[.int .i64 y, .int .i64 u, .int .i64 u, .int .i64 x] 79)) (some ⟨w7.heap.size, 0, none⟩) 2 2 (e2Cells [(y, u), (u, x)])) := HasK.new_at 2 _ #[.int .i64 y, .int .i64 u, .int .i64 u, .int .i64 x] 79 _ 2 hz7.symm rfl
                        have b0 := HXb.out.box.cell 0
                        have b1 := HXb.out.box.cell 1
                        have b2 := HXb.out.box.cell 2
                        have b3 := HXb.out.box.cell 3
                        have b4 := HXb.out.box.cell 4
                        clear hz7 m0 m1 m2 m3 m4)
                     | ((refine wpList_joinGK rfl _ _ 35 rfl elemE2 (by decide) 0 _ (s.G.length + 1) (e2Cells (s.G ++ [(x, y)])) rfl (by have h9 := HXb.out.rows.rG; rw [List.length_append] at h9; exact h9) _ 2 2 (e2Cells [(y, u), (u, x)]) rfl HN8.out (e2Cells_one _) (by omega) (by decide) (Nat.zero_le _) ?_)
                        rintro v8 w8 ho hg hw
                        obtain ⟨A8, c8, rfl, _⟩ := OwnK.has ho
                        obtain ⟨hX, hB⟩ := HXb.out.putG (l := (s.G ++ [(x, y)]) ++ [(y, u), (u, x)]) (by rw [List.length_append, List.length_append, e2Cells_app]; exact ho) hg hw
                        have HQ8 := Lib.hid (HQb.out.chg (HXb.out.rows.chgG hg) (fun e => e.2 ⟨Nat.le_succ _, Nat.lt_succ_self _⟩))
                        have HX8 := Lib.hid hX
                        have HB8 := Lib.hid hB
                        clear hX hB ho hg hw
                        have f8 := HB8.out.frozen 3
                        have k0 := HB8.out.cell 0
                        have k1 := HB8.out.cell 1
                        have k2 := HB8.out.cell 2
                        have k3 := HB8.out.cell 3
                        have k4 := HB8.out.cell 4
                        have z0 := HQ8.out.cell 0
                        have z1 := HQ8.out.cell 1
                        have z2 := HQ8.out.cell 2
                        have z3 := HQ8.out.cell 3
                        have z4 := HQ8.out.cell 4
                        have q0 := HQ8.out.frozen 0
                        have q1 := HQ8.out.frozen 1
                        have q2 := HQ8.out.frozen 2
                        have q3 := HQ8.out.frozen 3
                        have q4 := HQ8.out.frozen 4
                        have HQ8s := Lib.hid (HQ8.out.far (p := ⟨w.heap.size, 3, none⟩) (Ne.symm (Nat.ne_of_lt (Nat.lt_succ_self _))) (.slice A8 ((s.G.length + 1) + 2) c8))
                        have HEnd := Lib.hid (wout_end (q := w.heap.size + 1) HX8.out (Nat.le_succ _) (Nat.lt_succ_self _) (Nat.ne_of_lt (Nat.lt_succ_self _)) rfl HQ8s.out)))
      try rw [Exit.noGoto_ret]
      exact bodyPost_ret (results_cellM Tryd.results29 rfl (w_load _ _ _ _ _ _ _ HEnd.out.1)) rfl (by rw [HE2.out]; exact HEnd.out.2)
    · have tz : (z == 0) = false := beq_eq_false_iff_ne.2 hz
      have HE2 : Hid (takeW s i x y u z = { V := s.V, O := s.O ++ [i], N := s.N ++ [(fx, fy, fu)], G := s.G ++ [(y, u), (u, x)], S := s.S }) := by show _ = _; rw [HE.out, if_neg hz]
      clear hz HE
      have HXb := Lib.hid (HX6.out.next (new_alloc (Below.refl _ wc) (.cells #[.int .i64 y, .int .i64 u, .int .i64 u, .int .i64 x] 79)))
      have HQb := Lib.hid (HQ6.out.alloc (.cells #[.int .i64 y, .int .i64 u, .int .i64 u, .int .i64 x] 79))
      have HN8 : Hid (HasK 2 (wc.alloc (.cells #[.int .i64 y, .int .i64 u, .int .i64 u, .int .i64 x] 79)) (some ⟨wc.heap.size, 0, none⟩) 2 2 (e2Cells [(y, u), (u, x)])) := HasK.new_at 2 wc #[.int .i64 y, .int .i64 u, .int .i64 u, .int .i64 x] 79 _ 2 rfl rfl
      have m0 := HXb.out.box.cell 0
      have m1 := HXb.out.box.cell 1
      have m2 := HXb.out.box.cell 2
      have m3 := HXb.out.box.cell 3
      have m4 := HXb.out.box.cell 4
      go_wp2_with (at_builtin
                   (refine wpList_joinGK rfl _ _ 35 rfl elemE2 (by decide) 0 _ s.G.length (e2Cells s.G) rfl HXb.out.rows.rG _ 2 2 (e2Cells [(y, u), (u, x)]) rfl HN8.out (e2Cells_one _) (by omega) (by decide) (Nat.zero_le _) ?_)
                   rintro v8 w8 ho hg hw
                   obtain ⟨A8, c8, rfl, _⟩ := OwnK.has ho
                   obtain ⟨hX, hB⟩ := HXb.out.putG (l := s.G ++ [(y, u), (u, x)]) (by rw [List.length_append, e2Cells_app]; exact ho) hg hw
                   have HQ8 := Lib.hid (HQb.out.chg (HXb.out.rows.chgG hg) (fun e => e.2 ⟨Nat.le_succ _, Nat.lt_succ_self _⟩))
                   have HX8 := Lib.hid hX
                   have HB8 := Lib.hid hB
                   clear hX hB ho hg hw
                   have f8 := HB8.out.frozen 3
                   have k0 := HB8.out.cell 0
                   have k1 := HB8.out.cell 1
                   have k2 := HB8.out.cell 2
                   have k3 := HB8.out.cell 3
                   have k4 := HB8.out.cell 4
                   have z0 := HQ8.out.cell 0
                   have z1 := HQ8.out.cell 1
                   have z2 := HQ8.out.cell 2
                   have z3 := HQ8.out.cell 3
                   have z4 := HQ8.out.cell 4
                   have q0 := HQ8.out.frozen 0
                   have q1 := HQ8.out.frozen 1
                   have q2 := HQ8.out.frozen 2
                   have q3 := HQ8.out.frozen 3
                   have q4 := HQ8.out.frozen 4
                   have HQ8s := Lib.hid (HQ8.out.far (p := ⟨w.heap.size, 3, none⟩) (Ne.symm (Nat.ne_of_lt (Nat.lt_succ_self _))) (.slice A8 (s.G.length + 2) c8))
                   have HEnd := Lib.hid (wout_end (q := w.heap.size + 1) HX8.out (Nat.le_succ _) (Nat.lt_succ_self _) (Nat.ne_of_lt (Nat.lt_succ_self _)) rfl HQ8s.out))
      try rw [Exit.noGoto_ret]
      exact bodyPost_ret (results_cellM Tryd.results29 rfl (w_load _ _ _ _ _ _ _ HEnd.out.1)) rfl (by rw [HE2.out]; exact HEnd.out.2)
end Go.Proofs.YtjahphfjobnkaaaDoor
