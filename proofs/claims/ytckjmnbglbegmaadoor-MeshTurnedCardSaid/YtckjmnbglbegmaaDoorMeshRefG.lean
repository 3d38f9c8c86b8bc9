/- lapidaryref10: Pieces. -/
import Derived.Test.YtckjmnbglbegmaaDoorMeshRefF
import Derived.Test.YtckjmnbglbegmaaDoorMeshPass
namespace Go.Proofs.YtckjmnbglbegmaaDoor
open Go.RowKit

/-- An answer of numbers: in new memory. -/
def Pieced (w : World) (p : List Nat) (e : Ending) (w' : World) : Prop := ∃ A c, e = .returned (.slice A p.length c) ∧ Has w' A p.length c (natVs p) ∧ Below w.heap.size w w' ∧ ∀ b off, A = some ⟨b, off, none⟩ → w.heap.size ≤ b
theorem natVs_set (l : List Nat) (i x : Nat) : (natVs l).set i (.int .i64 (x : Int)) = natVs (l.set i x) := by unfold natVs intVs; rw [List.map_set, List.map_set]
theorem natVs_getD {l : List Nat} {j : Nat} (h : j < l.length) : (natVs l)[j]? = some (.int .i64 ((l[j]?.getD 0 : Nat) : Int)) := by rw [natVs_at h, List.getElem?_eq_getElem h]; rfl
theorem intVs_setM (l : List Int) (i : Nat) (x : Int) : (intVs l).set i (.int .i64 x) = intVs (l.set i x) := by unfold intVs; rw [List.map_set]
theorem intVs_get {l : List Int} {j : Nat} {x : Int} (h : l[j]? = some x) : (intVs l)[j]? = some (.int .i64 x) := by unfold intVs; rw [List.getElem?_map, h]; rfl
set_option maxRecDepth 100000 in
set_option maxHeartbeats 8000000 in
theorem ref10Pieces_any (A : Option Addr) (n c : Nat) (B : Option Addr) (m d : Nat) (T : List P3) (p : List Nat) (w : World) (ht : HasK 3 w B m d (p3Cells T)) (hm : m ≤ 100000) (hnd : (darts T).Nodup) (hpp : PiecesIs T p) : Calls Tryd.prog 23 #[.agg #[.slice A n c, .slice B m d]] w (Pieced w p) := by
  have HM : Hid (T.length = m) := by have := ht.len; rw [p3Cells_len] at this; show _ = _; omega
  have HT := Lib.hid ht
  have HND := Lib.hid hnd
  have HPP := Lib.hid hpp
  have HK0 := Lib.hid (MeshAt.new w (.slice A n c) (.slice B m d))
  have HHs := Lib.hid (fun a b W (hW : Below w.heap.size w W) => ref10Has_any B m d T a b W (ht.kept hW) hm)
  clear ht hnd hpp
  have m0 := HK0.out.b0.cell 0
  have m1 := HK0.out.b0.cell 1
  have hz0 : (w.alloc (.cells #[.slice A n c, .slice B m d] 25)).heap.size = w.heap.size + 1 := Array.size_push _
  have HZ0 := Lib.hid hz0
  clear hz0
  go_enter Tryd.func23, Tryd.ntmps23
  go_wp2_with (at_make
               refine wpList_made rfl _ _ 34 rfl elemMi (.int .i64 0) (by kernel_rfl) rfl (w.alloc (.cells #[.slice A n c, .slice B m d] 25)).heap.size .i64 .i64 _ _ m rfl rfl (by first | rfl | omega) (by first | rfl | omega) (by omega) (by decide) (Nat.le_refl _) ?_
               intro w1 hown1 hbel1
               rw [HZ0.out] at hown1 hbel1
               have HO1 := Lib.hid hown1
               have HK1 := Lib.hid (HK0.out.over hbel1)
               clear hown1 hbel1)
  clear m0 m1
  have hrep : List.replicate m (Value.int .i64 0) = natVs (List.replicate m 0) := by unfold natVs intVs; simp
  rw [hrep] at HO1
  clear hrep
  go_loopg [4] m (fun g s4 wx => ∃ (i : Nat) (out : List Nat), i + g = m ∧ s4 = .int .i64 i ∧ Hid (out.length = m) ∧ Hid (∀ j, j < i → out[j]? = some j) ∧ Hid (Own wx (w.heap.size + 1) 3 (.slice (some ⟨w.heap.size + 1, 0, none⟩) m m) (natVs out)) ∧ Hid (MeshAt w (.slice A n c) (.slice B m d) wx))
  case atStart => exact ⟨0, List.replicate m 0, by omega, rfl, List.length_replicate, fun j hj => absurd hj (by omega), HO1, HK1⟩
  case round =>
    obtain ⟨i, out, hig, rfl, HOl, HI, HO, HK⟩ := hrel
    clear HO1 HK1
    have hbl : (natVs out).length = m := by rw [natVs_len]; exact HOl.out
    by_cases hi : i < m
    · have ti : decide ((i : Int) < (m : Int)) = true := by simp; omega
      have i2 : (i : Int) < (m : Int) := by omega
      obtain ⟨ci, fi⟩ := HO.out.cellAt hbl i hi
      rw [natVs_getD (by rw [HOl.out]; exact hi)] at ci
      have hst := HO.out.stored hbl i (.int .i64 (i : Int))
      rw [natVs_set] at hst
      have HO2 := Lib.hid hst.1
      have HK2 := Lib.hid (HK.out.over hst.2)
      have HI2 : Hid (∀ j, j < i + 1 → (out.set i i)[j]? = some j) := fun j hj => by
        by_cases e : i = j
        · subst e; exact List.getElem?_set_self (by rw [HOl.out]; exact hi)
        · rw [List.getElem?_set_ne e]; exact HI.out j (by omega)
      have HOl2 : Hid ((out.set i i).length = m) := by show _ = _; rw [List.length_set]; exact HOl.out
      clear hst HI
      go_wp2
      go_roundg (gk - 1)
      case measure => omega
      case rel => exact ⟨i + 1, out.set i i, by omega, by go_num, HOl2, HI2, HO2, HK2⟩
    · have ti : decide ((i : Int) < (m : Int)) = false := by simp; omega
      have HLw : Hid (Low T out) := low_range T (by rw [HOl.out, HM.out]) (fun j hj => HI.out j (by have := HOl.out; omega))
      have HSt : Hid (∀ f, f < T.length → First T f → Settled T out f ∨ 0 + 1 ≤ far T out f) := fun f hf hF => settle_zero HLw.out hf hF
      clear HI HOl hbl
      have m0 := HK.out.b0.cell 0
      have m1 := HK.out.b0.cell 1
      go_wp2
      go_loopg [5] m (fun g s5 wx => ∃ (t : Nat) (out : List Nat), t + g = m ∧ s5 = .int .i64 t ∧ Hid (Low T out) ∧ Hid (∀ f, f < T.length → First T f → Settled T out f ∨ t + 1 ≤ far T out f) ∧ Hid (Own wx (w.heap.size + 1) 3 (.slice (some ⟨w.heap.size + 1, 0, none⟩) m m) (natVs out)) ∧ Hid (MeshAt w (.slice A n c) (.slice B m d) wx))
      case atStart => exact ⟨0, out, by omega, rfl, HLw, HSt, HO, HK⟩
      case round =>
        obtain ⟨t, out0, htg, rfl, HLw0, HSt0, HO0, HK0⟩ := hrel
        clear HLw HSt HO HK m0 m1
        have m0 := HK0.out.b0.cell 0
        have m1 := HK0.out.b0.cell 1
        by_cases htm : t < m
        · have tt : decide ((t : Int) < (m : Int)) = true := by simp; omega
          have HPa := Lib.hid (PassTo.start HLw0.out)
          go_wp2
          try rw [tt]
          go_loopg [6] m (fun g s6 wx => ∃ (i : Nat) (cur : List Nat), i + g = m ∧ s6 = .int .i64 i ∧ Hid (PassTo T out0 cur i 0) ∧ Hid (Own wx (w.heap.size + 1) 3 (.slice (some ⟨w.heap.size + 1, 0, none⟩) m m) (natVs cur)) ∧ Hid (MeshAt w (.slice A n c) (.slice B m d) wx))
          case atStart => exact ⟨0, out0, by omega, rfl, HPa, HO0, HK0⟩
          case round =>
            obtain ⟨i, cur, hig3, rfl, HP3, HO3, HK3⟩ := hrel
            clear HO0 HK0 m0 m1 HPa
            have m0 := HK3.out.b0.cell 0
            have m1 := HK3.out.b0.cell 1
            by_cases hi3 : i < m
            · have t3 : decide ((i : Int) < (m : Int)) = true := by simp; omega
              have i3 : (i : Int) < (m : Int) := by omega
              have hil : i < T.length := by rw [HM.out]; exact hi3
              obtain ⟨b, off, rfl, hlt, _⟩ := (HT.out.kept HK3.out.bel).spot (by omega)
              have HCl : Hid (∀ W, Below w.heap.size w W → ∀ k, k < 3 → W.cell? ⟨b, off + i * 3 + k, none⟩ = some (.int .i64 (at3 T[i] k))) := fun W hW k hk => t3_cells (HT.out.kept hW) hil hk
              have HTi : Hid (T[i]? = some T[i]) := List.getElem?_eq_getElem hil
              generalize T[i] = tr at *
              clear hlt
              go_wp2
              try rw [tt]
              try rw [t3]
              go_loopg [7] 3 (fun g s7 wx => ∃ (k : Nat) (cur : List Nat), k + g = 3 ∧ s7 = .int .i64 k ∧ Hid (PassTo T out0 cur i k) ∧ Hid (Own wx (w.heap.size + 1) 3 (.slice (some ⟨w.heap.size + 1, 0, none⟩) m m) (natVs cur)) ∧ Hid (MeshAt w (.slice A n c) (.slice (some ⟨b, off, none⟩) m d) wx))
              case atStart => exact ⟨0, cur, by omega, rfl, HP3, HO3, HK3⟩
              case round =>
                obtain ⟨k, cur4, hkg, rfl, HP4, HO4, HK4⟩ := hrel
                clear HP3 HO3 HK3 m0 m1
                have m0 := HK4.out.b0.cell 0
                have m1 := HK4.out.b0.cell 1
                by_cases hk : k < 3
                · have tk : decide ((k : Int) < 3) = true := by simp; omega
                  have k2 : (k : Int) < 3 := by omega
                  have tn := next3 hk
                  have g1 : IntKind.wrap .i64 ((k : Int) + 1) = (k : Int) + 1 := by rw [IntKind.wrap_i64]; omega
                  have f1 : wrap64 ((k : Int) + 1) = (k : Int) + 1 := by unfold wrap64; omega
                  obtain ⟨k1, hk1⟩ : ∃ j, (k + 1) % 3 = j := ⟨_, rfl⟩
                  have hl1 : k1 < 3 := hk1 ▸ Nat.mod_lt _ (by decide)
                  have hl2 : (k1 : Int) < 3 := Int.ofNat_lt.2 hl1
                  have HNo := Lib.hid (HP4.out.none (k := k) HTi.out)
                  have HPu := Lib.hid (fun u hu hd => HP4.out.put HND.out hk HTi.out (u := u) hu hd)
                  have HWy := hasF_ways T (at3 tr k1) (at3 tr k)
                  rw [hk1] at tn HNo HPu
                  have HS : Hid (∀ W, Below wr.heap.size wr W → W.cell? ⟨w.heap.size, 1, none⟩ = some (.slice (some ⟨b, off, none⟩) m d) ∧ W.cell? ⟨b, off + i * 3 + k, none⟩ = some (.int .i64 (at3 tr k)) ∧ W.cell? ⟨b, off + i * 3 + k1, none⟩ = some (.int .i64 (at3 tr k1))) := fun W hW => by
                    have h := HK4.out.next hW
                    exact ⟨h.b0.cell 1, HCl.out W h.bel k hk, HCl.out W h.bel k1 hl1⟩
                  have HHk := Lib.hid (HHs.out (at3 tr k1) (at3 tr k) wr.drew (HK4.out.bel.drew))
                  have HBv0 : Hid (Below wr.heap.size wr wr.drew) := (Below.refl _ _).drew
                  clear hk1
                  generalize at3 tr k = pv at *
                  generalize at3 tr k1 = qv at *
                  have hbl : (natVs cur4).length = m := by rw [natVs_len, HP4.out.lo.len]; exact HM.out
                  have hcl : cur4.length = m := by rw [← natVs_len]; exact hbl
                  go_wp2_with (with_reducible fail)
                  go_region_held3 (fun W => W.cell? ⟨w.heap.size, 1, none⟩ = some (.slice (some ⟨b, off, none⟩) m d) ∧ W.cell? ⟨b, off + i * 3 + k, none⟩ = some (.int .i64 pv) ∧ W.cell? ⟨b, off + i * 3 + k1, none⟩ = some (.int .i64 qv)) (first | (with_reducible exact HS.out _ HBv0.out)) (first
                    | (go_at_call 28; (with_reducible refine HHk.out.mono ?_); rintro e v1 ⟨rfl, rfl⟩))
                  all_goals
                    clear tn g1 f1 hl1 hl2
                    have HK5 := Lib.hid (HK4.out.next HBv0.out)
                    have HO5 := Lib.hid (Own.keep HO4.out HBv0.out)
                    rcases HWy with ⟨hz, hno⟩ | ⟨u, hu, hz, hd, hx9⟩
                    · have HP5 := Lib.hid (HNo.out hno)
                      rw [hz]
                      clear hz hno HNo HPu
                      go_wp2
                      go_roundg (gk - 1)
                      case measure => omega
                      case rel => exact ⟨k + 1, cur4, by omega, by go_num, HP5, HO5, HK5⟩
                    · have HP5 := Lib.hid (HPu.out u hu hd)
                      rw [hz]
                      have hum : u < m := by have := HM.out; omega
                      have u2 : (u : Int) < (m : Int) := by omega
                      clear hz hd hx9 hu HNo HPu
                      obtain ⟨ci, fi⟩ := HO5.out.cellAt hbl i hi3
                      obtain ⟨cu, fu⟩ := HO5.out.cellAt hbl u hum
                      rw [natVs_getD (by omega)] at ci cu
                      have hst := HO5.out.stored hbl i (.int .i64 ((min (cur4[i]?.getD 0) (cur4[u]?.getD 0) : Nat) : Int))
                      rw [natVs_set] at hst
                      have HO6 := Lib.hid hst.1
                      have HK6 := Lib.hid (HK5.out.over hst.2)
                      clear hst
                      generalize cur4[i]?.getD 0 = x at *
                      generalize cur4[u]?.getD 0 = y at *
                      rcases Nat.lt_trichotomy x y with hxy | hxy | hxy
                      · have e : min x y = x := Nat.min_eq_left (Nat.le_of_lt hxy)
                        rw [e] at HO6 HK6 HP5
                        clear e
                        go_wp2
                        go_region
                        all_goals
                          have HO7 := Lib.hid (Own.keep HO6.out (Below.refl _ _).drew)
                          have HK7 := Lib.hid (HK6.out.next (Below.refl _ _).drew)
                          go_wp2
                          go_roundg (gk - 1)
                          case measure => omega
                          case rel => exact ⟨k + 1, _, by omega, by go_num, HP5, HO7, HK7⟩
                      · subst hxy
                        have e : min x x = x := Nat.min_self x
                        rw [e] at HO6 HK6 HP5
                        clear e
                        go_wp2
                        go_region
                        all_goals
                          have HO7 := Lib.hid (Own.keep HO6.out (Below.refl _ _).drew)
                          have HK7 := Lib.hid (HK6.out.next (Below.refl _ _).drew)
                          go_wp2
                          go_roundg (gk - 1)
                          case measure => omega
                          case rel => exact ⟨k + 1, _, by omega, by go_num, HP5, HO7, HK7⟩
                      · have e : min x y = y := Nat.min_eq_right (Nat.le_of_lt hxy)
                        rw [e] at HO6 HK6 HP5
                        clear e
                        go_wp2
                        go_region
                        all_goals
                          have HO7 := Lib.hid (Own.keep HO6.out (Below.refl _ _).drew)
                          have HK7 := Lib.hid (HK6.out.next (Below.refl _ _).drew)
                          go_wp2
                          go_roundg (gk - 1)
                          case measure => omega
                          case rel => exact ⟨k + 1, _, by omega, by go_num, HP5, HO7, HK7⟩
                · have tk : decide ((k : Int) < 3) = false := by simp; omega
                  obtain rfl : k = 3 := by omega
                  have HP5 := Lib.hid (HP4.out.row hil)
                  go_wp2
                  go_roundg (m - (i + 1))
                  case measure => omega
                  case rel => exact ⟨i + 1, cur4, by omega, by go_num, HP5, HO4, HK4⟩
            · have t3 : decide ((i : Int) < (m : Int)) = false := by simp; omega
              have him : i = T.length := by rw [HM.out]; omega
              have HPs : Hid (Pass T out0 cur) := by
                have h := HP3.out
                rw [him] at h
                exact h.pass
              have HLw := Lib.hid HP3.out.lo
              have HSt : Hid (∀ f, f < T.length → First T f → Settled T cur f ∨ t + 1 + 1 ≤ far T cur f) := fun f hf hF => settle_step (darts_nodup HND.out) HLw0.out HLw.out HPs.out hf hF (HSt0.out f hf hF)
              clear him HP3 HPs
              go_wp2
              go_roundg (m - (t + 1))
              case measure => omega
              case rel => exact ⟨t + 1, cur, by omega, by go_num, HLw, HSt, HO3, HK3⟩
        · have tt : decide ((t : Int) < (m : Int)) = false := by simp; omega
          have HFi : Hid (Firsts T out0) := firsts_of HLw0.out (fun f hf hF => by
            have h := HSt0.out f hf hF
            have e : t = T.length := by rw [HM.out]; omega
            rw [e] at h
            exact h)
          have HPe : Hid (p = piecesOf out0) := pieces_one HPP.out (pieces_of HFi.out)
          have hO : natVs out0 = intVs (rowZ (zF out0 0) m) := by
            unfold natVs
            congr 1
            apply List.ext_getElem?
            intro j
            by_cases hj : j < m
            · rw [rowZ_at _ hj, zF_start, List.getElem?_map]
              have hj2 : j < out0.length := by rw [HLw0.out.len, HM.out]; exact hj
              rw [List.getElem?_eq_getElem hj2]
              rfl
            · exact (List.getElem?_eq_none (by rw [List.length_map, HLw0.out.len, HM.out]; omega)).trans (List.getElem?_eq_none (by rw [rowZ_len]; omega)).symm
          rw [hO] at HO0
          clear hO HLw0 HSt0
          have HQ1 : Hid (∀ i j, j < m → j ≠ i → zG out0 i m j = zF out0 (i + 1) j) := fun i j hj hne => by
            have h := zG_next HFi.out (i := i) (j := j) (by rw [HM.out]; exact hj) hne
            rw [HM.out] at h; exact h
          have HQ2 : Hid (∀ i j, out0[i]?.getD 0 ≠ i → j < m → zF out0 i j = zF out0 (i + 1) j) := fun i j hno hj => zF_same HFi.out hno (by rw [HM.out]; exact hj)
          have HQ3 : Hid (∀ i, i < m → -1 - zH out0 m i i = zH out0 m (i + 1) i) := fun i hi => by
            have h := zH_put HFi.out (i := i) (by rw [HM.out]; exact hi)
            rw [HM.out] at h; exact h
          have HQ4 : Hid (natVs p = intVs (rowZ (zH out0 m m) m)) := by
            show _ = _
            have h := zH_end HFi.out
            rw [HM.out] at h
            rw [h, HPe.out]
            rfl
          have HQ5 : Hid (∀ i j, j < m → -1 - (m : Int) ≤ zF out0 i j ∧ zF out0 i j ≤ m) := fun i j hj => by
            have h := zF_bound HFi.out (i := i) (j := j) (by rw [HM.out]; exact hj)
            rw [HM.out] at h; exact h
          have HQ6 : Hid (∀ i, i < m → (zF out0 i i = (i : Int) ↔ out0[i]?.getD 0 = i)) := fun i hi => z_first HFi.out (by rw [HM.out]; exact hi)
          have HQ7 : Hid (∀ i, numF out0 i ≤ i) := fun i => numF_le out0 i
          have HQ8 : Hid (∀ i, numF out0 (i + 1) = numF out0 i + if out0[i]?.getD 0 == i then 1 else 0) := fun i => numF_next out0 i
          have HPl : Hid (p.length = m) := HPP.out.len.trans HM.out
          have hnum0 : numF out0 0 = 0 := rfl
          clear HFi HPe HPP HND
          go_wp2
          go_loopg [9, 10] m (fun g s9 s10 wx => ∃ i : Nat, i + g = m ∧ s10 = .int .i64 i ∧ s9 = .int .i64 (numF out0 i : Int) ∧ Hid (Own wx (w.heap.size + 1) 3 (.slice (some ⟨w.heap.size + 1, 0, none⟩) m m) (intVs (rowZ (zF out0 i) m))) ∧ Hid (MeshAt w (.slice A n c) (.slice B m d) wx))
          case atStart => exact ⟨0, by omega, rfl, by rw [hnum0]; rfl, HO0, HK0⟩
          case round =>
            obtain ⟨j, hjg, rfl, rfl, HO5, HK5⟩ := hrel
            clear HO0 HK0 m0 m1 hnum0
            have hbl : (intVs (rowZ (zF out0 j) m)).length = m := by rw [intVs_len, rowZ_len]
            by_cases hj : j < m
            · have tj : decide ((j : Int) < (m : Int)) = true := by simp; omega
              have j2 : (j : Int) < (m : Int) := by omega
              obtain ⟨cj, fj⟩ := HO5.out.cellAt hbl j hj
              rw [intVs_get (rowZ_at _ hj)] at cj
              have hNj := HQ7.out j
              by_cases hf : out0[j]?.getD 0 = j
              · have hz := (HQ6.out j hj).2 hf
                rw [hz] at cj
                have HNx : Hid (numF out0 (j + 1) = numF out0 j + 1) := by show _ = _; rw [HQ8.out, hf]; simp
                have HPut : Hid (-1 - (numF out0 j : Int) = zF out0 (j + 1) j) := zF_put hf
                have HG0 : Hid (rowZ (zF out0 j) m = rowZ (zG out0 j (j + 1)) m) := rowZ_congr (fun k _ => (zG_start out0 j k).symm)
                rw [HG0.out] at HO5
                have g1 : IntKind.wrap .i64 ((j : Int) + 1) = (j : Int) + 1 := by rw [IntKind.wrap_i64]; omega
                clear hz hf HG0 hbl
                obtain ⟨N, hN⟩ : ∃ N, numF out0 j = N := ⟨_, rfl⟩
                have HNe := Lib.hid hN
                rw [hN] at hNj HNx HPut
                have g2 : IntKind.wrap .i64 (-1 - (N : Int)) = -1 - (N : Int) := by rw [IntKind.wrap_i64]; omega
                clear hN
                go_wp2
                try rw [tj]
                try rw [HNe.out]
                go_loopg [11] (m - (j + 1)) (fun g s11 wx => ∃ k : Nat, k + g = m ∧ j < k ∧ s11 = .int .i64 k ∧ Hid (Own wx (w.heap.size + 1) 3 (.slice (some ⟨w.heap.size + 1, 0, none⟩) m m) (intVs (rowZ (zG out0 j k) m))) ∧ Hid (MeshAt w (.slice A n c) (.slice B m d) wx))
                case atStart => exact ⟨j + 1, by omega, by omega, by go_num, HO5, HK5⟩
                case round =>
                  obtain ⟨k, hkg, hjk, rfl, HO6, HK6⟩ := hrel
                  clear HO5 HK5 cj fj
                  have hbl : (intVs (rowZ (zG out0 j k) m)).length = m := by rw [intVs_len, rowZ_len]
                  by_cases hk : k < m
                  · have tk : decide ((k : Int) < (m : Int)) = true := by simp; omega
                    have k2 : (k : Int) < (m : Int) := by omega
                    obtain ⟨ck, fk⟩ := HO6.out.cellAt hbl k hk
                    rw [intVs_get (rowZ_at _ hk)] at ck
                    by_cases hm2 : out0[k]?.getD 0 = j
                    · have hz := (z_mine out0 j k).2 hm2
                      rw [hz] at ck
                      have hst := HO6.out.stored hbl k (.int .i64 (-1 - (N : Int)))
                      rw [intVs_setM, rowZ_set (g := zG out0 j (k + 1)) hk (by rw [← HNe.out]; exact zG_put hjk hm2) (fun q _ hne => zG_same (Or.inl hne))] at hst
                      have HO7 := Lib.hid hst.1
                      have HK7 := Lib.hid (HK6.out.over hst.2)
                      clear hst hz hm2
                      go_wp2
                      go_roundg (gk - 1)
                      case measure => omega
                      case rel => exact ⟨k + 1, by omega, by omega, by go_num, HO7, HK7⟩
                    · have hz : ¬ zG out0 j k k = (j : Int) := fun h => hm2 ((z_mine out0 j k).1 h)
                      have tz : (zG out0 j k k == (j : Int)) = false := beq_eq_false_iff_ne.2 hz
                      have HO7 : Hid (Own wr (w.heap.size + 1) 3 (.slice (some ⟨w.heap.size + 1, 0, none⟩) m m) (intVs (rowZ (zG out0 j (k + 1)) m))) := by
                        have e : rowZ (zG out0 j k) m = rowZ (zG out0 j (k + 1)) m := rowZ_congr (fun q _ => zG_same (by
                          by_cases e : q = k
                          · exact Or.inr hm2
                          · exact Or.inl e))
                        rw [← e]
                        exact HO6.out
                      generalize zG out0 j k k = zz at *
                      clear hm2
                      go_wp2
                      go_roundg (gk - 1)
                      case measure => omega
                      case rel => exact ⟨k + 1, by omega, by omega, by go_num, HO7, HK6⟩
                  · have tk : decide ((k : Int) < (m : Int)) = false := by simp; omega
                    obtain rfl : k = m := by omega
                    obtain ⟨cj, fj⟩ := HO6.out.cellAt hbl j hj
                    rw [intVs_get (rowZ_at _ hj)] at cj
                    have hst := HO6.out.stored hbl j (.int .i64 (-1 - (N : Int)))
                    rw [intVs_setM, rowZ_set (g := zF out0 (j + 1)) hj HPut.out (fun q hq hne => HQ1.out j q hq hne)] at hst
                    have HO7 := Lib.hid hst.1
                    have HK7 := Lib.hid (HK6.out.over hst.2)
                    have g3 : IntKind.wrap .i64 ((N : Int) + 1) = (N : Int) + 1 := by rw [IntKind.wrap_i64]; omega
                    clear hst
                    go_wp2
                    go_roundg (k - (j + 1))
                    case measure => omega
                    case rel => exact ⟨j + 1, by omega, by go_num, by rw [HNx.out]; go_num, HO7, HK7⟩
              · have hz : ¬ zF out0 j j = (j : Int) := fun h => hf ((HQ6.out j hj).1 h)
                have tz : (zF out0 j j == (j : Int)) = false := beq_eq_false_iff_ne.2 hz
                have HNx : Hid (numF out0 (j + 1) = numF out0 j) := by show _ = _; rw [HQ8.out, beq_eq_false_iff_ne.2 hf]; simp
                have HO7 : Hid (Own wr (w.heap.size + 1) 3 (.slice (some ⟨w.heap.size + 1, 0, none⟩) m m) (intVs (rowZ (zF out0 (j + 1)) m))) := by
                  have e : rowZ (zF out0 j) m = rowZ (zF out0 (j + 1)) m := rowZ_congr (fun q hq => HQ2.out j q hf hq)
                  rw [← e]
                  exact HO5.out
                generalize zF out0 j j = zz at *
                clear hf
                go_wp2
                go_roundg (gk - 1)
                case measure => omega
                case rel => exact ⟨j + 1, by omega, by go_num, by rw [HNx.out], HO7, HK5⟩
            · have tj : decide ((j : Int) < (m : Int)) = false := by simp; omega
              obtain rfl : j = m := by omega
              have HG0 : Hid (rowZ (zF out0 j) j = rowZ (zH out0 j 0) j) := rowZ_congr (fun k _ => (zH_start out0 j k).symm)
              rw [HG0.out] at HO5
              clear HG0
              go_wp2
              go_loopg [12] j (fun g s12 wx => ∃ k : Nat, k + g = j ∧ s12 = .int .i64 k ∧ Hid (Own wx (w.heap.size + 1) 3 (.slice (some ⟨w.heap.size + 1, 0, none⟩) j j) (intVs (rowZ (zH out0 j k) j))) ∧ Hid (MeshAt w (.slice A n c) (.slice B j d) wx))
              case atStart => exact ⟨0, by omega, rfl, HO5, HK5⟩
              case round =>
                obtain ⟨k, hkg, rfl, HO6, HK6⟩ := hrel
                clear HO5 HK5
                have hbl : (intVs (rowZ (zH out0 j k) j)).length = j := by rw [intVs_len, rowZ_len]
                by_cases hk : k < j
                · have tk : decide ((k : Int) < (j : Int)) = true := by simp; omega
                  have k2 : (k : Int) < (j : Int) := by omega
                  obtain ⟨ck, fk⟩ := HO6.out.cellAt hbl k hk
                  rw [intVs_get (rowZ_at _ hk)] at ck
                  have hb : -1 - (j : Int) ≤ zH out0 j k k ∧ zH out0 j k k ≤ j := by
                    have e : zH out0 j k k = zF out0 j k := by unfold zH; rw [if_neg (by omega)]
                    rw [e]
                    exact HQ5.out j k hk
                  have hst := HO6.out.stored hbl k (.int .i64 (-1 - zH out0 j k k))
                  rw [intVs_setM, rowZ_set (g := zH out0 j (k + 1)) hk (HQ3.out k hk) (fun q _ hne => zH_same out0 hne)] at hst
                  have HO7 := Lib.hid hst.1
                  have HK7 := Lib.hid (HK6.out.over hst.2)
                  have g1 : IntKind.wrap .i64 (-1 - zH out0 j k k) = -1 - zH out0 j k k := by rw [IntKind.wrap_i64]; omega
                  generalize zH out0 j k k = zz at *
                  clear hst hb
                  go_wp2
                  go_roundg (gk - 1)
                  case measure => omega
                  case rel => exact ⟨k + 1, by omega, by go_num, HO7, HK7⟩
                · have tk : decide ((k : Int) < (j : Int)) = false := by simp; omega
                  obtain rfl : k = j := by omega
                  rw [← HQ4.out] at HO6
                  obtain ⟨A9, c9, hv, hh⟩ := HO6.out.has
                  have HE : Hid (Pieced w p (.returned (.slice (some ⟨w.heap.size + 1, 0, none⟩) k k)) wr) := by
                    rw [natVs_len] at hv hh
                    have hv2 : Value.slice (some ⟨w.heap.size + 1, 0, none⟩) k k = .slice A9 p.length c9 := hv
                    cases hv2
                    exact ⟨_, _, rfl, hh, HK6.out.bel, fun bb off e => by cases e; omega⟩
                  clear hv hh
                  go_wp2
                  go_ret
                  exact HE.out
end Go.Proofs.YtckjmnbglbegmaaDoor
