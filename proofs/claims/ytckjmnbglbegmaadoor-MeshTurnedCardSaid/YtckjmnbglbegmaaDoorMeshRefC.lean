/- lapidaryref10: one. -/
import Derived.Test.YtckjmnbglbegmaaDoorMeshRefB
namespace Go.Proofs.YtckjmnbglbegmaaDoor
open Go.RowKit

theorem elemMi : Elem Tryd.prog 34 3 8 := by
  have h : (Tryd.prog.info? 3).map (fun i => (i.zero, i.size, i.bytes)) = some (some (.int .i64 0), 1, 8) := by kernel_rfl
  obtain ⟨i, h1, h2, h3, h4⟩ := info_parts h
  exact ⟨Tryd.underlying34, i, _, h1, h2, h3, h4, rfl⟩
theorem elemMb : Elem Tryd.prog 76 4 1 := by
  have h : (Tryd.prog.info? 4).map (fun i => (i.zero, i.size, i.bytes)) = some (some (.bool false), 1, 1) := by kernel_rfl
  obtain ⟨i, h1, h2, h3, h4⟩ := info_parts h
  exact ⟨Tryd.underlying76, i, _, h1, h2, h3, h4, rfl⟩
def natVs (l : List Nat) : List Value := intVs (l.map fun (k : Nat) => (k : Int))
theorem natVs_len (l : List Nat) : (natVs l).length = l.length := by unfold natVs; rw [intVs_len, List.length_map]
theorem natVs_at {l : List Nat} {j : Nat} (h : j < l.length) : (natVs l)[j]? = some (.int .i64 (l[j] : Int)) := by unfold natVs; rw [intVs_at (by rw [List.length_map]; exact h), List.getElem_map]
theorem natVs_app (l : List Nat) (k : Nat) : natVs l ++ intVs [(k : Int)] = natVs (l ++ [k]) := by unfold natVs; rw [← intVs_app, List.map_append]; rfl
def boolVs (l : List Bool) : List Value := l.map Value.bool
theorem boolVs_len (l : List Bool) : (boolVs l).length = l.length := List.length_map ..
theorem boolVs_at {l : List Bool} {j : Nat} {b : Bool} (h : l[j]? = some b) : (boolVs l)[j]? = some (.bool b) := by unfold boolVs; rw [List.getElem?_map, h]; rfl
theorem boolVs_set (l : List Bool) (j : Nat) (b : Bool) : (boolVs l).set j (.bool b) = boolVs (l.set j b) := by unfold boolVs; rw [List.map_set]
theorem has_ways (x y z v : Int) : ((x == v) = true ∧ hasV v (x, y, z)) ∨ ((x == v) = false ∧ (y == v) = true ∧ hasV v (x, y, z)) ∨ ((x == v) = false ∧ (y == v) = false ∧ (z == v) = true ∧ hasV v (x, y, z)) ∨ ((x == v) = false ∧ (y == v) = false ∧ (z == v) = false ∧ ¬ hasV v (x, y, z)) := by
  unfold hasV
  simp only
  by_cases h1 : x = v
  · exact Or.inl ⟨beq_iff_eq.2 h1, Or.inl h1⟩
  · by_cases h2 : y = v
    · exact Or.inr (Or.inl ⟨beq_eq_false_iff_ne.2 h1, beq_iff_eq.2 h2, Or.inr (Or.inl h2)⟩)
    · by_cases h3 : z = v
      · exact Or.inr (Or.inr (Or.inl ⟨beq_eq_false_iff_ne.2 h1, beq_eq_false_iff_ne.2 h2, beq_iff_eq.2 h3, Or.inr (Or.inr h3)⟩))
      · exact Or.inr (Or.inr (Or.inr ⟨beq_eq_false_iff_ne.2 h1, beq_eq_false_iff_ne.2 h2, beq_eq_false_iff_ne.2 h3, by rintro (h | h | h) <;> contradiction⟩))
set_option maxRecDepth 100000 in
set_option maxHeartbeats 4000000 in
theorem ref10one_any (A : Option Addr) (n c : Nat) (l : List P3) (v : Int) (R : Bool) (w : World) (h : HasK 3 w A n c (p3Cells l)) (hn : n ≤ 100000) (hT : l.Nodup) (hR : R = true ↔ Fan l v) : Calls Tryd.prog 32 #[.slice A n c, .int .i64 v] w fun e w' => e = .returned (.bool R) ∧ Below w.heap.size w w' := by
  have HL : Hid (l.length = n) := by have := h.len; rw [p3Cells_len] at this; show _ = _; omega
  have HH := Lib.hid h
  have HT := Lib.hid hT
  have HR := Lib.hid hR
  clear h hT hR
  go_enter Tryd.func32, Tryd.ntmps32
  go_wp2
  go_loopg [5, 6] n (fun g s5 s6 wx => ∃ (i : Nat) (at_ : List Nat), i + g = n ∧ s6 = .int .i64 i ∧ at_.length ≤ i ∧ Hid (Own wx w.heap.size 3 s5 (natVs at_)) ∧ Hid (Below w.heap.size w wx) ∧ Hid (AtTo l v i at_))
  case atStart => exact ⟨0, [], by omega, rfl, by simp, Own.nil _ _ _, Below.refl _ _, AtTo.nil l v⟩
  case round =>
    obtain ⟨i, at_, hig, rfl, hai, HO, HB, HA⟩ := hrel
    by_cases hi : i < n
    · have ti : decide ((i : Int) < (n : Int)) = true := by simp; omega
      have i2 : (i : Int) < (n : Int) := by omega
      have hil : i < l.length := by rw [HL.out]; exact hi
      obtain ⟨b, off, rfl, hlt, _⟩ := (HH.out.kept HB.out).spot (by omega)
      obtain ⟨c0, c1, c2⟩ := p3_at (HH.out.kept HB.out) hil
      have HY : Hid (hasV v l[i] → AtTo l v (i + 1) (at_ ++ [i])) := fun hv => HA.out.take hil hv
      have HN : Hid (¬ hasV v l[i] → AtTo l v (i + 1) at_) := fun hv => HA.out.skip hil hv
      generalize l[i] = t at *
      obtain ⟨x, y, z⟩ := t
      simp only at c0 c1 c2
      clear hil hlt
      have hz : w.heap.size ≤ wr.heap.size := HB.out.size
      rcases has_ways x y z v with ⟨e1, hv⟩ | ⟨e1, e2, hv⟩ | ⟨e1, e2, e3, hv⟩ | ⟨e1, e2, e3, hv⟩
      iterate 3
        · have HA2 := Lib.hid (HY.out hv)
          clear hv HY HN
          go_wp2_with (at_builtin
                       refine wpList_join rfl _ _ 34 rfl elemMi w.heap.size _ (natVs at_) rfl (HO.out.alloc _) _ 1 1 (intVs [(i : Int)]) rfl (Has.one _ _ _) (intVs_one _) (by rw [natVs_len]; omega) (by decide) (Nat.le_trans hz (new_alloc (Below.refl _ wr) _).size) ?_
                       intro v5 w5 hown5 hbel5
                       rw [natVs_app] at hown5
                       have HO5 := Lib.hid hown5
                       have HB5 := Lib.hid ((HB.out.alloc hz _).trans hbel5)
                       clear hown5 hbel5)
          go_roundg (gk - 1)
          case measure => omega
          case rel => exact ⟨i + 1, at_ ++ [i], by omega, by go_num, by simp; omega, HO5, HB5, HA2⟩
      · have HA2 := Lib.hid (HN.out hv)
        clear hv HY HN
        go_wp2
        go_roundg (gk - 1)
        case measure => omega
        case rel => exact ⟨i + 1, at_, by omega, by go_num, by omega, HO, HB, HA2⟩
    · have ti : decide ((i : Int) < (n : Int)) = false := by simp; omega
      have hin : i = l.length := by rw [HL.out]; omega
      have HAt : Hid (AtTo l v l.length at_) := by have := HA.out; rw [hin] at this; exact this
      clear HA hin
      obtain ⟨A5, c5, hv5, hh5⟩ := HO.out.has
      rw [natVs_len] at hv5 hh5
      obtain ⟨K, hK⟩ : ∃ K, at_.length = K := ⟨_, rfl⟩
      rw [hK] at hv5 hh5 hai
      subst hv5
      have HHa := Lib.hid hh5
      have HKl := Lib.hid hK
      clear hh5 hK
      by_cases hK0 : K = 0
      · have HE : Hid (R = false) := by
          show _ = _
          cases hRR : R with
          | false => rfl
          | true =>
            have h1 := HR.out.1 hRR
            have h2 : at_ = [] := List.eq_nil_of_length_eq_zero (by rw [HKl.out]; exact hK0)
            have h3 := HAt.out
            rw [h2] at h3
            exact absurd h1 (fan_none h3.is)
        have tz : ((K : Int) == 0) = true := beq_iff_eq.2 (by omega)
        go_wp2
        go_ret
        exact ⟨by rw [HE.out]; rfl, HB.out⟩
      · have tz : ((K : Int) == 0) = false := beq_eq_false_iff_ne.2 (by omega)
        have hz : w.heap.size ≤ wr.heap.size := HB.out.size
        go_wp2_with (at_make
                     refine wpList_made rfl _ _ 76 rfl elemMb (.bool false) (by kernel_rfl) rfl wr.heap.size .i64 .i64 _ _ K rfl rfl (by first | rfl | omega) (by first | rfl | omega) (by omega) (by decide) (Nat.le_refl _) ?_
                     intro w1 hown1 hbel1
                     obtain ⟨hz0, hf0⟩ := hown1.cellAt (by rw [List.length_replicate]) 0 (by omega)
                     rw [List.getElem?_replicate, if_pos (show 0 < K by omega)] at hz0
                     have hst := hown1.stored (by rw [List.length_replicate]) 0 (.bool true)
                     have HO1 := Lib.hid hst.1
                     have HB1 := Lib.hid (hbel1.trans hst.2)
                     clear hown1 hbel1 hst)
        have ha := HAt.out.is
        have HI1 : Hid (OneInv l v at_ ha ((List.replicate K false).set 0 true) 1) := by
          have := OneInv.start ha (by have := HKl.out; omega)
          rw [HKl.out] at this
          exact this
        have hrep : (List.replicate K (Value.bool false)).set 0 (.bool true) = boolVs ((List.replicate K false).set 0 true) := by
          rw [← boolVs_set]; unfold boolVs; rw [List.map_replicate]
        rw [hrep] at HO1
        clear hrep hz0 hf0
        generalize wr = V at *
        have HVs : Hid (w.heap.size ≤ V.heap.size) := hz
        obtain ⟨ba, oa, rfl, hlta, _⟩ := HHa.out.spot (by omega)
        generalize (List.replicate K false).set 0 true = sn0 at *
        generalize w1.setCell ⟨V.heap.size, 0, none⟩ (.bool true) = w2 at *
        go_loopg [8, 9] K (fun g s8 s9 wx => ∃ (nn : Nat) (mr : Bool) (sn : List Bool), s8 = .int .i64 nn ∧ s9 = .bool mr ∧ (g = if mr then K + 1 - nn else 0) ∧ Hid (Own wx V.heap.size 4 (.slice (some ⟨V.heap.size, 0, none⟩) K K) (boolVs sn)) ∧ Hid (Below V.heap.size V wx) ∧ Hid (OneInv l v at_ ha sn nn) ∧ Hid (mr = false → ∀ i, i < K → sn[i]? = some true ∨ Shy l v at_ ha sn i K))
        case atStart => exact ⟨1, true, sn0, rfl, rfl, by simp, HO1, HB1, HI1, fun h => by cases h⟩
        case round =>
          obtain ⟨nn, mr, sn, rfl, rfl, hg, HO2, HB2, HI2, HC2⟩ := hrel
          clear HO1 HB1 HI1
          cases mr with
          | false =>
            have HE : Hid (nn = K ↔ R = true) := by
              have h1 := HI2.out.done HT.out (by rw [HKl.out]; exact HC2.out rfl)
              rw [HKl.out] at h1
              exact h1.trans HR.out.symm
            have hle : nn ≤ K := by have h1 := HI2.out.le; rw [HKl.out] at h1; exact h1
            by_cases hq : nn = K
            · have hRR : R = true := HE.out.1 hq
              have tq : ((nn : Int) == (K : Int)) = true := beq_iff_eq.2 (by omega)
              go_wp2
              go_ret
              exact ⟨by first | rfl | (rw [hRR]; rfl), HB.out.trans (HB2.out.mono HVs.out)⟩
            · have hRR : R = false := by
                cases hRx : R with
                | false => rfl
                | true => exact absurd (HE.out.2 hRx) hq
              have tq : ((nn : Int) == (K : Int)) = false := beq_eq_false_iff_ne.2 (by omega)
              go_wp2
              go_ret
              exact ⟨by first | rfl | (rw [hRR]; rfl), HB.out.trans (HB2.out.mono HVs.out)⟩
          | true =>
            have hgv : gk = K + 1 - nn := by simpa using hg
            clear hg HC2
            go_wp2
            try rw [ti]
            try rw [tz]
            go_loopg [8, 9, 10] K (fun g s8 s9 s10 wx => ∃ (i nn2 : Nat) (mr2 : Bool) (sn2 : List Bool), i + g = K ∧ s10 = .int .i64 i ∧ s8 = .int .i64 nn2 ∧ s9 = .bool mr2 ∧ nn ≤ nn2 ∧ (mr2 = true → nn < nn2) ∧ Hid (Own wx V.heap.size 4 (.slice (some ⟨V.heap.size, 0, none⟩) K K) (boolVs sn2)) ∧ Hid (Below V.heap.size V wx) ∧ Hid (OneInv l v at_ ha sn2 nn2) ∧ Hid (mr2 = false → ∀ j, j < i → sn2[j]? = some true ∨ Shy l v at_ ha sn2 j K))
            case atStart => exact ⟨0, nn, false, sn, by omega, rfl, rfl, rfl, Nat.le_refl _, (fun h => (by cases h)), HO2, HB2, HI2, fun _ j hj => absurd hj (by omega)⟩
            case round =>
              obtain ⟨i, nn2, mr2, sn2, hig2, rfl, rfl, rfl, hge, hgt, HO3, HB3, HI3, HC3⟩ := hrel
              clear HO2 HB2 HI2
              by_cases hi3 : i < K
              · have t3 : decide ((i : Int) < (K : Int)) = true := by simp; omega
                have i3 : (i : Int) < (K : Int) := by omega
                go_wp2
                try rw [ti]
                try rw [tz]
                try rw [t3]
                go_loopg [8, 9, 11] K (fun g s8 s9 s11 wx => ∃ (k nn3 : Nat) (mr3 : Bool) (sn3 : List Bool), k + g = K ∧ s11 = .int .i64 k ∧ s8 = .int .i64 nn3 ∧ s9 = .bool mr3 ∧ nn ≤ nn3 ∧ (mr3 = true → nn < nn3) ∧ Hid (Own wx V.heap.size 4 (.slice (some ⟨V.heap.size, 0, none⟩) K K) (boolVs sn3)) ∧ Hid (Below V.heap.size V wx) ∧ Hid (OneInv l v at_ ha sn3 nn3) ∧ Hid (mr3 = false → (∀ j, j < i → sn3[j]? = some true ∨ Shy l v at_ ha sn3 j K) ∧ (sn3[i]? = some true ∨ Shy l v at_ ha sn3 i k)))
                case atStart => exact ⟨0, nn2, mr2, sn2, by omega, rfl, rfl, rfl, hge, hgt, HO3, HB3, HI3, fun h => ⟨HC3.out h, Or.inr (fun k _ _ hk => absurd hk (by omega))⟩⟩
                case round =>
                  obtain ⟨k, nn3, mr3, sn3, hkg, rfl, rfl, rfl, hge4, hgt4, HO4, HB4, HI4, HC4⟩ := hrel
                  clear HO3 HB3 HI3 HC3
                  have hln : sn3.length = K := HI4.out.len.trans HKl.out
                  have hbl : (boolVs sn3).length = K := by rw [boolVs_len, hln]
                  obtain ⟨si, hsi⟩ : ∃ b, sn3[i]? = some b := ⟨_, List.getElem?_eq_getElem (by omega)⟩
                  obtain ⟨ci, fi⟩ := HO4.out.cellAt hbl i hi3
                  rw [boolVs_at hsi] at ci
                  by_cases hk3 : k < K
                  · have t4 : decide ((k : Int) < (K : Int)) = true := by simp; omega
                    have k3 : (k : Int) < (K : Int) := by omega
                    cases si with
                    | true =>
                      have HC5 : Hid (mr3 = false → ∀ j, j < i + 1 → sn3[j]? = some true ∨ Shy l v at_ ha sn3 j K) := fun h j hj => by
                        by_cases e : j = i
                        · rw [e]; exact Or.inl hsi
                        · exact (HC4.out h).1 j (by omega)
                      clear HC4
                      go_wp2
                      go_roundg (K - (i + 1))
                      case measure => omega
                      case rel => exact ⟨i + 1, nn3, mr3, sn3, by omega, by go_num, rfl, rfl, hge4, hgt4, HO4, HB4, HI4, HC5⟩
                    | false =>
                      obtain ⟨sk, hsk⟩ : ∃ b, sn3[k]? = some b := ⟨_, List.getElem?_eq_getElem (by omega)⟩
                      obtain ⟨ck, fk⟩ := HO4.out.cellAt hbl k hk3
                      rw [boolVs_at hsk] at ck
                      cases sk with
                      | false =>
                        have HC5 : Hid (mr3 = false → (∀ j, j < i → sn3[j]? = some true ∨ Shy l v at_ ha sn3 j K) ∧ (sn3[i]? = some true ∨ Shy l v at_ ha sn3 i (k + 1))) := fun h => ⟨(HC4.out h).1, Or.inr (fun m hm hmk hl hs hj => by
                          by_cases e : m = k
                          · subst e; rw [hsk] at hs; cases hs
                          · rcases (HC4.out h).2 with h2 | h2
                            · rw [hsi] at h2; cases h2
                            · exact h2 m hm hmk (by omega) hs hj)⟩
                        clear HC4 hsi hsk
                        go_wp2
                        go_region
                        all_goals
                          go_wp2
                          go_roundg (gk - 1)
                          case measure => omega
                          case rel => exact ⟨k + 1, nn3, mr3, sn3, by omega, by go_num, rfl, rfl, hge4, hgt4, Own.keep HO4.out (Below.refl _ _).drew, HB4.out.drew, HI4, HC5⟩
                      | true =>
                        have hiA : i < at_.length := by have := HKl.out; omega
                        have hkA : k < at_.length := by have := HKl.out; omega
                        obtain ⟨hli, _⟩ := ha.has i hiA
                        obtain ⟨hlk, _⟩ := ha.has k hkA
                        have HCa : Hid (∀ W, Below V.heap.size V W → W.cell? ⟨ba, oa + i, none⟩ = some (.int .i64 (at_[i] : Int)) ∧ W.cell? ⟨ba, oa + k, none⟩ = some (.int .i64 (at_[k] : Int))) := fun W hW => by
                          obtain ⟨_, _, e, _, hc⟩ := (HHa.out.kept hW).spot (by omega)
                          cases e
                          exact ⟨hc _ _ (natVs_at hiA), hc _ _ (natVs_at hkA)⟩
                        have hnp : 0 < n := by have := HL.out; omega
                        obtain ⟨b, off, rfl, hlt, _⟩ := HH.out.spot hnp
                        have HCl : Hid (∀ W, Below w.heap.size w W → (W.cell? ⟨b, off + at_[i] * 3, none⟩ = some (.int .i64 l[at_[i]].1) ∧ W.cell? ⟨b, off + at_[i] * 3 + 1, none⟩ = some (.int .i64 l[at_[i]].2.1) ∧ W.cell? ⟨b, off + at_[i] * 3 + 2, none⟩ = some (.int .i64 l[at_[i]].2.2)) ∧ (W.cell? ⟨b, off + at_[k] * 3, none⟩ = some (.int .i64 l[at_[k]].1) ∧ W.cell? ⟨b, off + at_[k] * 3 + 1, none⟩ = some (.int .i64 l[at_[k]].2.1) ∧ W.cell? ⟨b, off + at_[k] * 3 + 2, none⟩ = some (.int .i64 l[at_[k]].2.2))) := fun W hW => ⟨p3_at (HH.out.kept hW) hli, p3_at (HH.out.kept hW) hlk⟩
                        have HPut : Hid (joinedB v l[at_[i]] l[at_[k]] = true → OneInv l v at_ ha (sn3.set i true) (nn3 + 1)) := fun h => HI4.out.put hiA hkA hsi hsk (joinedB_iff.1 h)
                        have HShy : Hid (joinedB v l[at_[i]] l[at_[k]] = false → mr3 = false → (∀ j, j < i → sn3[j]? = some true ∨ Shy l v at_ ha sn3 j K) ∧ (sn3[i]? = some true ∨ Shy l v at_ ha sn3 i (k + 1))) := fun hjf h => ⟨(HC4.out h).1, Or.inr (fun m hm hmk hl2 hs hj => by
                          by_cases e : m = k
                          · subst e
                            have := joinedB_iff.2 hj
                            rw [hjf] at this
                            cases this
                          · rcases (HC4.out h).2 with h2 | h2
                            · rw [hsi] at h2; cases h2
                            · exact h2 m hm hmk (by omega) hs hj)⟩
                        have hni : (at_[i] : Int) < (n : Int) := by have := HL.out; omega
                        have hnk : (at_[k] : Int) < (n : Int) := by have := HL.out; omega
                        clear HC4
                        have HCd : Hid (∀ W, Below wr.heap.size wr W → W.cell? ⟨V.heap.size, k, none⟩ = some (.bool true) ∧ W.cell? ⟨V.heap.size, i, none⟩ = some (.bool false)) := fun W hW => by
                          have h1 := Own.keep HO4.out hW
                          have e1 := (h1.cellAt hbl k hk3).1
                          have e2 := (h1.cellAt hbl i hi3).1
                          rw [boolVs_at hsk] at e1
                          rw [boolVs_at hsi] at e2
                          exact ⟨e1, e2⟩
                        generalize l[at_[i]] = ta at *
                        generalize l[at_[k]] = tb at *
                        obtain ⟨x1, y1, z1⟩ := ta
                        obtain ⟨x2, y2, z2⟩ := tb
                        simp only at HCl
                        generalize at_[i] = mi at *
                        generalize at_[k] = mk at *
                        have HS : Hid (∀ W, Below wr.heap.size wr W → W.cell? ⟨V.heap.size, k, none⟩ = some (.bool true) ∧ W.cell? ⟨ba, oa + i, none⟩ = some (.int .i64 (mi : Int)) ∧ W.cell? ⟨ba, oa + k, none⟩ = some (.int .i64 (mk : Int)) ∧ W.cell? ⟨b, off + mi * 3, none⟩ = some (.int .i64 x1) ∧ W.cell? ⟨b, off + mi * 3 + 1, none⟩ = some (.int .i64 y1) ∧ W.cell? ⟨b, off + mi * 3 + 2, none⟩ = some (.int .i64 z1) ∧ W.cell? ⟨b, off + mk * 3, none⟩ = some (.int .i64 x2) ∧ W.cell? ⟨b, off + mk * 3 + 1, none⟩ = some (.int .i64 y2) ∧ W.cell? ⟨b, off + mk * 3 + 2, none⟩ = some (.int .i64 z2)) := fun W hW => by
                          have hV := new_call HB4.out hW
                          have hw := HB.out.trans (hV.mono HVs.out)
                          have q := HCl.out W hw
                          exact ⟨(HCd.out W hW).1, (HCa.out W hV).1, (HCa.out W hV).2, q.1.1, q.1.2.1, q.1.2.2, q.2.1, q.2.2.1, q.2.2.2⟩
                        have HJo := Lib.hid (ref10joined_any x1 y1 z1 x2 y2 z2 v wr.drew)
                        have HBv0 : Hid (Below wr.heap.size wr wr.drew) := (Below.refl _ _).drew
                        generalize joinedB v (x1, y1, z1) (x2, y2, z2) = jo at *
                        clear hli hlk hiA hkA hsi hsk hlt
                        go_wp2_with (with_reducible fail)
                        go_region_held3 (fun W => W.cell? ⟨V.heap.size, k, none⟩ = some (.bool true) ∧ W.cell? ⟨ba, oa + i, none⟩ = some (.int .i64 (mi : Int)) ∧ W.cell? ⟨ba, oa + k, none⟩ = some (.int .i64 (mk : Int)) ∧ W.cell? ⟨b, off + mi * 3, none⟩ = some (.int .i64 x1) ∧ W.cell? ⟨b, off + mi * 3 + 1, none⟩ = some (.int .i64 y1) ∧ W.cell? ⟨b, off + mi * 3 + 2, none⟩ = some (.int .i64 z1) ∧ W.cell? ⟨b, off + mk * 3, none⟩ = some (.int .i64 x2) ∧ W.cell? ⟨b, off + mk * 3 + 1, none⟩ = some (.int .i64 y2) ∧ W.cell? ⟨b, off + mk * 3 + 2, none⟩ = some (.int .i64 z2)) (first | (with_reducible exact HS.out _ HBv1.out) | (with_reducible exact HS.out _ HBv0.out)) (first
                          | (go_at_call 49; (with_reducible refine HJo.out.mono ?_); rintro e v1 ⟨rfl, hb1⟩; have HBv1 := Lib.hid (new_call HBv0.out hb1); clear hb1))
                        all_goals
                          have HB5 := Lib.hid (new_call HB4.out HBv1.out)
                          have HO5 := Lib.hid (Own.keep HO4.out HBv1.out)
                          cases jo with
                          | false =>
                            have HC5 := Lib.hid (HShy.out rfl)
                            clear HShy HPut
                            go_wp2
                            go_roundg (gk - 1)
                            case measure => omega
                            case rel => exact ⟨k + 1, nn3, mr3, sn3, by omega, by go_num, rfl, rfl, hge4, hgt4, HO5, HB5, HI4, HC5⟩
                          | true =>
                            have HI5 := Lib.hid (HPut.out rfl)
                            clear HShy HPut
                            have cw := (HCd.out _ HBv1.out).2
                            have fw := (HO5.out.cellAt hbl i hi3).2
                            have hst := HO5.out.stored hbl i (.bool true)
                            rw [boolVs_set] at hst
                            have HO6 := Lib.hid hst.1
                            have HB6 := Lib.hid (HB5.out.trans hst.2)
                            have hle : nn3 ≤ K := by have h1 := HI4.out.le; rw [HKl.out] at h1; exact h1
                            clear hst
                            go_wp2
                            go_roundg (gk - 1)
                            case measure => omega
                            case rel => exact ⟨k + 1, nn3 + 1, true, sn3.set i true, by omega, by go_num, by go_num, rfl, by omega, fun _ => by omega, HO6, HB6, HI5, fun h => by cases h⟩
                  · have t4 : decide ((k : Int) < (K : Int)) = false := by simp; omega
                    have HC5 : Hid (mr3 = false → ∀ j, j < i + 1 → sn3[j]? = some true ∨ Shy l v at_ ha sn3 j K) := fun h j hj => by
                      by_cases e : j = i
                      · rw [e]
                        rcases (HC4.out h).2 with h2 | h2
                        · exact Or.inl h2
                        · exact Or.inr (fun m hm hmk hl2 hs hj2 => h2 m hm hmk (by omega) hs hj2)
                      · exact (HC4.out h).1 j (by omega)
                    clear HC4
                    go_wp2
                    go_roundg (K - (i + 1))
                    case measure => omega
                    case rel => exact ⟨i + 1, nn3, mr3, sn3, by omega, by go_num, rfl, rfl, hge4, hgt4, HO4, HB4, HI4, HC5⟩
              · have t3 : decide ((i : Int) < (K : Int)) = false := by simp; omega
                have hle : nn2 ≤ K := by have h1 := HI3.out.le; rw [HKl.out] at h1; exact h1
                have HC5 : Hid (mr2 = false → ∀ j, j < K → sn2[j]? = some true ∨ Shy l v at_ ha sn2 j K) := fun h j hj => HC3.out h j (by omega)
                clear HC3
                go_wp2
                cases mr2 with
                | true =>
                  have hgt2 := hgt rfl
                  go_roundg (K + 1 - nn2)
                  case measure => omega
                  case rel => exact ⟨nn2, true, sn2, rfl, rfl, by simp, HO3, HB3, HI3, HC5⟩
                | false =>
                  go_roundg 0
                  case measure => omega
                  case rel => exact ⟨nn2, false, sn2, rfl, rfl, by simp, HO3, HB3, HI3, HC5⟩
end Go.Proofs.YtckjmnbglbegmaaDoor
