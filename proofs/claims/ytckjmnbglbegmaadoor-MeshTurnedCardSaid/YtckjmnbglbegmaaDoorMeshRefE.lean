/- lapidaryref10: Same, SameEdges. -/
import Derived.Test.YtckjmnbglbegmaaDoorMeshRefD
import Derived.ChangeKeysEq
namespace Go.Proofs.YtckjmnbglbegmaaDoor
open Go.RowKit

/-- Edges in rows: two cells each. -/
def e2Cells (l : List (Int × Int)) : List Value := l.flatMap fun p => [.int .i64 p.1, .int .i64 p.2]
theorem e2Cells_len (l : List (Int × Int)) : (e2Cells l).length = l.length * 2 := by
  induction l with
  | nil => rfl
  | cons p l ih => simp only [e2Cells, List.flatMap_cons, List.length_append, List.length_cons, List.length_nil] at *; omega
theorem e2Cells_app (l r : List (Int × Int)) : e2Cells (l ++ r) = e2Cells l ++ e2Cells r := by simp [e2Cells]
theorem e2Cells_at {l : List (Int × Int)} {i : Nat} (h : i < l.length) : (e2Cells l)[i * 2]? = some (.int .i64 l[i].1) ∧ (e2Cells l)[i * 2 + 1]? = some (.int .i64 l[i].2) := by
  induction l generalizing i with
  | nil => simp at h
  | cons q l ih =>
    have e : e2Cells (q :: l) = .int .i64 q.1 :: .int .i64 q.2 :: e2Cells l := by simp [e2Cells]
    cases i with
    | zero => rw [e]; simp
    | succ i =>
      have := ih (i := i) (by simpa using h)
      rw [e, show (i + 1) * 2 = i * 2 + 1 + 1 by omega]
      simpa using this
theorem e2Cells_one (l : List (Int × Int)) : ∀ u ∈ e2Cells l, u.oneCell' = true := by
  intro u hu
  obtain ⟨p, _, hu⟩ := List.mem_flatMap.1 hu
  simp at hu
  rcases hu with rfl | rfl <;> rfl
theorem elemE2 : ElemK Tryd.prog 31 48 2 16 := by
  have h : (Tryd.prog.info? 48).map (fun i => (i.zero, i.size, i.bytes)) = some (some (.agg #[.int .i64 0, .int .i64 0]), 2, 16) := by kernel_rfl
  obtain ⟨i, h1, h2, h3, h4⟩ := info_parts h
  exact ⟨Tryd.underlying31, i, _, h1, h2, h3, h4, rfl⟩
theorem e2_at {w : World} {b off n c : Nat} {l : List (Int × Int)} (h : HasK 2 w (some ⟨b, off, none⟩) n c (e2Cells l)) {i : Nat} (hi : i < l.length) : w.cell? ⟨b, off + i * 2, none⟩ = some (.int .i64 l[i].1) ∧ w.cell? ⟨b, off + i * 2 + 1, none⟩ = some (.int .i64 l[i].2) := by
  have hn : 0 < n := by
    have := h.len
    rw [e2Cells_len] at this
    omega
  obtain ⟨_, _, e, _, hc⟩ := h.spot hn
  cases e
  obtain ⟨h1, h2⟩ := e2Cells_at hi
  exact ⟨hc _ _ h1, by rw [Nat.add_assoc]; exact hc _ _ h2⟩
theorem run_eq2 (x y a b : Int) (W : World) : (Op.equalIn 10000 48 (.agg #[.int .i64 x, .int .i64 y]) (.agg #[.int .i64 a, .int .i64 b])).run Tryd.prog W = .ok ((x == a) && (y == b)) W := by
  have h : (Tryd.prog.info? 3).map (fun i => (i.zero, i.size, i.bytes)) = some (some (.int .i64 0), 1, 8) := by kernel_rfl
  obtain ⟨i, h1, h2, h3, h4⟩ := info_parts h
  rw [show (10000 : Nat) = 9999 + 1 from rfl, run_equalIn_array W 9999 _ _ Tryd.underlying48 h1]
  have hc : Tryd.prog.cellsOf 3 = 1 := by kernel_rfl
  rw [hc]
  show (Op.eqItems 9999 3 1 _ _ [0, 1]).run Tryd.prog W = _
  unfold Op.eqItems
  go_simp
  by_cases e0 : x = a
  · rw [if_pos e0]
    subst e0
    unfold Op.eqItems
    go_simp
    by_cases e1 : y = b
    · rw [if_pos e1]
      subst e1
      unfold Op.eqItems
      simp
    · rw [if_neg e1]
      simp [beq_eq_false_iff_ne.2 e1]
  · rw [if_neg e0]
    simp [beq_eq_false_iff_ne.2 e0]
theorem run_eq3 (x y z a b c : Int) (W : World) : (Op.equalIn 10000 46 (.agg #[.int .i64 x, .int .i64 y, .int .i64 z]) (.agg #[.int .i64 a, .int .i64 b, .int .i64 c])).run Tryd.prog W = .ok ((x == a) && (y == b) && (z == c)) W := by
  have h : (Tryd.prog.info? 3).map (fun i => (i.zero, i.size, i.bytes)) = some (some (.int .i64 0), 1, 8) := by kernel_rfl
  obtain ⟨i, h1, h2, h3, h4⟩ := info_parts h
  rw [show (10000 : Nat) = 9999 + 1 from rfl, run_equalIn_array W 9999 _ _ Tryd.underlying46 h1]
  have hc : Tryd.prog.cellsOf 3 = 1 := by kernel_rfl
  rw [hc]
  show (Op.eqItems 9999 3 1 _ _ [0, 1, 2]).run Tryd.prog W = _
  unfold Op.eqItems
  go_simp
  by_cases e0 : x = a
  · rw [if_pos e0]
    subst e0
    unfold Op.eqItems
    go_simp
    by_cases e1 : y = b
    · rw [if_pos e1]
      subst e1
      unfold Op.eqItems
      go_simp
      by_cases e2 : z = c
      · rw [if_pos e2]
        subst e2
        unfold Op.eqItems
        simp
      · rw [if_neg e2]
        simp [beq_eq_false_iff_ne.2 e2]
    · rw [if_neg e1]
      simp [beq_eq_false_iff_ne.2 e1]
  · rw [if_neg e0]
    simp [beq_eq_false_iff_ne.2 e0]
theorem neq_three {x y z a b c : Int} (h : ¬ (x, y, z) = (a, b, c)) : (x == a) = false ∨ ((x == a) = true ∧ (y == b) = false) ∨ ((x == a) = true ∧ (y == b) = true ∧ (z == c) = false) := by
  by_cases h1 : x = a
  · by_cases h2 : y = b
    · by_cases h3 : z = c
      · subst h1 h2 h3; exact absurd rfl h
      · exact Or.inr (Or.inr ⟨beq_iff_eq.2 h1, beq_iff_eq.2 h2, beq_eq_false_iff_ne.2 h3⟩)
    · exact Or.inr (Or.inl ⟨beq_iff_eq.2 h1, beq_eq_false_iff_ne.2 h2⟩)
  · exact Or.inl (beq_eq_false_iff_ne.2 h1)
/-- As far as one has looked the same. -/
theorem take_same {α : Type} {l r : List α} {i : Nat} (h : l.take i = r.take i) (hl : i < l.length) (hr : i < r.length) (he : l[i] = r[i]) : l.take (i + 1) = r.take (i + 1) := by
  rw [List.take_succ_eq_append_getElem hl, List.take_succ_eq_append_getElem hr, h, he]
theorem take_whole {α : Type} {l r : List α} {i : Nat} (h : l.take i = r.take i) (hl : l.length ≤ i) (hr : r.length ≤ i) : l = r := by
  rw [List.take_of_length_le hl, List.take_of_length_le hr] at h; exact h
set_option maxRecDepth 100000 in
set_option maxHeartbeats 1600000 in
theorem ref10SameEdges_any (A : Option Addr) (n c : Nat) (l : List (Int × Int)) (B : Option Addr) (m d : Nat) (r : List (Int × Int)) (w : World) (hl : HasK 2 w A n c (e2Cells l)) (hr : HasK 2 w B m d (e2Cells r)) (hn : n ≤ 100000000) (_ : m ≤ 100000000) : Calls Tryd.prog 21 #[.slice A n c, .slice B m d] w fun e w' => e = .returned (.bool (decide (l = r))) ∧ Below w.heap.size w w' := by
  have HL : Hid (l.length = n) := by have := hl.len; rw [e2Cells_len] at this; show _ = _; omega
  have HM : Hid (r.length = m) := by have := hr.len; rw [e2Cells_len] at this; show _ = _; omega
  have HA := Lib.hid hl
  have HB := Lib.hid hr
  clear hl hr
  by_cases hq : n = m
  · subst hq
    have tq : ((n : Int) != (n : Int)) = false := by simp
    have HD : Hid (decide (l = r) = true ↔ l = r) := decide_eq_true_iff
    generalize decide (l = r) = R at *
    go_enter Tryd.func21, Tryd.ntmps21
    go_wp2
    go_loopg [5] n (fun g s5 wx => ∃ i : Nat, i + g = n ∧ s5 = .int .i64 i ∧ Hid (Below w.heap.size w wx) ∧ Hid (l.take i = r.take i))
    case atStart => exact ⟨0, by omega, rfl, Below.refl _ _, rfl⟩
    case round =>
      obtain ⟨i, hig, rfl, HBl, HI⟩ := hrel
      by_cases hi : i < n
      · have ti : decide ((i : Int) < (n : Int)) = true := by simp; omega
        have i2 : (i : Int) < (n : Int) := by omega
        have hil : i < l.length := by rw [HL.out]; exact hi
        have hir : i < r.length := by rw [HM.out]; exact hi
        obtain ⟨b1, o1, rfl, hlt1, _⟩ := (HA.out.kept HBl.out).spot (by omega)
        obtain ⟨b2, o2, rfl, hlt2, _⟩ := (HB.out.kept HBl.out).spot (by omega)
        obtain ⟨c0, c1⟩ := e2_at (HA.out.kept HBl.out) hil
        obtain ⟨d0, d1⟩ := e2_at (HB.out.kept HBl.out) hir
        have HNx : Hid (l[i] = r[i] → l.take (i + 1) = r.take (i + 1)) := fun h => take_same HI.out hil hir h
        have HNo : Hid (l[i] ≠ r[i] → R = false) := fun h => by
          cases hRx : R with
          | false => rfl
          | true =>
            have e := HD.out.1 hRx
            subst e
            exact absurd rfl h
        generalize l[i] = p at *
        generalize r[i] = q at *
        obtain ⟨x, y⟩ := p
        obtain ⟨x2, y2⟩ := q
        simp only at c0 c1 d0 d1
        clear hil hir hlt1 hlt2
        have hq2 := run_eq2 x y x2 y2
        by_cases he : (x, y) = (x2, y2)
        · have HE := Lib.hid (HNx.out he)
          clear HNx HNo
          cases he
          go_wp2
          go_region
          all_goals
            go_wp2
            go_roundg (gk - 1)
            case measure => omega
            case rel => exact ⟨i + 1, by omega, by go_num, HBl.out.drew, HE⟩
        · have HE := Lib.hid (HNo.out he)
          clear HNx HNo
          rcases neq_pair he with e1 | ⟨e1, e2⟩
          all_goals
            clear he
            go_wp2
            go_region
            all_goals
              go_wp2
              go_ret
              exact ⟨by rw [HE.out]; rfl, HBl.out.drew⟩
      · have ti : decide ((i : Int) < (n : Int)) = false := by simp; omega
        have HE : Hid (R = true) := HD.out.2 (take_whole HI.out (by rw [HL.out]; omega) (by rw [HM.out]; omega))
        go_wp2
        go_ret
        exact ⟨by rw [HE.out]; rfl, HBl.out⟩
  · have HE : Hid (decide (l = r) = false) := by
      show _ = _
      apply decide_eq_false
      intro h
      subst h
      exact hq (HL.out.symm.trans HM.out)
    have tq : ((n : Int) != (m : Int)) = true := bne_iff_ne.2 (by omega)
    rw [HE.out]
    go_enter Tryd.func21, Tryd.ntmps21
    go_wp2
    go_ret
    exact ⟨rfl, Below.refl _ _⟩
/-- Two meshes in blocks of the call's own. -/
structure MeshTwo (w : World) (a b p q : Value) (wx : World) : Prop where
  b0 : Blk wx w.heap.size 25 #[a, b]
  b1 : Blk wx (w.heap.size + 1) 25 #[p, q]
  bel : Below w.heap.size w wx
theorem MeshTwo.new (w : World) (a b p q : Value) : MeshTwo w a b p q ((w.alloc (.cells #[a, b] 25)).alloc (.cells #[p, q] 25)) := by
  refine ⟨(Blk.new w _ _).alloc _, ?_, new_alloc (new_alloc (Below.refl _ _) _) _⟩
  have h := Blk.new (w.alloc (.cells #[a, b] 25)) 25 #[p, q]
  rw [show (w.alloc (.cells #[a, b] 25)).heap.size = w.heap.size + 1 from Array.size_push _] at h
  exact h
theorem MeshTwo.next {w wx w' : World} {a b p q : Value} (h : MeshTwo w a b p q wx) (hb : Below wx.heap.size wx w') : MeshTwo w a b p q w' := ⟨h.b0.below hb h.b0.lt, h.b1.below hb h.b1.lt, new_call h.bel hb⟩
set_option maxRecDepth 100000 in
set_option maxHeartbeats 3200000 in
theorem ref10Same_any (A : Option Addr) (n c : Nat) (P : List P3) (B : Option Addr) (m d : Nat) (T : List P3) (A' : Option Addr) (n' c' : Nat) (P' : List P3) (B' : Option Addr) (m' d' : Nat) (T' : List P3) (w : World) (hp : HasK 3 w A n c (p3Cells P)) (ht : HasK 3 w B m d (p3Cells T)) (hp' : HasK 3 w A' n' c' (p3Cells P')) (ht' : HasK 3 w B' m' d' (p3Cells T')) (hn : n ≤ 100000) (hm : m ≤ 100000) (_ : n' ≤ 100000) (_ : m' ≤ 100000) : Calls Tryd.prog 27 #[.agg #[.slice A n c, .slice B m d], .agg #[.slice A' n' c', .slice B' m' d']] w fun e w' => e = .returned (.bool (decide (P = P' ∧ T = T'))) ∧ Below w.heap.size w w' := by
  have HL : Hid (P.length = n) := by have := hp.len; rw [p3Cells_len] at this; show _ = _; omega
  have HM : Hid (T.length = m) := by have := ht.len; rw [p3Cells_len] at this; show _ = _; omega
  have HL' : Hid (P'.length = n') := by have := hp'.len; rw [p3Cells_len] at this; show _ = _; omega
  have HM' : Hid (T'.length = m') := by have := ht'.len; rw [p3Cells_len] at this; show _ = _; omega
  have HP := Lib.hid hp
  have HT := Lib.hid ht
  have HP' := Lib.hid hp'
  have HT' := Lib.hid ht'
  have HK0 := Lib.hid (MeshTwo.new w (.slice A n c) (.slice B m d) (.slice A' n' c') (.slice B' m' d'))
  clear hp ht hp' ht'
  have m0 := HK0.out.b0.cell 0
  have m1 := HK0.out.b0.cell 1
  have m2 := HK0.out.b1.cell 0
  have m3 := HK0.out.b1.cell 1
  have HD : Hid (decide (P = P' ∧ T = T') = true ↔ (P = P' ∧ T = T')) := decide_eq_true_iff
  have HNo : Hid (∀ {b : Bool}, ¬ b = true → b = false) := fun h => by simpa using h
  generalize decide (P = P' ∧ T = T') = R at *
  by_cases hq : n = n'
  · have tq : ((n : Int) != (n' : Int)) = false := by rw [hq]; simp
    by_cases hq2 : m = m'
    · have tq2 : ((m : Int) != (m' : Int)) = false := by rw [hq2]; simp
      have HQ := Lib.hid hq
      have HQ2 := Lib.hid hq2
      clear hq hq2
      go_enter Tryd.func27, Tryd.ntmps27
      go_wp2
      generalize (w.alloc (.cells #[.slice A n c, .slice B m d] 25)).alloc (.cells #[.slice A' n' c', .slice B' m' d'] 25) = W at *
      go_loopg [5] n (fun g s5 wx => ∃ i : Nat, i + g = n ∧ s5 = .int .i64 i ∧ Hid (MeshTwo w (.slice A n c) (.slice B m d) (.slice A' n' c') (.slice B' m' d') wx) ∧ Hid (P.take i = P'.take i))
      case atStart => exact ⟨0, by omega, rfl, HK0, rfl⟩
      case round =>
        obtain ⟨i, hig, rfl, HK, HI⟩ := hrel
        clear HK0 m0 m1 m2 m3
        have m0 := HK.out.b0.cell 0
        have m1 := HK.out.b0.cell 1
        have m2 := HK.out.b1.cell 0
        have m3 := HK.out.b1.cell 1
        by_cases hi : i < n
        · have ti : decide ((i : Int) < (n : Int)) = true := by simp; omega
          have i2 : (i : Int) < (n : Int) := by omega
          have i3 : (i : Int) < (n' : Int) := by rw [← HQ.out]; exact i2
          have hil : i < P.length := by rw [HL.out]; exact hi
          have hir : i < P'.length := by rw [HL'.out, ← HQ.out]; exact hi
          obtain ⟨b1, o1, rfl, hlt1, _⟩ := (HP.out.kept HK.out.bel).spot (by omega)
          obtain ⟨b2, o2, rfl, hlt2, _⟩ := (HP'.out.kept HK.out.bel).spot (by have := HQ.out; omega)
          obtain ⟨c0, c1, c2⟩ := p3_at (HP.out.kept HK.out.bel) hil
          obtain ⟨d0, d1, d2⟩ := p3_at (HP'.out.kept HK.out.bel) hir
          have HNx : Hid (P[i] = P'[i] → P.take (i + 1) = P'.take (i + 1)) := fun h => take_same HI.out hil hir h
          have HNe : Hid (P[i] ≠ P'[i] → R = false) := fun h => HNo.out (fun hh => by
            have e := (HD.out.1 hh).1
            subst e
            exact absurd rfl h)
          generalize P[i] = p at *
          generalize P'[i] = q at *
          obtain ⟨x, y, z⟩ := p
          obtain ⟨x2, y2, z2⟩ := q
          simp only at c0 c1 c2 d0 d1 d2
          clear hil hir hlt1 hlt2
          by_cases he : (x, y, z) = (x2, y2, z2)
          · have HE := Lib.hid (HNx.out he)
            clear HNx HNe
            cases he
            go_wp2
            go_region
            all_goals
              go_wp2
              go_roundg (gk - 1)
              case measure => omega
              case rel => exact ⟨i + 1, by omega, by go_num, HK.out.next (Below.refl _ _).drew, HE⟩
          · have HE := Lib.hid (HNe.out he)
            clear HNx HNe
            rcases neq_three he with e1 | ⟨e1, e2⟩ | ⟨e1, e2, e3⟩
            all_goals
              clear he
              go_wp2
              go_region
              all_goals
                go_wp2
                go_ret
                exact ⟨by rw [HE.out]; rfl, HK.out.bel.drew⟩
        · have ti : decide ((i : Int) < (n : Int)) = false := by simp; omega
          have HPe : Hid (P = P') := take_whole HI.out (by rw [HL.out]; omega) (by rw [HL'.out, ← HQ.out]; omega)
          go_wp2
          go_loopg [6] m (fun g s6 wx => ∃ i : Nat, i + g = m ∧ s6 = .int .i64 i ∧ Hid (MeshTwo w (.slice A n c) (.slice B m d) (.slice A' n' c') (.slice B' m' d') wx) ∧ Hid (T.take i = T'.take i))
          case atStart => exact ⟨0, by omega, rfl, HK, rfl⟩
          case round =>
            obtain ⟨j, hjg, rfl, HK2, HI2⟩ := hrel
            clear HK m0 m1 m2 m3
            have m0 := HK2.out.b0.cell 0
            have m1 := HK2.out.b0.cell 1
            have m2 := HK2.out.b1.cell 0
            have m3 := HK2.out.b1.cell 1
            by_cases hj : j < m
            · have tj : decide ((j : Int) < (m : Int)) = true := by simp; omega
              have j2 : (j : Int) < (m : Int) := by omega
              have j3 : (j : Int) < (m' : Int) := by rw [← HQ2.out]; exact j2
              have hil : j < T.length := by rw [HM.out]; exact hj
              have hir : j < T'.length := by rw [HM'.out, ← HQ2.out]; exact hj
              obtain ⟨b1, o1, rfl, hlt1, _⟩ := (HT.out.kept HK2.out.bel).spot (by omega)
              obtain ⟨b2, o2, rfl, hlt2, _⟩ := (HT'.out.kept HK2.out.bel).spot (by have := HQ2.out; omega)
              obtain ⟨c0, c1, c2⟩ := p3_at (HT.out.kept HK2.out.bel) hil
              obtain ⟨d0, d1, d2⟩ := p3_at (HT'.out.kept HK2.out.bel) hir
              have HNx : Hid (T[j] = T'[j] → T.take (j + 1) = T'.take (j + 1)) := fun h => take_same HI2.out hil hir h
              have HNe : Hid (T[j] ≠ T'[j] → R = false) := fun h => HNo.out (fun hh => by
                have e := (HD.out.1 hh).2
                subst e
                exact absurd rfl h)
              generalize T[j] = p at *
              generalize T'[j] = q at *
              obtain ⟨x, y, z⟩ := p
              obtain ⟨x2, y2, z2⟩ := q
              simp only at c0 c1 c2 d0 d1 d2
              clear hil hir hlt1 hlt2
              have hq3 := run_eq3 x y z x2 y2 z2
              by_cases he : (x, y, z) = (x2, y2, z2)
              · have HE := Lib.hid (HNx.out he)
                clear HNx HNe
                cases he
                go_wp2
                go_region
                all_goals
                  go_wp2
                  go_roundg (gk - 1)
                  case measure => omega
                  case rel => exact ⟨j + 1, by omega, by go_num, HK2.out.next (Below.refl _ _).drew, HE⟩
              · have HE := Lib.hid (HNe.out he)
                clear HNx HNe
                rcases neq_three he with e1 | ⟨e1, e2⟩ | ⟨e1, e2, e3⟩
                all_goals
                  clear he
                  go_wp2
                  go_region
                  all_goals
                    go_wp2
                    go_ret
                    exact ⟨by rw [HE.out]; rfl, HK2.out.bel.drew⟩
            · have tj : decide ((j : Int) < (m : Int)) = false := by simp; omega
              have HE : Hid (R = true) := HD.out.2 ⟨HPe.out, take_whole HI2.out (by rw [HM.out]; omega) (by rw [HM'.out, ← HQ2.out]; omega)⟩
              go_wp2
              go_ret
              exact ⟨by rw [HE.out]; rfl, HK2.out.bel⟩
    · have tq2 : ((m : Int) != (m' : Int)) = true := bne_iff_ne.2 (by omega)
      have HE : Hid (R = false) := HNo.out (fun hh => by
        have e := (HD.out.1 hh).2
        subst e
        exact hq2 (HM.out.symm.trans HM'.out))
      rw [HE.out]
      clear hq hq2
      go_enter Tryd.func27, Tryd.ntmps27
      go_wp2
      go_ret
      exact ⟨rfl, HK0.out.bel⟩
  · have tq : ((n : Int) != (n' : Int)) = true := bne_iff_ne.2 (by omega)
    have HE : Hid (R = false) := HNo.out (fun hh => by
      have e := (HD.out.1 hh).1
      subst e
      exact hq (HL.out.symm.trans HL'.out))
    rw [HE.out]
    go_enter Tryd.func27, Tryd.ntmps27
    go_wp2
    go_ret
    exact ⟨rfl, HK0.out.bel⟩
end Go.Proofs.YtckjmnbglbegmaaDoor
