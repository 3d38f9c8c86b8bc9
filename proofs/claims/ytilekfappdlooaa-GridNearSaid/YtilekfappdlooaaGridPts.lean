/- lapidaryref07: Points, SamePoints. -/
import Derived.Test.YtilekfappdlooaaGridRound
import Derived.BigQuiet
namespace Go.Proofs.Ytilekfappdlooaa
open Go.RowKit

abbrev Pt := Int × Int
/-- Points in memory: X, Y, and Z 0. -/
def ptCells (l : List Pt) : List Value := l.flatMap fun p => [.int .i64 p.1, .int .i64 p.2, .int .i64 0]
theorem ptCells_len (l : List Pt) : (ptCells l).length = l.length * 3 := by
  induction l with
  | nil => rfl
  | cons p l ih => simp only [ptCells, List.flatMap_cons, List.length_append, List.length_cons, List.length_nil] at *; omega
theorem ptCells_app (l r : List Pt) : ptCells (l ++ r) = ptCells l ++ ptCells r := by simp [ptCells]
theorem ptCells_at {l : List Pt} {i : Nat} (h : i < l.length) : (ptCells l)[i * 3]? = some (.int .i64 l[i].1) ∧ (ptCells l)[i * 3 + 1]? = some (.int .i64 l[i].2) ∧ (ptCells l)[i * 3 + 2]? = some (.int .i64 0) := by
  induction l generalizing i with
  | nil => simp at h
  | cons q l ih =>
    have e : ptCells (q :: l) = .int .i64 q.1 :: .int .i64 q.2 :: .int .i64 0 :: ptCells l := by simp [ptCells]
    cases i with
    | zero => rw [e]; simp
    | succ i =>
      have := ih (i := i) (by simpa using h)
      rw [e, show (i + 1) * 3 = i * 3 + 1 + 1 + 1 by omega]
      simpa using this
theorem ptCells_one (l : List Pt) : ∀ u ∈ ptCells l, u.oneCell' = true := by
  intro u hu
  obtain ⟨p, _, hu⟩ := List.mem_flatMap.1 hu
  simp at hu
  rcases hu with rfl | rfl | rfl <;> rfl
theorem elemPt : ElemK Try.prog 46 72 3 24 := by
  have h : (Try.prog.info? 72).map (fun i => (i.zero, i.size, i.bytes)) = some (some (.agg #[.int .i64 0, .int .i64 0, .int .i64 0]), 3, 24) := by kernel_rfl
  obtain ⟨i, h1, h2, h3, h4⟩ := info_parts h
  exact ⟨Try.underlying46, i, _, h1, h2, h3, h4, rfl⟩
/-- Doubles in memory. -/
def f64s (l : List Nat) : List Value := l.map (Value.float .f64)
theorem f64s_len (l : List Nat) : (f64s l).length = l.length := by simp [f64s]
theorem f64s_at {l : List Nat} {j : Nat} (h : j < l.length) : (f64s l)[j]? = some (.float .f64 l[j]) := by simp [f64s, h]
/-- Points of every two, behind those so far. -/
def ptsA (up : Int) : List Pt → List Nat → List Pt × Nat
  | acc, a :: b :: l => if (scaledF a up).2 ≠ 0 then ([], (scaledF a up).2) else if (scaledF b up).2 ≠ 0 then ([], (scaledF b up).2) else ptsA up (acc ++ [((scaledF a up).1, (scaledF b up).1)]) l
  | acc, _ => (acc, 0)
/-- What Points tells. -/
def pointsF (up : Int) (l : List Nat) : List Pt × Nat := if up < 0 ∨ 30 < up ∨ l.length % 2 ≠ 0 then ([], 2) else ptsA up [] l
/-- A call's points. -/
def Ptsd (w : World) (r : List Pt × Nat) (e : Ending) (w' : World) : Prop := ∃ A c, e = .returned (.tuple #[.slice A r.1.length c, .int .i64 (r.2 : Int)]) ∧ HasK 3 w' A r.1.length c (ptCells r.1) ∧ Below w.heap.size w w'
set_option maxRecDepth 100000 in
set_option maxHeartbeats 1000000 in
theorem ref7Points_any (up : Int) (A : Option Addr) (n c : Nat) (l : List Nat) (w : World) (h : Has w A n c (f64s l)) (hl : ∀ x ∈ l, x < 18446744073709551616) (hn : n ≤ 100000) : Calls Try.prog 27 #[.int .i64 up, .slice A n c] w (Ptsd w (pointsF up l)) := by
  have HL : Hid (l.length = n) := by have := h.len; rw [f64s_len] at this; exact this
  have HH := Lib.hid h
  have HBy := Lib.hid hl
  clear h hl
  by_cases h0 : up < 0
  · have t0 : decide (up < 0) = true := by simpa using h0
    have HE : Hid (pointsF up l = ([], 2)) := if_pos (Or.inl h0)
    go_enter Try.func27, Try.ntmps27
    go_wp2
    go_ret2
    rw [HE.out]
    exact ⟨none, 0, rfl, HasK.none _ _ _ _ fun _ => rfl, Below.refl _ _⟩
  have t0 : decide (up < 0) = false := by simpa using h0
  by_cases h30 : 30 < up
  · have t1 : decide (30 < up) = true := by simpa using h30
    have HE : Hid (pointsF up l = ([], 2)) := if_pos (Or.inr (Or.inl h30))
    go_enter Try.func27, Try.ntmps27
    go_wp2
    go_ret2
    rw [HE.out]
    exact ⟨none, 0, rfl, HasK.none _ _ _ _ fun _ => rfl, Below.refl _ _⟩
  have t1 : decide (30 < up) = false := by simpa using h30
  by_cases hodd : n % 2 = 1
  · have p1 : (((n : Int)).tmod 2 == 0) = false := beq_eq_false_iff_ne.2 (by rw [show ((n : Int)).tmod 2 = ((n % 2 : Nat) : Int) from rfl, hodd]; decide)
    have p2 : ((n : Int) % 2 == 0) = false := beq_eq_false_iff_ne.2 (by omega)
    have p3 : ((n : Int) % 2 != 0) = true := by rw [bne, p2]; rfl
    have HE : Hid (pointsF up l = ([], 2)) := if_pos (Or.inr (Or.inr (by rw [HL.out]; omega)))
    go_enter Try.func27, Try.ntmps27
    go_wp2
    go_ret2
    rw [HE.out]
    exact ⟨none, 0, rfl, HasK.none _ _ _ _ fun _ => rfl, Below.refl _ _⟩
  have p1 : (((n : Int)).tmod 2 == 0) = true := beq_iff_eq.2 (by rw [show ((n : Int)).tmod 2 = ((n % 2 : Nat) : Int) from rfl, show n % 2 = 0 by omega]; rfl)
  have p2 : ((n : Int) % 2 == 0) = true := beq_iff_eq.2 (by omega)
  have p3 : ((n : Int) % 2 != 0) = false := by rw [bne, p2]; rfl
  have HE : Hid (pointsF up l = ptsA up [] l) := if_neg (by rw [HL.out]; omega)
  obtain ⟨N, hN⟩ : ∃ N, n = 2 * N := ⟨n / 2, by omega⟩
  have HN := Lib.hid hN
  have HSc := Lib.hid (fun b W (hb : b < 18446744073709551616) => ref7Scaled_any b up W hb)
  clear hodd hN
  go_enter Try.func27, Try.ntmps27
  go_wp2
  go_loopg [6, 7] N (fun g s6 s7 wx => ∃ (i : Nat) (acc : List Pt), i + g = N ∧ s7 = .int .i64 (2 * (i : Int)) ∧ Hid (OwnK 3 wx w.heap.size 72 s6 i (ptCells acc)) ∧ Hid (acc.length = i) ∧ Hid (ptsA up [] l = ptsA up acc (l.drop (2 * i))) ∧ Hid (Below w.heap.size w wx))
  case atStart => exact ⟨0, [], by omega, rfl, OwnK.nil _ _ _ _, by show _ = _; rfl, by show _ = _; simp, Below.refl _ _⟩
  case round =>
    obtain ⟨i, acc, hig, rfl, HO, HAl, HP, HB⟩ := hrel
    have hz := HB.out.size
    by_cases hi : i < N
    · have hn2 := HN.out
      have ti : decide (2 * (i : Int) < (n : Int)) = true := by simp; omega
      have hi1 : 2 * i < l.length := by rw [HL.out]; omega
      have hi2 : 2 * i + 1 < l.length := by rw [HL.out]; omega
      obtain ⟨b, off, rfl, hlt, hc⟩ := (HH.out.kept HB.out).spot (by omega)
      have hc1 := hc _ _ (f64s_at hi1)
      have hc2 := hc _ _ (f64s_at hi2)
      have hx1 := HBy.out _ (List.getElem_mem hi1)
      have hx2 := HBy.out _ (List.getElem_mem hi2)
      have HD : Hid (l.drop (2 * i) = l[2 * i] :: l[2 * i + 1] :: l.drop (2 * (i + 1))) := by
        show _ = _
        rw [List.drop_eq_getElem_cons hi1, List.drop_eq_getElem_cons hi2, show 2 * i + 1 + 1 = 2 * (i + 1) by omega]
      rw [HD.out, ptsA] at HP
      generalize l[2 * i] = x1 at *
      generalize l[2 * i + 1] = x2 at *
      obtain ⟨j, hj⟩ : ∃ j, 2 * i = j := ⟨_, rfl⟩
      have hj2 : 2 * (i : Int) = (j : Int) := by omega
      rw [hj] at hc1 hc2
      rw [hj2]
      have HS1 := Lib.hid (HSc.out x1 wr hx1)
      have HS2 := Lib.hid (HSc.out x2 wr hx2)
      have hjn : j + 1 < n := by omega
      have hiN : i ≤ 100000 := by omega
      have tj : decide ((j : Int) < (n : Int)) = true := by simp; omega
      have HJ := Lib.hid hj2
      clear hc HD hi1 hi2 hj hj2 ti hn2
      generalize scaledF x1 up = q1 at *
      generalize scaledF x2 up = q2 at *
      obtain ⟨y1, e1⟩ := q1
      obtain ⟨y2, e2⟩ := q2
      simp only at HP HS1 HS2
      by_cases he1 : e1 = 0
      · subst he1
        by_cases he2 : e2 = 0
        · subst he2
          rw [if_neg (by simp), if_neg (by simp)] at HP
          have HCl : Hid (ptCells acc ++ ptCells [(y1, y2)] = ptCells (acc ++ [(y1, y2)])) := (ptCells_app _ _).symm
          have HAl2 : Hid ((acc ++ [(y1, y2)]).length = i + 1) := by show _ = _; rw [List.length_append, HAl.out]; rfl
          go_wp2_with fail
          refine HS1.out.mono ?_
          rintro e w' ⟨rfl, rfl⟩
          go_wp2_with fail
          refine HS2.out.mono ?_
          rintro e w' ⟨rfl, rfl⟩
          go_wp2_with (at_builtin
                       refine wpList_joinK rfl _ _ 46 rfl elemPt (by decide) w.heap.size _ i (ptCells acc) rfl (HO.out.alloc _) _ 1 1 (ptCells [(y1, y2)]) rfl (HasK.new_at 3 _ #[_, _, _] _ _ 1 rfl rfl) (ptCells_one _) (by omega) (by decide) (Nat.le_trans hz (new_alloc (Below.refl _ _) _).size) ?_
                       intro v7 w7 hown7 hbel7 _
                       rw [HCl.out] at hown7
                       have HO7 := Lib.hid hown7
                       have HB7 := Lib.hid ((new_alloc HB.out _).trans hbel7)
                       clear hown7 hbel7)
          go_roundg (gk - 1)
          case measure => omega
          case rel => exact ⟨i + 1, acc ++ [(y1, y2)], by omega, by have := HJ.out; go_num, HO7, HAl2, HP, HB7⟩
        · rw [if_neg (by simp), if_pos he2] at HP
          have u1 : ((e2 : Int) == 0) = false := beq_eq_false_iff_ne.2 (by omega)
          have u2 : decide ((e2 : Int) = 0) = false := by simp; omega
          go_wp2_with fail
          refine HS1.out.mono ?_
          rintro e w' ⟨rfl, rfl⟩
          go_wp2_with fail
          refine HS2.out.mono ?_
          rintro e w' ⟨rfl, rfl⟩
          go_wp2
          go_ret2
          rw [HE.out, HP.out]
          exact ⟨none, 0, rfl, HasK.none _ _ _ _ fun _ => rfl, HB.out⟩
      · rw [if_pos he1] at HP
        have u1 : ((e1 : Int) == 0) = false := beq_eq_false_iff_ne.2 (by omega)
        have u2 : decide ((e1 : Int) = 0) = false := by simp; omega
        go_wp2_with fail
        refine HS1.out.mono ?_
        rintro e w' ⟨rfl, rfl⟩
        go_wp2
        go_ret2
        rw [HE.out, HP.out]
        exact ⟨none, 0, rfl, HasK.none _ _ _ _ fun _ => rfl, HB.out⟩
    · have hn2 := HN.out
      have ti : decide (2 * (i : Int) < (n : Int)) = false := by simp; omega
      have HP2 : Hid (ptsA up [] l = (acc, 0)) := by
        show _ = _
        rw [HP.out, List.drop_of_length_le (by rw [HL.out]; omega)]
        rfl
      obtain ⟨A6, c6, hv6, hh6⟩ := HO.out.has
      subst hv6
      have HH6 := Lib.hid hh6
      clear hh6 hn2
      go_wp2
      go_ret2
      rw [HE.out, HP2.out]
      exact ⟨A6, c6, by simp only [HAl.out]; rfl, by simp only [HAl.out]; exact HH6.out, HB.out⟩

theorem quiet_below7 (w : World) (n : Nat) : Below w.heap.size w (w.drewN n) := ⟨rfl, rfl, rfl, Nat.le_refl _, fun _ _ => rfl⟩
set_option maxRecDepth 100000 in
set_option maxHeartbeats 400000 in
theorem ref7SamePts_any (A : Option Addr) (n c : Nat) (l : List Pt) (B : Option Addr) (m d : Nat) (r : List Pt) (w : World) (h : HasK 3 w A n c (ptCells l)) (h2 : HasK 3 w B m d (ptCells r)) (hn : n ≤ 100000) :
    Calls Try.prog 28 #[.slice A n c, .slice B m d] w fun e w' => e = .returned (.bool (decide (l = r))) ∧ ∃ q, w' = w.drewN q := by
  have hl : l.length = n := by have := h.len; rw [ptCells_len] at this; omega
  have hr : r.length = m := by have := h2.len; rw [ptCells_len] at this; omega
  by_cases hnm : n = m
  · subst hnm
    have HL := Lib.hid hl
    have HR := Lib.hid hr
    have HA := Lib.hid h
    have HB := Lib.hid h2
    clear h h2 hl hr
    go_enter Try.func28, Try.ntmps28
    go_wp2
    go_loopg [5] n (fun g s5 wx => ∃ i q : Nat, i + g = n ∧ s5 = .int .i64 i ∧ Hid (l.take i = r.take i) ∧ Hid (wx = w.drewN q))
    case atStart => exact ⟨0, 0, by omega, rfl, by show _ = _; simp, rfl⟩
    case round =>
      obtain ⟨i, q, hig, rfl, HE, HW⟩ := hrel
      by_cases hi : i < n
      · have ti : decide ((i : Int) < (n : Int)) = true := by simp; omega
        have hil : i < l.length := by rw [HL.out]; exact hi
        have hir : i < r.length := by rw [HR.out]; exact hi
        have hA := HA.out.kept (quiet_below7 w q)
        have hB := HB.out.kept (quiet_below7 w q)
        rw [← HW.out] at hA hB
        obtain ⟨b, off, rfl, hlt, hc⟩ := hA.spot (by omega)
        obtain ⟨b', off', rfl, hlt', hc'⟩ := hB.spot (by omega)
        have a1 := hc _ _ (ptCells_at hil).1
        have a2 := hc _ _ (ptCells_at hil).2.1
        have a3 := hc _ _ (ptCells_at hil).2.2
        have b1 := hc' _ _ (ptCells_at hir).1
        have b2 := hc' _ _ (ptCells_at hir).2.1
        have b3 := hc' _ _ (ptCells_at hir).2.2
        rw [← Nat.add_assoc] at a2 b2 a3 b3
        have HT : Hid (l.take (i + 1) = l.take i ++ [l[i]]) := List.take_succ_eq_append_getElem hil
        have HT2 : Hid (r.take (i + 1) = r.take i ++ [r[i]]) := List.take_succ_eq_append_getElem hir
        have HNe : Hid (l[i] ≠ r[i] → l ≠ r) := fun h e => h (by subst e; rfl)
        clear hc hc' hA hB
        generalize l[i] = x at *
        generalize r[i] = y at *
        clear hil hir
        obtain ⟨x1, x2⟩ := x
        obtain ⟨y1, y2⟩ := y
        simp only at a1 a2 b1 b2
        by_cases he1 : x1 = y1
        · by_cases he2 : x2 = y2
          · have HX : Hid (l.take (i + 1) = r.take (i + 1)) := by show _ = _; rw [HT.out, HT2.out, HE.out, he1, he2]
            subst he1 he2
            clear HNe HT HT2 HE
            go_wp2
            go_quiet (fail)
            go_wp2
            go_roundg (gk - 1)
            case measure => omega
            case rel => exact ⟨i + 1, q + nq, by omega, by go_num, HX, by show _ = _; rw [HW.out, World.drewN_drewN]⟩
          · have te : decide (x2 = y2) = false := decide_eq_false he2
            have HD : Hid (decide (l = r) = false) := decide_eq_false (HNe.out fun e => he2 (by cases e; rfl))
            subst he1
            clear HNe HT HT2 HE
            go_wp2
            go_quiet (fail)
            go_wp2
            go_ret
            exact ⟨ret_bool HD.out.symm, q + nq, by rw [HW.out, World.drewN_drewN]⟩
        · have te : decide (x1 = y1) = false := decide_eq_false he1
          have HD : Hid (decide (l = r) = false) := decide_eq_false (HNe.out fun e => he1 (by cases e; rfl))
          clear HNe HT HT2 HE
          go_wp2
          go_quiet (fail)
          go_wp2
          go_ret
          exact ⟨ret_bool HD.out.symm, q + nq, by rw [HW.out, World.drewN_drewN]⟩
      · have ti : decide ((i : Int) < (n : Int)) = false := by simp; omega
        have HEq : Hid (decide (l = r) = true) := decide_eq_true (by
          have := HE.out
          rw [List.take_of_length_le (by rw [HL.out]; omega), List.take_of_length_le (by rw [HR.out]; omega)] at this
          exact this)
        go_wp2
        go_ret
        exact ⟨ret_bool HEq.out.symm, q, HW.out⟩
  · have t0 : decide (n = m) = false := decide_eq_false hnm
    have HNe : Hid (decide (l = r) = false) := decide_eq_false fun e => hnm (by rw [← hl, ← hr, e])
    have t1 : ((n : Int) != (m : Int)) = true := by rw [bne_iff_ne]; omega
    go_enter Try.func28, Try.ntmps28
    go_wp2
    go_ret
    exact ⟨ret_bool HNe.out.symm, 0, rfl⟩
end Go.Proofs.Ytilekfappdlooaa
