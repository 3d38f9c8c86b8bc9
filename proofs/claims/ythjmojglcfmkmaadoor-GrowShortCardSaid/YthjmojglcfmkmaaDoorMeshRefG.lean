import Derived.Test.YthjmojglcfmkmaaDoorMeshRefC
import Derived.ChangeKeysEq
import Derived.Test.YthjmojglcfmkmaaDoorMeshPlain
/- lapidaryref10: Check. -/
namespace Go.Proofs.YthjmojglcfmkmaaDoor
open Go.RowKit

/-- A mesh in a block of the call's own. -/
structure MeshAt (w : World) (a b : Value) (wx : World) : Prop where
  b0 : Blk wx w.heap.size 48 #[a, b]
  bel : Below w.heap.size w wx
theorem MeshAt.new (w : World) (a b : Value) : MeshAt w a b (w.alloc (.cells #[a, b] 48)) := ⟨Blk.new w _ _, new_alloc (Below.refl _ _) _⟩
theorem MeshAt.next {w wx w' : World} {a b : Value} (h : MeshAt w a b wx) (hb : Below wx.heap.size wx w') : MeshAt w a b w' := ⟨h.b0.below hb h.b0.lt, new_call h.bel hb⟩
theorem t3_cells {w : World} {b off n c : Nat} {l : List P3} (h : HasK 3 w (some ⟨b, off, none⟩) n c (p3Cells l)) {i : Nat} (hi : i < l.length) {k : Nat} (hk : k < 3) : w.cell? ⟨b, off + i * 3 + k, none⟩ = some (.int .i64 (at3 l[i] k)) := by
  obtain ⟨h1, h2, h3⟩ := p3_at h hi
  rcases (show k = 0 ∨ k = 1 ∨ k = 2 by omega) with rfl | rfl | rfl
  · exact h1
  · exact h2
  · exact h3
set_option maxRecDepth 100000 in
set_option maxHeartbeats 4000000 in
theorem ref10Check_any (A : Option Addr) (n c : Nat) (P : List P3) (B : Option Addr) (m d : Nat) (T : List P3) (r : Int) (w : World) (hp : HasK 3 w A n c (p3Cells P)) (ht : HasK 3 w B m d (p3Cells T)) (hn : n ≤ 100000) (hm : m ≤ 100000) (hr : CheckIs P T r) : Calls Tryd.prog 26 #[.agg #[.slice A n c, .slice B m d]] w fun e w' => e = .returned (.int .i64 r) ∧ Below w.heap.size w w' := by
  have HL : Hid (P.length = n) := by have := hp.len; rw [p3Cells_len] at this; show _ = _; omega
  have HM : Hid (T.length = m) := by have := ht.len; rw [p3Cells_len] at this; show _ = _; omega
  have HP := Lib.hid hp
  have HT := Lib.hid ht
  have HR := Lib.hid hr
  have HK0 := Lib.hid (MeshAt.new w (.slice A n c) (.slice B m d))
  have HPl := Lib.hid (fun W (hW : Below w.heap.size w W) => ref10plain_any A n c P B m d T W (hp.kept hW) (ht.kept hW) hn hm)
  clear hp ht hr
  by_cases h1 : (4000 : Int) < n
  · have HE : Hid (r = 3) := check_one HR.out (Or.inl ⟨Or.inl (by have := HL.out; omega), rfl⟩)
    have t1 : decide ((4000 : Int) < (n : Int)) = true := by simpa using h1
    have m0 := HK0.out.b0.cell 0
    have m1 := HK0.out.b0.cell 1
    rw [HE.out]
    go_enter Tryd.func26, Tryd.ntmps26
    go_wp2
    go_ret
    exact ⟨rfl, HK0.out.bel⟩
  · have t1 : decide ((4000 : Int) < (n : Int)) = false := by simpa using h1
    by_cases h2 : (8000 : Int) < m
    · have HE : Hid (r = 3) := check_one HR.out (Or.inl ⟨Or.inr (by have := HM.out; omega), rfl⟩)
      have t2 : decide ((8000 : Int) < (m : Int)) = true := by simpa using h2
      have m0 := HK0.out.b0.cell 0
      have m1 := HK0.out.b0.cell 1
      rw [HE.out]
      go_enter Tryd.func26, Tryd.ntmps26
      go_wp2
      go_ret
      exact ⟨rfl, HK0.out.bel⟩
    · have t2 : decide ((8000 : Int) < (m : Int)) = false := by simpa using h2
      have HSh : Hid (¬ longM P T) := fun h => by
        have e1 := HL.out
        have e2 := HM.out
        rcases h with h | h <;> omega
      have m0 := HK0.out.b0.cell 0
      have m1 := HK0.out.b0.cell 1
      have HPl1 := Lib.hid (HPl.out _ HK0.out.bel)
      cases hpl : plainM P T with
      | false =>
        have HE : Hid (r = 2) := check_one HR.out (Or.inr (Or.inl ⟨HSh.out, hpl, rfl⟩))
        rw [hpl] at HPl1
        clear hpl HPl
        rw [HE.out]
        go_enter Tryd.func26, Tryd.ntmps26
        go_wp2_with fail
        refine HPl1.out.mono ?_
        rintro e w1 ⟨rfl, hb1⟩
        go_wp2
        go_ret
        exact ⟨rfl, (HK0.out.next hb1).bel⟩
      | true =>
        have HPt := Lib.hid hpl
        rw [hpl] at HPl1
        clear hpl HPl
        go_enter Tryd.func26, Tryd.ntmps26
        go_wp2_with fail
        refine HPl1.out.mono ?_
        rintro e w1 ⟨rfl, hb1⟩
        have HK1 := Lib.hid (HK0.out.next hb1)
        clear hb1 HK0 m0 m1 HPl1
        go_wp2
        go_loopg [3] m (fun g s3 wx => ∃ i : Nat, i + g = m ∧ s3 = .int .i64 i ∧ Hid (MeshAt w (.slice A n c) (.slice B m d) wx) ∧ Hid (∀ j, j < i → ∀ hj : j < T.length, ∀ e ∈ dirs T[j], hasF T e.1 e.2 = j))
        case atStart => exact ⟨0, by omega, rfl, HK1, fun j hj => absurd hj (by omega)⟩
        case round =>
          obtain ⟨i, hig, rfl, HK, HI⟩ := hrel
          clear HK1
          have m0 := HK.out.b0.cell 0
          have m1 := HK.out.b0.cell 1
          by_cases hi : i < m
          · have ti : decide ((i : Int) < (m : Int)) = true := by simp; omega
            have i2 : (i : Int) < (m : Int) := by omega
            have hil : i < T.length := by rw [HM.out]; exact hi
            obtain ⟨b, off, rfl, hlt, _⟩ := (HT.out.kept HK.out.bel).spot (by omega)
            have HCl : Hid (∀ W, Below w.heap.size w W → ∀ k, k < 3 → W.cell? ⟨b, off + i * 3 + k, none⟩ = some (.int .i64 (at3 T[i] k))) := fun W hW k hk => t3_cells (HT.out.kept hW) hil hk
            have HNx : Hid ((∀ k, k < 3 → hasF T (at3 T[i] k) (at3 T[i] ((k + 1) % 3)) = i) → ∀ j, j < i + 1 → ∀ hj : j < T.length, ∀ e ∈ dirs T[j], hasF T e.1 e.2 = j) := fun h j hj hjl e he => by
              by_cases ej : j = i
              · subst ej
                obtain ⟨k, hk, rfl⟩ := dirs_mem_at.1 he
                exact h k hk
              · exact HI.out j (by omega) hjl e he
            have HBad : Hid (∀ k, k < 3 → hasF T (at3 T[i] k) (at3 T[i] ((k + 1) % 3)) ≠ i → r = 80) := fun k hk h => by
              refine check_one HR.out (Or.inr (Or.inr (Or.inl ⟨HSh.out, HPt.out, fun hnd => ?_, rfl⟩)))
              exact h ((nodup_has (plain_all HPt.out)).1 hnd i hil _ (dirs_mem_at.2 ⟨k, hk, rfl⟩))
            have HHs := Lib.hid (fun a b' W (hW : Below w.heap.size w W) => ref10Has_any (some ⟨b, off, none⟩) m d T a b' W (HT.out.kept hW) hm)
            generalize T[i] = t at *
            clear hil hlt
            go_wp2
            try rw [ti]
            go_loopg [4] 3 (fun g s4 wx => ∃ k : Nat, k + g = 3 ∧ s4 = .int .i64 k ∧ Hid (MeshAt w (.slice A n c) (.slice (some ⟨b, off, none⟩) m d) wx) ∧ Hid (∀ j, j < k → hasF T (at3 t j) (at3 t ((j + 1) % 3)) = i))
            case atStart => exact ⟨0, by omega, rfl, HK, fun j hj => absurd hj (by omega)⟩
            case round =>
              obtain ⟨k, hkg, rfl, HKk, HIk⟩ := hrel
              clear m0 m1
              have m0 := HKk.out.b0.cell 0
              have m1 := HKk.out.b0.cell 1
              by_cases hk : k < 3
              · have tk : decide ((k : Int) < 3) = true := by simp; omega
                have k2 : (k : Int) < 3 := by omega
                have tn := next3 hk
                have g1 : IntKind.wrap .i64 ((k : Int) + 1) = (k : Int) + 1 := by rw [IntKind.wrap_i64]; omega
                have f1 : wrap64 ((k : Int) + 1) = (k : Int) + 1 := by unfold wrap64; omega
                obtain ⟨k1, hk1⟩ : ∃ j, (k + 1) % 3 = j := ⟨_, rfl⟩
                have hl1 : k1 < 3 := by omega
                have hl2 : (k1 : Int) < 3 := by omega
                have HB2 := Lib.hid (HBad.out k hk)
                rw [hk1] at tn HB2
                have HG : Hid (hasF T (at3 t k) (at3 t k1) = i → ∀ j, j < k + 1 → hasF T (at3 t j) (at3 t ((j + 1) % 3)) = i) := fun h j hj => by
                  by_cases e : j = k
                  · subst e; rw [hk1]; exact h
                  · exact HIk.out j (by omega)
                have HS : Hid (∀ W, Below wr.heap.size wr W → W.cell? ⟨w.heap.size, 1, none⟩ = some (.slice (some ⟨b, off, none⟩) m d) ∧ W.cell? ⟨b, off + i * 3 + k, none⟩ = some (.int .i64 (at3 t k)) ∧ W.cell? ⟨b, off + i * 3 + k1, none⟩ = some (.int .i64 (at3 t k1))) := fun W hW => by
                  have h := HKk.out.next hW
                  exact ⟨h.b0.cell 1, HCl.out W h.bel k hk, HCl.out W h.bel k1 hl1⟩
                have HHk := Lib.hid (HHs.out (at3 t k) (at3 t k1) wr.drew (HKk.out.bel.drew))
                have HBv0 : Hid (Below wr.heap.size wr wr.drew) := (Below.refl _ _).drew
                clear hk1
                generalize at3 t k = p at *
                generalize at3 t k1 = q at *
                have HQ : Hid ((hasF T p q = (i : Int)) ∧ (hasF T p q != (i : Int)) = false ∨ (hasF T p q ≠ (i : Int)) ∧ (hasF T p q != (i : Int)) = true) := by
                  by_cases h : hasF T p q = (i : Int)
                  · exact Or.inl ⟨h, by simpa using h⟩
                  · exact Or.inr ⟨h, bne_iff_ne.2 h⟩
                generalize hasF T p q = z at *
                go_wp2_with (with_reducible fail)
                go_region_held3 (fun W => W.cell? ⟨w.heap.size, 1, none⟩ = some (.slice (some ⟨b, off, none⟩) m d) ∧ W.cell? ⟨b, off + i * 3 + k, none⟩ = some (.int .i64 p) ∧ W.cell? ⟨b, off + i * 3 + k1, none⟩ = some (.int .i64 q)) (first | (with_reducible exact HS.out _ HBv0.out)) (first
                  | (go_at_call 34; (with_reducible refine HHk.out.mono ?_); rintro e v1 ⟨rfl, rfl⟩))
                all_goals
                  have HK3 := Lib.hid (HKk.out.next HBv0.out)
                  rcases HQ.out with ⟨hq, tq⟩ | ⟨hq, tq⟩
                  · have HE := Lib.hid (HG.out hq)
                    clear hq HG HB2 HBad
                    go_wp2
                    go_roundg (gk - 1)
                    case measure => omega
                    case rel => exact ⟨k + 1, by omega, by go_num, HK3, HE⟩
                  · have HE := Lib.hid (HB2.out hq)
                    clear hq HG HB2 HBad
                    go_wp2
                    go_ret
                    exact ⟨by rw [HE.out]; rfl, HK3.out.bel⟩
              · have tk : decide ((k : Int) < 3) = false := by simp; omega
                have HE := Lib.hid (HNx.out (fun j hj => HIk.out j (by omega)))
                go_wp2
                go_roundg (m - (i + 1))
                case measure => omega
                case rel => exact ⟨i + 1, by omega, by go_num, HKk, HE⟩
          · have ti : decide ((i : Int) < (m : Int)) = false := by simp; omega
            have HNd : Hid (darts T).Nodup := (nodup_has (plain_all HPt.out)).2 (fun j hj e he => HI.out j (by have := HM.out; omega) hj e he)
            clear HI
            go_wp2
            go_loopg [5] n (fun g s5 wx => ∃ i : Nat, i + g = n ∧ s5 = .int .i64 i ∧ Hid (MeshAt w (.slice A n c) (.slice B m d) wx) ∧ Hid (∀ v : Nat, v < i → Fan T v))
            case atStart => exact ⟨0, by omega, rfl, HK, fun v hv => absurd hv (by omega)⟩
            case round =>
              obtain ⟨v, hvg, rfl, HKv, HIv⟩ := hrel
              clear m0 m1
              have m0 := HKv.out.b0.cell 0
              have m1 := HKv.out.b0.cell 1
              by_cases hv : v < n
              · have tv : decide ((v : Int) < (n : Int)) = true := by simp; omega
                have v2 : (v : Int) < (n : Int) := by omega
                by_cases hf : Fan T v
                · have HOn := Lib.hid (ref10one_any B m d T v true wr (HT.out.kept HKv.out.bel) hm (darts_nodup HNd.out) ⟨fun _ => hf, fun _ => rfl⟩)
                  have HE : Hid (∀ u : Nat, u < v + 1 → Fan T u) := fun u hu => by
                    by_cases e : u = v
                    · subst e; exact hf
                    · exact HIv.out u (by omega)
                  clear hf
                  go_wp2_with fail
                  refine HOn.out.mono ?_
                  rintro e w3 ⟨rfl, hb3⟩
                  have HK3 := Lib.hid (HKv.out.next hb3)
                  clear hb3
                  go_wp2
                  go_roundg (gk - 1)
                  case measure => omega
                  case rel => exact ⟨v + 1, by omega, by go_num, HK3, HE⟩
                · have HOn := Lib.hid (ref10one_any B m d T v false wr (HT.out.kept HKv.out.bel) hm (darts_nodup HNd.out) ⟨fun h => (by cases h), fun h => absurd h hf⟩)
                  have HE : Hid (r = 81) := check_one HR.out (Or.inr (Or.inr (Or.inr (Or.inl ⟨HSh.out, HPt.out, HNd.out, fun hh => hf (hh v (by have := HL.out; omega)), rfl⟩))))
                  clear hf
                  go_wp2_with fail
                  refine HOn.out.mono ?_
                  rintro e w3 ⟨rfl, hb3⟩
                  have HK3 := Lib.hid (HKv.out.next hb3)
                  clear hb3
                  go_wp2
                  go_ret
                  exact ⟨by rw [HE.out]; rfl, HK3.out.bel⟩
              · have tv : decide ((v : Int) < (n : Int)) = false := by simp; omega
                have HE : Hid (r = 0) := check_one HR.out (Or.inr (Or.inr (Or.inr (Or.inr ⟨HSh.out, HPt.out, HNd.out, fun u hu => HIv.out u (by have := HL.out; omega), rfl⟩))))
                go_wp2
                go_ret
                exact ⟨by rw [HE.out]; rfl, HKv.out.bel⟩
end Go.Proofs.YthjmojglcfmkmaaDoor

/- lapidaryref10: Same, SameEdges. -/
namespace Go.Proofs.YthjmojglcfmkmaaDoor
open Go.RowKit

/-- Edges in rows: two cells each. -/
def e2Cells (l : List (Int × Int)) : List Value := l.flatMap fun p => [.int .i64 p.1, .int .i64 p.2]
theorem e2Cells_len (l : List (Int × Int)) : (e2Cells l).length = l.length * 2 := by
  induction l with
  | nil => rfl
  | cons p l ih => simp only [e2Cells, List.flatMap_cons, List.length_append, List.length_cons, List.length_nil] at *; omega
theorem e2Cells_app (l r : List (Int × Int)) : e2Cells (l ++ r) = e2Cells l ++ e2Cells r := by simp [e2Cells]
theorem e2Cells_at {l : List (Int × Int)} {i : Nat} (h : i < l.length) : (e2Cells l)[i * 2]? = some (.int .i64 l[i].1) ∧ (e2Cells l)[i * 2 + 1]? = some (.int .i64 l[i].2) := by
  induction l generalizing i with
  | nil => simp at h
  | cons q l ih =>
    have e : e2Cells (q :: l) = .int .i64 q.1 :: .int .i64 q.2 :: e2Cells l := by simp [e2Cells]
    cases i with
    | zero => rw [e]; simp
    | succ i =>
      have := ih (i := i) (by simpa using h)
      rw [e, show (i + 1) * 2 = i * 2 + 1 + 1 by omega]
      simpa using this
theorem e2Cells_one (l : List (Int × Int)) : ∀ u ∈ e2Cells l, u.oneCell' = true := by
  intro u hu
  obtain ⟨p, _, hu⟩ := List.mem_flatMap.1 hu
  simp at hu
  rcases hu with rfl | rfl <;> rfl
theorem elemE2 : ElemK Tryd.prog 27 66 2 16 := by
  have h : (Tryd.prog.info? 66).map (fun i => (i.zero, i.size, i.bytes)) = some (some (.agg #[.int .i64 0, .int .i64 0]), 2, 16) := by kernel_rfl
  obtain ⟨i, h1, h2, h3, h4⟩ := info_parts h
  exact ⟨Tryd.underlying27, i, _, h1, h2, h3, h4, rfl⟩
theorem e2_at {w : World} {b off n c : Nat} {l : List (Int × Int)} (h : HasK 2 w (some ⟨b, off, none⟩) n c (e2Cells l)) {i : Nat} (hi : i < l.length) : w.cell? ⟨b, off + i * 2, none⟩ = some (.int .i64 l[i].1) ∧ w.cell? ⟨b, off + i * 2 + 1, none⟩ = some (.int .i64 l[i].2) := by
  have hn : 0 < n := by
    have := h.len
    rw [e2Cells_len] at this
    omega
  obtain ⟨_, _, e, _, hc⟩ := h.spot hn
  cases e
  obtain ⟨h1, h2⟩ := e2Cells_at hi
  exact ⟨hc _ _ h1, by rw [Nat.add_assoc]; exact hc _ _ h2⟩
theorem run_eq2 (x y a b : Int) (W : World) : (Op.equalIn 10000 66 (.agg #[.int .i64 x, .int .i64 y]) (.agg #[.int .i64 a, .int .i64 b])).run Tryd.prog W = .ok ((x == a) && (y == b)) W := by
  have h : (Tryd.prog.info? 3).map (fun i => (i.zero, i.size, i.bytes)) = some (some (.int .i64 0), 1, 8) := by kernel_rfl
  obtain ⟨i, h1, h2, h3, h4⟩ := info_parts h
  rw [show (10000 : Nat) = 9999 + 1 from rfl, run_equalIn_array W 9999 _ _ Tryd.underlying66 h1]
  have hc : Tryd.prog.cellsOf 3 = 1 := by kernel_rfl
  rw [hc]
  show (Op.eqItems 9999 3 1 _ _ [0, 1]).run Tryd.prog W = _
  unfold Op.eqItems
  go_simp
  by_cases e0 : x = a
  · rw [if_pos e0]
    subst e0
    unfold Op.eqItems
    go_simp
    by_cases e1 : y = b
    · rw [if_pos e1]
      subst e1
      unfold Op.eqItems
      simp
    · rw [if_neg e1]
      simp [beq_eq_false_iff_ne.2 e1]
  · rw [if_neg e0]
    simp [beq_eq_false_iff_ne.2 e0]
theorem run_eq3 (x y z a b c : Int) (W : World) : (Op.equalIn 10000 58 (.agg #[.int .i64 x, .int .i64 y, .int .i64 z]) (.agg #[.int .i64 a, .int .i64 b, .int .i64 c])).run Tryd.prog W = .ok ((x == a) && (y == b) && (z == c)) W := by
  have h : (Tryd.prog.info? 3).map (fun i => (i.zero, i.size, i.bytes)) = some (some (.int .i64 0), 1, 8) := by kernel_rfl
  obtain ⟨i, h1, h2, h3, h4⟩ := info_parts h
  rw [show (10000 : Nat) = 9999 + 1 from rfl, run_equalIn_array W 9999 _ _ Tryd.underlying58 h1]
  have hc : Tryd.prog.cellsOf 3 = 1 := by kernel_rfl
  rw [hc]
  show (Op.eqItems 9999 3 1 _ _ [0, 1, 2]).run Tryd.prog W = _
  unfold Op.eqItems
  go_simp
  by_cases e0 : x = a
  · rw [if_pos e0]
    subst e0
    unfold Op.eqItems
    go_simp
    by_cases e1 : y = b
    · rw [if_pos e1]
      subst e1
      unfold Op.eqItems
      go_simp
      by_cases e2 : z = c
      · rw [if_pos e2]
        subst e2
        unfold Op.eqItems
        simp
      · rw [if_neg e2]
        simp [beq_eq_false_iff_ne.2 e2]
    · rw [if_neg e1]
      simp [beq_eq_false_iff_ne.2 e1]
  · rw [if_neg e0]
    simp [beq_eq_false_iff_ne.2 e0]
theorem neq_three {x y z a b c : Int} (h : ¬ (x, y, z) = (a, b, c)) : (x == a) = false ∨ ((x == a) = true ∧ (y == b) = false) ∨ ((x == a) = true ∧ (y == b) = true ∧ (z == c) = false) := by
  by_cases h1 : x = a
  · by_cases h2 : y = b
    · by_cases h3 : z = c
      · subst h1 h2 h3; exact absurd rfl h
      · exact Or.inr (Or.inr ⟨beq_iff_eq.2 h1, beq_iff_eq.2 h2, beq_eq_false_iff_ne.2 h3⟩)
    · exact Or.inr (Or.inl ⟨beq_iff_eq.2 h1, beq_eq_false_iff_ne.2 h2⟩)
  · exact Or.inl (beq_eq_false_iff_ne.2 h1)
/-- As far as one has looked the same. -/
theorem take_same {α : Type} {l r : List α} {i : Nat} (h : l.take i = r.take i) (hl : i < l.length) (hr : i < r.length) (he : l[i] = r[i]) : l.take (i + 1) = r.take (i + 1) := by
  rw [List.take_succ_eq_append_getElem hl, List.take_succ_eq_append_getElem hr, h, he]
theorem take_whole {α : Type} {l r : List α} {i : Nat} (h : l.take i = r.take i) (hl : l.length ≤ i) (hr : r.length ≤ i) : l = r := by
  rw [List.take_of_length_le hl, List.take_of_length_le hr] at h; exact h
/-- Two meshes in blocks of the call's own. -/
structure MeshTwo (w : World) (a b p q : Value) (wx : World) : Prop where
  b0 : Blk wx w.heap.size 48 #[a, b]
  b1 : Blk wx (w.heap.size + 1) 48 #[p, q]
  bel : Below w.heap.size w wx
theorem MeshTwo.new (w : World) (a b p q : Value) : MeshTwo w a b p q ((w.alloc (.cells #[a, b] 48)).alloc (.cells #[p, q] 48)) := by
  refine ⟨(Blk.new w _ _).alloc _, ?_, new_alloc (new_alloc (Below.refl _ _) _) _⟩
  have h := Blk.new (w.alloc (.cells #[a, b] 48)) 48 #[p, q]
  rw [show (w.alloc (.cells #[a, b] 48)).heap.size = w.heap.size + 1 from Array.size_push _] at h
  exact h
theorem MeshTwo.next {w wx w' : World} {a b p q : Value} (h : MeshTwo w a b p q wx) (hb : Below wx.heap.size wx w') : MeshTwo w a b p q w' := ⟨h.b0.below hb h.b0.lt, h.b1.below hb h.b1.lt, new_call h.bel hb⟩
set_option maxRecDepth 100000 in
set_option maxHeartbeats 3200000 in
theorem ref10Same_any (A : Option Addr) (n c : Nat) (P : List P3) (B : Option Addr) (m d : Nat) (T : List P3) (A' : Option Addr) (n' c' : Nat) (P' : List P3) (B' : Option Addr) (m' d' : Nat) (T' : List P3) (w : World) (hp : HasK 3 w A n c (p3Cells P)) (ht : HasK 3 w B m d (p3Cells T)) (hp' : HasK 3 w A' n' c' (p3Cells P')) (ht' : HasK 3 w B' m' d' (p3Cells T')) (hn : n ≤ 100000) (hm : m ≤ 100000) (_ : n' ≤ 100000) (_ : m' ≤ 100000) : Calls Tryd.prog 36 #[.agg #[.slice A n c, .slice B m d], .agg #[.slice A' n' c', .slice B' m' d']] w fun e w' => e = .returned (.bool (decide (P = P' ∧ T = T'))) ∧ Below w.heap.size w w' := by
  have HL : Hid (P.length = n) := by have := hp.len; rw [p3Cells_len] at this; show _ = _; omega
  have HM : Hid (T.length = m) := by have := ht.len; rw [p3Cells_len] at this; show _ = _; omega
  have HL' : Hid (P'.length = n') := by have := hp'.len; rw [p3Cells_len] at this; show _ = _; omega
  have HM' : Hid (T'.length = m') := by have := ht'.len; rw [p3Cells_len] at this; show _ = _; omega
  have HP := Lib.hid hp
  have HT := Lib.hid ht
  have HP' := Lib.hid hp'
  have HT' := Lib.hid ht'
  have HK0 := Lib.hid (MeshTwo.new w (.slice A n c) (.slice B m d) (.slice A' n' c') (.slice B' m' d'))
  clear hp ht hp' ht'
  have m0 := HK0.out.b0.cell 0
  have m1 := HK0.out.b0.cell 1
  have m2 := HK0.out.b1.cell 0
  have m3 := HK0.out.b1.cell 1
  have HD : Hid (decide (P = P' ∧ T = T') = true ↔ (P = P' ∧ T = T')) := decide_eq_true_iff
  have HNo : Hid (∀ {b : Bool}, ¬ b = true → b = false) := fun h => by simpa using h
  generalize decide (P = P' ∧ T = T') = R at *
  by_cases hq : n = n'
  · have tq : ((n : Int) != (n' : Int)) = false := by rw [hq]; simp
    by_cases hq2 : m = m'
    · have tq2 : ((m : Int) != (m' : Int)) = false := by rw [hq2]; simp
      have HQ := Lib.hid hq
      have HQ2 := Lib.hid hq2
      clear hq hq2
      go_enter Tryd.func36, Tryd.ntmps36
      go_wp2
      generalize (w.alloc (.cells #[.slice A n c, .slice B m d] 48)).alloc (.cells #[.slice A' n' c', .slice B' m' d'] 48) = W at *
      go_loopg [5] n (fun g s5 wx => ∃ i : Nat, i + g = n ∧ s5 = .int .i64 i ∧ Hid (MeshTwo w (.slice A n c) (.slice B m d) (.slice A' n' c') (.slice B' m' d') wx) ∧ Hid (P.take i = P'.take i))
      case atStart => exact ⟨0, by omega, rfl, HK0, rfl⟩
      case round =>
        obtain ⟨i, hig, rfl, HK, HI⟩ := hrel
        clear HK0 m0 m1 m2 m3
        have m0 := HK.out.b0.cell 0
        have m1 := HK.out.b0.cell 1
        have m2 := HK.out.b1.cell 0
        have m3 := HK.out.b1.cell 1
        by_cases hi : i < n
        · have ti : decide ((i : Int) < (n : Int)) = true := by simp; omega
          have i2 : (i : Int) < (n : Int) := by omega
          have i3 : (i : Int) < (n' : Int) := by rw [← HQ.out]; exact i2
          have hil : i < P.length := by rw [HL.out]; exact hi
          have hir : i < P'.length := by rw [HL'.out, ← HQ.out]; exact hi
          obtain ⟨b1, o1, rfl, hlt1, _⟩ := (HP.out.kept HK.out.bel).spot (by omega)
          obtain ⟨b2, o2, rfl, hlt2, _⟩ := (HP'.out.kept HK.out.bel).spot (by have := HQ.out; omega)
          obtain ⟨c0, c1, c2⟩ := p3_at (HP.out.kept HK.out.bel) hil
          obtain ⟨d0, d1, d2⟩ := p3_at (HP'.out.kept HK.out.bel) hir
          have HNx : Hid (P[i] = P'[i] → P.take (i + 1) = P'.take (i + 1)) := fun h => take_same HI.out hil hir h
          have HNe : Hid (P[i] ≠ P'[i] → R = false) := fun h => HNo.out (fun hh => by
            have e := (HD.out.1 hh).1
            subst e
            exact absurd rfl h)
          generalize P[i] = p at *
          generalize P'[i] = q at *
          obtain ⟨x, y, z⟩ := p
          obtain ⟨x2, y2, z2⟩ := q
          simp only at c0 c1 c2 d0 d1 d2
          clear hil hir hlt1 hlt2
          by_cases he : (x, y, z) = (x2, y2, z2)
          · have HE := Lib.hid (HNx.out he)
            clear HNx HNe
            cases he
            go_wp2
            go_region
            all_goals
              go_wp2
              go_roundg (gk - 1)
              case measure => omega
              case rel => exact ⟨i + 1, by omega, by go_num, HK.out.next (Below.refl _ _).drew, HE⟩
          · have HE := Lib.hid (HNe.out he)
            clear HNx HNe
            rcases neq_three he with e1 | ⟨e1, e2⟩ | ⟨e1, e2, e3⟩
            all_goals
              clear he
              go_wp2
              go_region
              all_goals
                go_wp2
                go_ret
                exact ⟨by rw [HE.out]; rfl, HK.out.bel.drew⟩
        · have ti : decide ((i : Int) < (n : Int)) = false := by simp; omega
          have HPe : Hid (P = P') := take_whole HI.out (by rw [HL.out]; omega) (by rw [HL'.out, ← HQ.out]; omega)
          go_wp2
          go_loopg [6] m (fun g s6 wx => ∃ i : Nat, i + g = m ∧ s6 = .int .i64 i ∧ Hid (MeshTwo w (.slice A n c) (.slice B m d) (.slice A' n' c') (.slice B' m' d') wx) ∧ Hid (T.take i = T'.take i))
          case atStart => exact ⟨0, by omega, rfl, HK, rfl⟩
          case round =>
            obtain ⟨j, hjg, rfl, HK2, HI2⟩ := hrel
            clear HK m0 m1 m2 m3
            have m0 := HK2.out.b0.cell 0
            have m1 := HK2.out.b0.cell 1
            have m2 := HK2.out.b1.cell 0
            have m3 := HK2.out.b1.cell 1
            by_cases hj : j < m
            · have tj : decide ((j : Int) < (m : Int)) = true := by simp; omega
              have j2 : (j : Int) < (m : Int) := by omega
              have j3 : (j : Int) < (m' : Int) := by rw [← HQ2.out]; exact j2
              have hil : j < T.length := by rw [HM.out]; exact hj
              have hir : j < T'.length := by rw [HM'.out, ← HQ2.out]; exact hj
              obtain ⟨b1, o1, rfl, hlt1, _⟩ := (HT.out.kept HK2.out.bel).spot (by omega)
              obtain ⟨b2, o2, rfl, hlt2, _⟩ := (HT'.out.kept HK2.out.bel).spot (by have := HQ2.out; omega)
              obtain ⟨c0, c1, c2⟩ := p3_at (HT.out.kept HK2.out.bel) hil
              obtain ⟨d0, d1, d2⟩ := p3_at (HT'.out.kept HK2.out.bel) hir
              have HNx : Hid (T[j] = T'[j] → T.take (j + 1) = T'.take (j + 1)) := fun h => take_same HI2.out hil hir h
              have HNe : Hid (T[j] ≠ T'[j] → R = false) := fun h => HNo.out (fun hh => by
                have e := (HD.out.1 hh).2
                subst e
                exact absurd rfl h)
              generalize T[j] = p at *
              generalize T'[j] = q at *
              obtain ⟨x, y, z⟩ := p
              obtain ⟨x2, y2, z2⟩ := q
              simp only at c0 c1 c2 d0 d1 d2
              clear hil hir hlt1 hlt2
              have hq3 := run_eq3 x y z x2 y2 z2
              by_cases he : (x, y, z) = (x2, y2, z2)
              · have HE := Lib.hid (HNx.out he)
                clear HNx HNe
                cases he
                go_wp2
                go_region
                all_goals
                  go_wp2
                  go_roundg (gk - 1)
                  case measure => omega
                  case rel => exact ⟨j + 1, by omega, by go_num, HK2.out.next (Below.refl _ _).drew, HE⟩
              · have HE := Lib.hid (HNe.out he)
                clear HNx HNe
                rcases neq_three he with e1 | ⟨e1, e2⟩ | ⟨e1, e2, e3⟩
                all_goals
                  clear he
                  go_wp2
                  go_region
                  all_goals
                    go_wp2
                    go_ret
                    exact ⟨by rw [HE.out]; rfl, HK2.out.bel.drew⟩
            · have tj : decide ((j : Int) < (m : Int)) = false := by simp; omega
              have HE : Hid (R = true) := HD.out.2 ⟨HPe.out, take_whole HI2.out (by rw [HM.out]; omega) (by rw [HM'.out, ← HQ2.out]; omega)⟩
              go_wp2
              go_ret
              exact ⟨by rw [HE.out]; rfl, HK2.out.bel⟩
    · have tq2 : ((m : Int) != (m' : Int)) = true := bne_iff_ne.2 (by omega)
      have HE : Hid (R = false) := HNo.out (fun hh => by
        have e := (HD.out.1 hh).2
        subst e
        exact hq2 (HM.out.symm.trans HM'.out))
      rw [HE.out]
      clear hq hq2
      go_enter Tryd.func36, Tryd.ntmps36
      go_wp2
      go_ret
      exact ⟨rfl, HK0.out.bel⟩
  · have tq : ((n : Int) != (n' : Int)) = true := bne_iff_ne.2 (by omega)
    have HE : Hid (R = false) := HNo.out (fun hh => by
      have e := (HD.out.1 hh).1
      subst e
      exact hq (HL.out.symm.trans HL'.out))
    rw [HE.out]
    go_enter Tryd.func36, Tryd.ntmps36
    go_wp2
    go_ret
    exact ⟨rfl, HK0.out.bel⟩
end Go.Proofs.YthjmojglcfmkmaaDoor

/- lapidaryref10: Edges. -/
namespace Go.Proofs.YthjmojglcfmkmaaDoor
open Go.RowKit

theorem MeshAt.over {w wx w' : World} {a b : Value} (h : MeshAt w a b wx) (hb : Below (w.heap.size + 1) wx w') : MeshAt w a b w' := ⟨h.b0.below hb (by omega), h.bel.trans (hb.mono (by omega))⟩
/-- The pairs of the first so many rows, and of the next one so many. -/
def rowsTo (n a b : Nat) : List (Int × Int) := ((List.range a).flatMap fun (x : Nat) => (List.range n).map fun (y : Nat) => ((x : Int), (y : Int))) ++ (List.range b).map fun (y : Nat) => ((a : Int), (y : Int))
theorem rows_none (n : Nat) : rowsTo n 0 0 = [] := rfl
theorem rows_next (n a b : Nat) : rowsTo n a (b + 1) = rowsTo n a b ++ [((a : Int), (b : Int))] := by
  unfold rowsTo
  rw [List.range_succ, List.map_append, ← List.append_assoc]
  rfl
theorem rows_row (n a : Nat) : rowsTo n a n = rowsTo n (a + 1) 0 := by
  unfold rowsTo
  rw [List.range_succ, List.flatMap_append]
  simp
theorem rows_all (n : Nat) : rowsTo n n 0 = pairsN n := by
  unfold rowsTo pairsN
  simp
theorem rows_len (n a b : Nat) : (rowsTo n a b).length = a * n + b := by
  unfold rowsTo
  rw [List.length_append, List.length_map, List.length_range, List.length_flatMap]
  have h : ∀ a : Nat, ((List.range a).map fun (x : Nat) => ((List.range n).map fun (y : Nat) => ((x : Int), (y : Int))).length).sum = a * n := by
    intro a
    induction a with
    | zero => simp
    | succ a ih => rw [List.range_succ, List.map_append, List.sum_append, ih, Nat.succ_mul]; simp
  rw [h]
theorem rows_filter (f : Int × Int → Bool) (n a b : Nat) : (rowsTo n a (b + 1)).filter f = (rowsTo n a b).filter f ++ if f ((a : Int), (b : Int)) then [((a : Int), (b : Int))] else [] := by
  rw [rows_next, List.filter_append]
  congr 1
  cases h : f ((a : Int), (b : Int)) <;> simp [h]
/-- Is there an edge to be told? -/
theorem edge_ways {T : List P3} {border : Bool} {a b : Int} {r : Bool} (h : edgeB (darts T) border (a, b) = r) :
    (border = true ∧ decide (0 ≤ hasF T a b) = false ∧ r = false) ∨ (border = true ∧ decide (0 ≤ hasF T a b) = true ∧ decide (0 ≤ hasF T b a) = !r) ∨
    (border = false ∧ decide (a < b) = false ∧ r = false) ∨ (border = false ∧ decide (a < b) = true ∧ decide (0 ≤ hasF T a b) = true ∧ r = true) ∨ (border = false ∧ decide (a < b) = true ∧ decide (0 ≤ hasF T a b) = false ∧ decide (0 ≤ hasF T b a) = r) := by
  have e : ∀ p q : Int, (darts T).contains (p, q) = decide (0 ≤ hasF T p q) := fun p q => by
    rw [Bool.eq_iff_iff, List.contains_iff_mem, decide_eq_true_eq]
    exact hasF_nonneg.symm
  unfold edgeB at h
  simp only [swapD] at h
  rw [e, e] at h
  subst h
  cases border <;> cases decide (0 ≤ hasF T a b) <;> cases decide (0 ≤ hasF T b a) <;> cases decide (a < b) <;> simp
/-- An answer of edges: in new memory. -/
def Edged (w : World) (l : List (Int × Int)) (e : Ending) (w' : World) : Prop := ∃ A c, e = .returned (.slice A l.length c) ∧ HasK 2 w' A l.length c (e2Cells l) ∧ Below w.heap.size w w' ∧ ∀ b off, A = some ⟨b, off, none⟩ → w.heap.size ≤ b
end Go.Proofs.YthjmojglcfmkmaaDoor

/- lapidaryref10: Pieces. -/
namespace Go.Proofs.YthjmojglcfmkmaaDoor
open Go.RowKit

/-- An answer of numbers: in new memory. -/
def Pieced (w : World) (p : List Nat) (e : Ending) (w' : World) : Prop := ∃ A c, e = .returned (.slice A p.length c) ∧ Has w' A p.length c (natVs p) ∧ Below w.heap.size w w' ∧ ∀ b off, A = some ⟨b, off, none⟩ → w.heap.size ≤ b
theorem natVs_set (l : List Nat) (i x : Nat) : (natVs l).set i (.int .i64 (x : Int)) = natVs (l.set i x) := by unfold natVs intVs; rw [List.map_set, List.map_set]
theorem natVs_getD {l : List Nat} {j : Nat} (h : j < l.length) : (natVs l)[j]? = some (.int .i64 ((l[j]?.getD 0 : Nat) : Int)) := by rw [natVs_at h, List.getElem?_eq_getElem h]; rfl
theorem intVs_setM (l : List Int) (i : Nat) (x : Int) : (intVs l).set i (.int .i64 x) = intVs (l.set i x) := by unfold intVs; rw [List.map_set]
theorem intVs_get {l : List Int} {j : Nat} {x : Int} (h : l[j]? = some x) : (intVs l)[j]? = some (.int .i64 x) := by unfold intVs; rw [List.getElem?_map, h]; rfl
end Go.Proofs.YthjmojglcfmkmaaDoor

/- Layer 10: what the calls answer. -/
namespace Go.Proofs.YthjmojglcfmkmaaDoor
open Go.RowKit

/-- Edges, and an error, in new memory. -/
def Edgd (w : World) (l : List (Int × Int)) (r : Int) (e : Ending) (w' : World) : Prop := ∃ A c, e = .returned (.tuple #[.slice A l.length c, .int .i64 r]) ∧ HasK 2 w' A l.length c (e2Cells l) ∧ Below w.heap.size w w' ∧ ∀ b off, A = some ⟨b, off, none⟩ → w.heap.size ≤ b
/-- Numbers, and an error, in new memory. -/
def Piecd (w : World) (p : List Nat) (r : Int) (e : Ending) (w' : World) : Prop := ∃ A c, e = .returned (.tuple #[.slice A p.length c, .int .i64 r]) ∧ Has w' A p.length c (natVs p) ∧ Below w.heap.size w w' ∧ ∀ b off, A = some ⟨b, off, none⟩ → w.heap.size ≤ b
/-- A mesh, in new memory: rows of the call's own, that share none. -/
def MeshOut (w : World) (P T : List P3) (f : Value → Ending) (e : Ending) (w' : World) : Prop :=
  ∃ A c B d, e = f (.agg #[.slice A P.length c, .slice B T.length d]) ∧ OwnK 3 w' w.heap.size 84 (.slice A P.length c) P.length (p3Cells P) ∧ OwnK 3 w' w.heap.size 58 (.slice B T.length d) T.length (p3Cells T) ∧ Below w.heap.size w w' ∧ ∀ b off b' off', A = some ⟨b, off, none⟩ → B = some ⟨b', off', none⟩ → b ≠ b'
/-- Points less edges and triangles more. -/
def eulerF (P T : List P3) : Int := (P.length : Int) - (edgesF P.length T false).length + T.length
/-- Do they say how each triangle begins? -/
def bysOk (T : List P3) (l : List Int) : Bool := decide (l.length = T.length) && l.all fun x => decide (0 ≤ x) && decide (x ≤ 2)
def turnedF (P T : List P3) (l : List Int) (r : Int) : List P3 × List P3 × Int := if r = 0 then (if bysOk T l then (P, turnsT T (l.map Int.toNat), 0) else ([], [], 2)) else ([], [], r)
theorem edges_le (n : Nat) (T : List P3) (b : Bool) : (edgesF n T b).length ≤ n * n := by
  unfold edgesF
  refine Nat.le_trans (List.length_filter_le _ _) ?_
  rw [← rows_all, rows_len]
  exact Nat.le_refl _
end Go.Proofs.YthjmojglcfmkmaaDoor
