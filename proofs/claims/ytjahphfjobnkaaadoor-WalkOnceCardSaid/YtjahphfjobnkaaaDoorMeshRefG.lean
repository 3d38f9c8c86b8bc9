import Derived.Test.YtjahphfjobnkaaaDoorMeshRefC
import Derived.ChangeKeysEq
import Derived.Test.YtjahphfjobnkaaaDoorMeshPlain
/- lapidaryref10: Check. -/
namespace Go.Proofs.YtjahphfjobnkaaaDoor
open Go.RowKit

/-- A mesh in a block of the call's own. -/
structure MeshAt (w : World) (a b : Value) (wx : World) : Prop where
  b0 : Blk wx w.heap.size 25 #[a, b]
  bel : Below w.heap.size w wx
theorem MeshAt.new (w : World) (a b : Value) : MeshAt w a b (w.alloc (.cells #[a, b] 25)) := ⟨Blk.new w _ _, new_alloc (Below.refl _ _) _⟩
theorem MeshAt.next {w wx w' : World} {a b : Value} (h : MeshAt w a b wx) (hb : Below wx.heap.size wx w') : MeshAt w a b w' := ⟨h.b0.below hb h.b0.lt, new_call h.bel hb⟩
theorem t3_cells {w : World} {b off n c : Nat} {l : List P3} (h : HasK 3 w (some ⟨b, off, none⟩) n c (p3Cells l)) {i : Nat} (hi : i < l.length) {k : Nat} (hk : k < 3) : w.cell? ⟨b, off + i * 3 + k, none⟩ = some (.int .i64 (at3 l[i] k)) := by
  obtain ⟨h1, h2, h3⟩ := p3_at h hi
  rcases (show k = 0 ∨ k = 1 ∨ k = 2 by omega) with rfl | rfl | rfl
  · exact h1
  · exact h2
  · exact h3
set_option maxRecDepth 100000 in
set_option maxHeartbeats 4000000 in
theorem ref10Check_any (A : Option Addr) (n c : Nat) (P : List P3) (B : Option Addr) (m d : Nat) (T : List P3) (r : Int) (w : World) (hp : HasK 3 w A n c (p3Cells P)) (ht : HasK 3 w B m d (p3Cells T)) (hn : n ≤ 100000) (hm : m ≤ 100000) (hr : CheckIs P T r) : Calls Tryd.prog 21 #[.agg #[.slice A n c, .slice B m d]] w fun e w' => e = .returned (.int .i64 r) ∧ Below w.heap.size w w' := by
  have HL : Hid (P.length = n) := by have := hp.len; rw [p3Cells_len] at this; show _ = _; omega
  have HM : Hid (T.length = m) := by have := ht.len; rw [p3Cells_len] at this; show _ = _; omega
  have HP := Lib.hid hp
  have HT := Lib.hid ht
  have HR := Lib.hid hr
  have HK0 := Lib.hid (MeshAt.new w (.slice A n c) (.slice B m d))
  have HPl := Lib.hid (fun W (hW : Below w.heap.size w W) => ref10plain_any A n c P B m d T W (hp.kept hW) (ht.kept hW) hn hm)
  clear hp ht hr
  by_cases h1 : (4000 : Int) < n
  · have HE : Hid (r = 3) := check_one HR.out (Or.inl ⟨Or.inl (by have := HL.out; omega), rfl⟩)
    have t1 : decide ((4000 : Int) < (n : Int)) = true := by simpa using h1
    have m0 := HK0.out.b0.cell 0
    have m1 := HK0.out.b0.cell 1
    rw [HE.out]
    go_enter Tryd.func21, Tryd.ntmps21
    go_wp2
    go_ret
    exact ⟨rfl, HK0.out.bel⟩
  · have t1 : decide ((4000 : Int) < (n : Int)) = false := by simpa using h1
    by_cases h2 : (8000 : Int) < m
    · have HE : Hid (r = 3) := check_one HR.out (Or.inl ⟨Or.inr (by have := HM.out; omega), rfl⟩)
      have t2 : decide ((8000 : Int) < (m : Int)) = true := by simpa using h2
      have m0 := HK0.out.b0.cell 0
      have m1 := HK0.out.b0.cell 1
      rw [HE.out]
      go_enter Tryd.func21, Tryd.ntmps21
      go_wp2
      go_ret
      exact ⟨rfl, HK0.out.bel⟩
    · have t2 : decide ((8000 : Int) < (m : Int)) = false := by simpa using h2
      have HSh : Hid (¬ longM P T) := fun h => by
        have e1 := HL.out
        have e2 := HM.out
        rcases h with h | h <;> omega
      have m0 := HK0.out.b0.cell 0
      have m1 := HK0.out.b0.cell 1
      have HPl1 := Lib.hid (HPl.out _ HK0.out.bel)
      cases hpl : plainM P T with
      | false =>
        have HE : Hid (r = 2) := check_one HR.out (Or.inr (Or.inl ⟨HSh.out, hpl, rfl⟩))
        rw [hpl] at HPl1
        clear hpl HPl
        rw [HE.out]
        go_enter Tryd.func21, Tryd.ntmps21
        go_wp2_with fail
        refine HPl1.out.mono ?_
        rintro e w1 ⟨rfl, hb1⟩
        go_wp2
        go_ret
        exact ⟨rfl, (HK0.out.next hb1).bel⟩
      | true =>
        have HPt := Lib.hid hpl
        rw [hpl] at HPl1
        clear hpl HPl
        go_enter Tryd.func21, Tryd.ntmps21
        go_wp2_with fail
        refine HPl1.out.mono ?_
        rintro e w1 ⟨rfl, hb1⟩
        have HK1 := Lib.hid (HK0.out.next hb1)
        clear hb1 HK0 m0 m1 HPl1
        go_wp2
        go_loopg [3] m (fun g s3 wx => ∃ i : Nat, i + g = m ∧ s3 = .int .i64 i ∧ Hid (MeshAt w (.slice A n c) (.slice B m d) wx) ∧ Hid (∀ j, j < i → ∀ hj : j < T.length, ∀ e ∈ dirs T[j], hasF T e.1 e.2 = j))
        case atStart => exact ⟨0, by omega, rfl, HK1, fun j hj => absurd hj (by omega)⟩
        case round =>
          obtain ⟨i, hig, rfl, HK, HI⟩ := hrel
          clear HK1
          have m0 := HK.out.b0.cell 0
          have m1 := HK.out.b0.cell 1
          by_cases hi : i < m
          · have ti : decide ((i : Int) < (m : Int)) = true := by simp; omega
            have i2 : (i : Int) < (m : Int) := by omega
            have hil : i < T.length := by rw [HM.out]; exact hi
            obtain ⟨b, off, rfl, hlt, _⟩ := (HT.out.kept HK.out.bel).spot (by omega)
            have HCl : Hid (∀ W, Below w.heap.size w W → ∀ k, k < 3 → W.cell? ⟨b, off + i * 3 + k, none⟩ = some (.int .i64 (at3 T[i] k))) := fun W hW k hk => t3_cells (HT.out.kept hW) hil hk
            have HNx : Hid ((∀ k, k < 3 → hasF T (at3 T[i] k) (at3 T[i] ((k + 1) % 3)) = i) → ∀ j, j < i + 1 → ∀ hj : j < T.length, ∀ e ∈ dirs T[j], hasF T e.1 e.2 = j) := fun h j hj hjl e he => by
              by_cases ej : j = i
              · subst ej
                obtain ⟨k, hk, rfl⟩ := dirs_mem_at.1 he
                exact h k hk
              · exact HI.out j (by omega) hjl e he
            have HBad : Hid (∀ k, k < 3 → hasF T (at3 T[i] k) (at3 T[i] ((k + 1) % 3)) ≠ i → r = 80) := fun k hk h => by
              refine check_one HR.out (Or.inr (Or.inr (Or.inl ⟨HSh.out, HPt.out, fun hnd => ?_, rfl⟩)))
              exact h ((nodup_has (plain_all HPt.out)).1 hnd i hil _ (dirs_mem_at.2 ⟨k, hk, rfl⟩))
            have HHs := Lib.hid (fun a b' W (hW : Below w.heap.size w W) => ref10Has_any (some ⟨b, off, none⟩) m d T a b' W (HT.out.kept hW) hm)
            generalize T[i] = t at *
            clear hil hlt
            go_wp2
            try rw [ti]
            go_loopg [4] 3 (fun g s4 wx => ∃ k : Nat, k + g = 3 ∧ s4 = .int .i64 k ∧ Hid (MeshAt w (.slice A n c) (.slice (some ⟨b, off, none⟩) m d) wx) ∧ Hid (∀ j, j < k → hasF T (at3 t j) (at3 t ((j + 1) % 3)) = i))
            case atStart => exact ⟨0, by omega, rfl, HK, fun j hj => absurd hj (by omega)⟩
            case round =>
              obtain ⟨k, hkg, rfl, HKk, HIk⟩ := hrel
              clear m0 m1
              have m0 := HKk.out.b0.cell 0
              have m1 := HKk.out.b0.cell 1
              by_cases hk : k < 3
              · have tk : decide ((k : Int) < 3) = true := by simp; omega
                have k2 : (k : Int) < 3 := by omega
                have tn := next3 hk
                have g1 : IntKind.wrap .i64 ((k : Int) + 1) = (k : Int) + 1 := by rw [IntKind.wrap_i64]; omega
                have f1 : wrap64 ((k : Int) + 1) = (k : Int) + 1 := by unfold wrap64; omega
                obtain ⟨k1, hk1⟩ : ∃ j, (k + 1) % 3 = j := ⟨_, rfl⟩
                have hl1 : k1 < 3 := by omega
                have hl2 : (k1 : Int) < 3 := by omega
                have HB2 := Lib.hid (HBad.out k hk)
                rw [hk1] at tn HB2
                have HG : Hid (hasF T (at3 t k) (at3 t k1) = i → ∀ j, j < k + 1 → hasF T (at3 t j) (at3 t ((j + 1) % 3)) = i) := fun h j hj => by
                  by_cases e : j = k
                  · subst e; rw [hk1]; exact h
                  · exact HIk.out j (by omega)
                have HS : Hid (∀ W, Below wr.heap.size wr W → W.cell? ⟨w.heap.size, 1, none⟩ = some (.slice (some ⟨b, off, none⟩) m d) ∧ W.cell? ⟨b, off + i * 3 + k, none⟩ = some (.int .i64 (at3 t k)) ∧ W.cell? ⟨b, off + i * 3 + k1, none⟩ = some (.int .i64 (at3 t k1))) := fun W hW => by
                  have h := HKk.out.next hW
                  exact ⟨h.b0.cell 1, HCl.out W h.bel k hk, HCl.out W h.bel k1 hl1⟩
                have HHk := Lib.hid (HHs.out (at3 t k) (at3 t k1) wr.drew (HKk.out.bel.drew))
                have HBv0 : Hid (Below wr.heap.size wr wr.drew) := (Below.refl _ _).drew
                clear hk1
                generalize at3 t k = p at *
                generalize at3 t k1 = q at *
                have HQ : Hid ((hasF T p q = (i : Int)) ∧ (hasF T p q != (i : Int)) = false ∨ (hasF T p q ≠ (i : Int)) ∧ (hasF T p q != (i : Int)) = true) := by
                  by_cases h : hasF T p q = (i : Int)
                  · exact Or.inl ⟨h, by simpa using h⟩
                  · exact Or.inr ⟨h, bne_iff_ne.2 h⟩
                generalize hasF T p q = z at *
                go_wp2_with (with_reducible fail)
                go_region_held3 (fun W => W.cell? ⟨w.heap.size, 1, none⟩ = some (.slice (some ⟨b, off, none⟩) m d) ∧ W.cell? ⟨b, off + i * 3 + k, none⟩ = some (.int .i64 p) ∧ W.cell? ⟨b, off + i * 3 + k1, none⟩ = some (.int .i64 q)) (first | (with_reducible exact HS.out _ HBv0.out)) (first
                  | (go_at_call 20; (with_reducible refine HHk.out.mono ?_); rintro e v1 ⟨rfl, rfl⟩))
                all_goals
                  have HK3 := Lib.hid (HKk.out.next HBv0.out)
                  rcases HQ.out with ⟨hq, tq⟩ | ⟨hq, tq⟩
                  · have HE := Lib.hid (HG.out hq)
                    clear hq HG HB2 HBad
                    go_wp2
                    go_roundg (gk - 1)
                    case measure => omega
                    case rel => exact ⟨k + 1, by omega, by go_num, HK3, HE⟩
                  · have HE := Lib.hid (HB2.out hq)
                    clear hq HG HB2 HBad
                    go_wp2
                    go_ret
                    exact ⟨by rw [HE.out]; rfl, HK3.out.bel⟩
              · have tk : decide ((k : Int) < 3) = false := by simp; omega
                have HE := Lib.hid (HNx.out (fun j hj => HIk.out j (by omega)))
                go_wp2
                go_roundg (m - (i + 1))
                case measure => omega
                case rel => exact ⟨i + 1, by omega, by go_num, HKk, HE⟩
          · have ti : decide ((i : Int) < (m : Int)) = false := by simp; omega
            have HNd : Hid (darts T).Nodup := (nodup_has (plain_all HPt.out)).2 (fun j hj e he => HI.out j (by have := HM.out; omega) hj e he)
            clear HI
            go_wp2
            go_loopg [5] n (fun g s5 wx => ∃ i : Nat, i + g = n ∧ s5 = .int .i64 i ∧ Hid (MeshAt w (.slice A n c) (.slice B m d) wx) ∧ Hid (∀ v : Nat, v < i → Fan T v))
            case atStart => exact ⟨0, by omega, rfl, HK, fun v hv => absurd hv (by omega)⟩
            case round =>
              obtain ⟨v, hvg, rfl, HKv, HIv⟩ := hrel
              clear m0 m1
              have m0 := HKv.out.b0.cell 0
              have m1 := HKv.out.b0.cell 1
              by_cases hv : v < n
              · have tv : decide ((v : Int) < (n : Int)) = true := by simp; omega
                have v2 : (v : Int) < (n : Int) := by omega
                by_cases hf : Fan T v
                · have HOn := Lib.hid (ref10one_any B m d T v true wr (HT.out.kept HKv.out.bel) hm (darts_nodup HNd.out) ⟨fun _ => hf, fun _ => rfl⟩)
                  have HE : Hid (∀ u : Nat, u < v + 1 → Fan T u) := fun u hu => by
                    by_cases e : u = v
                    · subst e; exact hf
                    · exact HIv.out u (by omega)
                  clear hf
                  go_wp2_with fail
                  refine HOn.out.mono ?_
                  rintro e w3 ⟨rfl, hb3⟩
                  have HK3 := Lib.hid (HKv.out.next hb3)
                  clear hb3
                  go_wp2
                  go_roundg (gk - 1)
                  case measure => omega
                  case rel => exact ⟨v + 1, by omega, by go_num, HK3, HE⟩
                · have HOn := Lib.hid (ref10one_any B m d T v false wr (HT.out.kept HKv.out.bel) hm (darts_nodup HNd.out) ⟨fun h => (by cases h), fun h => absurd h hf⟩)
                  have HE : Hid (r = 81) := check_one HR.out (Or.inr (Or.inr (Or.inr (Or.inl ⟨HSh.out, HPt.out, HNd.out, fun hh => hf (hh v (by have := HL.out; omega)), rfl⟩))))
                  clear hf
                  go_wp2_with fail
                  refine HOn.out.mono ?_
                  rintro e w3 ⟨rfl, hb3⟩
                  have HK3 := Lib.hid (HKv.out.next hb3)
                  clear hb3
                  go_wp2
                  go_ret
                  exact ⟨by rw [HE.out]; rfl, HK3.out.bel⟩
              · have tv : decide ((v : Int) < (n : Int)) = false := by simp; omega
                have HE : Hid (r = 0) := check_one HR.out (Or.inr (Or.inr (Or.inr (Or.inr ⟨HSh.out, HPt.out, HNd.out, fun u hu => HIv.out u (by have := HL.out; omega), rfl⟩))))
                go_wp2
                go_ret
                exact ⟨by rw [HE.out]; rfl, HKv.out.bel⟩
end Go.Proofs.YtjahphfjobnkaaaDoor

/- lapidaryref10: Same, SameEdges. -/
namespace Go.Proofs.YtjahphfjobnkaaaDoor
open Go.RowKit

/-- Edges in rows: two cells each. -/
def e2Cells (l : List (Int × Int)) : List Value := l.flatMap fun p => [.int .i64 p.1, .int .i64 p.2]
theorem e2Cells_len (l : List (Int × Int)) : (e2Cells l).length = l.length * 2 := by
  induction l with
  | nil => rfl
  | cons p l ih => simp only [e2Cells, List.flatMap_cons, List.length_append, List.length_cons, List.length_nil] at *; omega
theorem e2Cells_app (l r : List (Int × Int)) : e2Cells (l ++ r) = e2Cells l ++ e2Cells r := by simp [e2Cells]
theorem e2Cells_at {l : List (Int × Int)} {i : Nat} (h : i < l.length) : (e2Cells l)[i * 2]? = some (.int .i64 l[i].1) ∧ (e2Cells l)[i * 2 + 1]? = some (.int .i64 l[i].2) := by
  induction l generalizing i with
  | nil => simp at h
  | cons q l ih =>
    have e : e2Cells (q :: l) = .int .i64 q.1 :: .int .i64 q.2 :: e2Cells l := by simp [e2Cells]
    cases i with
    | zero => rw [e]; simp
    | succ i =>
      have := ih (i := i) (by simpa using h)
      rw [e, show (i + 1) * 2 = i * 2 + 1 + 1 by omega]
      simpa using this
theorem e2Cells_one (l : List (Int × Int)) : ∀ u ∈ e2Cells l, u.oneCell' = true := by
  intro u hu
  obtain ⟨p, _, hu⟩ := List.mem_flatMap.1 hu
  simp at hu
  rcases hu with rfl | rfl <;> rfl
theorem elemE2 : ElemK Tryd.prog 35 79 2 16 := by
  have h : (Tryd.prog.info? 79).map (fun i => (i.zero, i.size, i.bytes)) = some (some (.agg #[.int .i64 0, .int .i64 0]), 2, 16) := by kernel_rfl
  obtain ⟨i, h1, h2, h3, h4⟩ := info_parts h
  exact ⟨Tryd.underlying35, i, _, h1, h2, h3, h4, rfl⟩
theorem e2_at {w : World} {b off n c : Nat} {l : List (Int × Int)} (h : HasK 2 w (some ⟨b, off, none⟩) n c (e2Cells l)) {i : Nat} (hi : i < l.length) : w.cell? ⟨b, off + i * 2, none⟩ = some (.int .i64 l[i].1) ∧ w.cell? ⟨b, off + i * 2 + 1, none⟩ = some (.int .i64 l[i].2) := by
  have hn : 0 < n := by
    have := h.len
    rw [e2Cells_len] at this
    omega
  obtain ⟨_, _, e, _, hc⟩ := h.spot hn
  cases e
  obtain ⟨h1, h2⟩ := e2Cells_at hi
  exact ⟨hc _ _ h1, by rw [Nat.add_assoc]; exact hc _ _ h2⟩
theorem run_eq2 (x y a b : Int) (W : World) : (Op.equalIn 10000 79 (.agg #[.int .i64 x, .int .i64 y]) (.agg #[.int .i64 a, .int .i64 b])).run Tryd.prog W = .ok ((x == a) && (y == b)) W := by
  have h : (Tryd.prog.info? 3).map (fun i => (i.zero, i.size, i.bytes)) = some (some (.int .i64 0), 1, 8) := by kernel_rfl
  obtain ⟨i, h1, h2, h3, h4⟩ := info_parts h
  rw [show (10000 : Nat) = 9999 + 1 from rfl, run_equalIn_array W 9999 _ _ Tryd.underlying79 h1]
  have hc : Tryd.prog.cellsOf 3 = 1 := by kernel_rfl
  rw [hc]
  show (Op.eqItems 9999 3 1 _ _ [0, 1]).run Tryd.prog W = _
  unfold Op.eqItems
  go_simp
  by_cases e0 : x = a
  · rw [if_pos e0]
    subst e0
    unfold Op.eqItems
    go_simp
    by_cases e1 : y = b
    · rw [if_pos e1]
      subst e1
      unfold Op.eqItems
      simp
    · rw [if_neg e1]
      simp [beq_eq_false_iff_ne.2 e1]
  · rw [if_neg e0]
    simp [beq_eq_false_iff_ne.2 e0]
theorem run_eq3 (x y z a b c : Int) (W : World) : (Op.equalIn 10000 50 (.agg #[.int .i64 x, .int .i64 y, .int .i64 z]) (.agg #[.int .i64 a, .int .i64 b, .int .i64 c])).run Tryd.prog W = .ok ((x == a) && (y == b) && (z == c)) W := by
  have h : (Tryd.prog.info? 3).map (fun i => (i.zero, i.size, i.bytes)) = some (some (.int .i64 0), 1, 8) := by kernel_rfl
  obtain ⟨i, h1, h2, h3, h4⟩ := info_parts h
  rw [show (10000 : Nat) = 9999 + 1 from rfl, run_equalIn_array W 9999 _ _ Tryd.underlying50 h1]
  have hc : Tryd.prog.cellsOf 3 = 1 := by kernel_rfl
  rw [hc]
  show (Op.eqItems 9999 3 1 _ _ [0, 1, 2]).run Tryd.prog W = _
  unfold Op.eqItems
  go_simp
  by_cases e0 : x = a
  · rw [if_pos e0]
    subst e0
    unfold Op.eqItems
    go_simp
    by_cases e1 : y = b
    · rw [if_pos e1]
      subst e1
      unfold Op.eqItems
      go_simp
      by_cases e2 : z = c
      · rw [if_pos e2]
        subst e2
        unfold Op.eqItems
        simp
      · rw [if_neg e2]
        simp [beq_eq_false_iff_ne.2 e2]
    · rw [if_neg e1]
      simp [beq_eq_false_iff_ne.2 e1]
  · rw [if_neg e0]
    simp [beq_eq_false_iff_ne.2 e0]
theorem neq_three {x y z a b c : Int} (h : ¬ (x, y, z) = (a, b, c)) : (x == a) = false ∨ ((x == a) = true ∧ (y == b) = false) ∨ ((x == a) = true ∧ (y == b) = true ∧ (z == c) = false) := by
  by_cases h1 : x = a
  · by_cases h2 : y = b
    · by_cases h3 : z = c
      · subst h1 h2 h3; exact absurd rfl h
      · exact Or.inr (Or.inr ⟨beq_iff_eq.2 h1, beq_iff_eq.2 h2, beq_eq_false_iff_ne.2 h3⟩)
    · exact Or.inr (Or.inl ⟨beq_iff_eq.2 h1, beq_eq_false_iff_ne.2 h2⟩)
  · exact Or.inl (beq_eq_false_iff_ne.2 h1)
/-- As far as one has looked the same. -/
theorem take_same {α : Type} {l r : List α} {i : Nat} (h : l.take i = r.take i) (hl : i < l.length) (hr : i < r.length) (he : l[i] = r[i]) : l.take (i + 1) = r.take (i + 1) := by
  rw [List.take_succ_eq_append_getElem hl, List.take_succ_eq_append_getElem hr, h, he]
theorem take_whole {α : Type} {l r : List α} {i : Nat} (h : l.take i = r.take i) (hl : l.length ≤ i) (hr : r.length ≤ i) : l = r := by
  rw [List.take_of_length_le hl, List.take_of_length_le hr] at h; exact h
/-- Two meshes in blocks of the call's own. -/
structure MeshTwo (w : World) (a b p q : Value) (wx : World) : Prop where
  b0 : Blk wx w.heap.size 25 #[a, b]
  b1 : Blk wx (w.heap.size + 1) 25 #[p, q]
  bel : Below w.heap.size w wx
theorem MeshTwo.new (w : World) (a b p q : Value) : MeshTwo w a b p q ((w.alloc (.cells #[a, b] 25)).alloc (.cells #[p, q] 25)) := by
  refine ⟨(Blk.new w _ _).alloc _, ?_, new_alloc (new_alloc (Below.refl _ _) _) _⟩
  have h := Blk.new (w.alloc (.cells #[a, b] 25)) 25 #[p, q]
  rw [show (w.alloc (.cells #[a, b] 25)).heap.size = w.heap.size + 1 from Array.size_push _] at h
  exact h
theorem MeshTwo.next {w wx w' : World} {a b p q : Value} (h : MeshTwo w a b p q wx) (hb : Below wx.heap.size wx w') : MeshTwo w a b p q w' := ⟨h.b0.below hb h.b0.lt, h.b1.below hb h.b1.lt, new_call h.bel hb⟩
set_option maxRecDepth 100000 in
set_option maxHeartbeats 3200000 in
theorem ref10Same_any (A : Option Addr) (n c : Nat) (P : List P3) (B : Option Addr) (m d : Nat) (T : List P3) (A' : Option Addr) (n' c' : Nat) (P' : List P3) (B' : Option Addr) (m' d' : Nat) (T' : List P3) (w : World) (hp : HasK 3 w A n c (p3Cells P)) (ht : HasK 3 w B m d (p3Cells T)) (hp' : HasK 3 w A' n' c' (p3Cells P')) (ht' : HasK 3 w B' m' d' (p3Cells T')) (hn : n ≤ 100000) (hm : m ≤ 100000) (_ : n' ≤ 100000) (_ : m' ≤ 100000) : Calls Tryd.prog 18 #[.agg #[.slice A n c, .slice B m d], .agg #[.slice A' n' c', .slice B' m' d']] w fun e w' => e = .returned (.bool (decide (P = P' ∧ T = T'))) ∧ Below w.heap.size w w' := by
  have HL : Hid (P.length = n) := by have := hp.len; rw [p3Cells_len] at this; show _ = _; omega
  have HM : Hid (T.length = m) := by have := ht.len; rw [p3Cells_len] at this; show _ = _; omega
  have HL' : Hid (P'.length = n') := by have := hp'.len; rw [p3Cells_len] at this; show _ = _; omega
  have HM' : Hid (T'.length = m') := by have := ht'.len; rw [p3Cells_len] at this; show _ = _; omega
  have HP := Lib.hid hp
  have HT := Lib.hid ht
  have HP' := Lib.hid hp'
  have HT' := Lib.hid ht'
  have HK0 := Lib.hid (MeshTwo.new w (.slice A n c) (.slice B m d) (.slice A' n' c') (.slice B' m' d'))
  clear hp ht hp' ht'
  have m0 := HK0.out.b0.cell 0
  have m1 := HK0.out.b0.cell 1
  have m2 := HK0.out.b1.cell 0
  have m3 := HK0.out.b1.cell 1
  have HD : Hid (decide (P = P' ∧ T = T') = true ↔ (P = P' ∧ T = T')) := decide_eq_true_iff
  have HNo : Hid (∀ {b : Bool}, ¬ b = true → b = false) := fun h => by simpa using h
  generalize decide (P = P' ∧ T = T') = R at *
  by_cases hq : n = n'
  · have tq : ((n : Int) != (n' : Int)) = false := by rw [hq]; simp
    by_cases hq2 : m = m'
    · have tq2 : ((m : Int) != (m' : Int)) = false := by rw [hq2]; simp
      have HQ := Lib.hid hq
      have HQ2 := Lib.hid hq2
      clear hq hq2
      go_enter Tryd.func18, Tryd.ntmps18
      go_wp2
      generalize (w.alloc (.cells #[.slice A n c, .slice B m d] 25)).alloc (.cells #[.slice A' n' c', .slice B' m' d'] 25) = W at *
      go_loopg [5] n (fun g s5 wx => ∃ i : Nat, i + g = n ∧ s5 = .int .i64 i ∧ Hid (MeshTwo w (.slice A n c) (.slice B m d) (.slice A' n' c') (.slice B' m' d') wx) ∧ Hid (P.take i = P'.take i))
      case atStart => exact ⟨0, by omega, rfl, HK0, rfl⟩
      case round =>
        obtain ⟨i, hig, rfl, HK, HI⟩ := hrel
        clear HK0 m0 m1 m2 m3
        have m0 := HK.out.b0.cell 0
        have m1 := HK.out.b0.cell 1
        have m2 := HK.out.b1.cell 0
        have m3 := HK.out.b1.cell 1
        by_cases hi : i < n
        · have ti : decide ((i : Int) < (n : Int)) = true := by simp; omega
          have i2 : (i : Int) < (n : Int) := by omega
          have i3 : (i : Int) < (n' : Int) := by rw [← HQ.out]; exact i2
          have hil : i < P.length := by rw [HL.out]; exact hi
          have hir : i < P'.length := by rw [HL'.out, ← HQ.out]; exact hi
          obtain ⟨b1, o1, rfl, hlt1, _⟩ := (HP.out.kept HK.out.bel).spot (by omega)
          obtain ⟨b2, o2, rfl, hlt2, _⟩ := (HP'.out.kept HK.out.bel).spot (by have := HQ.out; omega)
          obtain ⟨c0, c1, c2⟩ := p3_at (HP.out.kept HK.out.bel) hil
          obtain ⟨d0, d1, d2⟩ := p3_at (HP'.out.kept HK.out.bel) hir
          have HNx : Hid (P[i] = P'[i] → P.take (i + 1) = P'.take (i + 1)) := fun h => take_same HI.out hil hir h
          have HNe : Hid (P[i] ≠ P'[i] → R = false) := fun h => HNo.out (fun hh => by
            have e := (HD.out.1 hh).1
            subst e
            exact absurd rfl h)
          generalize P[i] = p at *
          generalize P'[i] = q at *
          obtain ⟨x, y, z⟩ := p
          obtain ⟨x2, y2, z2⟩ := q
          simp only at c0 c1 c2 d0 d1 d2
          clear hil hir hlt1 hlt2
          by_cases he : (x, y, z) = (x2, y2, z2)
          · have HE := Lib.hid (HNx.out he)
            clear HNx HNe
            cases he
            go_wp2
            go_region
            all_goals
              go_wp2
              go_roundg (gk - 1)
              case measure => omega
              case rel => exact ⟨i + 1, by omega, by go_num, HK.out.next (Below.refl _ _).drew, HE⟩
          · have HE := Lib.hid (HNe.out he)
            clear HNx HNe
            rcases neq_three he with e1 | ⟨e1, e2⟩ | ⟨e1, e2, e3⟩
            all_goals
              clear he
              go_wp2
              go_region
              all_goals
                go_wp2
                go_ret
                exact ⟨by rw [HE.out]; rfl, HK.out.bel.drew⟩
        · have ti : decide ((i : Int) < (n : Int)) = false := by simp; omega
          have HPe : Hid (P = P') := take_whole HI.out (by rw [HL.out]; omega) (by rw [HL'.out, ← HQ.out]; omega)
          go_wp2
          go_loopg [6] m (fun g s6 wx => ∃ i : Nat, i + g = m ∧ s6 = .int .i64 i ∧ Hid (MeshTwo w (.slice A n c) (.slice B m d) (.slice A' n' c') (.slice B' m' d') wx) ∧ Hid (T.take i = T'.take i))
          case atStart => exact ⟨0, by omega, rfl, HK, rfl⟩
          case round =>
            obtain ⟨j, hjg, rfl, HK2, HI2⟩ := hrel
            clear HK m0 m1 m2 m3
            have m0 := HK2.out.b0.cell 0
            have m1 := HK2.out.b0.cell 1
            have m2 := HK2.out.b1.cell 0
            have m3 := HK2.out.b1.cell 1
            by_cases hj : j < m
            · have tj : decide ((j : Int) < (m : Int)) = true := by simp; omega
              have j2 : (j : Int) < (m : Int) := by omega
              have j3 : (j : Int) < (m' : Int) := by rw [← HQ2.out]; exact j2
              have hil : j < T.length := by rw [HM.out]; exact hj
              have hir : j < T'.length := by rw [HM'.out, ← HQ2.out]; exact hj
              obtain ⟨b1, o1, rfl, hlt1, _⟩ := (HT.out.kept HK2.out.bel).spot (by omega)
              obtain ⟨b2, o2, rfl, hlt2, _⟩ := (HT'.out.kept HK2.out.bel).spot (by have := HQ2.out; omega)
              obtain ⟨c0, c1, c2⟩ := p3_at (HT.out.kept HK2.out.bel) hil
              obtain ⟨d0, d1, d2⟩ := p3_at (HT'.out.kept HK2.out.bel) hir
              have HNx : Hid (T[j] = T'[j] → T.take (j + 1) = T'.take (j + 1)) := fun h => take_same HI2.out hil hir h
              have HNe : Hid (T[j] ≠ T'[j] → R = false) := fun h => HNo.out (fun hh => by
                have e := (HD.out.1 hh).2
                subst e
                exact absurd rfl h)
              generalize T[j] = p at *
              generalize T'[j] = q at *
              obtain ⟨x, y, z⟩ := p
              obtain ⟨x2, y2, z2⟩ := q
              simp only at c0 c1 c2 d0 d1 d2
              clear hil hir hlt1 hlt2
              have hq3 := run_eq3 x y z x2 y2 z2
              by_cases he : (x, y, z) = (x2, y2, z2)
              · have HE := Lib.hid (HNx.out he)
                clear HNx HNe
                cases he
                go_wp2
                go_region
                all_goals
                  go_wp2
                  go_roundg (gk - 1)
                  case measure => omega
                  case rel => exact ⟨j + 1, by omega, by go_num, HK2.out.next (Below.refl _ _).drew, HE⟩
              · have HE := Lib.hid (HNe.out he)
                clear HNx HNe
                rcases neq_three he with e1 | ⟨e1, e2⟩ | ⟨e1, e2, e3⟩
                all_goals
                  clear he
                  go_wp2
                  go_region
                  all_goals
                    go_wp2
                    go_ret
                    exact ⟨by rw [HE.out]; rfl, HK2.out.bel.drew⟩
            · have tj : decide ((j : Int) < (m : Int)) = false := by simp; omega
              have HE : Hid (R = true) := HD.out.2 ⟨HPe.out, take_whole HI2.out (by rw [HM.out]; omega) (by rw [HM'.out, ← HQ2.out]; omega)⟩
              go_wp2
              go_ret
              exact ⟨by rw [HE.out]; rfl, HK2.out.bel⟩
    · have tq2 : ((m : Int) != (m' : Int)) = true := bne_iff_ne.2 (by omega)
      have HE : Hid (R = false) := HNo.out (fun hh => by
        have e := (HD.out.1 hh).2
        subst e
        exact hq2 (HM.out.symm.trans HM'.out))
      rw [HE.out]
      clear hq hq2
      go_enter Tryd.func18, Tryd.ntmps18
      go_wp2
      go_ret
      exact ⟨rfl, HK0.out.bel⟩
  · have tq : ((n : Int) != (n' : Int)) = true := bne_iff_ne.2 (by omega)
    have HE : Hid (R = false) := HNo.out (fun hh => by
      have e := (HD.out.1 hh).1
      subst e
      exact hq (HL.out.symm.trans HL'.out))
    rw [HE.out]
    go_enter Tryd.func18, Tryd.ntmps18
    go_wp2
    go_ret
    exact ⟨rfl, HK0.out.bel⟩
end Go.Proofs.YtjahphfjobnkaaaDoor

/- lapidaryref10: Edges. -/
namespace Go.Proofs.YtjahphfjobnkaaaDoor
open Go.RowKit

theorem MeshAt.over {w wx w' : World} {a b : Value} (h : MeshAt w a b wx) (hb : Below (w.heap.size + 1) wx w') : MeshAt w a b w' := ⟨h.b0.below hb (by omega), h.bel.trans (hb.mono (by omega))⟩
/-- The pairs of the first so many rows, and of the next one so many. -/
def rowsTo (n a b : Nat) : List (Int × Int) := ((List.range a).flatMap fun (x : Nat) => (List.range n).map fun (y : Nat) => ((x : Int), (y : Int))) ++ (List.range b).map fun (y : Nat) => ((a : Int), (y : Int))
theorem rows_none (n : Nat) : rowsTo n 0 0 = [] := rfl
theorem rows_next (n a b : Nat) : rowsTo n a (b + 1) = rowsTo n a b ++ [((a : Int), (b : Int))] := by
  unfold rowsTo
  rw [List.range_succ, List.map_append, ← List.append_assoc]
  rfl
theorem rows_row (n a : Nat) : rowsTo n a n = rowsTo n (a + 1) 0 := by
  unfold rowsTo
  rw [List.range_succ, List.flatMap_append]
  simp
theorem rows_all (n : Nat) : rowsTo n n 0 = pairsN n := by
  unfold rowsTo pairsN
  simp
theorem rows_len (n a b : Nat) : (rowsTo n a b).length = a * n + b := by
  unfold rowsTo
  rw [List.length_append, List.length_map, List.length_range, List.length_flatMap]
  have h : ∀ a : Nat, ((List.range a).map fun (x : Nat) => ((List.range n).map fun (y : Nat) => ((x : Int), (y : Int))).length).sum = a * n := by
    intro a
    induction a with
    | zero => simp
    | succ a ih => rw [List.range_succ, List.map_append, List.sum_append, ih, Nat.succ_mul]; simp
  rw [h]
theorem rows_filter (f : Int × Int → Bool) (n a b : Nat) : (rowsTo n a (b + 1)).filter f = (rowsTo n a b).filter f ++ if f ((a : Int), (b : Int)) then [((a : Int), (b : Int))] else [] := by
  rw [rows_next, List.filter_append]
  congr 1
  cases h : f ((a : Int), (b : Int)) <;> simp [h]
/-- Is there an edge to be told? -/
theorem edge_ways {T : List P3} {border : Bool} {a b : Int} {r : Bool} (h : edgeB (darts T) border (a, b) = r) :
    (border = true ∧ decide (0 ≤ hasF T a b) = false ∧ r = false) ∨ (border = true ∧ decide (0 ≤ hasF T a b) = true ∧ decide (0 ≤ hasF T b a) = !r) ∨
    (border = false ∧ decide (a < b) = false ∧ r = false) ∨ (border = false ∧ decide (a < b) = true ∧ decide (0 ≤ hasF T a b) = true ∧ r = true) ∨ (border = false ∧ decide (a < b) = true ∧ decide (0 ≤ hasF T a b) = false ∧ decide (0 ≤ hasF T b a) = r) := by
  have e : ∀ p q : Int, (darts T).contains (p, q) = decide (0 ≤ hasF T p q) := fun p q => by
    rw [Bool.eq_iff_iff, List.contains_iff_mem, decide_eq_true_eq]
    exact hasF_nonneg.symm
  unfold edgeB at h
  simp only [swapD] at h
  rw [e, e] at h
  subst h
  cases border <;> cases decide (0 ≤ hasF T a b) <;> cases decide (0 ≤ hasF T b a) <;> cases decide (a < b) <;> simp
/-- An answer of edges: in new memory. -/
def Edged (w : World) (l : List (Int × Int)) (e : Ending) (w' : World) : Prop := ∃ A c, e = .returned (.slice A l.length c) ∧ HasK 2 w' A l.length c (e2Cells l) ∧ Below w.heap.size w w' ∧ ∀ b off, A = some ⟨b, off, none⟩ → w.heap.size ≤ b
end Go.Proofs.YtjahphfjobnkaaaDoor

/- lapidaryref10: Pieces. -/
namespace Go.Proofs.YtjahphfjobnkaaaDoor
open Go.RowKit

/-- An answer of numbers: in new memory. -/
def Pieced (w : World) (p : List Nat) (e : Ending) (w' : World) : Prop := ∃ A c, e = .returned (.slice A p.length c) ∧ Has w' A p.length c (natVs p) ∧ Below w.heap.size w w' ∧ ∀ b off, A = some ⟨b, off, none⟩ → w.heap.size ≤ b
theorem natVs_set (l : List Nat) (i x : Nat) : (natVs l).set i (.int .i64 (x : Int)) = natVs (l.set i x) := by unfold natVs intVs; rw [List.map_set, List.map_set]
theorem natVs_getD {l : List Nat} {j : Nat} (h : j < l.length) : (natVs l)[j]? = some (.int .i64 ((l[j]?.getD 0 : Nat) : Int)) := by rw [natVs_at h, List.getElem?_eq_getElem h]; rfl
theorem intVs_setM (l : List Int) (i : Nat) (x : Int) : (intVs l).set i (.int .i64 x) = intVs (l.set i x) := by unfold intVs; rw [List.map_set]
theorem intVs_get {l : List Int} {j : Nat} {x : Int} (h : l[j]? = some x) : (intVs l)[j]? = some (.int .i64 x) := by unfold intVs; rw [List.getElem?_map, h]; rfl
set_option maxRecDepth 100000 in
set_option maxHeartbeats 8000000 in
theorem ref10Pieces_any (A : Option Addr) (n c : Nat) (B : Option Addr) (m d : Nat) (T : List P3) (p : List Nat) (w : World) (ht : HasK 3 w B m d (p3Cells T)) (hm : m ≤ 100000) (hnd : (darts T).Nodup) (hpp : PiecesIs T p) : Calls Tryd.prog 22 #[.agg #[.slice A n c, .slice B m d]] w (Pieced w p) := by
  have HM : Hid (T.length = m) := by have := ht.len; rw [p3Cells_len] at this; show _ = _; omega
  have HT := Lib.hid ht
  have HND := Lib.hid hnd
  have HPP := Lib.hid hpp
  have HK0 := Lib.hid (MeshAt.new w (.slice A n c) (.slice B m d))
  have HHs := Lib.hid (fun a b W (hW : Below w.heap.size w W) => ref10Has_any B m d T a b W (ht.kept hW) hm)
  clear ht hnd hpp
  have m0 := HK0.out.b0.cell 0
  have m1 := HK0.out.b0.cell 1
  have hz0 : (w.alloc (.cells #[.slice A n c, .slice B m d] 25)).heap.size = w.heap.size + 1 := Array.size_push _
  have HZ0 := Lib.hid hz0
  clear hz0
  go_enter Tryd.func22, Tryd.ntmps22
  go_wp2_with (at_make
               refine wpList_made rfl _ _ 32 rfl elemMi (.int .i64 0) (by kernel_rfl) rfl (w.alloc (.cells #[.slice A n c, .slice B m d] 25)).heap.size .i64 .i64 _ _ m rfl rfl (by first | rfl | omega) (by first | rfl | omega) (by omega) (by decide) (Nat.le_refl _) ?_
               intro w1 hown1 hbel1
               rw [HZ0.out] at hown1 hbel1
               have HO1 := Lib.hid hown1
               have HK1 := Lib.hid (HK0.out.over hbel1)
               clear hown1 hbel1)
  clear m0 m1
  have hrep : List.replicate m (Value.int .i64 0) = natVs (List.replicate m 0) := by unfold natVs intVs; simp
  rw [hrep] at HO1
  clear hrep
  go_loopg [4] m (fun g s4 wx => ∃ (i : Nat) (out : List Nat), i + g = m ∧ s4 = .int .i64 i ∧ Hid (out.length = m) ∧ Hid (∀ j, j < i → out[j]? = some j) ∧ Hid (Own wx (w.heap.size + 1) 3 (.slice (some ⟨w.heap.size + 1, 0, none⟩) m m) (natVs out)) ∧ Hid (MeshAt w (.slice A n c) (.slice B m d) wx))
  case atStart => exact ⟨0, List.replicate m 0, by omega, rfl, List.length_replicate, fun j hj => absurd hj (by omega), HO1, HK1⟩
  case round =>
    obtain ⟨i, out, hig, rfl, HOl, HI, HO, HK⟩ := hrel
    clear HO1 HK1
    have hbl : (natVs out).length = m := by rw [natVs_len]; exact HOl.out
    by_cases hi : i < m
    · have ti : decide ((i : Int) < (m : Int)) = true := by simp; omega
      have i2 : (i : Int) < (m : Int) := by omega
      obtain ⟨ci, fi⟩ := HO.out.cellAt hbl i hi
      rw [natVs_getD (by rw [HOl.out]; exact hi)] at ci
      have hst := HO.out.stored hbl i (.int .i64 (i : Int))
      rw [natVs_set] at hst
      have HO2 := Lib.hid hst.1
      have HK2 := Lib.hid (HK.out.over hst.2)
      have HI2 : Hid (∀ j, j < i + 1 → (out.set i i)[j]? = some j) := fun j hj => by
        by_cases e : i = j
        · subst e; exact List.getElem?_set_self (by rw [HOl.out]; exact hi)
        · rw [List.getElem?_set_ne e]; exact HI.out j (by omega)
      have HOl2 : Hid ((out.set i i).length = m) := by show _ = _; rw [List.length_set]; exact HOl.out
      clear hst HI
      go_wp2
      go_roundg (gk - 1)
      case measure => omega
      case rel => exact ⟨i + 1, out.set i i, by omega, by go_num, HOl2, HI2, HO2, HK2⟩
    · have ti : decide ((i : Int) < (m : Int)) = false := by simp; omega
      have HLw : Hid (Low T out) := low_range T (by rw [HOl.out, HM.out]) (fun j hj => HI.out j (by have := HOl.out; omega))
      have HSt : Hid (∀ f, f < T.length → First T f → Settled T out f ∨ 0 + 1 ≤ far T out f) := fun f hf hF => settle_zero HLw.out hf hF
      clear HI HOl hbl
      have m0 := HK.out.b0.cell 0
      have m1 := HK.out.b0.cell 1
      go_wp2
      go_loopg [5] m (fun g s5 wx => ∃ (t : Nat) (out : List Nat), t + g = m ∧ s5 = .int .i64 t ∧ Hid (Low T out) ∧ Hid (∀ f, f < T.length → First T f → Settled T out f ∨ t + 1 ≤ far T out f) ∧ Hid (Own wx (w.heap.size + 1) 3 (.slice (some ⟨w.heap.size + 1, 0, none⟩) m m) (natVs out)) ∧ Hid (MeshAt w (.slice A n c) (.slice B m d) wx))
      case atStart => exact ⟨0, out, by omega, rfl, HLw, HSt, HO, HK⟩
      case round =>
        obtain ⟨t, out0, htg, rfl, HLw0, HSt0, HO0, HK0⟩ := hrel
        clear HLw HSt HO HK m0 m1
        have m0 := HK0.out.b0.cell 0
        have m1 := HK0.out.b0.cell 1
        by_cases htm : t < m
        · have tt : decide ((t : Int) < (m : Int)) = true := by simp; omega
          have HPa := Lib.hid (PassTo.start HLw0.out)
          go_wp2
          try rw [tt]
          go_loopg [6] m (fun g s6 wx => ∃ (i : Nat) (cur : List Nat), i + g = m ∧ s6 = .int .i64 i ∧ Hid (PassTo T out0 cur i 0) ∧ Hid (Own wx (w.heap.size + 1) 3 (.slice (some ⟨w.heap.size + 1, 0, none⟩) m m) (natVs cur)) ∧ Hid (MeshAt w (.slice A n c) (.slice B m d) wx))
          case atStart => exact ⟨0, out0, by omega, rfl, HPa, HO0, HK0⟩
          case round =>
            obtain ⟨i, cur, hig3, rfl, HP3, HO3, HK3⟩ := hrel
            clear HO0 HK0 m0 m1 HPa
            have m0 := HK3.out.b0.cell 0
            have m1 := HK3.out.b0.cell 1
            by_cases hi3 : i < m
            · have t3 : decide ((i : Int) < (m : Int)) = true := by simp; omega
              have i3 : (i : Int) < (m : Int) := by omega
              have hil : i < T.length := by rw [HM.out]; exact hi3
              obtain ⟨b, off, rfl, hlt, _⟩ := (HT.out.kept HK3.out.bel).spot (by omega)
              have HCl : Hid (∀ W, Below w.heap.size w W → ∀ k, k < 3 → W.cell? ⟨b, off + i * 3 + k, none⟩ = some (.int .i64 (at3 T[i] k))) := fun W hW k hk => t3_cells (HT.out.kept hW) hil hk
              have HTi : Hid (T[i]? = some T[i]) := List.getElem?_eq_getElem hil
              generalize T[i] = tr at *
              clear hlt
              go_wp2
              try rw [tt]
              try rw [t3]
              go_loopg [7] 3 (fun g s7 wx => ∃ (k : Nat) (cur : List Nat), k + g = 3 ∧ s7 = .int .i64 k ∧ Hid (PassTo T out0 cur i k) ∧ Hid (Own wx (w.heap.size + 1) 3 (.slice (some ⟨w.heap.size + 1, 0, none⟩) m m) (natVs cur)) ∧ Hid (MeshAt w (.slice A n c) (.slice (some ⟨b, off, none⟩) m d) wx))
              case atStart => exact ⟨0, cur, by omega, rfl, HP3, HO3, HK3⟩
              case round =>
                obtain ⟨k, cur4, hkg, rfl, HP4, HO4, HK4⟩ := hrel
                clear HP3 HO3 HK3 m0 m1
                have m0 := HK4.out.b0.cell 0
                have m1 := HK4.out.b0.cell 1
                by_cases hk : k < 3
                · have tk : decide ((k : Int) < 3) = true := by simp; omega
                  have k2 : (k : Int) < 3 := by omega
                  have tn := next3 hk
                  have g1 : IntKind.wrap .i64 ((k : Int) + 1) = (k : Int) + 1 := by rw [IntKind.wrap_i64]; omega
                  have f1 : wrap64 ((k : Int) + 1) = (k : Int) + 1 := by unfold wrap64; omega
                  obtain ⟨k1, hk1⟩ : ∃ j, (k + 1) % 3 = j := ⟨_, rfl⟩
                  have hl1 : k1 < 3 := hk1 ▸ Nat.mod_lt _ (by decide)
                  have hl2 : (k1 : Int) < 3 := Int.ofNat_lt.2 hl1
                  have HNo := Lib.hid (HP4.out.none (k := k) HTi.out)
                  have HPu := Lib.hid (fun u hu hd => HP4.out.put HND.out hk HTi.out (u := u) hu hd)
                  have HWy := hasF_ways T (at3 tr k1) (at3 tr k)
                  rw [hk1] at tn HNo HPu
                  have HS : Hid (∀ W, Below wr.heap.size wr W → W.cell? ⟨w.heap.size, 1, none⟩ = some (.slice (some ⟨b, off, none⟩) m d) ∧ W.cell? ⟨b, off + i * 3 + k, none⟩ = some (.int .i64 (at3 tr k)) ∧ W.cell? ⟨b, off + i * 3 + k1, none⟩ = some (.int .i64 (at3 tr k1))) := fun W hW => by
                    have h := HK4.out.next hW
                    exact ⟨h.b0.cell 1, HCl.out W h.bel k hk, HCl.out W h.bel k1 hl1⟩
                  have HHk := Lib.hid (HHs.out (at3 tr k1) (at3 tr k) wr.drew (HK4.out.bel.drew))
                  have HBv0 : Hid (Below wr.heap.size wr wr.drew) := (Below.refl _ _).drew
                  clear hk1
                  generalize at3 tr k = pv at *
                  generalize at3 tr k1 = qv at *
                  have hbl : (natVs cur4).length = m := by rw [natVs_len, HP4.out.lo.len]; exact HM.out
                  have hcl : cur4.length = m := by rw [← natVs_len]; exact hbl
                  go_wp2_with (with_reducible fail)
                  go_region_held3 (fun W => W.cell? ⟨w.heap.size, 1, none⟩ = some (.slice (some ⟨b, off, none⟩) m d) ∧ W.cell? ⟨b, off + i * 3 + k, none⟩ = some (.int .i64 pv) ∧ W.cell? ⟨b, off + i * 3 + k1, none⟩ = some (.int .i64 qv)) (first | (with_reducible exact HS.out _ HBv0.out)) (first
                    | (go_at_call 20; (with_reducible refine HHk.out.mono ?_); rintro e v1 ⟨rfl, rfl⟩))
                  all_goals
                    clear tn g1 f1 hl1 hl2
                    have HK5 := Lib.hid (HK4.out.next HBv0.out)
                    have HO5 := Lib.hid (Own.keep HO4.out HBv0.out)
                    rcases HWy with ⟨hz, hno⟩ | ⟨u, hu, hz, hd, hx9⟩
                    · have HP5 := Lib.hid (HNo.out hno)
                      rw [hz]
                      clear hz hno HNo HPu
                      go_wp2
                      go_roundg (gk - 1)
                      case measure => omega
                      case rel => exact ⟨k + 1, cur4, by omega, by go_num, HP5, HO5, HK5⟩
                    · have HP5 := Lib.hid (HPu.out u hu hd)
                      rw [hz]
                      have hum : u < m := by have := HM.out; omega
                      have u2 : (u : Int) < (m : Int) := by omega
                      clear hz hd hx9 hu HNo HPu
                      obtain ⟨ci, fi⟩ := HO5.out.cellAt hbl i hi3
                      obtain ⟨cu, fu⟩ := HO5.out.cellAt hbl u hum
                      rw [natVs_getD (by omega)] at ci cu
                      have hst := HO5.out.stored hbl i (.int .i64 ((min (cur4[i]?.getD 0) (cur4[u]?.getD 0) : Nat) : Int))
                      rw [natVs_set] at hst
                      have HO6 := Lib.hid hst.1
                      have HK6 := Lib.hid (HK5.out.over hst.2)
                      clear hst
                      generalize cur4[i]?.getD 0 = x at *
                      generalize cur4[u]?.getD 0 = y at *
                      rcases Nat.lt_trichotomy x y with hxy | hxy | hxy
                      · have e : min x y = x := Nat.min_eq_left (Nat.le_of_lt hxy)
                        rw [e] at HO6 HK6 HP5
                        clear e
                        go_wp2
                        go_region
                        all_goals
                          have HO7 := Lib.hid (Own.keep HO6.out (Below.refl _ _).drew)
                          have HK7 := Lib.hid (HK6.out.next (Below.refl _ _).drew)
                          go_wp2
                          go_roundg (gk - 1)
                          case measure => omega
                          case rel => exact ⟨k + 1, _, by omega, by go_num, HP5, HO7, HK7⟩
                      · subst hxy
                        have e : min x x = x := Nat.min_self x
                        rw [e] at HO6 HK6 HP5
                        clear e
                        go_wp2
                        go_region
                        all_goals
                          have HO7 := Lib.hid (Own.keep HO6.out (Below.refl _ _).drew)
                          have HK7 := Lib.hid (HK6.out.next (Below.refl _ _).drew)
                          go_wp2
                          go_roundg (gk - 1)
                          case measure => omega
                          case rel => exact ⟨k + 1, _, by omega, by go_num, HP5, HO7, HK7⟩
                      · have e : min x y = y := Nat.min_eq_right (Nat.le_of_lt hxy)
                        rw [e] at HO6 HK6 HP5
                        clear e
                        go_wp2
                        go_region
                        all_goals
                          have HO7 := Lib.hid (Own.keep HO6.out (Below.refl _ _).drew)
                          have HK7 := Lib.hid (HK6.out.next (Below.refl _ _).drew)
                          go_wp2
                          go_roundg (gk - 1)
                          case measure => omega
                          case rel => exact ⟨k + 1, _, by omega, by go_num, HP5, HO7, HK7⟩
                · have tk : decide ((k : Int) < 3) = false := by simp; omega
                  obtain rfl : k = 3 := by omega
                  have HP5 := Lib.hid (HP4.out.row hil)
                  go_wp2
                  go_roundg (m - (i + 1))
                  case measure => omega
                  case rel => exact ⟨i + 1, cur4, by omega, by go_num, HP5, HO4, HK4⟩
            · have t3 : decide ((i : Int) < (m : Int)) = false := by simp; omega
              have him : i = T.length := by rw [HM.out]; omega
              have HPs : Hid (Pass T out0 cur) := by
                have h := HP3.out
                rw [him] at h
                exact h.pass
              have HLw := Lib.hid HP3.out.lo
              have HSt : Hid (∀ f, f < T.length → First T f → Settled T cur f ∨ t + 1 + 1 ≤ far T cur f) := fun f hf hF => settle_step (darts_nodup HND.out) HLw0.out HLw.out HPs.out hf hF (HSt0.out f hf hF)
              clear him HP3 HPs
              go_wp2
              go_roundg (m - (t + 1))
              case measure => omega
              case rel => exact ⟨t + 1, cur, by omega, by go_num, HLw, HSt, HO3, HK3⟩
        · have tt : decide ((t : Int) < (m : Int)) = false := by simp; omega
          have HFi : Hid (Firsts T out0) := firsts_of HLw0.out (fun f hf hF => by
            have h := HSt0.out f hf hF
            have e : t = T.length := by rw [HM.out]; omega
            rw [e] at h
            exact h)
          have HPe : Hid (p = piecesOf out0) := pieces_one HPP.out (pieces_of HFi.out)
          have hO : natVs out0 = intVs (rowZ (zF out0 0) m) := by
            unfold natVs
            congr 1
            apply List.ext_getElem?
            intro j
            by_cases hj : j < m
            · rw [rowZ_at _ hj, zF_start, List.getElem?_map]
              have hj2 : j < out0.length := by rw [HLw0.out.len, HM.out]; exact hj
              rw [List.getElem?_eq_getElem hj2]
              rfl
            · exact (List.getElem?_eq_none (by rw [List.length_map, HLw0.out.len, HM.out]; omega)).trans (List.getElem?_eq_none (by rw [rowZ_len]; omega)).symm
          rw [hO] at HO0
          clear hO HLw0 HSt0
          have HQ1 : Hid (∀ i j, j < m → j ≠ i → zG out0 i m j = zF out0 (i + 1) j) := fun i j hj hne => by
            have h := zG_next HFi.out (i := i) (j := j) (by rw [HM.out]; exact hj) hne
            rw [HM.out] at h; exact h
          have HQ2 : Hid (∀ i j, out0[i]?.getD 0 ≠ i → j < m → zF out0 i j = zF out0 (i + 1) j) := fun i j hno hj => zF_same HFi.out hno (by rw [HM.out]; exact hj)
          have HQ3 : Hid (∀ i, i < m → -1 - zH out0 m i i = zH out0 m (i + 1) i) := fun i hi => by
            have h := zH_put HFi.out (i := i) (by rw [HM.out]; exact hi)
            rw [HM.out] at h; exact h
          have HQ4 : Hid (natVs p = intVs (rowZ (zH out0 m m) m)) := by
            show _ = _
            have h := zH_end HFi.out
            rw [HM.out] at h
            rw [h, HPe.out]
            rfl
          have HQ5 : Hid (∀ i j, j < m → -1 - (m : Int) ≤ zF out0 i j ∧ zF out0 i j ≤ m) := fun i j hj => by
            have h := zF_bound HFi.out (i := i) (j := j) (by rw [HM.out]; exact hj)
            rw [HM.out] at h; exact h
          have HQ6 : Hid (∀ i, i < m → (zF out0 i i = (i : Int) ↔ out0[i]?.getD 0 = i)) := fun i hi => z_first HFi.out (by rw [HM.out]; exact hi)
          have HQ7 : Hid (∀ i, numF out0 i ≤ i) := fun i => numF_le out0 i
          have HQ8 : Hid (∀ i, numF out0 (i + 1) = numF out0 i + if out0[i]?.getD 0 == i then 1 else 0) := fun i => numF_next out0 i
          have HPl : Hid (p.length = m) := HPP.out.len.trans HM.out
          have hnum0 : numF out0 0 = 0 := rfl
          clear HFi HPe HPP HND
          go_wp2
          go_loopg [9, 10] m (fun g s9 s10 wx => ∃ i : Nat, i + g = m ∧ s10 = .int .i64 i ∧ s9 = .int .i64 (numF out0 i : Int) ∧ Hid (Own wx (w.heap.size + 1) 3 (.slice (some ⟨w.heap.size + 1, 0, none⟩) m m) (intVs (rowZ (zF out0 i) m))) ∧ Hid (MeshAt w (.slice A n c) (.slice B m d) wx))
          case atStart => exact ⟨0, by omega, rfl, by rw [hnum0]; rfl, HO0, HK0⟩
          case round =>
            obtain ⟨j, hjg, rfl, rfl, HO5, HK5⟩ := hrel
            clear HO0 HK0 m0 m1 hnum0
            have hbl : (intVs (rowZ (zF out0 j) m)).length = m := by rw [intVs_len, rowZ_len]
            by_cases hj : j < m
            · have tj : decide ((j : Int) < (m : Int)) = true := by simp; omega
              have j2 : (j : Int) < (m : Int) := by omega
              obtain ⟨cj, fj⟩ := HO5.out.cellAt hbl j hj
              rw [intVs_get (rowZ_at _ hj)] at cj
              have hNj := HQ7.out j
              by_cases hf : out0[j]?.getD 0 = j
              · have hz := (HQ6.out j hj).2 hf
                rw [hz] at cj
                have HNx : Hid (numF out0 (j + 1) = numF out0 j + 1) := by show _ = _; rw [HQ8.out, hf]; simp
                have HPut : Hid (-1 - (numF out0 j : Int) = zF out0 (j + 1) j) := zF_put hf
                have HG0 : Hid (rowZ (zF out0 j) m = rowZ (zG out0 j (j + 1)) m) := rowZ_congr (fun k _ => (zG_start out0 j k).symm)
                rw [HG0.out] at HO5
                have g1 : IntKind.wrap .i64 ((j : Int) + 1) = (j : Int) + 1 := by rw [IntKind.wrap_i64]; omega
                clear hz hf HG0 hbl
                obtain ⟨N, hN⟩ : ∃ N, numF out0 j = N := ⟨_, rfl⟩
                have HNe := Lib.hid hN
                rw [hN] at hNj HNx HPut
                have g2 : IntKind.wrap .i64 (-1 - (N : Int)) = -1 - (N : Int) := by rw [IntKind.wrap_i64]; omega
                clear hN
                go_wp2
                try rw [tj]
                try rw [HNe.out]
                go_loopg [11] (m - (j + 1)) (fun g s11 wx => ∃ k : Nat, k + g = m ∧ j < k ∧ s11 = .int .i64 k ∧ Hid (Own wx (w.heap.size + 1) 3 (.slice (some ⟨w.heap.size + 1, 0, none⟩) m m) (intVs (rowZ (zG out0 j k) m))) ∧ Hid (MeshAt w (.slice A n c) (.slice B m d) wx))
                case atStart => exact ⟨j + 1, by omega, by omega, by go_num, HO5, HK5⟩
                case round =>
                  obtain ⟨k, hkg, hjk, rfl, HO6, HK6⟩ := hrel
                  clear HO5 HK5 cj fj
                  have hbl : (intVs (rowZ (zG out0 j k) m)).length = m := by rw [intVs_len, rowZ_len]
                  by_cases hk : k < m
                  · have tk : decide ((k : Int) < (m : Int)) = true := by simp; omega
                    have k2 : (k : Int) < (m : Int) := by omega
                    obtain ⟨ck, fk⟩ := HO6.out.cellAt hbl k hk
                    rw [intVs_get (rowZ_at _ hk)] at ck
                    by_cases hm2 : out0[k]?.getD 0 = j
                    · have hz := (z_mine out0 j k).2 hm2
                      rw [hz] at ck
                      have hst := HO6.out.stored hbl k (.int .i64 (-1 - (N : Int)))
                      rw [intVs_setM, rowZ_set (g := zG out0 j (k + 1)) hk (by rw [← HNe.out]; exact zG_put hjk hm2) (fun q _ hne => zG_same (Or.inl hne))] at hst
                      have HO7 := Lib.hid hst.1
                      have HK7 := Lib.hid (HK6.out.over hst.2)
                      clear hst hz hm2
                      go_wp2
                      go_roundg (gk - 1)
                      case measure => omega
                      case rel => exact ⟨k + 1, by omega, by omega, by go_num, HO7, HK7⟩
                    · have hz : ¬ zG out0 j k k = (j : Int) := fun h => hm2 ((z_mine out0 j k).1 h)
                      have tz : (zG out0 j k k == (j : Int)) = false := beq_eq_false_iff_ne.2 hz
                      have HO7 : Hid (Own wr (w.heap.size + 1) 3 (.slice (some ⟨w.heap.size + 1, 0, none⟩) m m) (intVs (rowZ (zG out0 j (k + 1)) m))) := by
                        have e : rowZ (zG out0 j k) m = rowZ (zG out0 j (k + 1)) m := rowZ_congr (fun q _ => zG_same (by
                          by_cases e : q = k
                          · exact Or.inr hm2
                          · exact Or.inl e))
                        rw [← e]
                        exact HO6.out
                      generalize zG out0 j k k = zz at *
                      clear hm2
                      go_wp2
                      go_roundg (gk - 1)
                      case measure => omega
                      case rel => exact ⟨k + 1, by omega, by omega, by go_num, HO7, HK6⟩
                  · have tk : decide ((k : Int) < (m : Int)) = false := by simp; omega
                    obtain rfl : k = m := by omega
                    obtain ⟨cj, fj⟩ := HO6.out.cellAt hbl j hj
                    rw [intVs_get (rowZ_at _ hj)] at cj
                    have hst := HO6.out.stored hbl j (.int .i64 (-1 - (N : Int)))
                    rw [intVs_setM, rowZ_set (g := zF out0 (j + 1)) hj HPut.out (fun q hq hne => HQ1.out j q hq hne)] at hst
                    have HO7 := Lib.hid hst.1
                    have HK7 := Lib.hid (HK6.out.over hst.2)
                    have g3 : IntKind.wrap .i64 ((N : Int) + 1) = (N : Int) + 1 := by rw [IntKind.wrap_i64]; omega
                    clear hst
                    go_wp2
                    go_roundg (k - (j + 1))
                    case measure => omega
                    case rel => exact ⟨j + 1, by omega, by go_num, by rw [HNx.out]; go_num, HO7, HK7⟩
              · have hz : ¬ zF out0 j j = (j : Int) := fun h => hf ((HQ6.out j hj).1 h)
                have tz : (zF out0 j j == (j : Int)) = false := beq_eq_false_iff_ne.2 hz
                have HNx : Hid (numF out0 (j + 1) = numF out0 j) := by show _ = _; rw [HQ8.out, beq_eq_false_iff_ne.2 hf]; simp
                have HO7 : Hid (Own wr (w.heap.size + 1) 3 (.slice (some ⟨w.heap.size + 1, 0, none⟩) m m) (intVs (rowZ (zF out0 (j + 1)) m))) := by
                  have e : rowZ (zF out0 j) m = rowZ (zF out0 (j + 1)) m := rowZ_congr (fun q hq => HQ2.out j q hf hq)
                  rw [← e]
                  exact HO5.out
                generalize zF out0 j j = zz at *
                clear hf
                go_wp2
                go_roundg (gk - 1)
                case measure => omega
                case rel => exact ⟨j + 1, by omega, by go_num, by rw [HNx.out], HO7, HK5⟩
            · have tj : decide ((j : Int) < (m : Int)) = false := by simp; omega
              obtain rfl : j = m := by omega
              have HG0 : Hid (rowZ (zF out0 j) j = rowZ (zH out0 j 0) j) := rowZ_congr (fun k _ => (zH_start out0 j k).symm)
              rw [HG0.out] at HO5
              clear HG0
              go_wp2
              go_loopg [12] j (fun g s12 wx => ∃ k : Nat, k + g = j ∧ s12 = .int .i64 k ∧ Hid (Own wx (w.heap.size + 1) 3 (.slice (some ⟨w.heap.size + 1, 0, none⟩) j j) (intVs (rowZ (zH out0 j k) j))) ∧ Hid (MeshAt w (.slice A n c) (.slice B j d) wx))
              case atStart => exact ⟨0, by omega, rfl, HO5, HK5⟩
              case round =>
                obtain ⟨k, hkg, rfl, HO6, HK6⟩ := hrel
                clear HO5 HK5
                have hbl : (intVs (rowZ (zH out0 j k) j)).length = j := by rw [intVs_len, rowZ_len]
                by_cases hk : k < j
                · have tk : decide ((k : Int) < (j : Int)) = true := by simp; omega
                  have k2 : (k : Int) < (j : Int) := by omega
                  obtain ⟨ck, fk⟩ := HO6.out.cellAt hbl k hk
                  rw [intVs_get (rowZ_at _ hk)] at ck
                  have hb : -1 - (j : Int) ≤ zH out0 j k k ∧ zH out0 j k k ≤ j := by
                    have e : zH out0 j k k = zF out0 j k := by unfold zH; rw [if_neg (by omega)]
                    rw [e]
                    exact HQ5.out j k hk
                  have hst := HO6.out.stored hbl k (.int .i64 (-1 - zH out0 j k k))
                  rw [intVs_setM, rowZ_set (g := zH out0 j (k + 1)) hk (HQ3.out k hk) (fun q _ hne => zH_same out0 hne)] at hst
                  have HO7 := Lib.hid hst.1
                  have HK7 := Lib.hid (HK6.out.over hst.2)
                  have g1 : IntKind.wrap .i64 (-1 - zH out0 j k k) = -1 - zH out0 j k k := by rw [IntKind.wrap_i64]; omega
                  generalize zH out0 j k k = zz at *
                  clear hst hb
                  go_wp2
                  go_roundg (gk - 1)
                  case measure => omega
                  case rel => exact ⟨k + 1, by omega, by go_num, HO7, HK7⟩
                · have tk : decide ((k : Int) < (j : Int)) = false := by simp; omega
                  obtain rfl : k = j := by omega
                  rw [← HQ4.out] at HO6
                  obtain ⟨A9, c9, hv, hh⟩ := HO6.out.has
                  have HE : Hid (Pieced w p (.returned (.slice (some ⟨w.heap.size + 1, 0, none⟩) k k)) wr) := by
                    rw [natVs_len] at hv hh
                    have hv2 : Value.slice (some ⟨w.heap.size + 1, 0, none⟩) k k = .slice A9 p.length c9 := hv
                    cases hv2
                    exact ⟨_, _, rfl, hh, HK6.out.bel, fun bb off e => by cases e; omega⟩
                  clear hv hh
                  go_wp2
                  go_ret
                  exact HE.out
end Go.Proofs.YtjahphfjobnkaaaDoor

/- Layer 10: what the calls answer. -/
namespace Go.Proofs.YtjahphfjobnkaaaDoor
open Go.RowKit

/-- Edges, and an error, in new memory. -/
def Edgd (w : World) (l : List (Int × Int)) (r : Int) (e : Ending) (w' : World) : Prop := ∃ A c, e = .returned (.tuple #[.slice A l.length c, .int .i64 r]) ∧ HasK 2 w' A l.length c (e2Cells l) ∧ Below w.heap.size w w' ∧ ∀ b off, A = some ⟨b, off, none⟩ → w.heap.size ≤ b
/-- Numbers, and an error, in new memory. -/
def Piecd (w : World) (p : List Nat) (r : Int) (e : Ending) (w' : World) : Prop := ∃ A c, e = .returned (.tuple #[.slice A p.length c, .int .i64 r]) ∧ Has w' A p.length c (natVs p) ∧ Below w.heap.size w w' ∧ ∀ b off, A = some ⟨b, off, none⟩ → w.heap.size ≤ b
/-- A mesh, in new memory: rows of the call's own, that share none. -/
def MeshOut (w : World) (P T : List P3) (f : Value → Ending) (e : Ending) (w' : World) : Prop :=
  ∃ A c B d, e = f (.agg #[.slice A P.length c, .slice B T.length d]) ∧ OwnK 3 w' w.heap.size 49 (.slice A P.length c) P.length (p3Cells P) ∧ OwnK 3 w' w.heap.size 50 (.slice B T.length d) T.length (p3Cells T) ∧ Below w.heap.size w w' ∧ ∀ b off b' off', A = some ⟨b, off, none⟩ → B = some ⟨b', off', none⟩ → b ≠ b'
/-- Points less edges and triangles more. -/
def eulerF (P T : List P3) : Int := (P.length : Int) - (edgesF P.length T false).length + T.length
/-- Do they say how each triangle begins? -/
def bysOk (T : List P3) (l : List Int) : Bool := decide (l.length = T.length) && l.all fun x => decide (0 ≤ x) && decide (x ≤ 2)
def turnedF (P T : List P3) (l : List Int) (r : Int) : List P3 × List P3 × Int := if r = 0 then (if bysOk T l then (P, turnsT T (l.map Int.toNat), 0) else ([], [], 2)) else ([], [], r)
theorem edges_le (n : Nat) (T : List P3) (b : Bool) : (edgesF n T b).length ≤ n * n := by
  unfold edgesF
  refine Nat.le_trans (List.length_filter_le _ _) ?_
  rw [← rows_all, rows_len]
  exact Nat.le_refl _
set_option maxRecDepth 100000 in
set_option maxHeartbeats 1600000 in
theorem ref0SameInts_any (A : Option Addr) (n c : Nat) (l : List Int) (B : Option Addr) (m d : Nat) (r : List Int) (w : World) (hl : Has w A n c (intVs l)) (hr : Has w B m d (intVs r)) (hn : n ≤ 100000000) (_ : m ≤ 100000000) : Calls Tryd.prog 15 #[.slice A n c, .slice B m d] w fun e w' => e = .returned (.bool (decide (l = r))) ∧ Below w.heap.size w w' := by
  have HL : Hid (l.length = n) := by have := hl.len; rw [intVs_len] at this; exact this
  have HM : Hid (r.length = m) := by have := hr.len; rw [intVs_len] at this; exact this
  have HA := Lib.hid hl
  have HB := Lib.hid hr
  clear hl hr
  by_cases hq : n = m
  · subst hq
    have HD : Hid (decide (l = r) = true ↔ l = r) := decide_eq_true_iff
    generalize decide (l = r) = R at *
    go_enter Tryd.func15, Tryd.ntmps15
    go_wp2
    go_loopg [5] n (fun g s5 wx => ∃ i : Nat, i + g = n ∧ s5 = .int .i64 i ∧ Hid (Below w.heap.size w wx) ∧ Hid (l.take i = r.take i))
    case atStart => exact ⟨0, by omega, rfl, Below.refl _ _, rfl⟩
    case round =>
      obtain ⟨i, hig, rfl, HBl, HI⟩ := hrel
      by_cases hi : i < n
      · have ti : decide ((i : Int) < (n : Int)) = true := by simp; omega
        have i2 : (i : Int) < (n : Int) := by omega
        have hil : i < l.length := by rw [HL.out]; exact hi
        have hir : i < r.length := by rw [HM.out]; exact hi
        obtain ⟨b1, o1, rfl, hlt1, hc1⟩ := (HA.out.kept HBl.out).spot (by omega)
        obtain ⟨b2, o2, rfl, hlt2, hc2⟩ := (HB.out.kept HBl.out).spot (by omega)
        have c0 := hc1 _ _ (intVs_at hil)
        have d0 := hc2 _ _ (intVs_at hir)
        have HNx : Hid (l[i] = r[i] → l.take (i + 1) = r.take (i + 1)) := fun h => take_same HI.out hil hir h
        have HNo : Hid (l[i] ≠ r[i] → R = false) := fun h => by
          cases hRx : R with
          | false => rfl
          | true =>
            have e := HD.out.1 hRx
            subst e
            exact absurd rfl h
        generalize l[i] = x at *
        generalize r[i] = y at *
        clear hil hir hlt1 hlt2 hc1 hc2
        by_cases he : x = y
        · have HE := Lib.hid (HNx.out he)
          clear HNx HNo
          cases he
          go_wp2
          go_region
          all_goals
            go_wp2
            go_roundg (gk - 1)
            case measure => omega
            case rel => exact ⟨i + 1, by omega, by go_num, HBl.out.drew, HE⟩
        · have HE := Lib.hid (HNo.out he)
          have e1 : (x != y) = true := bne_iff_ne.2 he
          clear HNx HNo he
          go_wp2
          go_region
          all_goals
            go_wp2
            go_ret
            exact ⟨by rw [HE.out]; rfl, HBl.out.drew⟩
      · have ti : decide ((i : Int) < (n : Int)) = false := by simp; omega
        have HE : Hid (R = true) := HD.out.2 (take_whole HI.out (by rw [HL.out]; omega) (by rw [HM.out]; omega))
        go_wp2
        go_ret
        exact ⟨by rw [HE.out]; rfl, HBl.out⟩
  · have HE : Hid (decide (l = r) = false) := by
      show _ = _
      apply decide_eq_false
      intro h
      subst h
      exact hq (HL.out.symm.trans HM.out)
    have tq : ((n : Int) != (m : Int)) = true := bne_iff_ne.2 (by omega)
    rw [HE.out]
    clear hq
    go_enter Tryd.func15, Tryd.ntmps15
    go_wp2
    go_ret
    exact ⟨rfl, Below.refl _ _⟩
end Go.Proofs.YtjahphfjobnkaaaDoor
