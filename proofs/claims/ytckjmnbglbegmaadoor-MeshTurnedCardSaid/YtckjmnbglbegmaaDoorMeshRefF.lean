/- lapidaryref10: Edges. -/
import Derived.Test.YtckjmnbglbegmaaDoorMeshRefE
namespace Go.Proofs.YtckjmnbglbegmaaDoor
open Go.RowKit

theorem MeshAt.over {w wx w' : World} {a b : Value} (h : MeshAt w a b wx) (hb : Below (w.heap.size + 1) wx w') : MeshAt w a b w' := ⟨h.b0.below hb (by omega), h.bel.trans (hb.mono (by omega))⟩
/-- The pairs of the first so many rows, and of the next one so many. -/
def rowsTo (n a b : Nat) : List (Int × Int) := ((List.range a).flatMap fun (x : Nat) => (List.range n).map fun (y : Nat) => ((x : Int), (y : Int))) ++ (List.range b).map fun (y : Nat) => ((a : Int), (y : Int))
theorem rows_none (n : Nat) : rowsTo n 0 0 = [] := rfl
theorem rows_next (n a b : Nat) : rowsTo n a (b + 1) = rowsTo n a b ++ [((a : Int), (b : Int))] := by
  unfold rowsTo
  rw [List.range_succ, List.map_append, ← List.append_assoc]
  rfl
theorem rows_row (n a : Nat) : rowsTo n a n = rowsTo n (a + 1) 0 := by
  unfold rowsTo
  rw [List.range_succ, List.flatMap_append]
  simp
theorem rows_all (n : Nat) : rowsTo n n 0 = pairsN n := by
  unfold rowsTo pairsN
  simp
theorem rows_len (n a b : Nat) : (rowsTo n a b).length = a * n + b := by
  unfold rowsTo
  rw [List.length_append, List.length_map, List.length_range, List.length_flatMap]
  have h : ∀ a : Nat, ((List.range a).map fun (x : Nat) => ((List.range n).map fun (y : Nat) => ((x : Int), (y : Int))).length).sum = a * n := by
    intro a
    induction a with
    | zero => simp
    | succ a ih => rw [List.range_succ, List.map_append, List.sum_append, ih, Nat.succ_mul]; simp
  rw [h]
theorem rows_filter (f : Int × Int → Bool) (n a b : Nat) : (rowsTo n a (b + 1)).filter f = (rowsTo n a b).filter f ++ if f ((a : Int), (b : Int)) then [((a : Int), (b : Int))] else [] := by
  rw [rows_next, List.filter_append]
  congr 1
  cases h : f ((a : Int), (b : Int)) <;> simp [h]
/-- Is there an edge to be told? -/
theorem edge_ways {T : List P3} {border : Bool} {a b : Int} {r : Bool} (h : edgeB (darts T) border (a, b) = r) :
    (border = true ∧ decide (0 ≤ hasF T a b) = false ∧ r = false) ∨ (border = true ∧ decide (0 ≤ hasF T a b) = true ∧ decide (0 ≤ hasF T b a) = !r) ∨
    (border = false ∧ decide (a < b) = false ∧ r = false) ∨ (border = false ∧ decide (a < b) = true ∧ decide (0 ≤ hasF T a b) = true ∧ r = true) ∨ (border = false ∧ decide (a < b) = true ∧ decide (0 ≤ hasF T a b) = false ∧ decide (0 ≤ hasF T b a) = r) := by
  have e : ∀ p q : Int, (darts T).contains (p, q) = decide (0 ≤ hasF T p q) := fun p q => by
    rw [Bool.eq_iff_iff, List.contains_iff_mem, decide_eq_true_eq]
    exact hasF_nonneg.symm
  unfold edgeB at h
  simp only [swapD] at h
  rw [e, e] at h
  subst h
  cases border <;> cases decide (0 ≤ hasF T a b) <;> cases decide (0 ≤ hasF T b a) <;> cases decide (a < b) <;> simp
/-- An answer of edges: in new memory. -/
def Edged (w : World) (l : List (Int × Int)) (e : Ending) (w' : World) : Prop := ∃ A c, e = .returned (.slice A l.length c) ∧ HasK 2 w' A l.length c (e2Cells l) ∧ Below w.heap.size w w' ∧ ∀ b off, A = some ⟨b, off, none⟩ → w.heap.size ≤ b
set_option maxRecDepth 100000 in
set_option maxHeartbeats 4000000 in
theorem ref10Edges_any (A : Option Addr) (n c : Nat) (P : List P3) (B : Option Addr) (m d : Nat) (T : List P3) (border : Bool) (w : World) (hp : HasK 3 w A n c (p3Cells P)) (ht : HasK 3 w B m d (p3Cells T)) (hn : n ≤ 100000) (hm : m ≤ 100000) : Calls Tryd.prog 20 #[.agg #[.slice A n c, .slice B m d], .bool border] w (Edged w (edgesF P.length T border)) := by
  have HL : Hid (P.length = n) := by have := hp.len; rw [p3Cells_len] at this; show _ = _; omega
  have HK0 := Lib.hid (MeshAt.new w (.slice A n c) (.slice B m d))
  have HHs := Lib.hid (fun a b W (hW : Below w.heap.size w W) => ref10Has_any B m d T a b W (ht.kept hW) hm)
  have HNN : Hid (n * n ≤ 10000000000) := Nat.mul_le_mul hn hn
  clear hp ht
  rw [HL.out]
  have HDef : Hid (edgesF n T border = (pairsN n).filter (edgeB (darts T) border)) := rfl
  generalize edgesF n T border = L at *
  go_enter Tryd.func20, Tryd.ntmps20
  go_wp2
  go_loopg [5, 6] n (fun g s5 s6 wx => ∃ (a k : Nat), a + g = n ∧ s6 = .int .i64 a ∧ Hid (k = ((rowsTo n a 0).filter (edgeB (darts T) border)).length) ∧ Hid (OwnK 2 wx (w.heap.size + 1) 48 s5 k (e2Cells ((rowsTo n a 0).filter (edgeB (darts T) border)))) ∧ Hid (MeshAt w (.slice A n c) (.slice B m d) wx))
  case atStart => exact ⟨0, 0, by omega, rfl, rfl, OwnK.nil _ _ _ _, HK0⟩
  case round =>
    obtain ⟨a, k, hag, rfl, Hk, HO, HK⟩ := hrel
    clear HK0
    have m0 := HK.out.b0.cell 0
    have m1 := HK.out.b0.cell 1
    by_cases ha : a < n
    · have ta : decide ((a : Int) < (n : Int)) = true := by simp; omega
      go_wp2
      try rw [ta]
      go_loopg [5, 7] n (fun g s5 s7 wx => ∃ (b k : Nat), b + g = n ∧ s7 = .int .i64 b ∧ Hid (k = ((rowsTo n a b).filter (edgeB (darts T) border)).length) ∧ Hid (OwnK 2 wx (w.heap.size + 1) 48 s5 k (e2Cells ((rowsTo n a b).filter (edgeB (darts T) border)))) ∧ Hid (MeshAt w (.slice A n c) (.slice B m d) wx))
      case atStart => exact ⟨0, k, by omega, rfl, Hk, HO, HK⟩
      case round =>
        obtain ⟨b, k2, hbg, rfl, Hk2, HO2, HK2⟩ := hrel
        clear HO HK Hk m0 m1
        have m0 := HK2.out.b0.cell 0
        have m1 := HK2.out.b0.cell 1
        by_cases hb : b < n
        · have tb : decide ((b : Int) < (n : Int)) = true := by simp; omega
          have HF := Lib.hid (rows_filter (edgeB (darts T) border) n a b)
          obtain ⟨r, hr⟩ : ∃ r, edgeB (darts T) border ((a : Int), (b : Int)) = r := ⟨_, rfl⟩
          rw [hr] at HF
          have hw := edge_ways hr
          have H1 := Lib.hid (HHs.out (a : Int) (b : Int) wr HK2.out.bel)
          have H2 := Lib.hid (HHs.out (b : Int) (a : Int) wr HK2.out.bel)
          have hlen : k2 ≤ 10000000000 := by
            have e1 := Hk2.out
            have e2 := List.length_filter_le (edgeB (darts T) border) (rowsTo n a b)
            rw [rows_len] at e2
            have e3 : a * n + n ≤ n * n := by
              have : (a + 1) * n ≤ n * n := Nat.mul_le_mul_right n ha
              rw [Nat.succ_mul] at this
              exact this
            have := HNN.out
            omega
          generalize hasF T (a : Int) (b : Int) = z1 at *
          generalize hasF T (b : Int) (a : Int) = z2 at *
          clear hr
          cases r with
          | false =>
            have HE : Hid ((rowsTo n a (b + 1)).filter (edgeB (darts T) border) = (rowsTo n a b).filter (edgeB (darts T) border)) := by show _ = _; rw [HF.out]; simp
            have HO3 : Hid (OwnK 2 wr (w.heap.size + 1) 48 u5 k2 (e2Cells ((rowsTo n a (b + 1)).filter (edgeB (darts T) border)))) := by
              show OwnK _ _ _ _ _ _ _
              rw [HE.out]; exact HO2.out
            have Hk3 : Hid (k2 = ((rowsTo n a (b + 1)).filter (edgeB (darts T) border)).length) := by show _ = _; rw [HE.out]; exact Hk2.out
            clear HE HF
            rcases hw with ⟨h1, h2, _⟩ | ⟨h1, h2, h3⟩ | ⟨h1, h2, _⟩ | ⟨_, _, _, h⟩ | ⟨h1, h2, h3, h4⟩
            · subst h1
              go_wp2_with fail
              refine H1.out.mono ?_
              rintro e w3 ⟨rfl, rfl⟩
              go_wp2_with fail
              refine H2.out.mono ?_
              rintro e w3 ⟨rfl, rfl⟩
              go_wp2
              go_roundg (gk - 1)
              case measure => omega
              case rel => exact ⟨b + 1, k2, by omega, by go_num, Hk3, HO3, HK2⟩
            · subst h1
              simp only [Bool.not_false] at h3
              go_wp2_with fail
              refine H1.out.mono ?_
              rintro e w3 ⟨rfl, rfl⟩
              go_wp2_with fail
              refine H2.out.mono ?_
              rintro e w3 ⟨rfl, rfl⟩
              go_wp2
              go_roundg (gk - 1)
              case measure => omega
              case rel => exact ⟨b + 1, k2, by omega, by go_num, Hk3, HO3, HK2⟩
            · subst h1
              have hab : ¬ a < b := by have := of_decide_eq_false h2; omega
              go_wp2_with fail
              refine H1.out.mono ?_
              rintro e w3 ⟨rfl, rfl⟩
              go_wp2_with fail
              refine H2.out.mono ?_
              rintro e w3 ⟨rfl, rfl⟩
              go_wp2
              go_roundg (gk - 1)
              case measure => omega
              case rel => exact ⟨b + 1, k2, by omega, by go_num, Hk3, HO3, HK2⟩
            · cases h
            · subst h1
              have hab : a < b := by have := of_decide_eq_true h2; omega
              go_wp2_with fail
              refine H1.out.mono ?_
              rintro e w3 ⟨rfl, rfl⟩
              go_wp2_with fail
              refine H2.out.mono ?_
              rintro e w3 ⟨rfl, rfl⟩
              go_wp2
              go_roundg (gk - 1)
              case measure => omega
              case rel => exact ⟨b + 1, k2, by omega, by go_num, Hk3, HO3, HK2⟩
          | true =>
            have HE : Hid (e2Cells ((rowsTo n a b).filter (edgeB (darts T) border)) ++ e2Cells [((a : Int), (b : Int))] = e2Cells ((rowsTo n a (b + 1)).filter (edgeB (darts T) border))) := by show _ = _; rw [HF.out, ← e2Cells_app]; rfl
            have Hk3 : Hid (k2 + 1 = ((rowsTo n a (b + 1)).filter (edgeB (darts T) border)).length) := by show _ = _; rw [HF.out, List.length_append, ← Hk2.out]; rfl
            clear HF
            have hz : w.heap.size + 1 ≤ wr.heap.size := HK2.out.b0.lt
            rcases hw with ⟨_, _, h⟩ | ⟨h1, h2, h3⟩ | ⟨_, _, h⟩ | ⟨h1, h2, h3, _⟩ | ⟨h1, h2, h3, h4⟩
            · cases h
            · subst h1
              simp only [Bool.not_true] at h3
              go_wp2_with fail
              refine H1.out.mono ?_
              rintro e w3 ⟨rfl, rfl⟩
              go_wp2_with fail
              refine H2.out.mono ?_
              rintro e w3 ⟨rfl, rfl⟩
              go_wp2_with (at_builtin
                           refine wpList_joinK rfl _ _ 31 rfl elemE2 (by decide) (w.heap.size + 1) _ k2 _ rfl (HO2.out.alloc _) _ 1 1 (e2Cells [((a : Int), (b : Int))]) rfl (HasK.new_at 2 _ #[_, _] _ _ 1 rfl rfl) (e2Cells_one _) (by omega) (by decide) (Nat.le_trans hz (new_alloc (Below.refl _ _) _).size) ?_
                           intro v5 w5 hown5 hbel5 _
                           rw [HE.out] at hown5
                           have HO5 := Lib.hid hown5
                           have HK5 := Lib.hid (HK2.out.over (((Below.refl _ _).alloc hz _).trans hbel5))
                           clear hown5 hbel5)
              go_roundg (gk - 1)
              case measure => omega
              case rel => exact ⟨b + 1, k2 + 1, by omega, by go_num, Hk3, HO5, HK5⟩
            · cases h
            · subst h1
              have hab : a < b := by have := of_decide_eq_true h2; omega
              go_wp2_with fail
              refine H1.out.mono ?_
              rintro e w3 ⟨rfl, rfl⟩
              go_wp2_with fail
              refine H2.out.mono ?_
              rintro e w3 ⟨rfl, rfl⟩
              go_wp2_with (at_builtin
                           refine wpList_joinK rfl _ _ 31 rfl elemE2 (by decide) (w.heap.size + 1) _ k2 _ rfl (HO2.out.alloc _) _ 1 1 (e2Cells [((a : Int), (b : Int))]) rfl (HasK.new_at 2 _ #[_, _] _ _ 1 rfl rfl) (e2Cells_one _) (by omega) (by decide) (Nat.le_trans hz (new_alloc (Below.refl _ _) _).size) ?_
                           intro v5 w5 hown5 hbel5 _
                           rw [HE.out] at hown5
                           have HO5 := Lib.hid hown5
                           have HK5 := Lib.hid (HK2.out.over (((Below.refl _ _).alloc hz _).trans hbel5))
                           clear hown5 hbel5)
              go_roundg (gk - 1)
              case measure => omega
              case rel => exact ⟨b + 1, k2 + 1, by omega, by go_num, Hk3, HO5, HK5⟩
            · subst h1
              have hab : a < b := by have := of_decide_eq_true h2; omega
              go_wp2_with fail
              refine H1.out.mono ?_
              rintro e w3 ⟨rfl, rfl⟩
              go_wp2_with fail
              refine H2.out.mono ?_
              rintro e w3 ⟨rfl, rfl⟩
              go_wp2_with (at_builtin
                           refine wpList_joinK rfl _ _ 31 rfl elemE2 (by decide) (w.heap.size + 1) _ k2 _ rfl (HO2.out.alloc _) _ 1 1 (e2Cells [((a : Int), (b : Int))]) rfl (HasK.new_at 2 _ #[_, _] _ _ 1 rfl rfl) (e2Cells_one _) (by omega) (by decide) (Nat.le_trans hz (new_alloc (Below.refl _ _) _).size) ?_
                           intro v5 w5 hown5 hbel5 _
                           rw [HE.out] at hown5
                           have HO5 := Lib.hid hown5
                           have HK5 := Lib.hid (HK2.out.over (((Below.refl _ _).alloc hz _).trans hbel5))
                           clear hown5 hbel5)
              go_roundg (gk - 1)
              case measure => omega
              case rel => exact ⟨b + 1, k2 + 1, by omega, by go_num, Hk3, HO5, HK5⟩
        · have tb : decide ((b : Int) < (n : Int)) = false := by simp; omega
          obtain rfl : b = n := by omega
          have HRr := Lib.hid (rows_row b a)
          rw [HRr.out] at HO2 Hk2
          go_wp2
          go_roundg (b - (a + 1))
          case measure => omega
          case rel => exact ⟨a + 1, k2, by omega, by go_num, Hk2, HO2, HK2⟩
    · have ta : decide ((a : Int) < (n : Int)) = false := by simp; omega
      obtain rfl : a = n := by omega
      have HRr := Lib.hid (rows_all a)
      rw [HRr.out, ← HDef.out] at HO Hk
      obtain ⟨A9, c9, hv, hh⟩ := HO.out.has
      have hge : ∀ bb off, A9 = some ⟨bb, off, none⟩ → w.heap.size ≤ bb := fun bb off e => by
        subst hv
        subst e
        have := (World.ownsRow.lt HO.out bb (by rfl)).1
        omega
      subst hv
      have HE : Hid (Edged w L (.returned (.slice A9 k c9)) wr) := by
        have e := Hk.out
        subst e
        exact ⟨A9, c9, rfl, hh, HK.out.bel, hge⟩
      go_wp2
      go_ret
      exact HE.out
end Go.Proofs.YtckjmnbglbegmaaDoor
