/- lapidaryref10: Check. -/
import Derived.Test.YtckjmnbglbegmaaDoorMeshRefC
namespace Go.Proofs.YtckjmnbglbegmaaDoor
open Go.RowKit

/-- A mesh in a block of the call's own. -/
structure MeshAt (w : World) (a b : Value) (wx : World) : Prop where
  b0 : Blk wx w.heap.size 25 #[a, b]
  bel : Below w.heap.size w wx
theorem MeshAt.new (w : World) (a b : Value) : MeshAt w a b (w.alloc (.cells #[a, b] 25)) := ⟨Blk.new w _ _, new_alloc (Below.refl _ _) _⟩
theorem MeshAt.next {w wx w' : World} {a b : Value} (h : MeshAt w a b wx) (hb : Below wx.heap.size wx w') : MeshAt w a b w' := ⟨h.b0.below hb h.b0.lt, new_call h.bel hb⟩
theorem t3_cells {w : World} {b off n c : Nat} {l : List P3} (h : HasK 3 w (some ⟨b, off, none⟩) n c (p3Cells l)) {i : Nat} (hi : i < l.length) {k : Nat} (hk : k < 3) : w.cell? ⟨b, off + i * 3 + k, none⟩ = some (.int .i64 (at3 l[i] k)) := by
  obtain ⟨h1, h2, h3⟩ := p3_at h hi
  rcases (show k = 0 ∨ k = 1 ∨ k = 2 by omega) with rfl | rfl | rfl
  · exact h1
  · exact h2
  · exact h3
set_option maxRecDepth 100000 in
set_option maxHeartbeats 4000000 in
theorem ref10Check_any (A : Option Addr) (n c : Nat) (P : List P3) (B : Option Addr) (m d : Nat) (T : List P3) (r : Int) (w : World) (hp : HasK 3 w A n c (p3Cells P)) (ht : HasK 3 w B m d (p3Cells T)) (hn : n ≤ 100000) (hm : m ≤ 100000) (hr : CheckIs P T r) : Calls Tryd.prog 15 #[.agg #[.slice A n c, .slice B m d]] w fun e w' => e = .returned (.int .i64 r) ∧ Below w.heap.size w w' := by
  have HL : Hid (P.length = n) := by have := hp.len; rw [p3Cells_len] at this; show _ = _; omega
  have HM : Hid (T.length = m) := by have := ht.len; rw [p3Cells_len] at this; show _ = _; omega
  have HP := Lib.hid hp
  have HT := Lib.hid ht
  have HR := Lib.hid hr
  have HK0 := Lib.hid (MeshAt.new w (.slice A n c) (.slice B m d))
  have HPl := Lib.hid (fun W (hW : Below w.heap.size w W) => ref10plain_any A n c P B m d T W (hp.kept hW) (ht.kept hW) hn hm)
  clear hp ht hr
  by_cases h1 : (4000 : Int) < n
  · have HE : Hid (r = 3) := check_one HR.out (Or.inl ⟨Or.inl (by have := HL.out; omega), rfl⟩)
    have t1 : decide ((4000 : Int) < (n : Int)) = true := by simpa using h1
    have m0 := HK0.out.b0.cell 0
    have m1 := HK0.out.b0.cell 1
    rw [HE.out]
    go_enter Tryd.func15, Tryd.ntmps15
    go_wp2
    go_ret
    exact ⟨rfl, HK0.out.bel⟩
  · have t1 : decide ((4000 : Int) < (n : Int)) = false := by simpa using h1
    by_cases h2 : (8000 : Int) < m
    · have HE : Hid (r = 3) := check_one HR.out (Or.inl ⟨Or.inr (by have := HM.out; omega), rfl⟩)
      have t2 : decide ((8000 : Int) < (m : Int)) = true := by simpa using h2
      have m0 := HK0.out.b0.cell 0
      have m1 := HK0.out.b0.cell 1
      rw [HE.out]
      go_enter Tryd.func15, Tryd.ntmps15
      go_wp2
      go_ret
      exact ⟨rfl, HK0.out.bel⟩
    · have t2 : decide ((8000 : Int) < (m : Int)) = false := by simpa using h2
      have HSh : Hid (¬ longM P T) := fun h => by
        have e1 := HL.out
        have e2 := HM.out
        rcases h with h | h <;> omega
      have m0 := HK0.out.b0.cell 0
      have m1 := HK0.out.b0.cell 1
      have HPl1 := Lib.hid (HPl.out _ HK0.out.bel)
      cases hpl : plainM P T with
      | false =>
        have HE : Hid (r = 2) := check_one HR.out (Or.inr (Or.inl ⟨HSh.out, hpl, rfl⟩))
        rw [hpl] at HPl1
        clear hpl HPl
        rw [HE.out]
        go_enter Tryd.func15, Tryd.ntmps15
        go_wp2_with fail
        refine HPl1.out.mono ?_
        rintro e w1 ⟨rfl, hb1⟩
        go_wp2
        go_ret
        exact ⟨rfl, (HK0.out.next hb1).bel⟩
      | true =>
        have HPt := Lib.hid hpl
        rw [hpl] at HPl1
        clear hpl HPl
        go_enter Tryd.func15, Tryd.ntmps15
        go_wp2_with fail
        refine HPl1.out.mono ?_
        rintro e w1 ⟨rfl, hb1⟩
        have HK1 := Lib.hid (HK0.out.next hb1)
        clear hb1 HK0 m0 m1 HPl1
        go_wp2
        go_loopg [3] m (fun g s3 wx => ∃ i : Nat, i + g = m ∧ s3 = .int .i64 i ∧ Hid (MeshAt w (.slice A n c) (.slice B m d) wx) ∧ Hid (∀ j, j < i → ∀ hj : j < T.length, ∀ e ∈ dirs T[j], hasF T e.1 e.2 = j))
        case atStart => exact ⟨0, by omega, rfl, HK1, fun j hj => absurd hj (by omega)⟩
        case round =>
          obtain ⟨i, hig, rfl, HK, HI⟩ := hrel
          clear HK1
          have m0 := HK.out.b0.cell 0
          have m1 := HK.out.b0.cell 1
          by_cases hi : i < m
          · have ti : decide ((i : Int) < (m : Int)) = true := by simp; omega
            have i2 : (i : Int) < (m : Int) := by omega
            have hil : i < T.length := by rw [HM.out]; exact hi
            obtain ⟨b, off, rfl, hlt, _⟩ := (HT.out.kept HK.out.bel).spot (by omega)
            have HCl : Hid (∀ W, Below w.heap.size w W → ∀ k, k < 3 → W.cell? ⟨b, off + i * 3 + k, none⟩ = some (.int .i64 (at3 T[i] k))) := fun W hW k hk => t3_cells (HT.out.kept hW) hil hk
            have HNx : Hid ((∀ k, k < 3 → hasF T (at3 T[i] k) (at3 T[i] ((k + 1) % 3)) = i) → ∀ j, j < i + 1 → ∀ hj : j < T.length, ∀ e ∈ dirs T[j], hasF T e.1 e.2 = j) := fun h j hj hjl e he => by
              by_cases ej : j = i
              · subst ej
                obtain ⟨k, hk, rfl⟩ := dirs_mem_at.1 he
                exact h k hk
              · exact HI.out j (by omega) hjl e he
            have HBad : Hid (∀ k, k < 3 → hasF T (at3 T[i] k) (at3 T[i] ((k + 1) % 3)) ≠ i → r = 80) := fun k hk h => by
              refine check_one HR.out (Or.inr (Or.inr (Or.inl ⟨HSh.out, HPt.out, fun hnd => ?_, rfl⟩)))
              exact h ((nodup_has (plain_all HPt.out)).1 hnd i hil _ (dirs_mem_at.2 ⟨k, hk, rfl⟩))
            have HHs := Lib.hid (fun a b' W (hW : Below w.heap.size w W) => ref10Has_any (some ⟨b, off, none⟩) m d T a b' W (HT.out.kept hW) hm)
            generalize T[i] = t at *
            clear hil hlt
            go_wp2
            try rw [ti]
            go_loopg [4] 3 (fun g s4 wx => ∃ k : Nat, k + g = 3 ∧ s4 = .int .i64 k ∧ Hid (MeshAt w (.slice A n c) (.slice (some ⟨b, off, none⟩) m d) wx) ∧ Hid (∀ j, j < k → hasF T (at3 t j) (at3 t ((j + 1) % 3)) = i))
            case atStart => exact ⟨0, by omega, rfl, HK, fun j hj => absurd hj (by omega)⟩
            case round =>
              obtain ⟨k, hkg, rfl, HKk, HIk⟩ := hrel
              clear m0 m1
              have m0 := HKk.out.b0.cell 0
              have m1 := HKk.out.b0.cell 1
              by_cases hk : k < 3
              · have tk : decide ((k : Int) < 3) = true := by simp; omega
                have k2 : (k : Int) < 3 := by omega
                have tn := next3 hk
                have g1 : IntKind.wrap .i64 ((k : Int) + 1) = (k : Int) + 1 := by rw [IntKind.wrap_i64]; omega
                have f1 : wrap64 ((k : Int) + 1) = (k : Int) + 1 := by unfold wrap64; omega
                obtain ⟨k1, hk1⟩ : ∃ j, (k + 1) % 3 = j := ⟨_, rfl⟩
                have hl1 : k1 < 3 := by omega
                have hl2 : (k1 : Int) < 3 := by omega
                have HB2 := Lib.hid (HBad.out k hk)
                rw [hk1] at tn HB2
                have HG : Hid (hasF T (at3 t k) (at3 t k1) = i → ∀ j, j < k + 1 → hasF T (at3 t j) (at3 t ((j + 1) % 3)) = i) := fun h j hj => by
                  by_cases e : j = k
                  · subst e; rw [hk1]; exact h
                  · exact HIk.out j (by omega)
                have HS : Hid (∀ W, Below wr.heap.size wr W → W.cell? ⟨w.heap.size, 1, none⟩ = some (.slice (some ⟨b, off, none⟩) m d) ∧ W.cell? ⟨b, off + i * 3 + k, none⟩ = some (.int .i64 (at3 t k)) ∧ W.cell? ⟨b, off + i * 3 + k1, none⟩ = some (.int .i64 (at3 t k1))) := fun W hW => by
                  have h := HKk.out.next hW
                  exact ⟨h.b0.cell 1, HCl.out W h.bel k hk, HCl.out W h.bel k1 hl1⟩
                have HHk := Lib.hid (HHs.out (at3 t k) (at3 t k1) wr.drew (HKk.out.bel.drew))
                have HBv0 : Hid (Below wr.heap.size wr wr.drew) := (Below.refl _ _).drew
                clear hk1
                generalize at3 t k = p at *
                generalize at3 t k1 = q at *
                have HQ : Hid ((hasF T p q = (i : Int)) ∧ (hasF T p q != (i : Int)) = false ∨ (hasF T p q ≠ (i : Int)) ∧ (hasF T p q != (i : Int)) = true) := by
                  by_cases h : hasF T p q = (i : Int)
                  · exact Or.inl ⟨h, by simpa using h⟩
                  · exact Or.inr ⟨h, bne_iff_ne.2 h⟩
                generalize hasF T p q = z at *
                go_wp2_with (with_reducible fail)
                go_region_held3 (fun W => W.cell? ⟨w.heap.size, 1, none⟩ = some (.slice (some ⟨b, off, none⟩) m d) ∧ W.cell? ⟨b, off + i * 3 + k, none⟩ = some (.int .i64 p) ∧ W.cell? ⟨b, off + i * 3 + k1, none⟩ = some (.int .i64 q)) (first | (with_reducible exact HS.out _ HBv0.out)) (first
                  | (go_at_call 28; (with_reducible refine HHk.out.mono ?_); rintro e v1 ⟨rfl, rfl⟩))
                all_goals
                  have HK3 := Lib.hid (HKk.out.next HBv0.out)
                  rcases HQ.out with ⟨hq, tq⟩ | ⟨hq, tq⟩
                  · have HE := Lib.hid (HG.out hq)
                    clear hq HG HB2 HBad
                    go_wp2
                    go_roundg (gk - 1)
                    case measure => omega
                    case rel => exact ⟨k + 1, by omega, by go_num, HK3, HE⟩
                  · have HE := Lib.hid (HB2.out hq)
                    clear hq HG HB2 HBad
                    go_wp2
                    go_ret
                    exact ⟨by rw [HE.out]; rfl, HK3.out.bel⟩
              · have tk : decide ((k : Int) < 3) = false := by simp; omega
                have HE := Lib.hid (HNx.out (fun j hj => HIk.out j (by omega)))
                go_wp2
                go_roundg (m - (i + 1))
                case measure => omega
                case rel => exact ⟨i + 1, by omega, by go_num, HKk, HE⟩
          · have ti : decide ((i : Int) < (m : Int)) = false := by simp; omega
            have HNd : Hid (darts T).Nodup := (nodup_has (plain_all HPt.out)).2 (fun j hj e he => HI.out j (by have := HM.out; omega) hj e he)
            clear HI
            go_wp2
            go_loopg [5] n (fun g s5 wx => ∃ i : Nat, i + g = n ∧ s5 = .int .i64 i ∧ Hid (MeshAt w (.slice A n c) (.slice B m d) wx) ∧ Hid (∀ v : Nat, v < i → Fan T v))
            case atStart => exact ⟨0, by omega, rfl, HK, fun v hv => absurd hv (by omega)⟩
            case round =>
              obtain ⟨v, hvg, rfl, HKv, HIv⟩ := hrel
              clear m0 m1
              have m0 := HKv.out.b0.cell 0
              have m1 := HKv.out.b0.cell 1
              by_cases hv : v < n
              · have tv : decide ((v : Int) < (n : Int)) = true := by simp; omega
                have v2 : (v : Int) < (n : Int) := by omega
                by_cases hf : Fan T v
                · have HOn := Lib.hid (ref10one_any B m d T v true wr (HT.out.kept HKv.out.bel) hm (darts_nodup HNd.out) ⟨fun _ => hf, fun _ => rfl⟩)
                  have HE : Hid (∀ u : Nat, u < v + 1 → Fan T u) := fun u hu => by
                    by_cases e : u = v
                    · subst e; exact hf
                    · exact HIv.out u (by omega)
                  clear hf
                  go_wp2_with fail
                  refine HOn.out.mono ?_
                  rintro e w3 ⟨rfl, hb3⟩
                  have HK3 := Lib.hid (HKv.out.next hb3)
                  clear hb3
                  go_wp2
                  go_roundg (gk - 1)
                  case measure => omega
                  case rel => exact ⟨v + 1, by omega, by go_num, HK3, HE⟩
                · have HOn := Lib.hid (ref10one_any B m d T v false wr (HT.out.kept HKv.out.bel) hm (darts_nodup HNd.out) ⟨fun h => (by cases h), fun h => absurd h hf⟩)
                  have HE : Hid (r = 81) := check_one HR.out (Or.inr (Or.inr (Or.inr (Or.inl ⟨HSh.out, HPt.out, HNd.out, fun hh => hf (hh v (by have := HL.out; omega)), rfl⟩))))
                  clear hf
                  go_wp2_with fail
                  refine HOn.out.mono ?_
                  rintro e w3 ⟨rfl, hb3⟩
                  have HK3 := Lib.hid (HKv.out.next hb3)
                  clear hb3
                  go_wp2
                  go_ret
                  exact ⟨by rw [HE.out]; rfl, HK3.out.bel⟩
              · have tv : decide ((v : Int) < (n : Int)) = false := by simp; omega
                have HE : Hid (r = 0) := check_one HR.out (Or.inr (Or.inr (Or.inr (Or.inr ⟨HSh.out, HPt.out, HNd.out, fun u hu => HIv.out u (by have := HL.out; omega), rfl⟩))))
                go_wp2
                go_ret
                exact ⟨by rw [HE.out]; rfl, HKv.out.bel⟩
end Go.Proofs.YtckjmnbglbegmaaDoor
