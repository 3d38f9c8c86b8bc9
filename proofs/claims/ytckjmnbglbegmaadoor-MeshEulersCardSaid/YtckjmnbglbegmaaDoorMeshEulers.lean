/- Euler's number of two surfaces side by side is the sum of both's, and they are a surface together: whatever meshes come in, MeshEulers answers true. -/
import Derived.Test.YtckjmnbglbegmaaDoorKnown10
import Derived.Test.YtckjmnbglbegmaaDoorLawMesh
import Derived.Test.YtckjmnbglbegmaaDoorLawLaid
import Derived.Test.YtckjmnbglbegmaaDoorMeshOwn
namespace Go.Proofs.YtckjmnbglbegmaaDoor.meshEulers
open Go.ChangeShapes Go.WideShapes Go.ChangeAt Go.RowKit

set_option maxRecDepth 100000 in
set_option maxHeartbeats 4000000 in
theorem walk (A : Option Addr) (n c : Nat) (P : List P3) (B : Option Addr) (m d : Nat) (T : List P3) (A' : Option Addr) (n' c' : Nat) (P' : List P3) (B' : Option Addr) (m' d' : Nat) (T' : List P3) (W : World) (hbe : BehW W) (hp : HasK 3 W A n c (p3Cells P)) (ht : HasK 3 W B m d (p3Cells T)) (_ : ∀ x ∈ P, i64T x) (_ : ∀ x ∈ T, i64T x) (_ : n ≤ 9223372036854775807) (_ : m ≤ 9223372036854775807) (hp' : HasK 3 W A' n' c' (p3Cells P')) (ht' : HasK 3 W B' m' d' (p3Cells T')) (_ : ∀ x ∈ P', i64T x) (_ : ∀ x ∈ T', i64T x) (_ : n' ≤ 9223372036854775807) (_ : m' ≤ 9223372036854775807) : Calls Tryd.prog 11 #[.agg #[.slice A n c, .slice B m d], .agg #[.slice A' n' c', .slice B' m' d']] W fun e w' => e = .returned (.bool true) ∧ Below W.heap.size W w' := by
  have HK0 := Lib.hid (MeshTwo.new W (.slice A n c) (.slice B m d) (.slice A' n' c') (.slice B' m' d'))
  have m0 := HK0.out.b0.cell 0
  have m1 := HK0.out.b0.cell 1
  have m2 := HK0.out.b1.cell 0
  have m3 := HK0.out.b1.cell 1
  have HKn := Lib.hid (fun w (hW : Below W.heap.size W w) => known10 w (hbe.kept hW))
  obtain ⟨la, hla⟩ : ∃ r, (decide (40 < n) || decide (60 < m)) = r := ⟨_, rfl⟩
  obtain ⟨lb, hlb⟩ : ∃ r, (decide (40 < n') || decide (60 < m')) = r := ⟨_, rfl⟩
  have HLa := Lib.hid (fun w => lawlong_any A n c B m d la w hla)
  have HLb := Lib.hid (fun w => lawlong_any A' n' c' B' m' d' lb w hlb)
  cases la with
  | true =>
    clear hp ht hp' ht' hla hlb
    go_enter Tryd.func11, Tryd.ntmps11
    go_wp2_with fail
    refine (HLa.out _).mono ?_
    rintro e w1 ⟨rfl, hb1⟩
    have HK1 := Lib.hid (HK0.out.next hb1)
    clear hb1 HK0 m0 m1 m2 m3
    have m0 := HK1.out.b0.cell 0
    have m1 := HK1.out.b0.cell 1
    have m2 := HK1.out.b1.cell 0
    have m3 := HK1.out.b1.cell 1
    go_wp2_with fail
    refine (HKn.out _ HK1.out.bel).mono ?_
    rintro e w9 ⟨rfl, hb9⟩
    go_wp2
    go_ret
    exact ⟨rfl, new_call HK1.out.bel hb9⟩
  | false =>
    cases lb with
    | true =>
      clear hp ht hp' ht' hla hlb
      go_enter Tryd.func11, Tryd.ntmps11
      go_wp2_with fail
      refine (HLa.out _).mono ?_
      rintro e w1 ⟨rfl, hb1⟩
      have HK1 := Lib.hid (HK0.out.next hb1)
      clear hb1 HK0 m0 m1 m2 m3
      have m0 := HK1.out.b0.cell 0
      have m1 := HK1.out.b0.cell 1
      have m2 := HK1.out.b1.cell 0
      have m3 := HK1.out.b1.cell 1
      go_wp2_with fail
      refine (HLb.out _).mono ?_
      rintro e w2 ⟨rfl, hb2⟩
      have HK2 := Lib.hid (HK1.out.next hb2)
      clear hb2 HK1 m0 m1 m2 m3
      have m0 := HK2.out.b0.cell 0
      have m1 := HK2.out.b0.cell 1
      have m2 := HK2.out.b1.cell 0
      have m3 := HK2.out.b1.cell 1
      go_wp2_with fail
      refine (HKn.out _ HK2.out.bel).mono ?_
      rintro e w9 ⟨rfl, hb9⟩
      go_wp2
      go_ret
      exact ⟨rfl, new_call HK2.out.bel hb9⟩
    | false =>
      have hl : n ≤ 40 ∧ m ≤ 60 ∧ n' ≤ 40 ∧ m' ≤ 60 := by
        rw [Bool.or_eq_false_iff, decide_eq_false_iff_not, decide_eq_false_iff_not] at hla hlb
        omega
      obtain ⟨r, hr⟩ := check_total P T
      obtain ⟨r', hr'⟩ := check_total P' T'
      have HCa := Lib.hid (fun w (hW : Below W.heap.size W w) => meshCheck_any A n c P B m d T r w (hbe.kept hW) (hp.kept hW) (ht.kept hW) (by omega) (by omega) hr)
      have HCb := Lib.hid (fun w (hW : Below W.heap.size W w) => meshCheck_any A' n' c' P' B' m' d' T' r' w (hbe.kept hW) (hp'.kept hW) (ht'.kept hW) (by omega) (by omega) hr')
      clear hla hlb
      by_cases h0 : r = 0
      · have t0 : (r != 0) = false := by simp [h0]
        by_cases h1 : r' = 0
        · have t1 : (r' != 0) = false := by simp [h1]
          subst h0
          subst h1
          have hPn : P.length = n := by have := hp.len; rw [p3Cells_len] at this; omega
          have hTm : T.length = m := by have := ht.len; rw [p3Cells_len] at this; omega
          have hPn' : P'.length = n' := by have := hp'.len; rw [p3Cells_len] at this; omega
          have hTm' : T'.length = m' := by have := ht'.len; rw [p3Cells_len] at this; omega
          have HEa : Hid (∀ w, Below W.heap.size W w → Calls Tryd.prog 19 #[.agg #[.slice A n c, .slice B m d]] w fun e w' => e = .returned (.tuple #[.int .i64 (eulerF P T), .int .i64 0]) ∧ Below w.heap.size w w') := fun w hW => by
            have := meshEuler_any A n c P B m d T 0 w (hbe.kept hW) (hp.kept hW) (ht.kept hW) (by omega) (by omega) hr
            rw [if_pos rfl] at this
            exact this
          have HEb : Hid (∀ w, Below W.heap.size W w → Calls Tryd.prog 19 #[.agg #[.slice A' n' c', .slice B' m' d']] w fun e w' => e = .returned (.tuple #[.int .i64 (eulerF P' T'), .int .i64 0]) ∧ Below w.heap.size w w') := fun w hW => by
            have := meshEuler_any A' n' c' P' B' m' d' T' 0 w (hbe.kept hW) (hp'.kept hW) (ht'.kept hW) (by omega) (by omega) hr'
            rw [if_pos rfl] at this
            exact this
          obtain ⟨hcb, hce⟩ := check_both hr hr' (by omega) (by omega)
          have hee : eulerF (P ++ P') (both P.length T T') = eulerF P T + eulerF P' T' := by
            have e1 : (both P.length T T').length = T.length + T'.length := by unfold both; rw [List.length_append, List.length_map]
            unfold eulerF
            rw [hce, e1, List.length_append]
            omega
          have hee2 : eulerF (P ++ P') (both n T T') = eulerF P T + eulerF P' T' := by rw [← hPn]; exact hee
          have hcb2 : CheckIs (P ++ P') (both n T T') 0 := by rw [← hPn]; exact hcb
          have HEm : Hid (∀ w A9 c9 B9 d9, Below W.heap.size W w → HasK 3 w A9 (n + n') c9 (p3Cells (P ++ P')) → HasK 3 w B9 (m + m') d9 (p3Cells (both n T T')) → Calls Tryd.prog 19 #[.agg #[.slice A9 (n + n') c9, .slice B9 (m + m') d9]] w fun e w' => e = .returned (.tuple #[.int .i64 (eulerF P T + eulerF P' T'), .int .i64 0]) ∧ Below w.heap.size w w') := fun w A9 c9 B9 d9 hW g1 g2 => by
            have := meshEuler_any A9 (n + n') c9 (P ++ P') B9 (m + m') d9 (both n T T') 0 w (hbe.kept hW) g1 g2 (by omega) (by omega) hcb2
            rw [if_pos rfl, hee2] at this
            exact this
          have hb1 : -2000 ≤ eulerF P T ∧ eulerF P T ≤ 2000 := by
            have := edges_le P.length T false
            have h2 : P.length * P.length ≤ 40 * 40 := Nat.mul_le_mul (by omega) (by omega)
            unfold eulerF
            omega
          have hb2 : -2000 ≤ eulerF P' T' ∧ eulerF P' T' ≤ 2000 := by
            have := edges_le P'.length T' false
            have h2 : P'.length * P'.length ≤ 40 * 40 := Nat.mul_le_mul (by omega) (by omega)
            unfold eulerF
            omega
          have hin : ∀ t ∈ T', (0 ≤ t.1 ∧ t.1 ≤ 40) ∧ (0 ≤ t.2.1 ∧ t.2.1 ≤ 40) ∧ (0 ≤ t.2.2 ∧ t.2.2 ≤ 40) := fun t h => by
            have := triM_iff.1 (List.all_eq_true.1 (plain_all (check_zero hr').2.1) t h)
            omega
          generalize eulerF P T = x at *
          generalize eulerF P' T' = y at *
          have g1 : IntKind.wrap .i64 (x + y) = x + y := by rw [IntKind.wrap_i64]; omega
          have HP := Lib.hid hp
          have HT := Lib.hid ht
          have HP' := Lib.hid hp'
          have HT' := Lib.hid ht'
          have HTm' := Lib.hid hTm'
          have HTm := Lib.hid hTm
          have HIn := Lib.hid hin
          clear hp ht hp' ht' hr hr' hcb2 hee2 hcb hce hee hb1 hb2 hin hPn hTm hPn' hTm'
          go_enter Tryd.func11, Tryd.ntmps11
          go_wp2_with fail
          refine (HLa.out _).mono ?_
          rintro e w1 ⟨rfl, hb1⟩
          have HK1 := Lib.hid (HK0.out.next hb1)
          clear hb1 HK0 m0 m1 m2 m3
          have m0 := HK1.out.b0.cell 0
          have m1 := HK1.out.b0.cell 1
          have m2 := HK1.out.b1.cell 0
          have m3 := HK1.out.b1.cell 1
          go_wp2_with fail
          refine (HLb.out _).mono ?_
          rintro e w2 ⟨rfl, hb2⟩
          have HK2 := Lib.hid (HK1.out.next hb2)
          clear hb2 HK1 m0 m1 m2 m3
          have m0 := HK2.out.b0.cell 0
          have m1 := HK2.out.b0.cell 1
          have m2 := HK2.out.b1.cell 0
          have m3 := HK2.out.b1.cell 1
          go_wp2_with fail
          refine (HCa.out _ HK2.out.bel).mono ?_
          rintro e w3 ⟨rfl, hb3⟩
          have HK3 := Lib.hid (HK2.out.next hb3)
          clear hb3 HK2 m0 m1 m2 m3
          have m0 := HK3.out.b0.cell 0
          have m1 := HK3.out.b0.cell 1
          have m2 := HK3.out.b1.cell 0
          have m3 := HK3.out.b1.cell 1
          go_wp2_with fail
          refine (HCb.out _ HK3.out.bel).mono ?_
          rintro e w4 ⟨rfl, hb4⟩
          have HK4 := Lib.hid (HK3.out.next hb4)
          clear hb4 HK3 m0 m1 m2 m3
          have m0 := HK4.out.b0.cell 0
          have m1 := HK4.out.b0.cell 1
          have m2 := HK4.out.b1.cell 0
          have m3 := HK4.out.b1.cell 1
          have HG : Hid (Blk (w4.alloc (.cells #[.slice none 0 0, .slice none 0 0] 25)) w4.heap.size 25 #[.slice none 0 0, .slice none 0 0]) := Blk.new w4 _ _
          have HK5 : Hid (MeshTwo W (.slice A n c) (.slice B m d) (.slice A' n' c') (.slice B' m' d') (w4.alloc (.cells #[.slice none 0 0, .slice none 0 0] 25))) := HK4.out.next (new_alloc (Below.refl _ _) _)
          have hsz : (w4.alloc (.cells #[.slice none 0 0, .slice none 0 0] 25)).heap.size = w4.heap.size + 1 := Array.size_push _
          have hGW : W.heap.size + 2 ≤ w4.heap.size := HK4.out.b1.lt
          have HSz := Lib.hid hsz
          have HGW := Lib.hid hGW
          clear hsz hGW HK4 m0 m1 m2 m3
          have m0 := HK5.out.b0.cell 0
          have m1 := HK5.out.b0.cell 1
          have n0 := HG.out.cell 0
          have n1 := HG.out.cell 1
          go_wp2_with (at_builtin
                       first
                       | refine wpList_joinK rfl _ _ 22 rfl elemP3 (by decide) (w4.heap.size + 1) _ 0 [] rfl (OwnK.nil _ _ _ _) _ n c (p3Cells P) rfl (HP.out.kept HK5.out.bel) (p3Cells_one _) (by omega) (by decide) (Nat.le_of_eq HSz.out.symm) ?_
                         intro v7 w7 hown7 hbel7 _
                         rw [List.nil_append, Nat.zero_add] at hown7
                         obtain ⟨A7, c7, hv7, _⟩ := hown7.has
                         subst hv7
                         have HO7 := Lib.hid hown7
                         have hGW := HGW.out
                         have HG7 : Hid (Blk w7 w4.heap.size 25 #[.slice none 0 0, .slice none 0 0]) := HG.out.below hbel7 (Nat.lt_succ_self _)
                         have HK7 : Hid (MeshTwo W (.slice A n c) (.slice B m d) (.slice A' n' c') (.slice B' m' d') w7) := HK5.out.next (by rw [HSz.out]; exact hbel7)
                         have HG8 : Hid (Blk (w7.setCell ⟨w4.heap.size, 0, none⟩ (.slice A7 n c7)) w4.heap.size 25 #[.slice A7 n c7, .slice none 0 0]) := HG7.out.set_ 0 _
                         have HK8 : Hid (MeshTwo W (.slice A n c) (.slice B m d) (.slice A' n' c') (.slice B' m' d') (w7.setCell ⟨w4.heap.size, 0, none⟩ (.slice A7 n c7))) := ⟨HK7.out.b0.far (by show W.heap.size ≠ w4.heap.size; omega) _, HK7.out.b1.far (by show W.heap.size + 1 ≠ w4.heap.size; omega) _, HK7.out.bel.setCell (by show W.heap.size ≤ w4.heap.size; omega) _⟩
                         have HO8 : Hid (OwnK 3 (w7.setCell ⟨w4.heap.size, 0, none⟩ (.slice A7 n c7)) (w4.heap.size + 1) 55 (.slice A7 n c7) n (p3Cells P)) := HO7.out.far (fun g cc e => by have := own3_lt HO7.out g cc e; show g ≠ w4.heap.size; omega) _
                         have HZ8 : Hid (w4.heap.size + 1 ≤ (w7.setCell ⟨w4.heap.size, 0, none⟩ (.slice A7 n c7)).heap.size) := by
                           have q : Below w4.heap.size _ (w7.setCell ⟨w4.heap.size, 0, none⟩ (.slice A7 n c7)) := (hbel7.mono (Nat.le_succ _)).setCell (Nat.le_refl _) _
                           have q2 := q.size
                           rw [HSz.out] at q2
                           exact q2
                         try clear hown7
                         try clear hbel7
                         try clear hGW
                         try clear HK5
                         try clear HK7
                         try clear HG
                         try clear HO7
                         try clear m0
                         try clear m1
                         try clear m2
                         try clear m3
                         try clear n0
                         try clear n1
                         have m0 := HG7.out.cell 0
                         have z0 := HG7.out.frozen 0
                         have n0 := HG8.out.cell 0
                         have n1 := HG8.out.cell 1
                         have k0 := HK8.out.b0.cell 0
                         have k1 := HK8.out.b0.cell 1
                         have k2 := HK8.out.b1.cell 0
                         have k3 := HK8.out.b1.cell 1
                       | refine wpList_joinK rfl _ _ 22 rfl elemP3 (by decide) (w4.heap.size + 1) _ n (p3Cells P) rfl HO8.out _ n' c' (p3Cells P') rfl (HP'.out.kept HK8.out.bel) (p3Cells_one _) (by omega) (by decide) HZ8.out ?_
                         intro v9 w9 hown9 hbel9 _
                         rw [← p3Cells_app] at hown9
                         obtain ⟨A9, c9, hv9, _⟩ := hown9.has
                         subst hv9
                         have HO9 := Lib.hid hown9
                         have hGW := HGW.out
                         have hZ8 := HZ8.out
                         have HG9 : Hid (Blk w9 w4.heap.size 25 #[.slice A7 n c7, .slice none 0 0]) := HG8.out.below hbel9 (Nat.lt_succ_self _)
                         have HK9 : Hid (MeshTwo W (.slice A n c) (.slice B m d) (.slice A' n' c') (.slice B' m' d') w9) := ⟨HK8.out.b0.below hbel9 (by omega), HK8.out.b1.below hbel9 (by omega), HK8.out.bel.trans (hbel9.mono (by omega))⟩
                         have HGa : Hid (Blk (w9.setCell ⟨w4.heap.size, 0, none⟩ (.slice A9 (n + n') c9)) w4.heap.size 25 #[.slice A9 (n + n') c9, .slice none 0 0]) := HG9.out.set_ 0 _
                         have HKa : Hid (MeshTwo W (.slice A n c) (.slice B m d) (.slice A' n' c') (.slice B' m' d') (w9.setCell ⟨w4.heap.size, 0, none⟩ (.slice A9 (n + n') c9))) := ⟨HK9.out.b0.far (by show W.heap.size ≠ w4.heap.size; omega) _, HK9.out.b1.far (by show W.heap.size + 1 ≠ w4.heap.size; omega) _, HK9.out.bel.setCell (by show W.heap.size ≤ w4.heap.size; omega) _⟩
                         have HOa : Hid (OwnK 3 (w9.setCell ⟨w4.heap.size, 0, none⟩ (.slice A9 (n + n') c9)) (w4.heap.size + 1) 55 (.slice A9 (n + n') c9) (n + n') (p3Cells (P ++ P'))) := HO9.out.far (fun g cc e => by have := own3_lt HO9.out g cc e; show g ≠ w4.heap.size; omega) _
                         have HZa : Hid (w4.heap.size + 1 ≤ (w9.setCell ⟨w4.heap.size, 0, none⟩ (.slice A9 (n + n') c9)).heap.size) := by
                           have q : Below w4.heap.size _ (w9.setCell ⟨w4.heap.size, 0, none⟩ (.slice A9 (n + n') c9)) := (hbel9.mono (Nat.le_succ _)).setCell (Nat.le_refl _) _
                           exact Nat.le_trans hZ8 q.size
                         try clear hown9
                         try clear hbel9
                         try clear hGW
                         try clear hZ8
                         try clear HG8
                         try clear HK8
                         try clear HK9
                         try clear HO8
                         try clear HO9
                         try clear HZ8
                         try clear k0
                         try clear k1
                         try clear k2
                         try clear k3
                         try clear m0
                         try clear n0
                         try clear n1
                         try clear z0
                         have m0 := HG9.out.cell 0
                         have z0 := HG9.out.frozen 0
                         have n0 := HGa.out.cell 0
                         have n1 := HGa.out.cell 1
                         have k0 := HKa.out.b0.cell 0
                         have k1 := HKa.out.b0.cell 1
                         have k2 := HKa.out.b1.cell 0
                         have k3 := HKa.out.b1.cell 1
                       | refine wpList_joinK rfl _ _ 23 rfl elemT3 (by decide) (w9.setCell ⟨w4.heap.size, 0, none⟩ (.slice A9 (n + n') c9)).heap.size _ 0 [] rfl (OwnK.nil _ _ _ _) _ m d (p3Cells T) rfl (HT.out.kept HKa.out.bel) (p3Cells_one _) (by omega) (by decide) (Nat.le_refl _) ?_
                         intro v11 w11 hown11 hbel11 _
                         rw [List.nil_append, Nat.zero_add] at hown11
                         obtain ⟨A11, c11, hv11, _⟩ := hown11.has
                         subst hv11
                         have HO11 := Lib.hid hown11
                         have hGW := HGW.out
                         have hZa := HZa.out
                         have HG11 : Hid (Blk w11 w4.heap.size 25 #[.slice A9 (n + n') c9, .slice none 0 0]) := HGa.out.below hbel11 (by omega)
                         have HK11 : Hid (MeshTwo W (.slice A n c) (.slice B m d) (.slice A' n' c') (.slice B' m' d') w11) := HKa.out.next hbel11
                         have HQ11 : Hid (OwnK 3 w11 (w4.heap.size + 1) 55 (.slice A9 (n + n') c9) (n + n') (p3Cells (P ++ P'))) := HOa.out.under hbel11 (fun g cc e => (own3_lt HOa.out g cc e).2)
                         have HGb : Hid (Blk (w11.setCell ⟨w4.heap.size, 1, none⟩ (.slice A11 m c11)) w4.heap.size 25 #[.slice A9 (n + n') c9, .slice A11 m c11]) := HG11.out.set_ 1 _
                         have HKb : Hid (MeshTwo W (.slice A n c) (.slice B m d) (.slice A' n' c') (.slice B' m' d') (w11.setCell ⟨w4.heap.size, 1, none⟩ (.slice A11 m c11))) := ⟨HK11.out.b0.far (by show W.heap.size ≠ w4.heap.size; omega) _, HK11.out.b1.far (by show W.heap.size + 1 ≠ w4.heap.size; omega) _, HK11.out.bel.setCell (by show W.heap.size ≤ w4.heap.size; omega) _⟩
                         have HQb : Hid (OwnK 3 (w11.setCell ⟨w4.heap.size, 1, none⟩ (.slice A11 m c11)) (w4.heap.size + 1) 55 (.slice A9 (n + n') c9) (n + n') (p3Cells (P ++ P'))) := HQ11.out.far (fun g cc e => by have := own3_lt HQ11.out g cc e; show g ≠ w4.heap.size; omega) _
                         have HOb : Hid (OwnK 3 (w11.setCell ⟨w4.heap.size, 1, none⟩ (.slice A11 m c11)) (w9.setCell ⟨w4.heap.size, 0, none⟩ (.slice A9 (n + n') c9)).heap.size 46 (.slice A11 m c11) m (p3Cells T)) := HO11.out.far (fun g cc e => by have := own3_lt HO11.out g cc e; show g ≠ w4.heap.size; omega) _
                         have HPl : Hid (∀ g cc, Value.slice A9 (n + n') c9 = .slice (some ⟨g, 0, none⟩) (n + n') cc → w4.heap.size + 1 ≤ g ∧ g < (w9.setCell ⟨w4.heap.size, 0, none⟩ (.slice A9 (n + n') c9)).heap.size) := own3_lt HOa.out
                         have HZb : Hid ((w9.setCell ⟨w4.heap.size, 0, none⟩ (.slice A9 (n + n') c9)).heap.size ≤ (w11.setCell ⟨w4.heap.size, 1, none⟩ (.slice A11 m c11)).heap.size) := by
                           have q : Below w4.heap.size _ (w11.setCell ⟨w4.heap.size, 1, none⟩ (.slice A11 m c11)) := (hbel11.mono (Nat.le_trans (Nat.le_succ _) hZa)).setCell (Nat.le_refl _) _
                           exact q.size
                         try clear hown11
                         try clear hbel11
                         try clear hGW
                         try clear hZa
                         try clear HG9
                         try clear HGa
                         try clear HKa
                         try clear HK11
                         try clear HOa
                         try clear HO11
                         try clear HQ11
                         try clear k0
                         try clear k1
                         try clear k2
                         try clear k3
                         try clear m0
                         try clear n0
                         try clear n1
                         try clear z0
                         have m1 := HG11.out.cell 1
                         have z0 := HG11.out.frozen 1
                         have n0 := HGb.out.cell 0
                         have n1 := HGb.out.cell 1
                         have k0 := HKb.out.b0.cell 0
                         have k1 := HKb.out.b0.cell 1
                         have k2 := HKb.out.b1.cell 0
                         have k3 := HKb.out.b1.cell 1)
          clear HSz HG7 HG11 z0 m1
          generalize w11.setCell ⟨w4.heap.size, 1, none⟩ (.slice A11 m c11) = w12 at *
          generalize (w9.setCell ⟨w4.heap.size, 0, none⟩ (.slice A9 (n + n') c9)).heap.size = B2 at *
          generalize w4.heap.size = G at *
          go_loopg [6] m' (fun g s6 wx => ∃ (i : Nat) (A5 : Option Addr) (c5 : Nat), i + g = m' ∧ s6 = .int .i64 i ∧ Hid (MeshTwo W (.slice A n c) (.slice B m d) (.slice A' n' c') (.slice B' m' d') wx) ∧ Hid (Blk wx G 25 #[.slice A9 (n + n') c9, .slice A5 (m + i) c5]) ∧ Hid (OwnK 3 wx (G + 1) 55 (.slice A9 (n + n') c9) (n + n') (p3Cells (P ++ P'))) ∧ Hid (OwnK 3 wx B2 46 (.slice A5 (m + i) c5) (m + i) (p3Cells (T ++ (T'.take i).map (shiftT n)))) ∧ Hid (B2 ≤ wx.heap.size))
          case atStart => exact ⟨0, A11, c11, by omega, rfl, HKb, HGb, HQb, by simpa using HOb, HZb⟩
          case round =>
            obtain ⟨i, A5, c5, hig, rfl, HK, HC, HQ, HO, HZ⟩ := hrel
            clear HKb HGb HQb HOb HZb n0 n1 k0 k1 k2 k3
            have n0 := HC.out.cell 0
            have n1 := HC.out.cell 1
            have k0 := HK.out.b0.cell 0
            have k1 := HK.out.b0.cell 1
            have k2 := HK.out.b1.cell 0
            have k3 := HK.out.b1.cell 1
            by_cases hi : i < m'
            · have ti : decide ((i : Int) < (m' : Int)) = true := by simp; omega
              have i2 : (i : Int) < (m' : Int) := by omega
              have hil : i < T'.length := by rw [HTm'.out]; exact hi
              obtain ⟨b, off, rfl, hlt, _⟩ := (HT'.out.kept HK.out.bel).spot (by omega)
              obtain ⟨c0, c1, c2⟩ := p3_at (HT'.out.kept HK.out.bel) hil
              have HTi : Hid ((T'.take (i + 1)).map (shiftT n) = (T'.take i).map (shiftT n) ++ [shiftT n T'[i]]) := by
                show _ = _
                rw [List.take_add_one, List.getElem?_eq_getElem hil, List.map_append]
                rfl
              have hbd := HIn.out T'[i] (List.getElem_mem hil)
              generalize T'[i] = t at *
              obtain ⟨x, y, z⟩ := t
              simp only at c0 c1 c2 hbd
              have ga : IntKind.wrap .i64 (x + (n : Int)) = x + n := by rw [IntKind.wrap_i64]; omega
              have gb : IntKind.wrap .i64 (y + (n : Int)) = y + n := by rw [IntKind.wrap_i64]; omega
              have gc : IntKind.wrap .i64 (z + (n : Int)) = z + n := by rw [IntKind.wrap_i64]; omega
              have HCa := Lib.hid (HC.out.alloc (.cells #[.int .i64 x, .int .i64 y, .int .i64 z] 46))
              have HKa := Lib.hid (HK.out.next (new_alloc (Below.refl _ wr) (.cells #[.int .i64 x, .int .i64 y, .int .i64 z] 46)))
              have q0 := HCa.out.cell 0
              have q1 := HCa.out.cell 1
              have p0 := HKa.out.b0.cell 0
              have p1 := HKa.out.b0.cell 1
              clear hlt
              go_wp2_with (at_builtin
                           refine wpList_joinK rfl _ _ 23 rfl elemT3 (by decide) B2 _ (m + i) _ rfl ((HO.out.alloc _).alloc _) _ 1 1 (p3Cells [(x + (n : Int), y + (n : Int), z + (n : Int))]) rfl (HasK.new_at 3 _ #[_, _, _] _ _ 1 (Array.size_push _).symm rfl) (p3Cells_one _) (by omega) (by decide) (Nat.le_trans HZ.out (new_alloc (new_alloc (Below.refl _ _) _) _).size) ?_
                           intro v5 w5 hown5 hbel5 _
                           rw [← p3Cells_app, List.append_assoc, show [(x + (n : Int), y + (n : Int), z + (n : Int))] = [shiftT n (x, y, z)] from rfl, ← HTi.out] at hown5
                           obtain ⟨A6, c6, hv6, _⟩ := hown5.has
                           subst hv6
                           have hGW := HGW.out
                           have hZa := HZa.out
                           have HCb := Lib.hid ((HCa.out.alloc (.cells #[.int .i64 (x + n), .int .i64 (y + n), .int .i64 (z + n)] 46)).below hbel5 (by omega))
                           have HKb : Hid (MeshTwo W (.slice A n c) (.slice B m d) (.slice A' n' c') (.slice (some ⟨b, off, none⟩) m' d') w5) := ⟨(HKa.out.b0.alloc _).below hbel5 (by omega), (HKa.out.b1.alloc _).below hbel5 (by omega), (new_alloc HKa.out.bel _).trans (hbel5.mono (by omega))⟩
                           have HC2 : Hid (Blk (w5.setCell ⟨G, 1, none⟩ (.slice A6 (m + i + 1) c6)) G 25 #[.slice A9 (n + n') c9, .slice A6 (m + i + 1) c6]) := HCb.out.set_ 1 _
                           have HK2 : Hid (MeshTwo W (.slice A n c) (.slice B m d) (.slice A' n' c') (.slice (some ⟨b, off, none⟩) m' d') (w5.setCell ⟨G, 1, none⟩ (.slice A6 (m + i + 1) c6))) := ⟨HKb.out.b0.far (by show W.heap.size ≠ G; omega) _, HKb.out.b1.far (by show W.heap.size + 1 ≠ G; omega) _, HKb.out.bel.setCell (by show W.heap.size ≤ G; omega) _⟩
                           have HQ2 : Hid (OwnK 3 (w5.setCell ⟨G, 1, none⟩ (.slice A6 (m + i + 1) c6)) (G + 1) 55 (.slice A9 (n + n') c9) (n + n') (p3Cells (P ++ P'))) := (((HQ.out.alloc _).alloc _).under hbel5 (fun g cc e => (HPl.out g cc e).2)).far (fun g cc e => by have := HPl.out g cc e; show g ≠ G; omega) _
                           have HO2 : Hid (OwnK 3 (w5.setCell ⟨G, 1, none⟩ (.slice A6 (m + i + 1) c6)) B2 46 (.slice A6 (m + i + 1) c6) (m + i + 1) (p3Cells (T ++ (T'.take (i + 1)).map (shiftT n)))) := hown5.far (fun g cc e => by have := own3_lt hown5 g cc e; show g ≠ G; omega) _
                           have HZ2 : Hid (B2 ≤ (w5.setCell ⟨G, 1, none⟩ (.slice A6 (m + i + 1) c6)).heap.size) := by
                             have q : Below G _ (w5.setCell ⟨G, 1, none⟩ (.slice A6 (m + i + 1) c6)) := (hbel5.mono (Nat.le_trans (Nat.le_succ _) hZa)).setCell (Nat.le_refl _) _
                             exact Nat.le_trans (Nat.le_trans HZ.out (new_alloc (new_alloc (Below.refl _ wr) _) _).size) q.size
                           have z0 := HCb.out.frozen 1
                           have z1 := HCb.out.cell 1
                           clear hown5 hbel5 hGW hZa)
              go_roundg (gk - 1)
              case measure => omega
              case rel => exact ⟨i + 1, A6, c6, by omega, by go_num, HK2, HC2, HQ2, HO2, HZ2⟩
            · have ti : decide ((i : Int) < (m' : Int)) = false := by simp; omega
              obtain rfl : i = m' := by omega
              have hT : T'.take i = T' := List.take_of_length_le (by rw [HTm'.out]; exact Nat.le_refl _)
              rw [hT] at HO
              have ta : ((0 : Int) == 0) = true := rfl
              have tb : (x + y == x + y) = true := by simp
              go_wp2_with fail
              refine (HEa.out _ HK.out.bel).mono ?_
              rintro e w6 ⟨rfl, hb6⟩
              have HK6 := Lib.hid (HK.out.next hb6)
              have HC6 := Lib.hid (HC.out.below hb6 HC.out.lt)
              have HQ6 := Lib.hid (OwnK.keep HQ.out hb6)
              have HO6 := Lib.hid (OwnK.keep HO.out hb6)
              clear hb6 HK HC HQ HO n0 n1 k0 k1 k2 k3
              have n0 := HC6.out.cell 0
              have n1 := HC6.out.cell 1
              have k0 := HK6.out.b0.cell 0
              have k1 := HK6.out.b0.cell 1
              have k2 := HK6.out.b1.cell 0
              have k3 := HK6.out.b1.cell 1
              go_wp2_with fail
              refine (HEb.out _ HK6.out.bel).mono ?_
              rintro e w7 ⟨rfl, hb7⟩
              have HK7 := Lib.hid (HK6.out.next hb7)
              have HC7 := Lib.hid (HC6.out.below hb7 HC6.out.lt)
              have HQ7 := Lib.hid (OwnK.keep HQ6.out hb7)
              have HO7 := Lib.hid (OwnK.keep HO6.out hb7)
              clear hb7 HK6 HC6 HQ6 HO6 n0 n1 k0 k1 k2 k3
              have n0 := HC7.out.cell 0
              have n1 := HC7.out.cell 1
              have HEc : Hid (Calls Tryd.prog 19 #[.agg #[.slice A9 (n + n') c9, .slice A5 (m + i) c5]] w7 fun e w' => e = .returned (.tuple #[.int .i64 (x + y), .int .i64 0]) ∧ Below w7.heap.size w7 w') := by
                obtain ⟨_, _, e1, h1⟩ := OwnK.has HQ7.out
                obtain ⟨_, _, e2, h2⟩ := OwnK.has HO7.out
                cases e1
                cases e2
                exact HEm.out w7 A9 c9 A5 c5 HK7.out.bel h1 h2
              go_wp2_with fail
              refine HEc.out.mono ?_
              rintro e w8 ⟨rfl, hb8⟩
              have HK8 := Lib.hid (HK7.out.next hb8)
              clear hb8
              go_wp2_with fail
              refine (HKn.out _ HK8.out.bel).mono ?_
              rintro e w9 ⟨rfl, hb9⟩
              go_wp2
              go_ret
              exact ⟨rfl, new_call HK8.out.bel hb9⟩
        · have t1 : (r' != 0) = true := bne_iff_ne.2 h1
          clear h0 h1 hr hr' hp ht hp' ht' hl
          go_enter Tryd.func11, Tryd.ntmps11
          go_wp2_with fail
          refine (HLa.out _).mono ?_
          rintro e w1 ⟨rfl, hb1⟩
          have HK1 := Lib.hid (HK0.out.next hb1)
          clear hb1 HK0 m0 m1 m2 m3
          have m0 := HK1.out.b0.cell 0
          have m1 := HK1.out.b0.cell 1
          have m2 := HK1.out.b1.cell 0
          have m3 := HK1.out.b1.cell 1
          go_wp2_with fail
          refine (HLb.out _).mono ?_
          rintro e w2 ⟨rfl, hb2⟩
          have HK2 := Lib.hid (HK1.out.next hb2)
          clear hb2 HK1 m0 m1 m2 m3
          have m0 := HK2.out.b0.cell 0
          have m1 := HK2.out.b0.cell 1
          have m2 := HK2.out.b1.cell 0
          have m3 := HK2.out.b1.cell 1
          go_wp2_with fail
          refine (HCa.out _ HK2.out.bel).mono ?_
          rintro e w3 ⟨rfl, hb3⟩
          have HK3 := Lib.hid (HK2.out.next hb3)
          clear hb3 HK2 m0 m1 m2 m3
          have m0 := HK3.out.b0.cell 0
          have m1 := HK3.out.b0.cell 1
          have m2 := HK3.out.b1.cell 0
          have m3 := HK3.out.b1.cell 1
          go_wp2_with fail
          refine (HCb.out _ HK3.out.bel).mono ?_
          rintro e w4 ⟨rfl, hb4⟩
          have HK4 := Lib.hid (HK3.out.next hb4)
          clear hb4 HK3 m0 m1 m2 m3
          have m0 := HK4.out.b0.cell 0
          have m1 := HK4.out.b0.cell 1
          have m2 := HK4.out.b1.cell 0
          have m3 := HK4.out.b1.cell 1
          go_wp2_with fail
          refine (HKn.out _ HK4.out.bel).mono ?_
          rintro e w9 ⟨rfl, hb9⟩
          go_wp2
          go_ret
          exact ⟨rfl, new_call HK4.out.bel hb9⟩
      · have t0 : (r != 0) = true := bne_iff_ne.2 h0
        clear h0 hr hr' hp ht hp' ht' hl
        go_enter Tryd.func11, Tryd.ntmps11
        go_wp2_with fail
        refine (HLa.out _).mono ?_
        rintro e w1 ⟨rfl, hb1⟩
        have HK1 := Lib.hid (HK0.out.next hb1)
        clear hb1 HK0 m0 m1 m2 m3
        have m0 := HK1.out.b0.cell 0
        have m1 := HK1.out.b0.cell 1
        have m2 := HK1.out.b1.cell 0
        have m3 := HK1.out.b1.cell 1
        go_wp2_with fail
        refine (HLb.out _).mono ?_
        rintro e w2 ⟨rfl, hb2⟩
        have HK2 := Lib.hid (HK1.out.next hb2)
        clear hb2 HK1 m0 m1 m2 m3
        have m0 := HK2.out.b0.cell 0
        have m1 := HK2.out.b0.cell 1
        have m2 := HK2.out.b1.cell 0
        have m3 := HK2.out.b1.cell 1
        go_wp2_with fail
        refine (HCa.out _ HK2.out.bel).mono ?_
        rintro e w3 ⟨rfl, hb3⟩
        have HK3 := Lib.hid (HK2.out.next hb3)
        clear hb3 HK2 m0 m1 m2 m3
        have m0 := HK3.out.b0.cell 0
        have m1 := HK3.out.b0.cell 1
        have m2 := HK3.out.b1.cell 0
        have m3 := HK3.out.b1.cell 1
        go_wp2_with fail
        refine (HKn.out _ HK3.out.bel).mono ?_
        rintro e w9 ⟨rfl, hb9⟩
        go_wp2
        go_ret
        exact ⟨rfl, new_call HK3.out.bel hb9⟩

set_option maxRecDepth 100000 in
theorem reads (os : Os) {H : Type} (enc : TypeId × Value → H) : ∃ places, DataW.whole enc Tryd.prog ((laidWorld os).forCall (fun _ _ => 0) ⟨#[], #[.agg #[.slice none 0 0, .slice none 0 0], .agg #[.slice none 0 0, .slice none 0 0]], []⟩).memory Tryd.f11.params.toList Rows.meshEulersSpec.vars false (#[.agg #[.slice none 0 0, .slice none 0 0], .agg #[.slice none 0 0, .slice none 0 0]] : Array Value).toList 8 = some ([.agg [.nil, .nil], .agg [.nil, .nil]], [], places) := ⟨[], by kernel_rfl⟩
set_option maxRecDepth 100000 in
theorem lifted (os : Os) (started : os.Started) (H : Type) (enc : TypeId × Value → H) (F : Stop.Interp) :
    ReturnsInHanded {} Tryd.checked os 11 .any ((OpenSpec.ofChange Rows.meshEulersSpec).preRow enc Tryd.prog Tryd.f11 Rows.meshEulersRow.domain false Rows.meshEulersRow.laid) (((OpenSpec.ofChange Rows.meshEulersSpec).at F).post enc Tryd.prog Tryd.f11 false true false false) := by
  obtain ⟨places, hx⟩ := reads os enc
  refine returnsInHanded_of_row (C := Tryd.checked) (s := OpenSpec.ofChange Rows.meshEulersSpec) Tryd.own started (by kernel_rfl) Tryd.func11
    (witness_row_at (enc := enc) (C := Tryd.checked) false (laidWorld os) #[.agg #[.slice none 0 0, .slice none 0 0], .agg #[.slice none 0 0, .slice none 0 0]] rfl (by kernel_rfl) (by kernel_rfl) (by kernel_rfl)
      (OpenSpec.preRow_of_cond 8 hx (by kernel_rfl) (fun k hk => by cases hk) (by kernel_rfl) (laidMet_of_run' 8 (by kernel_rfl) (by kernel_rfl)))) ?_
  intro W base args ds gs before hval0 hW _ _ hsz0 hL _ _
  have hbe : BehW W := behW_of_laid hL
  have hval : ∀ (j : Nat) t v, Tryd.f11.params[j]? = some t → args[j]? = some v → Value.okWide Tryd.prog W .any base t v := hval0
  have hW' := hW
  obtain ⟨p, q, hA0, hV, rfl, _, _⟩ := hW
  have hA : DataW.TrodAll enc Tryd.prog W 0 (fun _ => true) true Tryd.f11.params.toList args.toList ds p := hA0
  rw [Tryd.params11] at hA hval
  obtain ⟨v0, v1, d0, d1, p0, p1, rfl, rfl, rfl, h0, h1⟩ := trodAll_two hA
  obtain ⟨rfl, rfl⟩ := trodVars_none hV
  obtain ⟨A0, n0, c0, P0, B0, m0, e0, T0, rfl, hp0, ht0, bp0, bt0, hn0, hm0⟩ := open_mesh (hval 0 25 v0 rfl rfl) h0
  obtain ⟨A1, n1, c1, P1, B1, m1, e1, T1, rfl, hp1, ht1, bp1, bt1, hn1, hm1⟩ := open_mesh (hval 1 25 v1 rfl rfl) h1
  exact (walk A0 n0 c0 P0 B0 m0 e0 T0 A1 n1 c1 P1 B1 m1 e1 T1 W hbe hp0 ht0 bp0 bt0 hn0 hm0 hp1 ht1 bp1 bt1 hn1 hm1).mono fun e W' he =>
    law_post rfl rfl (by rw [Tryd.params11]; intro t ht; simp at ht; subst ht; exact ⟨by kernel_rfl, of_decide_eq_true (by kernel_rfl)⟩) hW' rfl he

theorem said : Rows.MeshEulersSaid :=
  OpenClaim.holds_of_cond 11 Tryd.f11 rfl rfl rfl rfl rfl rfl rfl ⟨rfl, rfl, rfl, rfl, rfl⟩ rfl rfl rfl rfl rfl (by kernel_rfl) Tryd.func11 (by kernel_rfl)
    (of_decide_eq_true (by kernel_rfl)) (by unfold Func.isWrapper; first | (rw [if_pos (by decide +kernel)]; kernel_rfl) | (rw [if_neg (by decide +kernel)]; exact ⟨rfl, rfl⟩))
    (fun os started H enc _ F => by rw [OpenClaim.pre_eq_preRow]; exact lifted os started H enc F)
theorem plain (f : FuncId) (fn : Func) (hf : Tryd.pinned.checked.prog.funcNamed "lapidary/lapidarylaw10.MeshEulers" = some f) (hfn : Tryd.pinned.checked.prog.funcs[f]? = some fn) :
    false = Tryd.pinned.checked.prog.looks [] ∧ ∀ (j : Nat) t, fn.params[j]? = some t → Tryd.pinned.checked.prog.wantsStandIn t = false := by
  obtain rfl : f = 11 := Option.some.inj ((show Tryd.prog.funcNamed "lapidary/lapidarylaw10.MeshEulers" = some 11 by kernel_rfl).symm.trans hf) |>.symm
  obtain rfl : fn = Tryd.f11 := (Option.some.inj (Tryd.func11.symm.trans hfn)).symm
  refine ⟨by kernel_rfl, fun j t ht => ?_⟩
  rw [Tryd.params11] at ht
  have hm : t ∈ [25] := by simpa using Array.mem_of_getElem? ht
  have hall : ([25].all fun u => !Tryd.prog.wantsStandIn u) = true := by kernel_rfl
  exact (show Tryd.prog.wantsStandIn t = false by simpa using List.all_eq_true.1 hall t hm)
theorem proved : Rows.MeshEulersCardSaid :=
  Claim7.holds_tied_plain_at .later [] _ _ _ _ said (fun _ h => by cases h) (by kernel_rfl) (fun _ h => by cases h) meshEulers_row_tie rfl ⟨rfl, rfl⟩ (by kernel_rfl) rfl plain (by kernel_rfl)
end Go.Proofs.YtckjmnbglbegmaaDoor.meshEulers
