/- A surface's steps grow its canon's triangles, and as many vertices; what any steps grow is told by a walk in the same steps: whatever comes in, GrowWalks answers true. -/
import Derived.Test.YthjmojglcfmkmaaDoorKnown12
import Derived.Test.YthjmojglcfmkmaaDoorGrowTell
import Derived.Test.YthjmojglcfmkmaaDoorWalkCodeJ
import Derived.Test.YthjmojglcfmkmaaDoorLawMesh
import Derived.Test.YthjmojglcfmkmaaDoorLawSteps
import Derived.Test.YthjmojglcfmkmaaDoorLawLaidG
namespace Go.Proofs.YthjmojglcfmkmaaDoor.growWalks
open Go.ChangeShapes Go.WideShapes Go.ChangeAt Go.RowKit

theorem canon_all {P T : List P3} (hc : CheckIs P T 0) : closeT (growG (walkF T).S) 0 = (walkF T).N ∧ closeN (growG (walkF T).S) 0 = (P.length : Int) := by
  obtain ⟨_, h2, h3, _⟩ := grow_canon hc
  rw [closeT_fine rfl, closeN_fine rfl, h2, h3]
  exact ⟨rfl, rfl⟩
set_option maxRecDepth 100000 in
set_option maxHeartbeats 6400000 in
theorem walk (A : Option Addr) (n c : Nat) (P : List P3) (B : Option Addr) (m d : Nat) (T : List P3) (D : Option Addr) (k f : Nat) (l : List (Int × Int)) (W : World) (hbe : BehW W) (hnw : NewW W) (hp : HasK 3 W A n c (p3Cells P)) (ht : HasK 3 W B m d (p3Cells T)) (_ : ∀ x ∈ P, i64T x) (_ : ∀ x ∈ T, i64T x) (_ : n ≤ 9223372036854775807) (_ : m ≤ 9223372036854775807) (hl : HasK 2 W D k f (e2Cells l)) (hi : ∀ x ∈ l, i64D x) (_ : k ≤ 9223372036854775807) : Calls Tryd.prog 5 #[.agg #[.slice A n c, .slice B m d], .slice D k f] W fun e w' => e = .returned (.bool true) ∧ Below W.heap.size W w' := by
  have HK0 := Lib.hid (MeshAt.new W (.slice A n c) (.slice B m d))
  have m0 := HK0.out.b0.cell 0
  have m1 := HK0.out.b0.cell 1
  have HKn := Lib.hid (fun w (hW : Below W.heap.size W w) => known12 w (hbe.kept hW) (hnw.kept hW))
  by_cases hz : n ≤ 40 ∧ m ≤ 60 ∧ k ≤ 80
  · have t1 : decide ((40 : Int) < (n : Int)) = false := decide_eq_false (by omega)
    have t2 : decide ((60 : Int) < (m : Int)) = false := decide_eq_false (by omega)
    have t3 : decide ((80 : Int) < (k : Int)) = false := decide_eq_false (by omega)
    obtain ⟨r, hr⟩ := check_total P T
    obtain ⟨r2, hr2⟩ := close_total (growG l)
    have hTm : T.length = m := by have := ht.len; rw [p3Cells_len] at this; omega
    have hPn : P.length = n := by have := hp.len; rw [p3Cells_len] at this; omega
    have HLk : Hid (l.length = k) := by have := hl.len; rw [e2Cells_len] at this; show _ = _; omega
    have HSt := Lib.hid (fun w (hW : Below W.heap.size W w) => walkSteps_any A n c P B m d T r w (hbe.kept hW) (hp.kept hW) (ht.kept hW) (by omega) (by omega) hr)
    have HCa := Lib.hid (fun w (hW : Below W.heap.size W w) => walkCanon_any A n c P B m d T r w (hbe.kept hW) (hp.kept hW) (ht.kept hW) (by omega) (by omega) hr)
    have HA2 := Lib.hid (fun w (hW : Below W.heap.size W w) => growAll_any D k f l r2 w (hbe.kept hW) (hnw.kept hW) (hl.kept hW) (fun d hd => ⟨WalkArith.wf_i64 (hi d hd).1, WalkArith.wf_i64 (hi d hd).2⟩) (by omega) hr2)
    have HL := Lib.hid (fun w (hW : Below W.heap.size W w) => hl.kept hW)
    have HBe := Lib.hid (fun w (hW : Below W.heap.size W w) => hbe.kept hW)
    have HR2 := Lib.hid hr2
    have HOk := Lib.hid (growG_ok l)
    have hmz := zeroMesh
    by_cases h0 : r = 0
    · subst h0
      have HCk := Lib.hid hr
      have HPn := Lib.hid hPn
      have HTm := Lib.hid hTm
      have HSz : Hid ((walkF T).S.length ≤ 1000000) := by
        have := ((walk_fine T T.length (Nat.le_refl _)).small (Nat.le_refl _) (by omega)).S
        exact this
      have HAl : Hid (∀ w A3 c3, Below W.heap.size W w → HasK 2 w A3 (walkF T).S.length c3 (e2Cells (walkF T).S) → Calls Tryd.prog 20 #[.slice A3 (walkF T).S.length c3] w fun e w' => ∃ A4 c4, e = .returned (.tuple #[.slice A4 (walkF T).N.length c4, .int .i64 (n : Int), .int .i64 0]) ∧ HasK 3 w' A4 (walkF T).N.length c4 (p3Cells (walkF T).N) ∧ Below w.heap.size w w') := fun w A3 c3 hW h3 => by
        refine (growAll_any A3 _ c3 (walkF T).S 0 w (hbe.kept hW) (hnw.kept hW) h3 (grow_in64 (grow_canon hr).1) HSz.out (close_canon hr)).mono ?_
        rintro e w' ⟨A4, n4, c4, rfl, h4, hb4⟩
        obtain ⟨e1, e2⟩ := canon_all hr
        rw [e1] at h4
        have hn4 : n4 = (walkF T).N.length := by have := h4.len; rw [p3Cells_len] at this; omega
        subst hn4
        exact ⟨A4, c4, by rw [e2, hPn], h4, hb4⟩
      have HNl : Hid ((walkF T).N.length ≤ 60) := by have := (canon_twice hr).2.2.2.2.2.1; show _ ≤ _; omega
      rw [if_pos rfl, if_pos rfl] at HCa
      rw [if_pos rfl] at HSt
      have hnn : ((n : Int) != (n : Int)) = false := bne_self_eq_false _
      clear hp ht hbe hnw hl hi hr hr2 hTm hPn
      generalize (walkF T).S = S at *
      generalize (walkF T).N = N at *
      generalize canonP P T = C at *
      go_enter Tryd.func5, Tryd.ntmps5
      go_wp2_with fail
      refine (HSt.out _ HK0.out.bel).mono ?_
      rintro e w1 ⟨A1, c1, rfl, h1, hb1⟩
      have HK1 := Lib.hid (HK0.out.next hb1)
      have HS1 := Lib.hid h1
      clear h1 hb1 HK0 m0 m1 HSt
      have m0 := HK1.out.b0.cell 0
      have m1 := HK1.out.b0.cell 1
      go_wp2_with fail
      refine (HCa.out _ HK1.out.bel).mono ?_
      rintro e w2 ⟨A2, c2, B2, d2, rfl, _, h2, hb2⟩
      have HK2 := Lib.hid ((HK1.out.next hb2).next (new_alloc (Below.refl _ w2) (.cells #[.slice A2 C.length c2, .slice B2 N.length d2] 48)))
      have HC2 := Lib.hid (Blk.new w2 48 #[.slice A2 C.length c2, .slice B2 N.length d2])
      have HT2 := Lib.hid (h2.alloc (.cells #[.slice A2 C.length c2, .slice B2 N.length d2] 48))
      have HS2 := Lib.hid ((HS1.out.kept hb2).kept (new_alloc (Below.refl _ w2) (.cells #[.slice A2 C.length c2, .slice B2 N.length d2] 48)))
      clear h2 hb2 HK1 m0 m1 HCa HS1
      go_wp2_with fail
      generalize w2.alloc (.cells #[.slice A2 C.length c2, .slice B2 N.length d2] 48) = W2 at *
      generalize w2.heap.size = G at *
      refine (HAl.out _ _ _ HK2.out.bel HS2.out).mono ?_
      rintro e w3 ⟨A3, c3, rfl, h3, hb3⟩
      have HK3 := Lib.hid (HK2.out.next hb3)
      have HC3 := Lib.hid (HC2.out.below hb3 HC2.out.lt)
      have HSa := Lib.hid (ref12Same_any A3 _ c3 N B2 _ d2 N w3 h3 (HT2.out.kept hb3) (by have := HNl.out; omega) (by have := HNl.out; omega))
      rw [decide_eq_true rfl] at HSa
      clear h3 hb3 HK2 HC2 HT2 HS2 HAl
      have m0 := HK3.out.b0.cell 0
      have m1 := HK3.out.b0.cell 1
      have k0 := HC3.out.cell 0
      have k1 := HC3.out.cell 1
      go_wp2_with fail
      refine HSa.out.mono ?_
      rintro e w4 ⟨rfl, hb4⟩
      have HB := Lib.hid (HK3.out.next hb4).bel
      clear hb4 HK3 HC3 HSa m0 m1 k0 k1 HCk HSz HNl HPn HTm
      generalize w4 = wz at *
      go_wp2_with fail
      refine (HA2.out _ HB.out).mono ?_
      rintro e v1 ⟨A7, n7, c7, rfl, h7, hb7⟩
      have HB7 := Lib.hid (new_call HB.out hb7)
      by_cases h2 : r2 = 0
      · subst h2
        rw [closeT_fine rfl] at h7
        have hn7 : n7 = (growG l).T.length := by have := h7.len; rw [p3Cells_len] at this; omega
        subst hn7
        rw [closeN_fine rfl]
        obtain ⟨e1, e2, e3⟩ := back_is HR2.out
        obtain ⟨_, _, hck⟩ := close_zero HR2.out
        have hlN := HOk.out.lenN
        have hlT := HOk.out.lenT
        have HSx : Hid (∀ V Ap cp At ct, Below W.heap.size W V → HasK 3 V Ap (growG l).N cp (p3Cells (List.replicate (growG l).N (0, 0, 0))) → HasK 3 V At (growG l).T.length ct (p3Cells (growG l).T) → Calls Tryd.prog 22 #[.agg #[.slice Ap (growG l).N cp, .slice At (growG l).T.length ct]] V (Stepsd V l 0)) := fun V Ap cp At ct hV hp ht => by
          have := walkSteps_any Ap _ cp _ At _ ct _ 0 V (HBe.out V hV) hp ht (by omega) (by omega) hck
          rwa [if_pos rfl, e1] at this
        have HIx : Hid (∀ V Ap cp At ct, Below W.heap.size W V → HasK 3 V Ap (growG l).N cp (p3Cells (List.replicate (growG l).N (0, 0, 0))) → HasK 3 V At (growG l).T.length ct (p3Cells (growG l).T) → Calls Tryd.prog 25 #[.agg #[.slice Ap (growG l).N cp, .slice At (growG l).T.length ct]] V fun e w' => e = .returned (.bool true) ∧ Below V.heap.size V w') := fun V Ap cp At ct hV hp ht => by
          have := walkIs_any Ap _ cp _ At _ ct _ 0 V (HBe.out V hV) hp ht (by omega) (by omega) hck
          rwa [decide_eq_true ⟨rfl, e3, e2⟩] at this
        have HCx : Hid (∀ V Ap cp At ct, HasK 3 V Ap (growG l).N cp (p3Cells (List.replicate (growG l).N (0, 0, 0))) → HasK 3 V At (growG l).T.length ct (p3Cells (growG l).T) → Calls Tryd.prog 26 #[.agg #[.slice Ap (growG l).N cp, .slice At (growG l).T.length ct]] V fun e w' => e = .returned (.int .i64 0) ∧ Below V.heap.size V w') := fun V Ap cp At ct hp ht =>
          ref10Check_any Ap _ cp _ At _ ct _ 0 V hp ht (by omega) (by omega) hck
        have HSS : Hid (∀ V A8 c8, Below W.heap.size W V → HasK 2 V A8 l.length c8 (e2Cells l) → Calls Tryd.prog 24 #[.slice A8 l.length c8, .slice D k f] V fun e w' => e = .returned (.bool true) ∧ Below V.heap.size V w') := fun V A8 c8 hV h8 => by
          have := ref11SameSteps_any A8 _ c8 l D k f l V h8 (HL.out V hV) (by have := HLk.out; omega) (by omega)
          rwa [decide_eq_true rfl] at this
        have hmk : ∀ V, (Instr.makeSlice 46 (.int .i64 ((growG l).N : Int)) (.int .i64 ((growG l).N : Int))).run Tryd.prog V = .ok (.slice (some ⟨V.heap.size, 0, none⟩) (growG l).N (growG l).N) (V.alloc (.cells (p3Cells (List.replicate (growG l).N (0, 0, 0))).toArray 84)) := fun V => run_makePts (growG l).N (by omega) V
        clear e1 e2 e3 hck hlN hlT HR2 HOk HA2 HBe HL
        generalize growG l = s at *
        have HB8 : Hid (Below v1.heap.size v1 (v1.alloc (.cells (p3Cells (List.replicate s.N (0, 0, 0))).toArray 84))) := new_alloc (Below.refl _ v1) _
        have HP8 : Hid (HasK 3 (v1.alloc (.cells (p3Cells (List.replicate s.N (0, 0, 0))).toArray 84)) (some ⟨v1.heap.size, 0, none⟩) s.N s.N (p3Cells (List.replicate s.N (0, 0, 0)))) := blk_hasK (Blk.new v1 _ _) (List.length_replicate ..)
        have HT8 := Lib.hid (h7.kept HB8.out)
        have HW8 := Lib.hid (new_call HB7.out HB8.out)
        have HX8 : Hid (Blk ((v1.alloc (.cells (p3Cells (List.replicate s.N (0, 0, 0))).toArray 84)).alloc (.cells #[.slice (some ⟨v1.heap.size, 0, none⟩) s.N s.N, .slice A7 s.T.length c7] 48)) (v1.heap.size + 1) 48 #[.slice (some ⟨v1.heap.size, 0, none⟩) s.N s.N, .slice A7 s.T.length c7]) := by
          have h := Blk.new (v1.alloc (.cells (p3Cells (List.replicate s.N (0, 0, 0))).toArray 84)) 48 #[.slice (some ⟨v1.heap.size, 0, none⟩) s.N s.N, .slice A7 s.T.length c7]
          rw [show (v1.alloc (.cells (p3Cells (List.replicate s.N (0, 0, 0))).toArray 84)).heap.size = v1.heap.size + 1 by simp] at h
          exact h
        have HB9 : Hid (Below (v1.alloc (.cells (p3Cells (List.replicate s.N (0, 0, 0))).toArray 84)).heap.size (v1.alloc (.cells (p3Cells (List.replicate s.N (0, 0, 0))).toArray 84)) ((v1.alloc (.cells (p3Cells (List.replicate s.N (0, 0, 0))).toArray 84)).alloc (.cells #[.slice (some ⟨v1.heap.size, 0, none⟩) s.N s.N, .slice A7 s.T.length c7] 48))) := new_alloc (Below.refl _ _) _
        have HP9 := Lib.hid (HP8.out.kept HB9.out)
        have HT9 := Lib.hid (HT8.out.kept HB9.out)
        have HW9 := Lib.hid (new_call HW8.out HB9.out)
        clear h7 hb7 HB8 HP8 HT8 HW8 HB9 HB7 HB
        go_wp2_with (with_reducible fail)
        generalize (v1.alloc (.cells (p3Cells (List.replicate s.N (0, 0, 0))).toArray 84)).alloc (.cells #[.slice (some ⟨v1.heap.size, 0, none⟩) s.N s.N, .slice A7 s.T.length c7] 48) = w9 at *
        generalize v1.heap.size = g at *
        have HK : Hid (∀ V, Below w9.heap.size w9 V → Below W.heap.size W V ∧ HasK 3 V (some ⟨g, 0, none⟩) s.N s.N (p3Cells (List.replicate s.N (0, 0, 0))) ∧ HasK 3 V A7 s.T.length c7 (p3Cells s.T) ∧ V.cell? ⟨g + 1, 0, none⟩ = some (.slice (some ⟨g, 0, none⟩) s.N s.N) ∧ V.cell? ⟨g + 1, 1, none⟩ = some (.slice A7 s.T.length c7)) := fun V hV => by
          have h := HX8.out.below hV HX8.out.lt
          exact ⟨new_call HW9.out hV, HP9.out.kept hV, HT9.out.kept hV, h.cell 0, h.cell 1⟩
        clear HX8 HP9 HT9 HW9
        refine (HSx.out _ _ _ _ _ (HK.out _ (Below.refl _ _)).1 (HK.out _ (Below.refl _ _)).2.1 (HK.out _ (Below.refl _ _)).2.2.1).mono ?_
        rintro e v2 ⟨A8, c8, rfl, h8, hb8⟩
        have HBa := Lib.hid hb8
        have HSd := Lib.hid (HSS.out v2 A8 c8 (HK.out _ hb8).1 h8)
        clear h8 hb8
        go_wp2_with fail
        refine HSd.out.mono ?_
        rintro e v3 ⟨rfl, hb3⟩
        have HBb := Lib.hid (new_call HBa.out hb3)
        clear hb3 HSd HSS HSx HBa
        obtain ⟨hw3, hp3, ht3, k0, k1⟩ := HK.out _ HBb.out
        have HId := Lib.hid (HIx.out _ _ _ _ _ hw3 hp3 ht3)
        clear hw3 hp3 ht3
        go_wp2_with fail
        refine HId.out.mono ?_
        rintro e v4 ⟨rfl, hb4⟩
        have HBc := Lib.hid (new_call HBb.out hb4)
        clear hb4 HId HIx HBb k0 k1
        obtain ⟨_, hp4, ht4, k0, k1⟩ := HK.out _ HBc.out
        have HCd := Lib.hid (HCx.out _ _ _ _ _ hp4 ht4)
        clear hp4 ht4
        go_wp2_with fail
        refine HCd.out.mono ?_
        rintro e v5 ⟨rfl, hb5⟩
        have HBd := Lib.hid (new_call HBc.out hb5)
        clear hb5 HCd HCx HBc k0 k1
        go_wp2_with fail
        refine (HKn.out _ (HK.out _ HBd.out).1).mono ?_
        rintro e v6 ⟨rfl, hb6⟩
        have HB4 := Lib.hid (new_call (HK.out _ HBd.out).1 hb6)
        clear hb6
        go_wp2
        go_ret
        exact ⟨rfl, HB4.out⟩
      · have q1 : (r2 != 0) = true := bne_iff_ne.2 h2
        have hn7 : n7 = 0 := by rw [closeT_bad h2] at h7; have h1 := h7.len; simp [p3Cells] at h1; omega
        subst hn7
        rw [closeN_bad h2]
        clear h2 h7 hb7
        go_wp2_with fail
        refine (HKn.out _ HB7.out).mono ?_
        rintro e w4 ⟨rfl, hb4⟩
        have HB4 := Lib.hid (new_call HB7.out hb4)
        clear hb4
        go_wp2
        go_ret
        exact ⟨rfl, HB4.out⟩
    · have te : (r == 0) = false := beq_eq_false_iff_ne.2 h0
      clear hp ht hbe hnw hl hi hr hr2 hTm hPn HCa
      go_enter Tryd.func5, Tryd.ntmps5
      go_wp2_with fail
      refine (HSt.out _ HK0.out.bel).mono ?_
      rintro e wz ⟨A1, c1, rfl, h1, hb1⟩
      have HB := Lib.hid (HK0.out.next hb1).bel
      clear h1 hb1 HK0 m0 m1 HSt
      go_wp2_with fail
      refine (HA2.out _ HB.out).mono ?_
      rintro e v1 ⟨A7, n7, c7, rfl, h7, hb7⟩
      have HB7 := Lib.hid (new_call HB.out hb7)
      by_cases h2 : r2 = 0
      · subst h2
        rw [closeT_fine rfl] at h7
        have hn7 : n7 = (growG l).T.length := by have := h7.len; rw [p3Cells_len] at this; omega
        subst hn7
        rw [closeN_fine rfl]
        obtain ⟨e1, e2, e3⟩ := back_is HR2.out
        obtain ⟨_, _, hck⟩ := close_zero HR2.out
        have hlN := HOk.out.lenN
        have hlT := HOk.out.lenT
        have HSx : Hid (∀ V Ap cp At ct, Below W.heap.size W V → HasK 3 V Ap (growG l).N cp (p3Cells (List.replicate (growG l).N (0, 0, 0))) → HasK 3 V At (growG l).T.length ct (p3Cells (growG l).T) → Calls Tryd.prog 22 #[.agg #[.slice Ap (growG l).N cp, .slice At (growG l).T.length ct]] V (Stepsd V l 0)) := fun V Ap cp At ct hV hp ht => by
          have := walkSteps_any Ap _ cp _ At _ ct _ 0 V (HBe.out V hV) hp ht (by omega) (by omega) hck
          rwa [if_pos rfl, e1] at this
        have HIx : Hid (∀ V Ap cp At ct, Below W.heap.size W V → HasK 3 V Ap (growG l).N cp (p3Cells (List.replicate (growG l).N (0, 0, 0))) → HasK 3 V At (growG l).T.length ct (p3Cells (growG l).T) → Calls Tryd.prog 25 #[.agg #[.slice Ap (growG l).N cp, .slice At (growG l).T.length ct]] V fun e w' => e = .returned (.bool true) ∧ Below V.heap.size V w') := fun V Ap cp At ct hV hp ht => by
          have := walkIs_any Ap _ cp _ At _ ct _ 0 V (HBe.out V hV) hp ht (by omega) (by omega) hck
          rwa [decide_eq_true ⟨rfl, e3, e2⟩] at this
        have HCx : Hid (∀ V Ap cp At ct, HasK 3 V Ap (growG l).N cp (p3Cells (List.replicate (growG l).N (0, 0, 0))) → HasK 3 V At (growG l).T.length ct (p3Cells (growG l).T) → Calls Tryd.prog 26 #[.agg #[.slice Ap (growG l).N cp, .slice At (growG l).T.length ct]] V fun e w' => e = .returned (.int .i64 0) ∧ Below V.heap.size V w') := fun V Ap cp At ct hp ht =>
          ref10Check_any Ap _ cp _ At _ ct _ 0 V hp ht (by omega) (by omega) hck
        have HSS : Hid (∀ V A8 c8, Below W.heap.size W V → HasK 2 V A8 l.length c8 (e2Cells l) → Calls Tryd.prog 24 #[.slice A8 l.length c8, .slice D k f] V fun e w' => e = .returned (.bool true) ∧ Below V.heap.size V w') := fun V A8 c8 hV h8 => by
          have := ref11SameSteps_any A8 _ c8 l D k f l V h8 (HL.out V hV) (by have := HLk.out; omega) (by omega)
          rwa [decide_eq_true rfl] at this
        have hmk : ∀ V, (Instr.makeSlice 46 (.int .i64 ((growG l).N : Int)) (.int .i64 ((growG l).N : Int))).run Tryd.prog V = .ok (.slice (some ⟨V.heap.size, 0, none⟩) (growG l).N (growG l).N) (V.alloc (.cells (p3Cells (List.replicate (growG l).N (0, 0, 0))).toArray 84)) := fun V => run_makePts (growG l).N (by omega) V
        clear e1 e2 e3 hck hlN hlT HR2 HOk HA2 HBe HL
        generalize growG l = s at *
        have HB8 : Hid (Below v1.heap.size v1 (v1.alloc (.cells (p3Cells (List.replicate s.N (0, 0, 0))).toArray 84))) := new_alloc (Below.refl _ v1) _
        have HP8 : Hid (HasK 3 (v1.alloc (.cells (p3Cells (List.replicate s.N (0, 0, 0))).toArray 84)) (some ⟨v1.heap.size, 0, none⟩) s.N s.N (p3Cells (List.replicate s.N (0, 0, 0)))) := blk_hasK (Blk.new v1 _ _) (List.length_replicate ..)
        have HT8 := Lib.hid (h7.kept HB8.out)
        have HW8 := Lib.hid (new_call HB7.out HB8.out)
        have HX8 : Hid (Blk ((v1.alloc (.cells (p3Cells (List.replicate s.N (0, 0, 0))).toArray 84)).alloc (.cells #[.slice (some ⟨v1.heap.size, 0, none⟩) s.N s.N, .slice A7 s.T.length c7] 48)) (v1.heap.size + 1) 48 #[.slice (some ⟨v1.heap.size, 0, none⟩) s.N s.N, .slice A7 s.T.length c7]) := by
          have h := Blk.new (v1.alloc (.cells (p3Cells (List.replicate s.N (0, 0, 0))).toArray 84)) 48 #[.slice (some ⟨v1.heap.size, 0, none⟩) s.N s.N, .slice A7 s.T.length c7]
          rw [show (v1.alloc (.cells (p3Cells (List.replicate s.N (0, 0, 0))).toArray 84)).heap.size = v1.heap.size + 1 by simp] at h
          exact h
        have HB9 : Hid (Below (v1.alloc (.cells (p3Cells (List.replicate s.N (0, 0, 0))).toArray 84)).heap.size (v1.alloc (.cells (p3Cells (List.replicate s.N (0, 0, 0))).toArray 84)) ((v1.alloc (.cells (p3Cells (List.replicate s.N (0, 0, 0))).toArray 84)).alloc (.cells #[.slice (some ⟨v1.heap.size, 0, none⟩) s.N s.N, .slice A7 s.T.length c7] 48))) := new_alloc (Below.refl _ _) _
        have HP9 := Lib.hid (HP8.out.kept HB9.out)
        have HT9 := Lib.hid (HT8.out.kept HB9.out)
        have HW9 := Lib.hid (new_call HW8.out HB9.out)
        clear h7 hb7 HB8 HP8 HT8 HW8 HB9 HB7 HB
        go_wp2_with (with_reducible fail)
        generalize (v1.alloc (.cells (p3Cells (List.replicate s.N (0, 0, 0))).toArray 84)).alloc (.cells #[.slice (some ⟨v1.heap.size, 0, none⟩) s.N s.N, .slice A7 s.T.length c7] 48) = w9 at *
        generalize v1.heap.size = g at *
        have HK : Hid (∀ V, Below w9.heap.size w9 V → Below W.heap.size W V ∧ HasK 3 V (some ⟨g, 0, none⟩) s.N s.N (p3Cells (List.replicate s.N (0, 0, 0))) ∧ HasK 3 V A7 s.T.length c7 (p3Cells s.T) ∧ V.cell? ⟨g + 1, 0, none⟩ = some (.slice (some ⟨g, 0, none⟩) s.N s.N) ∧ V.cell? ⟨g + 1, 1, none⟩ = some (.slice A7 s.T.length c7)) := fun V hV => by
          have h := HX8.out.below hV HX8.out.lt
          exact ⟨new_call HW9.out hV, HP9.out.kept hV, HT9.out.kept hV, h.cell 0, h.cell 1⟩
        clear HX8 HP9 HT9 HW9
        refine (HSx.out _ _ _ _ _ (HK.out _ (Below.refl _ _)).1 (HK.out _ (Below.refl _ _)).2.1 (HK.out _ (Below.refl _ _)).2.2.1).mono ?_
        rintro e v2 ⟨A8, c8, rfl, h8, hb8⟩
        have HBa := Lib.hid hb8
        have HSd := Lib.hid (HSS.out v2 A8 c8 (HK.out _ hb8).1 h8)
        clear h8 hb8
        go_wp2_with fail
        refine HSd.out.mono ?_
        rintro e v3 ⟨rfl, hb3⟩
        have HBb := Lib.hid (new_call HBa.out hb3)
        clear hb3 HSd HSS HSx HBa
        obtain ⟨hw3, hp3, ht3, k0, k1⟩ := HK.out _ HBb.out
        have HId := Lib.hid (HIx.out _ _ _ _ _ hw3 hp3 ht3)
        clear hw3 hp3 ht3
        go_wp2_with fail
        refine HId.out.mono ?_
        rintro e v4 ⟨rfl, hb4⟩
        have HBc := Lib.hid (new_call HBb.out hb4)
        clear hb4 HId HIx HBb k0 k1
        obtain ⟨_, hp4, ht4, k0, k1⟩ := HK.out _ HBc.out
        have HCd := Lib.hid (HCx.out _ _ _ _ _ hp4 ht4)
        clear hp4 ht4
        go_wp2_with fail
        refine HCd.out.mono ?_
        rintro e v5 ⟨rfl, hb5⟩
        have HBd := Lib.hid (new_call HBc.out hb5)
        clear hb5 HCd HCx HBc k0 k1
        go_wp2_with fail
        refine (HKn.out _ (HK.out _ HBd.out).1).mono ?_
        rintro e v6 ⟨rfl, hb6⟩
        have HB4 := Lib.hid (new_call (HK.out _ HBd.out).1 hb6)
        clear hb6
        go_wp2
        go_ret
        exact ⟨rfl, HB4.out⟩
      · have q1 : (r2 != 0) = true := bne_iff_ne.2 h2
        have hn7 : n7 = 0 := by rw [closeT_bad h2] at h7; have h1 := h7.len; simp [p3Cells] at h1; omega
        subst hn7
        rw [closeN_bad h2]
        clear h2 h7 hb7
        go_wp2_with fail
        refine (HKn.out _ HB7.out).mono ?_
        rintro e w4 ⟨rfl, hb4⟩
        have HB4 := Lib.hid (new_call HB7.out hb4)
        clear hb4
        go_wp2
        go_ret
        exact ⟨rfl, HB4.out⟩
  · have ht : (decide ((40 : Int) < (n : Int)) = true) ∨ (decide ((40 : Int) < (n : Int)) = false ∧ decide ((60 : Int) < (m : Int)) = true) ∨ (decide ((40 : Int) < (n : Int)) = false ∧ decide ((60 : Int) < (m : Int)) = false ∧ decide ((80 : Int) < (k : Int)) = true) := by
      simp only [decide_eq_true_iff, decide_eq_false_iff_not]
      omega
    clear hp hbe hnw hl hi hz
    rcases ht with t1 | ⟨t1, t2⟩ | ⟨t1, t2, t3⟩
    all_goals
      go_enter Tryd.func5, Tryd.ntmps5
      go_wp2_with fail
      refine (HKn.out _ HK0.out.bel).mono ?_
      rintro e w4 ⟨rfl, hb4⟩
      have HB4 := Lib.hid (HK0.out.next hb4).bel
      clear hb4
      go_wp2
      go_ret
      exact ⟨rfl, HB4.out⟩

set_option maxRecDepth 100000 in
theorem reads (os : Os) {H : Type} (enc : TypeId × Value → H) : ∃ places, DataW.whole enc Tryd.prog ((laidWorldG os).forCall (fun _ _ => 0) ⟨#[], #[.agg #[.slice none 0 0, .slice none 0 0], .slice none 0 0], []⟩).memory Tryd.f5.params.toList Rows.growWalksSpec.vars false (#[.agg #[.slice none 0 0, .slice none 0 0], .slice none 0 0] : Array Value).toList 8 = some ([.agg [.nil, .nil], .nil], [], places) := ⟨[], by kernel_rfl⟩
set_option maxRecDepth 100000 in
theorem lifted (os : Os) (started : os.Started) (H : Type) (enc : TypeId × Value → H) (F : Stop.Interp) :
    ReturnsInHanded {} Tryd.checked os 5 .any ((OpenSpec.ofChange Rows.growWalksSpec).preRow enc Tryd.prog Tryd.f5 Rows.growWalksRow.domain false Rows.growWalksRow.laid) (((OpenSpec.ofChange Rows.growWalksSpec).at F).post enc Tryd.prog Tryd.f5 false true false false) := by
  obtain ⟨places, hx⟩ := reads os enc
  refine returnsInHanded_of_row (C := Tryd.checked) (s := OpenSpec.ofChange Rows.growWalksSpec) Tryd.own started (by kernel_rfl) Tryd.func5
    (witness_row_at (enc := enc) (C := Tryd.checked) false (laidWorldG os) #[.agg #[.slice none 0 0, .slice none 0 0], .slice none 0 0] rfl (by kernel_rfl) (by kernel_rfl) (by kernel_rfl)
      (OpenSpec.preRow_of_cond 8 hx (by kernel_rfl) (fun k hk => by cases hk) (by kernel_rfl) (laidMet_of_run' 8 (by kernel_rfl) (by kernel_rfl)))) ?_
  intro W base args ds gs before hval0 hW _ _ hsz0 hL _ _
  obtain ⟨hbe, hnw⟩ : BehW W ∧ NewW W := tabs_of_laid hL
  have hval : ∀ (j : Nat) t v, Tryd.f5.params[j]? = some t → args[j]? = some v → Value.okWide Tryd.prog W .any base t v := hval0
  have hW' := hW
  obtain ⟨p, q, hA0, hV, rfl, _, _⟩ := hW
  have hA : DataW.TrodAll enc Tryd.prog W 0 (fun _ => true) true Tryd.f5.params.toList args.toList ds p := hA0
  rw [Tryd.params5] at hA hval
  obtain ⟨v0, v1, d0, d1, p0, p1, rfl, rfl, rfl, h0, h1⟩ := trodAll_two hA
  obtain ⟨rfl, rfl⟩ := trodVars_none hV
  obtain ⟨A0, n0, c0, P0, B0, m0, e0, T0, rfl, hp0, ht0, bp0, bt0, hn0, hm0⟩ := open_mesh (hval 0 48 v0 rfl rfl) h0
  obtain ⟨A1, n1, c1, bs1, rfl, hh1, hb1, hn1⟩ := open_steps (hval 1 22 v1 rfl rfl) h1
  exact (walk A0 n0 c0 P0 B0 m0 e0 T0 A1 n1 c1 bs1 W hbe hnw hp0 ht0 bp0 bt0 hn0 hm0 hh1 hb1 hn1).mono fun e W' he =>
    law_post rfl rfl (by rw [Tryd.params5]; intro t ht; simp at ht; rcases ht with rfl | rfl <;> exact ⟨by kernel_rfl, of_decide_eq_true (by kernel_rfl)⟩) hW' rfl he

theorem said : Rows.GrowWalksSaid :=
  OpenClaim.holds_of_cond 5 Tryd.f5 rfl rfl rfl rfl rfl rfl rfl ⟨rfl, rfl, rfl, rfl, rfl⟩ rfl rfl rfl rfl rfl (by kernel_rfl) Tryd.func5 (by kernel_rfl)
    (of_decide_eq_true (by kernel_rfl)) (by unfold Func.isWrapper; first | (rw [if_pos (by decide +kernel)]; kernel_rfl) | (rw [if_neg (by decide +kernel)]; exact ⟨rfl, rfl⟩))
    (fun os started H enc _ F => by rw [OpenClaim.pre_eq_preRow]; exact lifted os started H enc F)
theorem plain (f : FuncId) (fn : Func) (hf : Tryd.pinned.checked.prog.funcNamed "lapidary/lapidarylaw12.GrowWalks" = some f) (hfn : Tryd.pinned.checked.prog.funcs[f]? = some fn) :
    false = Tryd.pinned.checked.prog.looks [] ∧ ∀ (j : Nat) t, fn.params[j]? = some t → Tryd.pinned.checked.prog.wantsStandIn t = false := by
  obtain rfl : f = 5 := Option.some.inj ((show Tryd.prog.funcNamed "lapidary/lapidarylaw12.GrowWalks" = some 5 by kernel_rfl).symm.trans hf) |>.symm
  obtain rfl : fn = Tryd.f5 := (Option.some.inj (Tryd.func5.symm.trans hfn)).symm
  refine ⟨by kernel_rfl, fun j t ht => ?_⟩
  rw [Tryd.params5] at ht
  have hm : t ∈ [48, 22] := by simpa using Array.mem_of_getElem? ht
  have hall : ([48, 22].all fun u => !Tryd.prog.wantsStandIn u) = true := by kernel_rfl
  exact (show Tryd.prog.wantsStandIn t = false by simpa using List.all_eq_true.1 hall t hm)
theorem proved : Rows.GrowWalksCardSaid :=
  Claim7.holds_tied_plain_at .later [] _ _ _ _ said (fun _ h => by cases h) (by kernel_rfl) (fun _ h => by cases h) growWalks_row_tie rfl ⟨rfl, rfl⟩ (by kernel_rfl) rfl plain (by kernel_rfl)
end Go.Proofs.YthjmojglcfmkmaaDoor.growWalks
