/- Of any surface the edges, the border, the pieces, and how many there are of what, is what the chapter says, of any other triangles nothing: whatever mesh comes in, MeshTells answers true. -/
import Derived.Test.YtckjmnbglbegmaaDoorKnown10
import Derived.Test.YtckjmnbglbegmaaDoorMeshPieced
import Derived.Test.YtckjmnbglbegmaaDoorLawMesh
import Derived.Test.YtckjmnbglbegmaaDoorLawLaid
namespace Go.Proofs.YtckjmnbglbegmaaDoor.meshTells
open Go.ChangeShapes Go.WideShapes Go.ChangeAt Go.RowKit

set_option maxRecDepth 100000 in
set_option maxHeartbeats 3200000 in
theorem walk (A : Option Addr) (n c : Nat) (P : List P3) (B : Option Addr) (m d : Nat) (T : List P3) (W : World) (hbe : BehW W) (hp : HasK 3 W A n c (p3Cells P)) (ht : HasK 3 W B m d (p3Cells T)) (_ : ∀ x ∈ P, i64T x) (_ : ∀ x ∈ T, i64T x) (_ : n ≤ 9223372036854775807) (_ : m ≤ 9223372036854775807) : Calls Tryd.prog 4 #[.agg #[.slice A n c, .slice B m d]] W fun e w' => e = .returned (.bool true) ∧ Below W.heap.size W w' := by
  have HK0 := Lib.hid (MeshAt.new W (.slice A n c) (.slice B m d))
  have m0 := HK0.out.b0.cell 0
  have m1 := HK0.out.b0.cell 1
  have HKn := Lib.hid (fun w (hW : Below W.heap.size W w) => known10 w (hbe.kept hW))
  by_cases hl : n ≤ 40 ∧ m ≤ 60
  · have HLo := Lib.hid (fun w => lawlong_any A n c B m d false w (by rw [decide_eq_false (by omega), decide_eq_false (by omega)]; rfl))
    obtain ⟨r, hr⟩ := check_total P T
    have hPn : P.length = n := by have := hp.len; rw [p3Cells_len] at this; omega
    have hTm : T.length = m := by have := ht.len; rw [p3Cells_len] at this; omega
    have HRf := Lib.hid (fun w (hW : Below W.heap.size W w) => ref10Check_any A n c P B m d T r w (hp.kept hW) (ht.kept hW) (by omega) (by omega) hr)
    by_cases h0 : r = 0
    · subst h0
      obtain ⟨p, hpp⟩ := pieces_total T
      have hnd := (check_zero hr).2.2.1
      have HEd : Hid (∀ w, Below W.heap.size W w → Calls Tryd.prog 16 #[.agg #[.slice A n c, .slice B m d]] w (Edgd w (edgesF P.length T false) 0)) := fun w hW => by
        have := meshEdges_any A n c P B m d T 0 w (hbe.kept hW) (hp.kept hW) (ht.kept hW) (by omega) (by omega) hr
        rw [if_pos rfl] at this
        exact this
      have HBo : Hid (∀ w, Below W.heap.size W w → Calls Tryd.prog 17 #[.agg #[.slice A n c, .slice B m d]] w (Edgd w (edgesF P.length T true) 0)) := fun w hW => by
        have := meshBorder_any A n c P B m d T 0 w (hbe.kept hW) (hp.kept hW) (ht.kept hW) (by omega) (by omega) hr
        rw [if_pos rfl] at this
        exact this
      have HPi : Hid (∀ w, Below W.heap.size W w → Calls Tryd.prog 18 #[.agg #[.slice A n c, .slice B m d]] w (Piecd w p 0)) := fun w hW => by
        have := meshPieces_any A n c P B m d T 0 p w (hbe.kept hW) (hp.kept hW) (ht.kept hW) (by omega) (by omega) hr (fun _ => hpp)
        rw [if_pos rfl] at this
        exact this
      have HEu : Hid (∀ w, Below W.heap.size W w → Calls Tryd.prog 19 #[.agg #[.slice A n c, .slice B m d]] w fun e w' => e = .returned (.tuple #[.int .i64 (eulerF P T), .int .i64 0]) ∧ Below w.heap.size w w') := fun w hW => by
        have := meshEuler_any A n c P B m d T 0 w (hbe.kept hW) (hp.kept hW) (ht.kept hW) (by omega) (by omega) hr
        rw [if_pos rfl] at this
        exact this
      have HEr := Lib.hid (fun w (hW : Below W.heap.size W w) => ref10Edges_any A n c P B m d T false w (hp.kept hW) (ht.kept hW) (by omega) (by omega))
      have HBr := Lib.hid (fun w (hW : Below W.heap.size W w) => ref10Edges_any A n c P B m d T true w (hp.kept hW) (ht.kept hW) (by omega) (by omega))
      have HPr := Lib.hid (fun w (hW : Below W.heap.size W w) => ref10Pieces_any A n c B m d T p w (ht.kept hW) (by omega) hnd hpp)
      have hLe : (edgesF P.length T false).length ≤ 1600 := Nat.le_trans (edges_le _ _ _) (by rw [hPn]; exact Nat.mul_le_mul hl.1 hl.1)
      have hMe : (edgesF P.length T true).length ≤ 1600 := Nat.le_trans (edges_le _ _ _) (by rw [hPn]; exact Nat.mul_le_mul hl.1 hl.1)
      have hpl : p.length ≤ 60 := by rw [hpp.len, hTm]; exact hl.2
      have heu : eulerF P T = (n : Int) - (edgesF P.length T false).length + m := by unfold eulerF; rw [hPn, hTm]
      generalize edgesF P.length T false = L at *
      generalize edgesF P.length T true = M at *
      obtain ⟨k, hk⟩ : ∃ k, L.length = k := ⟨_, rfl⟩
      rw [heu] at HEu
      have g1 : IntKind.wrap .i64 ((n : Int) - (L.length : Int)) = (n : Int) - (L.length : Int) := by rw [IntKind.wrap_i64]; omega
      have g2 : IntKind.wrap .i64 ((n : Int) - (L.length : Int) + (m : Int)) = (n : Int) - (L.length : Int) + (m : Int) := by rw [IntKind.wrap_i64]; omega
      clear hp ht hr hl hPn hTm hpp hnd heu hk k
      go_enter Tryd.func4, Tryd.ntmps4
      go_wp2_with fail
      refine (HLo.out _).mono ?_
      rintro e w1 ⟨rfl, hb1⟩
      have HK1 := Lib.hid (HK0.out.next hb1)
      clear hb1 HK0 m0 m1
      have m0 := HK1.out.b0.cell 0
      have m1 := HK1.out.b0.cell 1
      go_wp2_with fail
      refine (HRf.out _ HK1.out.bel).mono ?_
      rintro e w2 ⟨rfl, hb2⟩
      have HK2 := Lib.hid (HK1.out.next hb2)
      clear hb2 HK1 m0 m1
      have m0 := HK2.out.b0.cell 0
      have m1 := HK2.out.b0.cell 1
      go_wp2_with fail
      refine (HEd.out _ HK2.out.bel).mono ?_
      rintro e w3 ⟨A3, c3, rfl, hh3, hb3, _⟩
      have HK3 := Lib.hid (HK2.out.next hb3)
      have HL3 := Lib.hid hh3
      clear hb3 hh3 HK2 m0 m1
      have m0 := HK3.out.b0.cell 0
      have m1 := HK3.out.b0.cell 1
      go_wp2_with fail
      refine (HBo.out _ HK3.out.bel).mono ?_
      rintro e w4 ⟨A4, c4, rfl, hh4, hb4, _⟩
      have HK4 := Lib.hid (HK3.out.next hb4)
      have HL4 := Lib.hid (HL3.out.kept hb4)
      have HM4 := Lib.hid hh4
      clear hb4 hh4 HK3 HL3 m0 m1
      have m0 := HK4.out.b0.cell 0
      have m1 := HK4.out.b0.cell 1
      go_wp2_with fail
      refine (HPi.out _ HK4.out.bel).mono ?_
      rintro e w5 ⟨A5, c5, rfl, hh5, hb5, _⟩
      have HK5 := Lib.hid (HK4.out.next hb5)
      have HL5 := Lib.hid (HL4.out.kept hb5)
      have HM5 := Lib.hid (HM4.out.kept hb5)
      have HP5 := Lib.hid hh5
      clear hb5 hh5 HK4 HL4 HM4 m0 m1
      have m0 := HK5.out.b0.cell 0
      have m1 := HK5.out.b0.cell 1
      go_wp2_with fail
      refine (HEu.out _ HK5.out.bel).mono ?_
      rintro e w6 ⟨rfl, hb6⟩
      have HK6 := Lib.hid (HK5.out.next hb6)
      have HL6 := Lib.hid (HL5.out.kept hb6)
      have HM6 := Lib.hid (HM5.out.kept hb6)
      have HP6 := Lib.hid (HP5.out.kept hb6)
      clear hb6 HK5 HL5 HM5 HP5 m0 m1
      have m0 := HK6.out.b0.cell 0
      have m1 := HK6.out.b0.cell 1
      go_wp2_with fail
      refine (HEr.out _ HK6.out.bel).mono ?_
      rintro e w7 ⟨A7, c7, rfl, hh7, hb7, _⟩
      have HK7 := Lib.hid (HK6.out.next hb7)
      have HM7 := Lib.hid (HM6.out.kept hb7)
      have HP7 := Lib.hid (HP6.out.kept hb7)
      have HS7 : Hid (Calls Tryd.prog 21 #[.slice A3 L.length c3, .slice A7 L.length c7] w7 fun e w' => e = .returned (.bool true) ∧ Below w7.heap.size w7 w') := by
        have := ref10SameEdges_any A3 L.length c3 L A7 L.length c7 L w7 (HL6.out.kept hb7) hh7 (by omega) (by omega)
        rw [decide_eq_true rfl] at this
        exact this
      clear hb7 hh7 HK6 HL6 HM6 HP6 m0 m1
      have m0 := HK7.out.b0.cell 0
      have m1 := HK7.out.b0.cell 1
      go_wp2_with fail
      refine HS7.out.mono ?_
      rintro e w8 ⟨rfl, hb8⟩
      have HK8 := Lib.hid (HK7.out.next hb8)
      have HM8 := Lib.hid (HM7.out.kept hb8)
      have HP8 := Lib.hid (HP7.out.kept hb8)
      clear hb8 HK7 HM7 HP7 HS7 m0 m1
      have m0 := HK8.out.b0.cell 0
      have m1 := HK8.out.b0.cell 1
      go_wp2_with fail
      refine (HBr.out _ HK8.out.bel).mono ?_
      rintro e w9 ⟨A9, c9, rfl, hh9, hb9, _⟩
      have HK9 := Lib.hid (HK8.out.next hb9)
      have HP9 := Lib.hid (HP8.out.kept hb9)
      have HS9 : Hid (Calls Tryd.prog 21 #[.slice A4 M.length c4, .slice A9 M.length c9] w9 fun e w' => e = .returned (.bool true) ∧ Below w9.heap.size w9 w') := by
        have := ref10SameEdges_any A4 M.length c4 M A9 M.length c9 M w9 (HM8.out.kept hb9) hh9 (by omega) (by omega)
        rw [decide_eq_true rfl] at this
        exact this
      clear hb9 hh9 HK8 HM8 HP8 m0 m1
      go_wp2_with fail
      refine HS9.out.mono ?_
      rintro e w10 ⟨rfl, hb10⟩
      have HK10 := Lib.hid (HK9.out.next hb10)
      have HP10 := Lib.hid (HP9.out.kept hb10)
      clear hb10 HK9 HP9 HS9
      have m0 := HK10.out.b0.cell 0
      have m1 := HK10.out.b0.cell 1
      go_wp2_with fail
      refine (HPr.out _ HK10.out.bel).mono ?_
      rintro e w11 ⟨A11, c11, rfl, hh11, hb11, _⟩
      have HK11 := Lib.hid (HK10.out.next hb11)
      have HS11 : Hid (Calls Tryd.prog 22 #[.slice A5 p.length c5, .slice A11 p.length c11] w11 fun e w' => e = .returned (.bool true) ∧ Below w11.heap.size w11 w') := by
        have := ref0SameInts_any A5 p.length c5 (p.map fun (k : Nat) => (k : Int)) A11 p.length c11 (p.map fun (k : Nat) => (k : Int)) w11 (HP10.out.kept hb11) hh11 (by omega) (by omega)
        rw [decide_eq_true rfl] at this
        exact this
      clear hb11 hh11 HK10 HP10 m0 m1
      go_wp2_with fail
      refine HS11.out.mono ?_
      rintro e w12 ⟨rfl, hb12⟩
      have HK12 := Lib.hid (HK11.out.next hb12)
      clear hb12 HK11 HS11
      have m0 := HK12.out.b0.cell 0
      have m1 := HK12.out.b0.cell 1
      go_wp2_with fail
      refine (HKn.out _ HK12.out.bel).mono ?_
      rintro e w13 ⟨rfl, hb13⟩
      go_wp2
      go_ret
      exact ⟨rfl, new_call HK12.out.bel hb13⟩
    · have HEd : Hid (∀ w, Below W.heap.size W w → Calls Tryd.prog 16 #[.agg #[.slice A n c, .slice B m d]] w (Edgd w [] r)) := fun w hW => by
        have := meshEdges_any A n c P B m d T r w (hbe.kept hW) (hp.kept hW) (ht.kept hW) (by omega) (by omega) hr
        rw [if_neg h0] at this
        exact this
      have HBo : Hid (∀ w, Below W.heap.size W w → Calls Tryd.prog 17 #[.agg #[.slice A n c, .slice B m d]] w (Edgd w [] r)) := fun w hW => by
        have := meshBorder_any A n c P B m d T r w (hbe.kept hW) (hp.kept hW) (ht.kept hW) (by omega) (by omega) hr
        rw [if_neg h0] at this
        exact this
      have HPi : Hid (∀ w, Below W.heap.size W w → Calls Tryd.prog 18 #[.agg #[.slice A n c, .slice B m d]] w (Piecd w [] r)) := fun w hW => by
        have := meshPieces_any A n c P B m d T r [] w (hbe.kept hW) (hp.kept hW) (ht.kept hW) (by omega) (by omega) hr (fun h => absurd h h0)
        rw [if_neg h0] at this
        exact this
      have HEu : Hid (∀ w, Below W.heap.size W w → Calls Tryd.prog 19 #[.agg #[.slice A n c, .slice B m d]] w fun e w' => e = .returned (.tuple #[.int .i64 0, .int .i64 r]) ∧ Below w.heap.size w w') := fun w hW => by
        have := meshEuler_any A n c P B m d T r w (hbe.kept hW) (hp.kept hW) (ht.kept hW) (by omega) (by omega) hr
        rw [if_neg h0] at this
        exact this
      have tr : (r != 0) = true := bne_iff_ne.2 h0
      have ts : (r != r) = false := by simp
      clear hp ht hr hl hPn hTm h0
      go_enter Tryd.func4, Tryd.ntmps4
      go_wp2_with fail
      refine (HLo.out _).mono ?_
      rintro e w1 ⟨rfl, hb1⟩
      have HK1 := Lib.hid (HK0.out.next hb1)
      clear hb1 HK0 m0 m1
      have m0 := HK1.out.b0.cell 0
      have m1 := HK1.out.b0.cell 1
      go_wp2_with fail
      refine (HRf.out _ HK1.out.bel).mono ?_
      rintro e w2 ⟨rfl, hb2⟩
      have HK2 := Lib.hid (HK1.out.next hb2)
      clear hb2 HK1 m0 m1
      have m0 := HK2.out.b0.cell 0
      have m1 := HK2.out.b0.cell 1
      go_wp2_with fail
      refine (HEd.out _ HK2.out.bel).mono ?_
      rintro e w3 ⟨A3, c3, rfl, _, hb3, _⟩
      have HK3 := Lib.hid (HK2.out.next hb3)
      clear hb3 HK2 m0 m1
      have m0 := HK3.out.b0.cell 0
      have m1 := HK3.out.b0.cell 1
      go_wp2_with fail
      refine (HBo.out _ HK3.out.bel).mono ?_
      rintro e w4 ⟨A4, c4, rfl, _, hb4, _⟩
      have HK4 := Lib.hid (HK3.out.next hb4)
      clear hb4 HK3 m0 m1
      have m0 := HK4.out.b0.cell 0
      have m1 := HK4.out.b0.cell 1
      go_wp2_with fail
      refine (HPi.out _ HK4.out.bel).mono ?_
      rintro e w5 ⟨A5, c5, rfl, _, hb5, _⟩
      have HK5 := Lib.hid (HK4.out.next hb5)
      clear hb5 HK4 m0 m1
      have m0 := HK5.out.b0.cell 0
      have m1 := HK5.out.b0.cell 1
      go_wp2_with fail
      refine (HEu.out _ HK5.out.bel).mono ?_
      rintro e w6 ⟨rfl, hb6⟩
      have HK6 := Lib.hid (HK5.out.next hb6)
      clear hb6 HK5 m0 m1
      go_wp2_with fail
      refine (HKn.out _ HK6.out.bel).mono ?_
      rintro e w9 ⟨rfl, hb9⟩
      go_wp2
      go_ret
      exact ⟨rfl, new_call HK6.out.bel hb9⟩
  · have HLo := Lib.hid (fun w => lawlong_any A n c B m d true w (by
      by_cases h1 : 40 < n
      · rw [decide_eq_true h1]; rfl
      · rw [decide_eq_true (show 60 < m by omega)]; exact Bool.or_true _))
    clear hp ht hl
    go_enter Tryd.func4, Tryd.ntmps4
    go_wp2_with fail
    refine (HLo.out _).mono ?_
    rintro e w1 ⟨rfl, hb1⟩
    go_wp2_with fail
    refine (HKn.out _ (HK0.out.next hb1).bel).mono ?_
    rintro e w2 ⟨rfl, hb2⟩
    go_wp2
    go_ret
    exact ⟨rfl, new_call (HK0.out.next hb1).bel hb2⟩

set_option maxRecDepth 100000 in
theorem reads (os : Os) {H : Type} (enc : TypeId × Value → H) : ∃ places, DataW.whole enc Tryd.prog ((laidWorld os).forCall (fun _ _ => 0) ⟨#[], #[.agg #[.slice none 0 0, .slice none 0 0]], []⟩).memory Tryd.f4.params.toList Rows.meshTellsSpec.vars false (#[.agg #[.slice none 0 0, .slice none 0 0]] : Array Value).toList 8 = some ([.agg [.nil, .nil]], [], places) := ⟨[], by kernel_rfl⟩
set_option maxRecDepth 100000 in
theorem lifted (os : Os) (started : os.Started) (H : Type) (enc : TypeId × Value → H) (F : Stop.Interp) :
    ReturnsInHanded {} Tryd.checked os 4 .any ((OpenSpec.ofChange Rows.meshTellsSpec).preRow enc Tryd.prog Tryd.f4 Rows.meshTellsRow.domain false Rows.meshTellsRow.laid) (((OpenSpec.ofChange Rows.meshTellsSpec).at F).post enc Tryd.prog Tryd.f4 false true false false) := by
  obtain ⟨places, hx⟩ := reads os enc
  refine returnsInHanded_of_row (C := Tryd.checked) (s := OpenSpec.ofChange Rows.meshTellsSpec) Tryd.own started (by kernel_rfl) Tryd.func4
    (witness_row_at (enc := enc) (C := Tryd.checked) false (laidWorld os) #[.agg #[.slice none 0 0, .slice none 0 0]] rfl (by kernel_rfl) (by kernel_rfl) (by kernel_rfl)
      (OpenSpec.preRow_of_cond 8 hx (by kernel_rfl) (fun k hk => by cases hk) (by kernel_rfl) (laidMet_of_run' 8 (by kernel_rfl) (by kernel_rfl)))) ?_
  intro W base args ds gs before hval0 hW _ _ hsz0 hL _ _
  have hbe : BehW W := behW_of_laid hL
  have hval : ∀ (j : Nat) t v, Tryd.f4.params[j]? = some t → args[j]? = some v → Value.okWide Tryd.prog W .any base t v := hval0
  have hW' := hW
  obtain ⟨p, q, hA0, hV, rfl, _, _⟩ := hW
  have hA : DataW.TrodAll enc Tryd.prog W 0 (fun _ => true) true Tryd.f4.params.toList args.toList ds p := hA0
  rw [Tryd.params4] at hA hval
  obtain ⟨v0, d0, rfl, rfl, h0⟩ := trodAll_one hA
  obtain ⟨rfl, rfl⟩ := trodVars_none hV
  obtain ⟨A0, n0, c0, P0, B0, m0, e0, T0, rfl, hp0, ht0, bp0, bt0, hn0, hm0⟩ := open_mesh (hval 0 25 v0 rfl rfl) h0
  exact (walk A0 n0 c0 P0 B0 m0 e0 T0 W hbe hp0 ht0 bp0 bt0 hn0 hm0).mono fun e W' he =>
    law_post rfl rfl (by rw [Tryd.params4]; intro t ht; simp at ht; subst ht; exact ⟨by kernel_rfl, of_decide_eq_true (by kernel_rfl)⟩) hW' rfl he

theorem said : Rows.MeshTellsSaid :=
  OpenClaim.holds_of_cond 4 Tryd.f4 rfl rfl rfl rfl rfl rfl rfl ⟨rfl, rfl, rfl, rfl, rfl⟩ rfl rfl rfl rfl rfl (by kernel_rfl) Tryd.func4 (by kernel_rfl)
    (of_decide_eq_true (by kernel_rfl)) (by unfold Func.isWrapper; first | (rw [if_pos (by decide +kernel)]; kernel_rfl) | (rw [if_neg (by decide +kernel)]; exact ⟨rfl, rfl⟩))
    (fun os started H enc _ F => by rw [OpenClaim.pre_eq_preRow]; exact lifted os started H enc F)
theorem plain (f : FuncId) (fn : Func) (hf : Tryd.pinned.checked.prog.funcNamed "lapidary/lapidarylaw10.MeshTells" = some f) (hfn : Tryd.pinned.checked.prog.funcs[f]? = some fn) :
    false = Tryd.pinned.checked.prog.looks [] ∧ ∀ (j : Nat) t, fn.params[j]? = some t → Tryd.pinned.checked.prog.wantsStandIn t = false := by
  obtain rfl : f = 4 := Option.some.inj ((show Tryd.prog.funcNamed "lapidary/lapidarylaw10.MeshTells" = some 4 by kernel_rfl).symm.trans hf) |>.symm
  obtain rfl : fn = Tryd.f4 := (Option.some.inj (Tryd.func4.symm.trans hfn)).symm
  refine ⟨by kernel_rfl, fun j t ht => ?_⟩
  rw [Tryd.params4] at ht
  have hm : t ∈ [25] := by simpa using Array.mem_of_getElem? ht
  have hall : ([25].all fun u => !Tryd.prog.wantsStandIn u) = true := by kernel_rfl
  exact (show Tryd.prog.wantsStandIn t = false by simpa using List.all_eq_true.1 hall t hm)
theorem proved : Rows.MeshTellsCardSaid :=
  Claim7.holds_tied_plain_at .later [] _ _ _ _ said (fun _ h => by cases h) (by kernel_rfl) (fun _ h => by cases h) meshTells_row_tie rfl ⟨rfl, rfl⟩ (by kernel_rfl) rfl plain (by kernel_rfl)
end Go.Proofs.YtckjmnbglbegmaaDoor.meshTells
