/- Of any triangles which piece each is of, or why not, is what the chapter says, and two side by side are of one: whatever mesh comes in, MeshPieces answers true. -/
import Derived.Test.YtckjmnbglbegmaaDoorKnown10
import Derived.Test.YtckjmnbglbegmaaDoorMeshPieced
import Derived.Test.YtckjmnbglbegmaaDoorLawMesh
import Derived.Test.YtckjmnbglbegmaaDoorLawLaid
namespace Go.Proofs.YtckjmnbglbegmaaDoor.meshPieces
open Go.ChangeShapes Go.WideShapes Go.ChangeAt Go.RowKit

set_option maxRecDepth 100000 in
set_option maxHeartbeats 3200000 in
theorem walk (A : Option Addr) (n c : Nat) (P : List P3) (B : Option Addr) (m d : Nat) (T : List P3) (W : World) (hbe : BehW W) (hp : HasK 3 W A n c (p3Cells P)) (ht : HasK 3 W B m d (p3Cells T)) (_ : ∀ x ∈ P, i64T x) (_ : ∀ x ∈ T, i64T x) (_ : n ≤ 9223372036854775807) (_ : m ≤ 9223372036854775807) : Calls Tryd.prog 9 #[.agg #[.slice A n c, .slice B m d]] W fun e w' => e = .returned (.bool true) ∧ Below W.heap.size W w' := by
  have HK0 := Lib.hid (MeshAt.new W (.slice A n c) (.slice B m d))
  have m0 := HK0.out.b0.cell 0
  have m1 := HK0.out.b0.cell 1
  have HKn := Lib.hid (fun w (hW : Below W.heap.size W w) => known10 w (hbe.kept hW))
  by_cases hl : n ≤ 40 ∧ m ≤ 60
  · have HLo := Lib.hid (fun w => lawlong_any A n c B m d false w (by rw [decide_eq_false (by omega), decide_eq_false (by omega)]; rfl))
    obtain ⟨r, hr⟩ := check_total P T
    have HTm : Hid (T.length = m) := by have := ht.len; rw [p3Cells_len] at this; show _ = _; omega
    have HRf := Lib.hid (fun w (hW : Below W.heap.size W w) => ref10Check_any A n c P B m d T r w (hp.kept hW) (ht.kept hW) (by omega) (by omega) hr)
    by_cases h0 : r = 0
    · subst h0
      obtain ⟨p, hpp⟩ := pieces_total T
      have hnd := (check_zero hr).2.2.1
      have HPP := Lib.hid hpp
      have HND := Lib.hid hnd
      have HT := Lib.hid ht
      have HPi : Hid (∀ w, Below W.heap.size W w → Calls Tryd.prog 18 #[.agg #[.slice A n c, .slice B m d]] w (Piecd w p 0)) := fun w hW => by
        have := meshPieces_any A n c P B m d T 0 p w (hbe.kept hW) (hp.kept hW) (ht.kept hW) (by omega) (by omega) hr (fun _ => hpp)
        rw [if_pos rfl] at this
        exact this
      have HPr := Lib.hid (fun w (hW : Below W.heap.size W w) => ref10Pieces_any A n c B m d T p w (ht.kept hW) (by omega) hnd hpp)
      have hpl : p.length ≤ 60 := by rw [hpp.len, HTm.out]; exact hl.2
      have HPl : Hid (p.length = m) := hpp.len.trans HTm.out
      have HHs := Lib.hid (fun a b w (hW : Below W.heap.size W w) => ref10Has_any B m d T a b w (ht.kept hW) (by omega))
      have hm60 : m ≤ 60 := hl.2
      clear hp ht hr hl hpp hnd
      go_enter Tryd.func9, Tryd.ntmps9
      go_wp2_with fail
      refine (HLo.out _).mono ?_
      rintro e w1 ⟨rfl, hb1⟩
      have HK1 := Lib.hid (HK0.out.next hb1)
      clear hb1 HK0 m0 m1
      have m0 := HK1.out.b0.cell 0
      have m1 := HK1.out.b0.cell 1
      go_wp2_with fail
      refine (HPi.out _ HK1.out.bel).mono ?_
      rintro e w2 ⟨A2, c2, rfl, hh2, hb2, _⟩
      have HK2 := Lib.hid (HK1.out.next hb2)
      have HP2 := Lib.hid hh2
      clear hb2 hh2 HK1 m0 m1
      have m0 := HK2.out.b0.cell 0
      have m1 := HK2.out.b0.cell 1
      go_wp2_with fail
      refine (HRf.out _ HK2.out.bel).mono ?_
      rintro e w3 ⟨rfl, hb3⟩
      have HK3 := Lib.hid (HK2.out.next hb3)
      have HP3 := Lib.hid (HP2.out.kept hb3)
      clear hb3 HK2 HP2 m0 m1
      have m0 := HK3.out.b0.cell 0
      have m1 := HK3.out.b0.cell 1
      go_wp2_with fail
      refine (HPr.out _ HK3.out.bel).mono ?_
      rintro e w4 ⟨A4, c4, rfl, hh4, hb4, _⟩
      have HK4 := Lib.hid (HK3.out.next hb4)
      have HP4 := Lib.hid (HP3.out.kept hb4)
      have HS4 : Hid (Calls Tryd.prog 22 #[.slice A2 p.length c2, .slice A4 p.length c4] w4 fun e w' => e = .returned (.bool true) ∧ Below w4.heap.size w4 w') := by
        have := ref0SameInts_any A2 p.length c2 (p.map fun (k : Nat) => (k : Int)) A4 p.length c4 (p.map fun (k : Nat) => (k : Int)) w4 (HP3.out.kept hb4) hh4 (by omega) (by omega)
        rw [decide_eq_true rfl] at this
        exact this
      clear hb4 hh4 HK3 HP3 m0 m1
      go_wp2_with fail
      refine HS4.out.mono ?_
      rintro e w5 ⟨rfl, hb5⟩
      have HK5 := Lib.hid (HK4.out.next hb5)
      have HP5 := Lib.hid (HP4.out.kept hb5)
      clear hb5 HK4 HP4 HS4 hpl
      have m0 := HK5.out.b0.cell 0
      have m1 := HK5.out.b0.cell 1
      rw [HPl.out] at HP5
      go_wp2
      go_loopg [5] m (fun g s5 wx => ∃ i : Nat, i + g = m ∧ s5 = .int .i64 i ∧ Hid (MeshAt W (.slice A n c) (.slice B m d) wx) ∧ Hid (Has wx A2 m c2 (natVs p)))
      case atStart => exact ⟨0, by omega, rfl, HK5, HP5⟩
      case round =>
        obtain ⟨i, hig, rfl, HK, HP⟩ := hrel
        clear HK5 HP5 m0 m1
        have m0 := HK.out.b0.cell 0
        have m1 := HK.out.b0.cell 1
        by_cases hi : i < m
        · have ti : decide ((i : Int) < (m : Int)) = true := by simp; omega
          have i2 : (i : Int) < (m : Int) := by omega
          have hil : i < T.length := by rw [HTm.out]; exact hi
          obtain ⟨b, off, rfl, hlt, _⟩ := (HT.out.kept HK.out.bel).spot (by omega)
          have HCl : Hid (∀ w, Below W.heap.size W w → ∀ k, k < 3 → w.cell? ⟨b, off + i * 3 + k, none⟩ = some (.int .i64 (at3 T[i] k))) := fun w hW k hk => t3_cells (HT.out.kept hW) hil hk
          have HBe : Hid (∀ k u, k < 3 → ∀ hu : u < T.length, (at3 T[i] ((k + 1) % 3), at3 T[i] k) ∈ dirs T[u] → p[u]?.getD 0 = p[i]?.getD 0) := fun k u hk hu hd => by
            have hpi : i < p.length := by rw [HPP.out.len]; exact hil
            have hpu : u < p.length := by rw [HPP.out.len]; exact hu
            rw [List.getElem?_eq_getElem hpi, List.getElem?_eq_getElem hpu]
            refine (HPP.out.same u i hpu hpi).2 ?_
            exact Reach.refl.step ⟨List.getElem_mem hil, _, _, hd, dirs_mem_at.2 ⟨k, hk, rfl⟩⟩
          have hpi : i < p.length := by rw [HPl.out]; exact hi
          generalize T[i] = tr at *
          clear hlt hil
          go_wp2
          try rw [ti]
          go_loopg [6] 3 (fun g s6 wx => ∃ k : Nat, k + g = 3 ∧ s6 = .int .i64 k ∧ Hid (MeshAt W (.slice A n c) (.slice (some ⟨b, off, none⟩) m d) wx) ∧ Hid (Has wx A2 m c2 (natVs p)))
          case atStart => exact ⟨0, by omega, rfl, HK, HP⟩
          case round =>
            obtain ⟨k, hkg, rfl, HK6, HP6⟩ := hrel
            clear HK HP m0 m1
            have m0 := HK6.out.b0.cell 0
            have m1 := HK6.out.b0.cell 1
            by_cases hk : k < 3
            · have tk : decide ((k : Int) < 3) = true := by simp; omega
              have k2 : (k : Int) < 3 := by omega
              have tn := next3 hk
              have g1 : IntKind.wrap .i64 ((k : Int) + 1) = (k : Int) + 1 := by rw [IntKind.wrap_i64]; omega
              have f1 : wrap64 ((k : Int) + 1) = (k : Int) + 1 := by unfold wrap64; omega
              have hl1 : (k + 1) % 3 < 3 := Nat.mod_lt _ (by decide)
              have HBk := Lib.hid (fun u => HBe.out k u hk)
              have HWy := hasF_ways T (at3 tr ((k + 1) % 3)) (at3 tr k)
              have HS : Hid (∀ w, Below wr.heap.size wr w → w.cell? ⟨W.heap.size, 1, none⟩ = some (.slice (some ⟨b, off, none⟩) m d) ∧ w.cell? ⟨b, off + i * 3 + k, none⟩ = some (.int .i64 (at3 tr k)) ∧ w.cell? ⟨b, off + i * 3 + (k + 1) % 3, none⟩ = some (.int .i64 (at3 tr ((k + 1) % 3)))) := fun w hW => by
                have h := HK6.out.next hW
                exact ⟨h.b0.cell 1, HCl.out w h.bel k hk, HCl.out w h.bel _ hl1⟩
              have HHk := Lib.hid (HHs.out (at3 tr ((k + 1) % 3)) (at3 tr k) wr.drew (HK6.out.bel.drew))
              have HBv0 : Hid (Below wr.heap.size wr wr.drew) := (Below.refl _ _).drew
              generalize (k + 1) % 3 = k1 at *
              have hl2 : (k1 : Int) < 3 := Int.ofNat_lt.2 hl1
              generalize at3 tr k = pv at *
              generalize at3 tr k1 = qv at *
              go_wp2_with (with_reducible fail)
              go_region_held3 (fun w => w.cell? ⟨W.heap.size, 1, none⟩ = some (.slice (some ⟨b, off, none⟩) m d) ∧ w.cell? ⟨b, off + i * 3 + k, none⟩ = some (.int .i64 pv) ∧ w.cell? ⟨b, off + i * 3 + k1, none⟩ = some (.int .i64 qv)) (first | (with_reducible exact HS.out _ HBv0.out)) (first
                | (go_at_call 28; (with_reducible refine HHk.out.mono ?_); rintro e v1 ⟨rfl, rfl⟩))
              all_goals
                clear tn g1 f1 hl1 hl2
                have HK7 := Lib.hid (HK6.out.next HBv0.out)
                have HP7 := Lib.hid (HP6.out.kept HBv0.out)
                rcases HWy with ⟨hz, _⟩ | ⟨u, hu, hz, hd, hx9⟩
                · rw [hz]
                  clear hz
                  go_wp2
                  go_region
                  all_goals
                    have HK8 := Lib.hid (HK7.out.next (Below.refl _ _).drew)
                    have HP8 := Lib.hid (HP7.out.kept (Below.refl _ _).drew)
                    go_wp2
                    go_roundg (gk - 1)
                    case measure => omega
                    case rel => exact ⟨k + 1, by omega, by go_num, HK8, HP8⟩
                · have hs := HBk.out u hu hd
                  rw [hz]
                  have hum : u < m := by have := HTm.out; omega
                  have u2 : (u : Int) < (m : Int) := by omega
                  have hpu : u < p.length := by rw [HPl.out]; exact hum
                  clear hz hd hx9 hu
                  obtain ⟨ba, oa, rfl, _, hc⟩ := HP7.out.spot (by omega)
                  have cu := hc _ _ (natVs_getD hpu)
                  have ci := hc _ _ (natVs_getD hpi)
                  rw [hs] at cu
                  generalize p[i]?.getD 0 = x at *
                  clear hc hs
                  go_wp2
                  go_region
                  all_goals
                    have HK8 := Lib.hid (HK7.out.next (Below.refl _ _).drew)
                    have HP8 := Lib.hid (HP7.out.kept (Below.refl _ _).drew)
                    go_wp2
                    go_roundg (gk - 1)
                    case measure => omega
                    case rel => exact ⟨k + 1, by omega, by go_num, HK8, HP8⟩
            · have tk : decide ((k : Int) < 3) = false := by simp; omega
              go_wp2
              go_roundg (m - (i + 1))
              case measure => omega
              case rel => exact ⟨i + 1, by omega, by go_num, HK6, HP6⟩
        · have ti : decide ((i : Int) < (m : Int)) = false := by simp; omega
          go_wp2_with fail
          refine (HKn.out _ HK.out.bel).mono ?_
          rintro e w9 ⟨rfl, hb9⟩
          go_wp2
          go_ret
          exact ⟨rfl, new_call HK.out.bel hb9⟩
    · have HPi : Hid (∀ w, Below W.heap.size W w → Calls Tryd.prog 18 #[.agg #[.slice A n c, .slice B m d]] w (Piecd w [] r)) := fun w hW => by
        have := meshPieces_any A n c P B m d T r [] w (hbe.kept hW) (hp.kept hW) (ht.kept hW) (by omega) (by omega) hr (fun h => absurd h h0)
        rw [if_neg h0] at this
        exact this
      have tr : (r != 0) = true := bne_iff_ne.2 h0
      have ts : (r != r) = false := by simp
      clear hp ht hr hl h0
      go_enter Tryd.func9, Tryd.ntmps9
      go_wp2_with fail
      refine (HLo.out _).mono ?_
      rintro e w1 ⟨rfl, hb1⟩
      have HK1 := Lib.hid (HK0.out.next hb1)
      clear hb1 HK0 m0 m1
      have m0 := HK1.out.b0.cell 0
      have m1 := HK1.out.b0.cell 1
      go_wp2_with fail
      refine (HPi.out _ HK1.out.bel).mono ?_
      rintro e w2 ⟨A2, c2, rfl, _, hb2, _⟩
      have HK2 := Lib.hid (HK1.out.next hb2)
      clear hb2 HK1 m0 m1
      have m0 := HK2.out.b0.cell 0
      have m1 := HK2.out.b0.cell 1
      go_wp2_with fail
      refine (HRf.out _ HK2.out.bel).mono ?_
      rintro e w3 ⟨rfl, hb3⟩
      have HK3 := Lib.hid (HK2.out.next hb3)
      clear hb3 HK2 m0 m1
      go_wp2_with fail
      refine (HKn.out _ HK3.out.bel).mono ?_
      rintro e w9 ⟨rfl, hb9⟩
      go_wp2
      go_ret
      exact ⟨rfl, new_call HK3.out.bel hb9⟩
  · have HLo := Lib.hid (fun w => lawlong_any A n c B m d true w (by
      by_cases h1 : 40 < n
      · rw [decide_eq_true h1]; rfl
      · rw [decide_eq_true (show 60 < m by omega)]; exact Bool.or_true _))
    clear hp ht hl
    go_enter Tryd.func9, Tryd.ntmps9
    go_wp2_with fail
    refine (HLo.out _).mono ?_
    rintro e w1 ⟨rfl, hb1⟩
    go_wp2_with fail
    refine (HKn.out _ (HK0.out.next hb1).bel).mono ?_
    rintro e w2 ⟨rfl, hb2⟩
    go_wp2
    go_ret
    exact ⟨rfl, new_call (HK0.out.next hb1).bel hb2⟩

set_option maxRecDepth 100000 in
theorem reads (os : Os) {H : Type} (enc : TypeId × Value → H) : ∃ places, DataW.whole enc Tryd.prog ((laidWorld os).forCall (fun _ _ => 0) ⟨#[], #[.agg #[.slice none 0 0, .slice none 0 0]], []⟩).memory Tryd.f9.params.toList Rows.meshPiecesSpec.vars false (#[.agg #[.slice none 0 0, .slice none 0 0]] : Array Value).toList 8 = some ([.agg [.nil, .nil]], [], places) := ⟨[], by kernel_rfl⟩
set_option maxRecDepth 100000 in
theorem lifted (os : Os) (started : os.Started) (H : Type) (enc : TypeId × Value → H) (F : Stop.Interp) :
    ReturnsInHanded {} Tryd.checked os 9 .any ((OpenSpec.ofChange Rows.meshPiecesSpec).preRow enc Tryd.prog Tryd.f9 Rows.meshPiecesRow.domain false Rows.meshPiecesRow.laid) (((OpenSpec.ofChange Rows.meshPiecesSpec).at F).post enc Tryd.prog Tryd.f9 false true false false) := by
  obtain ⟨places, hx⟩ := reads os enc
  refine returnsInHanded_of_row (C := Tryd.checked) (s := OpenSpec.ofChange Rows.meshPiecesSpec) Tryd.own started (by kernel_rfl) Tryd.func9
    (witness_row_at (enc := enc) (C := Tryd.checked) false (laidWorld os) #[.agg #[.slice none 0 0, .slice none 0 0]] rfl (by kernel_rfl) (by kernel_rfl) (by kernel_rfl)
      (OpenSpec.preRow_of_cond 8 hx (by kernel_rfl) (fun k hk => by cases hk) (by kernel_rfl) (laidMet_of_run' 8 (by kernel_rfl) (by kernel_rfl)))) ?_
  intro W base args ds gs before hval0 hW _ _ hsz0 hL _ _
  have hbe : BehW W := behW_of_laid hL
  have hval : ∀ (j : Nat) t v, Tryd.f9.params[j]? = some t → args[j]? = some v → Value.okWide Tryd.prog W .any base t v := hval0
  have hW' := hW
  obtain ⟨p, q, hA0, hV, rfl, _, _⟩ := hW
  have hA : DataW.TrodAll enc Tryd.prog W 0 (fun _ => true) true Tryd.f9.params.toList args.toList ds p := hA0
  rw [Tryd.params9] at hA hval
  obtain ⟨v0, d0, rfl, rfl, h0⟩ := trodAll_one hA
  obtain ⟨rfl, rfl⟩ := trodVars_none hV
  obtain ⟨A0, n0, c0, P0, B0, m0, e0, T0, rfl, hp0, ht0, bp0, bt0, hn0, hm0⟩ := open_mesh (hval 0 25 v0 rfl rfl) h0
  exact (walk A0 n0 c0 P0 B0 m0 e0 T0 W hbe hp0 ht0 bp0 bt0 hn0 hm0).mono fun e W' he =>
    law_post rfl rfl (by rw [Tryd.params9]; intro t ht; simp at ht; subst ht; exact ⟨by kernel_rfl, of_decide_eq_true (by kernel_rfl)⟩) hW' rfl he

theorem said : Rows.MeshPiecesSaid :=
  OpenClaim.holds_of_cond 9 Tryd.f9 rfl rfl rfl rfl rfl rfl rfl ⟨rfl, rfl, rfl, rfl, rfl⟩ rfl rfl rfl rfl rfl (by kernel_rfl) Tryd.func9 (by kernel_rfl)
    (of_decide_eq_true (by kernel_rfl)) (by unfold Func.isWrapper; first | (rw [if_pos (by decide +kernel)]; kernel_rfl) | (rw [if_neg (by decide +kernel)]; exact ⟨rfl, rfl⟩))
    (fun os started H enc _ F => by rw [OpenClaim.pre_eq_preRow]; exact lifted os started H enc F)
theorem plain (f : FuncId) (fn : Func) (hf : Tryd.pinned.checked.prog.funcNamed "lapidary/lapidarylaw10.MeshPieces" = some f) (hfn : Tryd.pinned.checked.prog.funcs[f]? = some fn) :
    false = Tryd.pinned.checked.prog.looks [] ∧ ∀ (j : Nat) t, fn.params[j]? = some t → Tryd.pinned.checked.prog.wantsStandIn t = false := by
  obtain rfl : f = 9 := Option.some.inj ((show Tryd.prog.funcNamed "lapidary/lapidarylaw10.MeshPieces" = some 9 by kernel_rfl).symm.trans hf) |>.symm
  obtain rfl : fn = Tryd.f9 := (Option.some.inj (Tryd.func9.symm.trans hfn)).symm
  refine ⟨by kernel_rfl, fun j t ht => ?_⟩
  rw [Tryd.params9] at ht
  have hm : t ∈ [25] := by simpa using Array.mem_of_getElem? ht
  have hall : ([25].all fun u => !Tryd.prog.wantsStandIn u) = true := by kernel_rfl
  exact (show Tryd.prog.wantsStandIn t = false by simpa using List.all_eq_true.1 hall t hm)
theorem proved : Rows.MeshPiecesCardSaid :=
  Claim7.holds_tied_plain_at .later [] _ _ _ _ said (fun _ h => by cases h) (by kernel_rfl) (fun _ h => by cases h) meshPieces_row_tie rfl ⟨rfl, rfl⟩ (by kernel_rfl) rfl plain (by kernel_rfl)
end Go.Proofs.YtckjmnbglbegmaaDoor.meshPieces
