/- Of any triangles the canon, and whether they are their own, is what the chapter says: whatever mesh comes in, WalkCanons answers true. -/
import Derived.Test.YtjahphfjobnkaaaDoorKnown11
import Derived.Test.YtjahphfjobnkaaaDoorLawMesh
import Derived.Test.YtjahphfjobnkaaaDoorLawLaid
namespace Go.Proofs.YtjahphfjobnkaaaDoor.walkCanons
open Go.ChangeShapes Go.WideShapes Go.ChangeAt Go.RowKit

theorem canon_le {T : List P3} {P : List P3} (h : T.length ≤ 60) : (canonP P T).length ≤ 100000 ∧ (walkF T).N.length ≤ 100000 := by
  have h1 := (walk_fine T T.length (Nat.le_refl _)).vv
  have h2 := (walk_fine T T.length (Nat.le_refl _)).ok.le
  have h3 := (walk_fine T T.length (Nat.le_refl _)).ok.len
  refine ⟨?_, ?_⟩
  · rw [canonP_is, List.length_map]
    show (walkTo T T.length).V.length ≤ _
    omega
  · show (walkTo T T.length).N.length ≤ _
    omega
set_option maxRecDepth 100000 in
set_option maxHeartbeats 3200000 in
theorem walk (A : Option Addr) (n c : Nat) (P : List P3) (B : Option Addr) (m d : Nat) (T : List P3) (W : World) (hbe : BehW W) (hp : HasK 3 W A n c (p3Cells P)) (ht : HasK 3 W B m d (p3Cells T)) (_ : ∀ x ∈ P, i64T x) (_ : ∀ x ∈ T, i64T x) (_ : n ≤ 9223372036854775807) (_ : m ≤ 9223372036854775807) : Calls Tryd.prog 4 #[.agg #[.slice A n c, .slice B m d]] W fun e w' => e = .returned (.bool true) ∧ Below W.heap.size W w' := by
  have HK0 := Lib.hid (MeshAt.new W (.slice A n c) (.slice B m d))
  have m0 := HK0.out.b0.cell 0
  have m1 := HK0.out.b0.cell 1
  have HKn := Lib.hid (fun w (hW : Below W.heap.size W w) => known11 w (hbe.kept hW))
  by_cases hl : n ≤ 40 ∧ m ≤ 60
  · have HLo := Lib.hid (fun w => lawlong_any A n c B m d false w (by rw [decide_eq_false (by omega), decide_eq_false (by omega)]; rfl))
    obtain ⟨r, hr⟩ := check_total P T
    have HTm : Hid (T.length = m) := by have := ht.len; rw [p3Cells_len] at this; show _ = _; omega
    have HIs := Lib.hid (fun w (hW : Below W.heap.size W w) => walkIs_any A n c P B m d T r w (hbe.kept hW) (hp.kept hW) (ht.kept hW) (by omega) (by omega) hr)
    have HCc := Lib.hid (fun w (hW : Below W.heap.size W w) => walkCanon_any A n c P B m d T r w (hbe.kept hW) (hp.kept hW) (ht.kept hW) (by omega) (by omega) hr)
    have HCn := Lib.hid (fun w (hW : Below W.heap.size W w) => ref11Canon_any A n c P B m d T r w (hp.kept hW) (ht.kept hW) (by omega) (by omega) hr)
    have HSz := Lib.hid (canon_le (P := P) (T := T) (by have := HTm.out; omega))
    have HSm := Lib.hid (fun w (hW : Below W.heap.size W w) A' c' B' d' (h1 : HasK 3 w A' (canonP P T).length c' (p3Cells (canonP P T))) (h2 : HasK 3 w B' (walkF T).N.length d' (p3Cells (walkF T).N)) => ref10Same_any A' (canonP P T).length c' (canonP P T) B' (walkF T).N.length d' (walkF T).N A n c P B m d T w h1 h2 (hp.kept hW) (ht.kept hW) HSz.out.1 HSz.out.2 (by omega) (by omega))
    have hmz := zeroMesh
    obtain ⟨D, hD⟩ : ∃ D, decide (canonP P T = P ∧ (walkF T).N = T) = D := ⟨_, rfl⟩
    rw [hD] at HSm
    have tD : (D == D) = true := beq_self_eq_true D
    have tF : (false == false) = true := rfl
    have tR : (r == r) = true := beq_self_eq_true r
    clear hp ht hbe hl HTm
    by_cases h0 : r = 0
    · subst h0
      have hq : decide ((0 : Int) = 0 ∧ canonP P T = P ∧ (walkF T).N = T) = D := by rw [← hD]; exact decide_eq_decide.2 ⟨fun h => h.2, fun h => ⟨rfl, h⟩⟩
      rw [hq] at HIs
      rw [if_pos rfl, if_pos rfl] at HCn HCc
      have HSs : Hid (∀ w A2 c2 B2 d2 A3 c3 B3 d3, HasK 3 w A2 (canonP P T).length c2 (p3Cells (canonP P T)) → HasK 3 w B2 (walkF T).N.length d2 (p3Cells (walkF T).N) → HasK 3 w A3 (canonP P T).length c3 (p3Cells (canonP P T)) → HasK 3 w B3 (walkF T).N.length d3 (p3Cells (walkF T).N) → Calls Tryd.prog 18 #[.agg #[.slice A2 (canonP P T).length c2, .slice B2 (walkF T).N.length d2], .agg #[.slice A3 (canonP P T).length c3, .slice B3 (walkF T).N.length d3]] w fun e w' => e = .returned (.bool true) ∧ Below w.heap.size w w') := fun w A2 c2 B2 d2 A3 c3 B3 d3 h1 h2 h3 h4 => by
        have := ref10Same_any A2 _ c2 (canonP P T) B2 _ d2 (walkF T).N A3 _ c3 (canonP P T) B3 _ d3 (walkF T).N w h1 h2 h3 h4 HSz.out.1 HSz.out.2 HSz.out.1 HSz.out.2
        rw [decide_eq_true ⟨rfl, rfl⟩] at this
        exact this
      clear hq hr hD
      go_enter Tryd.func4, Tryd.ntmps4
      go_wp2_with fail
      refine (HLo.out _).mono ?_
      rintro e w1 ⟨rfl, hb1⟩
      have HK1 := Lib.hid (HK0.out.next hb1)
      clear hb1 HK0 m0 m1
      have m0 := HK1.out.b0.cell 0
      have m1 := HK1.out.b0.cell 1
      go_wp2_with fail
      refine (HCc.out _ HK1.out.bel).mono ?_
      rintro e w2 ⟨A2, c2, B2, d2, rfl, h1, h2, hb2⟩
      have HK2 := Lib.hid ((HK1.out.next hb2).next (new_alloc (Below.refl _ w2) (.cells #[.slice A2 (canonP P T).length c2, .slice B2 (walkF T).N.length d2] 25)))
      have HC2 := Lib.hid (Blk.new w2 25 #[.slice A2 (canonP P T).length c2, .slice B2 (walkF T).N.length d2])
      have HP2 := Lib.hid (h1.alloc (.cells #[.slice A2 (canonP P T).length c2, .slice B2 (walkF T).N.length d2] 25))
      have HT2 := Lib.hid (h2.alloc (.cells #[.slice A2 (canonP P T).length c2, .slice B2 (walkF T).N.length d2] 25))
      clear h1 h2 hb2 HK1 m0 m1
      have m0 := HK2.out.b0.cell 0
      have m1 := HK2.out.b0.cell 1
      go_wp2_with fail
      refine (HCn.out _ HK2.out.bel).mono ?_
      rintro e w3 ⟨A3, c3, B3, d3, rfl, h1, h2, hb3⟩
      have HB3 : Hid (Below (w2.alloc (.cells #[.slice A2 (canonP P T).length c2, .slice B2 (walkF T).N.length d2] 25)).heap.size (w2.alloc (.cells #[.slice A2 (canonP P T).length c2, .slice B2 (walkF T).N.length d2] 25)) (w3.alloc (.cells #[.slice A3 (canonP P T).length c3, .slice B3 (walkF T).N.length d3] 25))) := new_alloc hb3 _
      have HK3 := Lib.hid (HK2.out.next HB3.out)
      have HC3 := Lib.hid (HC2.out.below HB3.out HC2.out.lt)
      have HP3 := Lib.hid (HP2.out.kept HB3.out)
      have HT3 := Lib.hid (HT2.out.kept HB3.out)
      have HE3 := Lib.hid (Blk.new w3 25 #[.slice A3 (canonP P T).length c3, .slice B3 (walkF T).N.length d3])
      have HQ3 := Lib.hid (h1.alloc (.cells #[.slice A3 (canonP P T).length c3, .slice B3 (walkF T).N.length d3] 25))
      have HU3 := Lib.hid (h2.alloc (.cells #[.slice A3 (canonP P T).length c3, .slice B3 (walkF T).N.length d3] 25))
      have HZ3 : Hid ((w3.alloc (.cells #[.slice A3 (canonP P T).length c3, .slice B3 (walkF T).N.length d3] 25)).heap.size = w3.heap.size + 1) := by show _ = _; simp
      have HSc := Lib.hid (HSs.out _ A2 c2 B2 d2 A3 c3 B3 d3 HP3.out HT3.out HQ3.out HU3.out)
      clear h1 h2 hb3 HK2 HC2 HP2 HT2 HB3 m0 m1
      have m0 := HK3.out.b0.cell 0
      have m1 := HK3.out.b0.cell 1
      have k0 := HC3.out.cell 0
      have k1 := HC3.out.cell 1
      have j0 := HE3.out.cell 0
      have j1 := HE3.out.cell 1
      go_wp2_with fail
      refine HSc.out.mono ?_
      rintro e w4 ⟨rfl, hb4⟩
      have HK4 := Lib.hid (HK3.out.next hb4)
      have HE4 := Lib.hid (HE3.out.below hb4 HE3.out.lt)
      have HQ4 := Lib.hid (HQ3.out.kept hb4)
      have HU4 := Lib.hid (HU3.out.kept hb4)
      clear hb4 HK3 HC3 HP3 HT3 HE3 HQ3 HU3 HZ3 HSc m0 m1 k0 k1 j0 j1
      have m0 := HK4.out.b0.cell 0
      have m1 := HK4.out.b0.cell 1
      go_wp2_with fail
      refine (HIs.out _ HK4.out.bel).mono ?_
      rintro e w5 ⟨rfl, hb5⟩
      have HK5 := Lib.hid (HK4.out.next hb5)
      have HE5 := Lib.hid (HE4.out.below hb5 HE4.out.lt)
      have HS5 := Lib.hid (HSm.out w5 HK5.out.bel A3 c3 B3 d3 (HQ4.out.kept hb5) (HU4.out.kept hb5))
      clear hb5 HK4 HE4 HQ4 HU4 m0 m1
      have m0 := HK5.out.b0.cell 0
      have m1 := HK5.out.b0.cell 1
      have j0 := HE5.out.cell 0
      have j1 := HE5.out.cell 1
      go_wp2_with fail
      refine HS5.out.mono ?_
      rintro e w6 ⟨rfl, hb6⟩
      have HK6 := Lib.hid (HK5.out.next hb6)
      clear hb6 HK5 HE5 HS5 m0 m1 j0 j1
      go_wp2_with fail
      refine (HKn.out _ HK6.out.bel).mono ?_
      rintro e w7 ⟨rfl, hb7⟩
      go_wp2
      go_ret
      exact ⟨rfl, new_call HK6.out.bel hb7⟩
    · have hq : decide (r = 0 ∧ canonP P T = P ∧ (walkF T).N = T) = false := decide_eq_false fun h => h0 h.1
      rw [hq] at HIs
      rw [if_neg h0, if_neg h0] at HCn HCc
      have tr : (r == 0) = false := beq_eq_false_iff_ne.2 h0
      have HSs : Hid (∀ w A2 c2 B2 d2 A3 c3 B3 d3, HasK 3 w A2 0 c2 (p3Cells []) → HasK 3 w B2 0 d2 (p3Cells []) → HasK 3 w A3 0 c3 (p3Cells []) → HasK 3 w B3 0 d3 (p3Cells []) → Calls Tryd.prog 18 #[.agg #[.slice A2 0 c2, .slice B2 0 d2], .agg #[.slice A3 0 c3, .slice B3 0 d3]] w fun e w' => e = .returned (.bool true) ∧ Below w.heap.size w w') := fun w A2 c2 B2 d2 A3 c3 B3 d3 h1 h2 h3 h4 => by
        have := ref10Same_any A2 _ c2 [] B2 _ d2 [] A3 _ c3 [] B3 _ d3 [] w h1 h2 h3 h4 (Nat.zero_le _) (Nat.zero_le _) (Nat.zero_le _) (Nat.zero_le _)
        rw [decide_eq_true ⟨rfl, rfl⟩] at this
        exact this
      clear hq hr hD h0 HSm
      go_enter Tryd.func4, Tryd.ntmps4
      go_wp2_with fail
      refine (HLo.out _).mono ?_
      rintro e w1 ⟨rfl, hb1⟩
      have HK1 := Lib.hid (HK0.out.next hb1)
      clear hb1 HK0 m0 m1
      have m0 := HK1.out.b0.cell 0
      have m1 := HK1.out.b0.cell 1
      go_wp2_with fail
      refine (HCc.out _ HK1.out.bel).mono ?_
      rintro e w2 ⟨A2, c2, B2, d2, rfl, h1, h2, hb2⟩
      have HK2 := Lib.hid ((HK1.out.next hb2).next (new_alloc (Below.refl _ w2) (.cells #[.slice A2 0 c2, .slice B2 0 d2] 25)))
      have HC2 := Lib.hid (Blk.new w2 25 #[.slice A2 0 c2, .slice B2 0 d2])
      have HP2 := Lib.hid (h1.alloc (.cells #[.slice A2 0 c2, .slice B2 0 d2] 25))
      have HT2 := Lib.hid (h2.alloc (.cells #[.slice A2 0 c2, .slice B2 0 d2] 25))
      clear h1 h2 hb2 HK1 m0 m1
      have m0 := HK2.out.b0.cell 0
      have m1 := HK2.out.b0.cell 1
      go_wp2_with fail
      refine (HCn.out _ HK2.out.bel).mono ?_
      rintro e w3 ⟨A3, c3, B3, d3, rfl, h1, h2, hb3⟩
      have HB3 : Hid (Below (w2.alloc (.cells #[.slice A2 0 c2, .slice B2 0 d2] 25)).heap.size (w2.alloc (.cells #[.slice A2 0 c2, .slice B2 0 d2] 25)) (w3.alloc (.cells #[.slice A3 0 c3, .slice B3 0 d3] 25))) := new_alloc hb3 _
      have HK3 := Lib.hid (HK2.out.next HB3.out)
      have HC3 := Lib.hid (HC2.out.below HB3.out HC2.out.lt)
      have HP3 := Lib.hid (HP2.out.kept HB3.out)
      have HT3 := Lib.hid (HT2.out.kept HB3.out)
      have HE3 := Lib.hid (Blk.new w3 25 #[.slice A3 0 c3, .slice B3 0 d3])
      have HQ3 := Lib.hid (h1.alloc (.cells #[.slice A3 0 c3, .slice B3 0 d3] 25))
      have HU3 := Lib.hid (h2.alloc (.cells #[.slice A3 0 c3, .slice B3 0 d3] 25))
      have HZ3 : Hid ((w3.alloc (.cells #[.slice A3 0 c3, .slice B3 0 d3] 25)).heap.size = w3.heap.size + 1) := by show _ = _; simp
      have HSc := Lib.hid (HSs.out _ A2 c2 B2 d2 A3 c3 B3 d3 HP3.out HT3.out HQ3.out HU3.out)
      clear h1 h2 hb3 HK2 HC2 HP2 HT2 HB3 m0 m1
      have m0 := HK3.out.b0.cell 0
      have m1 := HK3.out.b0.cell 1
      have k0 := HC3.out.cell 0
      have k1 := HC3.out.cell 1
      have j0 := HE3.out.cell 0
      have j1 := HE3.out.cell 1
      go_wp2_with fail
      refine HSc.out.mono ?_
      rintro e w4 ⟨rfl, hb4⟩
      have HK4 := Lib.hid (HK3.out.next hb4)
      have HE4 := Lib.hid (HE3.out.below hb4 HE3.out.lt)
      have HQ4 := Lib.hid (HQ3.out.kept hb4)
      have HU4 := Lib.hid (HU3.out.kept hb4)
      clear hb4 HK3 HC3 HP3 HT3 HE3 HQ3 HU3 HZ3 HSc m0 m1 k0 k1 j0 j1
      have m0 := HK4.out.b0.cell 0
      have m1 := HK4.out.b0.cell 1
      go_wp2_with fail
      refine (HIs.out _ HK4.out.bel).mono ?_
      rintro e w5 ⟨rfl, hb5⟩
      have HK5 := Lib.hid (HK4.out.next hb5)
      have HK6 := HK5
      clear hb5 HK4 HE4 HQ4 HU4 m0 m1
      go_wp2_with fail
      refine (HKn.out _ HK6.out.bel).mono ?_
      rintro e w7 ⟨rfl, hb7⟩
      go_wp2
      go_ret
      exact ⟨rfl, new_call HK6.out.bel hb7⟩
  · have HLo := Lib.hid (fun w => lawlong_any A n c B m d true w (by rw [Bool.or_eq_true, decide_eq_true_eq, decide_eq_true_eq]; omega))
    clear hp ht hl
    go_enter Tryd.func4, Tryd.ntmps4
    go_wp2_with fail
    refine (HLo.out _).mono ?_
    rintro e w1 ⟨rfl, hb1⟩
    go_wp2_with fail
    refine (HKn.out _ (HK0.out.next hb1).bel).mono ?_
    rintro e w2 ⟨rfl, hb2⟩
    go_wp2
    go_ret
    exact ⟨rfl, new_call (HK0.out.next hb1).bel hb2⟩

set_option maxRecDepth 100000 in
theorem reads (os : Os) {H : Type} (enc : TypeId × Value → H) : ∃ places, DataW.whole enc Tryd.prog ((laidWorld os).forCall (fun _ _ => 0) ⟨#[], #[.agg #[.slice none 0 0, .slice none 0 0]], []⟩).memory Tryd.f4.params.toList Rows.walkCanonsSpec.vars false (#[.agg #[.slice none 0 0, .slice none 0 0]] : Array Value).toList 8 = some ([.agg [.nil, .nil]], [], places) := ⟨[], by kernel_rfl⟩
set_option maxRecDepth 100000 in
theorem lifted (os : Os) (started : os.Started) (H : Type) (enc : TypeId × Value → H) (F : Stop.Interp) :
    ReturnsInHanded {} Tryd.checked os 4 .any ((OpenSpec.ofChange Rows.walkCanonsSpec).preRow enc Tryd.prog Tryd.f4 Rows.walkCanonsRow.domain false Rows.walkCanonsRow.laid) (((OpenSpec.ofChange Rows.walkCanonsSpec).at F).post enc Tryd.prog Tryd.f4 false true false false) := by
  obtain ⟨places, hx⟩ := reads os enc
  refine returnsInHanded_of_row (C := Tryd.checked) (s := OpenSpec.ofChange Rows.walkCanonsSpec) Tryd.own started (by kernel_rfl) Tryd.func4
    (witness_row_at (enc := enc) (C := Tryd.checked) false (laidWorld os) #[.agg #[.slice none 0 0, .slice none 0 0]] rfl (by kernel_rfl) (by kernel_rfl) (by kernel_rfl)
      (OpenSpec.preRow_of_cond 8 hx (by kernel_rfl) (fun k hk => by cases hk) (by kernel_rfl) (laidMet_of_run' 8 (by kernel_rfl) (by kernel_rfl)))) ?_
  intro W base args ds gs before hval0 hW _ _ hsz0 hL _ _
  have hbe : BehW W := behW_of_laid hL
  have hval : ∀ (j : Nat) t v, Tryd.f4.params[j]? = some t → args[j]? = some v → Value.okWide Tryd.prog W .any base t v := hval0
  have hW' := hW
  obtain ⟨p, q, hA0, hV, rfl, _, _⟩ := hW
  have hA : DataW.TrodAll enc Tryd.prog W 0 (fun _ => true) true Tryd.f4.params.toList args.toList ds p := hA0
  rw [Tryd.params4] at hA hval
  obtain ⟨v0, d0, rfl, rfl, h0⟩ := trodAll_one hA
  obtain ⟨rfl, rfl⟩ := trodVars_none hV
  obtain ⟨A0, n0, c0, P0, B0, m0, e0, T0, rfl, hp0, ht0, bp0, bt0, hn0, hm0⟩ := open_mesh (hval 0 25 v0 rfl rfl) h0
  exact (walk A0 n0 c0 P0 B0 m0 e0 T0 W hbe hp0 ht0 bp0 bt0 hn0 hm0).mono fun e W' he =>
    law_post rfl rfl (by rw [Tryd.params4]; intro t ht; simp at ht; subst ht; exact ⟨by kernel_rfl, of_decide_eq_true (by kernel_rfl)⟩) hW' rfl he

theorem said : Rows.WalkCanonsSaid :=
  OpenClaim.holds_of_cond 4 Tryd.f4 rfl rfl rfl rfl rfl rfl rfl ⟨rfl, rfl, rfl, rfl, rfl⟩ rfl rfl rfl rfl rfl (by kernel_rfl) Tryd.func4 (by kernel_rfl)
    (of_decide_eq_true (by kernel_rfl)) (by unfold Func.isWrapper; first | (rw [if_pos (by decide +kernel)]; kernel_rfl) | (rw [if_neg (by decide +kernel)]; exact ⟨rfl, rfl⟩))
    (fun os started H enc _ F => by rw [OpenClaim.pre_eq_preRow]; exact lifted os started H enc F)
theorem plain (f : FuncId) (fn : Func) (hf : Tryd.pinned.checked.prog.funcNamed "lapidary/lapidarylaw11.WalkCanons" = some f) (hfn : Tryd.pinned.checked.prog.funcs[f]? = some fn) :
    false = Tryd.pinned.checked.prog.looks [] ∧ ∀ (j : Nat) t, fn.params[j]? = some t → Tryd.pinned.checked.prog.wantsStandIn t = false := by
  obtain rfl : f = 4 := Option.some.inj ((show Tryd.prog.funcNamed "lapidary/lapidarylaw11.WalkCanons" = some 4 by kernel_rfl).symm.trans hf) |>.symm
  obtain rfl : fn = Tryd.f4 := (Option.some.inj (Tryd.func4.symm.trans hfn)).symm
  refine ⟨by kernel_rfl, fun j t ht => ?_⟩
  rw [Tryd.params4] at ht
  have hm : t ∈ [25] := by simpa using Array.mem_of_getElem? ht
  have hall : ([25].all fun u => !Tryd.prog.wantsStandIn u) = true := by kernel_rfl
  exact (show Tryd.prog.wantsStandIn t = false by simpa using List.all_eq_true.1 hall t hm)
theorem proved : Rows.WalkCanonsCardSaid :=
  Claim7.holds_tied_plain_at .later [] _ _ _ _ said (fun _ h => by cases h) (by kernel_rfl) (fun _ h => by cases h) walkCanons_row_tie rfl ⟨rfl, rfl⟩ (by kernel_rfl) rfl plain (by kernel_rfl)
end Go.Proofs.YtjahphfjobnkaaaDoor.walkCanons
