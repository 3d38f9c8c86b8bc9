/- Whether any triangles are their own canon is what the chapter says: whatever mesh comes in, WalkIs answers true. -/
import Derived.Test.YtjahphfjobnkaaaDoorKnown11
import Derived.Test.YtjahphfjobnkaaaDoorLawMesh
import Derived.Test.YtjahphfjobnkaaaDoorLawLaid
namespace Go.Proofs.YtjahphfjobnkaaaDoor.walkIs
open Go.ChangeShapes Go.WideShapes Go.ChangeAt Go.RowKit

theorem canon_le {T : List P3} {P : List P3} (h : T.length ≤ 60) : (canonP P T).length ≤ 100000 ∧ (walkF T).N.length ≤ 100000 := by
  have h1 := (walk_fine T T.length (Nat.le_refl _)).vv
  have h2 := (walk_fine T T.length (Nat.le_refl _)).ok.le
  have h3 := (walk_fine T T.length (Nat.le_refl _)).ok.len
  refine ⟨?_, ?_⟩
  · rw [canonP_is, List.length_map]
    show (walkTo T T.length).V.length ≤ _
    omega
  · show (walkTo T T.length).N.length ≤ _
    omega
set_option maxRecDepth 100000 in
set_option maxHeartbeats 3200000 in
theorem walk (A : Option Addr) (n c : Nat) (P : List P3) (B : Option Addr) (m d : Nat) (T : List P3) (W : World) (hbe : BehW W) (hp : HasK 3 W A n c (p3Cells P)) (ht : HasK 3 W B m d (p3Cells T)) (_ : ∀ x ∈ P, i64T x) (_ : ∀ x ∈ T, i64T x) (_ : n ≤ 9223372036854775807) (_ : m ≤ 9223372036854775807) : Calls Tryd.prog 8 #[.agg #[.slice A n c, .slice B m d]] W fun e w' => e = .returned (.bool true) ∧ Below W.heap.size W w' := by
  have HK0 := Lib.hid (MeshAt.new W (.slice A n c) (.slice B m d))
  have m0 := HK0.out.b0.cell 0
  have m1 := HK0.out.b0.cell 1
  have HKn := Lib.hid (fun w (hW : Below W.heap.size W w) => known11 w (hbe.kept hW))
  by_cases hl : n ≤ 40 ∧ m ≤ 60
  · have HLo := Lib.hid (fun w => lawlong_any A n c B m d false w (by rw [decide_eq_false (by omega), decide_eq_false (by omega)]; rfl))
    obtain ⟨r, hr⟩ := check_total P T
    have HTm : Hid (T.length = m) := by have := ht.len; rw [p3Cells_len] at this; show _ = _; omega
    have HIs := Lib.hid (fun w (hW : Below W.heap.size W w) => walkIs_any A n c P B m d T r w (hbe.kept hW) (hp.kept hW) (ht.kept hW) (by omega) (by omega) hr)
    have HCn := Lib.hid (fun w (hW : Below W.heap.size W w) => ref11Canon_any A n c P B m d T r w (hp.kept hW) (ht.kept hW) (by omega) (by omega) hr)
    have HSz := Lib.hid (canon_le (P := P) (T := T) (by have := HTm.out; omega))
    have HSm := Lib.hid (fun w (hW : Below W.heap.size W w) A' c' B' d' (h1 : HasK 3 w A' (canonP P T).length c' (p3Cells (canonP P T))) (h2 : HasK 3 w B' (walkF T).N.length d' (p3Cells (walkF T).N)) => ref10Same_any A' (canonP P T).length c' (canonP P T) B' (walkF T).N.length d' (walkF T).N A n c P B m d T w h1 h2 (hp.kept hW) (ht.kept hW) HSz.out.1 HSz.out.2 (by omega) (by omega))
    have hmz := zeroMesh
    obtain ⟨D, hD⟩ : ∃ D, decide (canonP P T = P ∧ (walkF T).N = T) = D := ⟨_, rfl⟩
    rw [hD] at HSm
    have tD : (D == D) = true := beq_self_eq_true D
    have tF : (false == false) = true := rfl
    clear hp ht hbe hl HTm
    by_cases h0 : r = 0
    · subst h0
      have hq : decide ((0 : Int) = 0 ∧ canonP P T = P ∧ (walkF T).N = T) = D := by rw [← hD]; exact decide_eq_decide.2 ⟨fun h => h.2, fun h => ⟨rfl, h⟩⟩
      rw [hq] at HIs
      rw [if_pos rfl, if_pos rfl] at HCn
      clear hq hr hD
      go_enter Tryd.func8, Tryd.ntmps8
      go_wp2_with fail
      refine (HLo.out _).mono ?_
      rintro e w1 ⟨rfl, hb1⟩
      have HK1 := Lib.hid (HK0.out.next hb1)
      clear hb1 HK0 m0 m1
      have m0 := HK1.out.b0.cell 0
      have m1 := HK1.out.b0.cell 1
      go_wp2_with fail
      refine (HCn.out _ HK1.out.bel).mono ?_
      rintro e w2 ⟨A2, c2, B2, d2, rfl, h1, h2, hb2⟩
      have HK2 := Lib.hid ((HK1.out.next hb2).next (new_alloc (Below.refl _ w2) (.cells #[.slice A2 (canonP P T).length c2, .slice B2 (walkF T).N.length d2] 25)))
      have HC2 := Lib.hid (Blk.new w2 25 #[.slice A2 (canonP P T).length c2, .slice B2 (walkF T).N.length d2])
      have HP2 := Lib.hid (h1.alloc (.cells #[.slice A2 (canonP P T).length c2, .slice B2 (walkF T).N.length d2] 25))
      have HT2 := Lib.hid (h2.alloc (.cells #[.slice A2 (canonP P T).length c2, .slice B2 (walkF T).N.length d2] 25))
      clear h1 h2 hb2 HK1 m0 m1
      have m0 := HK2.out.b0.cell 0
      have m1 := HK2.out.b0.cell 1
      go_wp2_with fail
      refine (HIs.out _ HK2.out.bel).mono ?_
      rintro e w3 ⟨rfl, hb3⟩
      have HK3 := Lib.hid (HK2.out.next hb3)
      have HC3 := Lib.hid (HC2.out.below hb3 HC2.out.lt)
      have HS3 := Lib.hid (HSm.out w3 HK3.out.bel A2 c2 B2 d2 (HP2.out.kept hb3) (HT2.out.kept hb3))
      clear hb3 HK2 HC2 HP2 HT2 m0 m1
      have m0 := HK3.out.b0.cell 0
      have m1 := HK3.out.b0.cell 1
      have k0 := HC3.out.cell 0
      have k1 := HC3.out.cell 1
      go_wp2_with fail
      refine HS3.out.mono ?_
      rintro e w4 ⟨rfl, hb4⟩
      have HK4 := Lib.hid (HK3.out.next hb4)
      clear hb4 HK3 HC3 HS3 m0 m1 k0 k1
      go_wp2_with fail
      refine (HKn.out _ HK4.out.bel).mono ?_
      rintro e w5 ⟨rfl, hb5⟩
      go_wp2
      go_ret
      exact ⟨rfl, new_call HK4.out.bel hb5⟩
    · have hq : decide (r = 0 ∧ canonP P T = P ∧ (walkF T).N = T) = false := decide_eq_false fun h => h0 h.1
      rw [hq] at HIs
      rw [if_neg h0, if_neg h0] at HCn
      have tr : (r == 0) = false := beq_eq_false_iff_ne.2 h0
      clear hq hr hD h0
      go_enter Tryd.func8, Tryd.ntmps8
      go_wp2_with fail
      refine (HLo.out _).mono ?_
      rintro e w1 ⟨rfl, hb1⟩
      have HK1 := Lib.hid (HK0.out.next hb1)
      clear hb1 HK0 m0 m1
      have m0 := HK1.out.b0.cell 0
      have m1 := HK1.out.b0.cell 1
      go_wp2_with fail
      refine (HCn.out _ HK1.out.bel).mono ?_
      rintro e w2 ⟨A2, c2, B2, d2, rfl, _, _, hb2⟩
      have HK2 := Lib.hid ((HK1.out.next hb2).next (new_alloc (Below.refl _ w2) (.cells #[.slice A2 0 c2, .slice B2 0 d2] 25)))
      clear hb2 HK1 m0 m1
      have m0 := HK2.out.b0.cell 0
      have m1 := HK2.out.b0.cell 1
      go_wp2_with fail
      refine (HIs.out _ HK2.out.bel).mono ?_
      rintro e w3 ⟨rfl, hb3⟩
      have HK3 := Lib.hid (HK2.out.next hb3)
      clear hb3 HK2 m0 m1
      go_wp2_with fail
      refine (HKn.out _ HK3.out.bel).mono ?_
      rintro e w5 ⟨rfl, hb5⟩
      go_wp2
      go_ret
      exact ⟨rfl, new_call HK3.out.bel hb5⟩
  · have HLo := Lib.hid (fun w => lawlong_any A n c B m d true w (by rw [Bool.or_eq_true, decide_eq_true_eq, decide_eq_true_eq]; omega))
    clear hp ht hl
    go_enter Tryd.func8, Tryd.ntmps8
    go_wp2_with fail
    refine (HLo.out _).mono ?_
    rintro e w1 ⟨rfl, hb1⟩
    go_wp2_with fail
    refine (HKn.out _ (HK0.out.next hb1).bel).mono ?_
    rintro e w2 ⟨rfl, hb2⟩
    go_wp2
    go_ret
    exact ⟨rfl, new_call (HK0.out.next hb1).bel hb2⟩

set_option maxRecDepth 100000 in
theorem reads (os : Os) {H : Type} (enc : TypeId × Value → H) : ∃ places, DataW.whole enc Tryd.prog ((laidWorld os).forCall (fun _ _ => 0) ⟨#[], #[.agg #[.slice none 0 0, .slice none 0 0]], []⟩).memory Tryd.f8.params.toList Rows.walkIsSpec.vars false (#[.agg #[.slice none 0 0, .slice none 0 0]] : Array Value).toList 8 = some ([.agg [.nil, .nil]], [], places) := ⟨[], by kernel_rfl⟩
set_option maxRecDepth 100000 in
theorem lifted (os : Os) (started : os.Started) (H : Type) (enc : TypeId × Value → H) (F : Stop.Interp) :
    ReturnsInHanded {} Tryd.checked os 8 .any ((OpenSpec.ofChange Rows.walkIsSpec).preRow enc Tryd.prog Tryd.f8 Rows.walkIsRow.domain false Rows.walkIsRow.laid) (((OpenSpec.ofChange Rows.walkIsSpec).at F).post enc Tryd.prog Tryd.f8 false true false false) := by
  obtain ⟨places, hx⟩ := reads os enc
  refine returnsInHanded_of_row (C := Tryd.checked) (s := OpenSpec.ofChange Rows.walkIsSpec) Tryd.own started (by kernel_rfl) Tryd.func8
    (witness_row_at (enc := enc) (C := Tryd.checked) false (laidWorld os) #[.agg #[.slice none 0 0, .slice none 0 0]] rfl (by kernel_rfl) (by kernel_rfl) (by kernel_rfl)
      (OpenSpec.preRow_of_cond 8 hx (by kernel_rfl) (fun k hk => by cases hk) (by kernel_rfl) (laidMet_of_run' 8 (by kernel_rfl) (by kernel_rfl)))) ?_
  intro W base args ds gs before hval0 hW _ _ hsz0 hL _ _
  have hbe : BehW W := behW_of_laid hL
  have hval : ∀ (j : Nat) t v, Tryd.f8.params[j]? = some t → args[j]? = some v → Value.okWide Tryd.prog W .any base t v := hval0
  have hW' := hW
  obtain ⟨p, q, hA0, hV, rfl, _, _⟩ := hW
  have hA : DataW.TrodAll enc Tryd.prog W 0 (fun _ => true) true Tryd.f8.params.toList args.toList ds p := hA0
  rw [Tryd.params8] at hA hval
  obtain ⟨v0, d0, rfl, rfl, h0⟩ := trodAll_one hA
  obtain ⟨rfl, rfl⟩ := trodVars_none hV
  obtain ⟨A0, n0, c0, P0, B0, m0, e0, T0, rfl, hp0, ht0, bp0, bt0, hn0, hm0⟩ := open_mesh (hval 0 25 v0 rfl rfl) h0
  exact (walk A0 n0 c0 P0 B0 m0 e0 T0 W hbe hp0 ht0 bp0 bt0 hn0 hm0).mono fun e W' he =>
    law_post rfl rfl (by rw [Tryd.params8]; intro t ht; simp at ht; subst ht; exact ⟨by kernel_rfl, of_decide_eq_true (by kernel_rfl)⟩) hW' rfl he

theorem said : Rows.WalkIsSaid :=
  OpenClaim.holds_of_cond 8 Tryd.f8 rfl rfl rfl rfl rfl rfl rfl ⟨rfl, rfl, rfl, rfl, rfl⟩ rfl rfl rfl rfl rfl (by kernel_rfl) Tryd.func8 (by kernel_rfl)
    (of_decide_eq_true (by kernel_rfl)) (by unfold Func.isWrapper; first | (rw [if_pos (by decide +kernel)]; kernel_rfl) | (rw [if_neg (by decide +kernel)]; exact ⟨rfl, rfl⟩))
    (fun os started H enc _ F => by rw [OpenClaim.pre_eq_preRow]; exact lifted os started H enc F)
theorem plain (f : FuncId) (fn : Func) (hf : Tryd.pinned.checked.prog.funcNamed "lapidary/lapidarylaw11.WalkIs" = some f) (hfn : Tryd.pinned.checked.prog.funcs[f]? = some fn) :
    false = Tryd.pinned.checked.prog.looks [] ∧ ∀ (j : Nat) t, fn.params[j]? = some t → Tryd.pinned.checked.prog.wantsStandIn t = false := by
  obtain rfl : f = 8 := Option.some.inj ((show Tryd.prog.funcNamed "lapidary/lapidarylaw11.WalkIs" = some 8 by kernel_rfl).symm.trans hf) |>.symm
  obtain rfl : fn = Tryd.f8 := (Option.some.inj (Tryd.func8.symm.trans hfn)).symm
  refine ⟨by kernel_rfl, fun j t ht => ?_⟩
  rw [Tryd.params8] at ht
  have hm : t ∈ [25] := by simpa using Array.mem_of_getElem? ht
  have hall : ([25].all fun u => !Tryd.prog.wantsStandIn u) = true := by kernel_rfl
  exact (show Tryd.prog.wantsStandIn t = false by simpa using List.all_eq_true.1 hall t hm)
theorem proved : Rows.WalkIsCardSaid :=
  Claim7.holds_tied_plain_at .later [] _ _ _ _ said (fun _ h => by cases h) (by kernel_rfl) (fun _ h => by cases h) walkIs_row_tie rfl ⟨rfl, rfl⟩ (by kernel_rfl) rfl plain (by kernel_rfl)
end Go.Proofs.YtjahphfjobnkaaaDoor.walkIs
