/- Each seed is three vertices and a triangle, each fresh one a vertex and a triangle, each known one a triangle, and what is open is never less than nothing: whatever steps come in, GrowCounts answers true. -/
import Derived.Test.YthjmojglcfmkmaaDoorKnown12
import Derived.Test.YthjmojglcfmkmaaDoorGrowRefE
import Derived.Test.YthjmojglcfmkmaaDoorLawSteps
import Derived.Test.YthjmojglcfmkmaaDoorLawLaidG
import Derived.Deep.RegionHeld3
namespace Go.Proofs.YthjmojglcfmkmaaDoor.growCounts
open Go.ChangeShapes Go.WideShapes Go.ChangeAt Go.RowKit

theorem open_few {w : World} {F : Nat → Prop} {g : Nat} {s : GS} (h : GwF w F g s) : openG s ≤ 3 * s.T.length := by
  obtain ⟨U, _, hl⟩ := h.here
  exact Nat.le_trans List.countP_le_length hl.lenP
set_option maxRecDepth 100000 in
set_option maxHeartbeats 6400000 in
theorem walk (A : Option Addr) (n c : Nat) (l : List (Int × Int)) (W : World) (hbe : BehW W) (hnw : NewW W) (hl : HasK 2 W A n c (e2Cells l)) (hi : ∀ x ∈ l, i64D x) (_ : n ≤ 9223372036854775807) : Calls Tryd.prog 8 #[.slice A n c] W fun e w' => e = .returned (.bool true) ∧ Below W.heap.size W w' := by
  have HKn := Lib.hid (fun w (hW : Below W.heap.size W w) => known12 w (hbe.kept hW) (hnw.kept hW))
  by_cases hn : n ≤ 80
  · have t1 : decide ((80 : Int) < (n : Int)) = false := decide_eq_false (by omega)
    have HLn : Hid (l.length = n) := by have := hl.len; rw [e2Cells_len] at this; show _ = _; omega
    have HL := Lib.hid hl
    have HI : Hid (∀ d ∈ l, in64 d) := fun d hd => ⟨WalkArith.wf_i64 (hi d hd).1, WalkArith.wf_i64 (hi d hd).2⟩
    have HNw := Lib.hid hnw
    clear hl hi hbe hnw
    go_enter Tryd.func8, Tryd.ntmps8
    go_wp2_with fail
    refine (gwNew_any _).mono ?_
    rintro e w1 ⟨rfl, hb1, F1, hg1, hf1⟩
    have HG1 := Lib.hid hg1
    have HB1 := Lib.hid hb1
    have HF1 : Hid (∀ k, F1 k → W.heap.size ≤ k) := fun k hk => (hf1 k hk).1
    clear hb1 hg1 hf1
    go_wp2
    go_loopg [4, 5, 6] n (fun k s4 s5 s6 wx => ∃ (i : Nat) (F : Nat → Prop) (s : GS), i + k = n ∧ s4 = .int .i64 (s.N : Int) ∧ s5 = .int .i64 (s.T.length : Int) ∧ s6 = .int .i64 (i : Int) ∧ Hid (s.B.length ≤ i) ∧ Hid (GwF wx F W.heap.size s) ∧ Hid (∀ k, F k → W.heap.size ≤ k) ∧ Hid (Below W.heap.size W wx))
    case atStart => exact ⟨0, F1, newG, by omega, rfl, rfl, rfl, Nat.le_refl _, HG1, HF1, HB1⟩
    case round =>
      obtain ⟨i, F, s, hik, rfl, rfl, rfl, HSB, HG, HF, HB⟩ := hrel
      clear HG1 HF1 HB1
      by_cases hi : i < n
      · have ti : decide ((i : Int) < (n : Int)) = true := decide_eq_true (by omega)
        have i2 : (i : Int) < (n : Int) := by omega
        have hil : i < l.length := by rw [HLn.out]; exact hi
        have HBt : Hid (∀ V, Chg F wr V → Below W.heap.size W V) := fun V hc => HB.out.trans (hc.below HF.out HB.out.size)
        have HLk : Hid (∀ V, Chg F wr V → HasK 2 V A n c (e2Cells l)) := fun V hc => HL.out.kept (HBt.out V hc)
        obtain ⟨b, off, rfl, _, hc⟩ := (HLk.out wr (Chg.refl _ _)).spot (by omega)
        obtain ⟨z0, z1⟩ := e2Cells_at hil
        have c0 := hc _ _ z0
        have c1 := hc _ _ z1
        rw [← Nat.add_assoc] at c1
        have HC2 : Hid (∀ V, Chg F wr V → V.cell? ⟨b, off + i * 2, none⟩ = some (.int .i64 l[i].1)) := fun V hV => by
          obtain ⟨b', off', he, _, hc'⟩ := (HLk.out V hV).spot (by omega)
          cases he
          exact hc' _ _ z0
        have HIn := Lib.hid (HI.out _ (List.getElem_mem hil))
        generalize l[i] = d at *
        obtain ⟨k, v⟩ := d
        simp only at c0 c1
        have HSt := Lib.hid (gwStep1_any F W.heap.size s k v wr HG.out HIn.out (fun V hV => HNw.out.kept (HBt.out V hV)) (by have := HSB.out; omega))
        have HWy := Lib.hid (stepG_way s (k, v))
        have HLe := Lib.hid HG.out.lens
        clear hc z0 z1
        go_wp2_with fail
        refine HSt.out.mono ?_
        rintro e w2 ⟨rfl, hc2, F2, hg2, hf2⟩
        have HG2 := Lib.hid hg2
        have HB2 := Lib.hid (HBt.out w2 hc2)
        have x0 : w2.cell? ⟨b, off + i * 2, none⟩ = some (.int .i64 k) := HC2.out w2 hc2
        have HF2 : Hid (∀ k, F2 k → W.heap.size ≤ k) := fun k hk => (hf2 k hk).elim (HF.out k) (fun e => Nat.le_trans HB.out.size e)
        have HS2 : Hid ((stepG s (k, v)).B.length ≤ i + 1) := by have := HWy.out.lenB; have := HSB.out; show _ ≤ _; omega
        clear hc2 hg2 hf2 HG HSt HSB HBt HC2 HLk c0 c1
        by_cases hE : (stepG s (k, v)).E = 0
        · have tE : ((stepG s (k, v)).E != 0) = false := by rw [hE]; rfl
          have hft := (HWy.out.fit hE).2
          obtain ⟨y1, y2, y3⟩ := HLe.out
          have m1 : IntKind.wrap .i64 ((i : Int) + 1) = (i : Int) + 1 := by rw [IntKind.wrap_i64]; omega
          have m2 : IntKind.wrap .i64 ((s.N : Int) + 3) = (s.N : Int) + 3 := by rw [IntKind.wrap_i64]; omega
          have m3 : IntKind.wrap .i64 ((s.N : Int) + 1) = (s.N : Int) + 1 := by rw [IntKind.wrap_i64]; omega
          have m4 : IntKind.wrap .i64 ((s.T.length : Int) + 1) = (s.T.length : Int) + 1 := by rw [IntKind.wrap_i64]; omega
          clear hE HWy HLe HB
          generalize stepG s (k, v) = s' at *
          rcases hft with ⟨hk, hN, hT⟩ | ⟨hk, hN, hT⟩ | ⟨hk, hN, hT⟩ | ⟨hk, hN, hT⟩
          all_goals
            simp only at hk
            subst hk
            have hN' := Lib.hid hN
            have hT' := Lib.hid hT
            clear hN hT
            go_wp2
            go_roundg (n - (i + 1))
            case measure => omega
            case rel => exact ⟨i + 1, F2, s', by omega, by rw [hN'.out]; try go_num, by rw [hT'.out]; try go_num, by go_num, HS2, HG2, HF2, HB2⟩
        · have tE : ((stepG s (k, v)).E != 0) = true := bne_iff_ne.2 hE
          have hbad := HWy.out.bad hE
          have HN' := Lib.hid hbad.2.1
          have HT' := Lib.hid hbad.1
          clear hE HWy HLe HB hbad
          rw [← HN'.out, ← HT'.out]
          generalize stepG s (k, v) = s' at *
          clear HN' HT'
          go_wp2_with (with_reducible fail)
          have HO := Lib.hid (open_few HG2.out)
          have HLe' := Lib.hid HG2.out.lens
          have q1 : decide ((0 : Int) ≤ (openG s' : Int)) = true := decide_eq_true (by omega)
          have q2 : IntKind.wrap .i64 (3 * (s'.T.length : Int)) = 3 * (s'.T.length : Int) := by rw [IntKind.wrap_i64]; have := HLe'.out; omega
          have q3 : decide ((openG s' : Int) ≤ 3 * (s'.T.length : Int)) = true := decide_eq_true (by have := HO.out; omega)
          have q4 : ((s'.N : Int) == (s'.N : Int)) = true := beq_self_eq_true _
          have q5 : ((s'.T.length : Int) == (s'.T.length : Int)) = true := beq_self_eq_true _
          have HVe := Lib.hid (fun V (hV : Below w2.heap.size w2 V) => gwVerts_any V (HG2.out.next hV))
          have HTr := Lib.hid (fun V (hV : Below w2.heap.size w2 V) => gwTris_any V (HG2.out.next hV))
          have HOp := Lib.hid (fun V (hV : Below w2.heap.size w2 V) => gwOpen_any V (HG2.out.next hV))
          clear HO HLe'
          refine (HVe.out _ (Below.refl _ _)).mono ?_
          rintro e v1 ⟨rfl, hb1⟩
          have HBv1 := Lib.hid hb1
          clear hb1
          go_wp2_with fail
          refine (HTr.out _ HBv1.out).mono ?_
          rintro e v2 ⟨A7, c7, rfl, _, hb2⟩
          have HBv2 := Lib.hid (new_call HBv1.out hb2)
          clear hb2
          go_wp2_with fail
          refine (HOp.out _ HBv2.out).mono ?_
          rintro e v3 ⟨rfl, hb3⟩
          have HBv3 := Lib.hid (new_call HBv2.out hb3)
          clear hb3
          go_wp2_with fail
          refine (HOp.out _ HBv3.out).mono ?_
          rintro e v4 ⟨rfl, hb4⟩
          have HBv4 := Lib.hid (new_call HBv3.out hb4)
          clear hb4
          go_wp2_with fail
          refine (HKn.out _ (new_call HB2.out HBv4.out)).mono ?_
          rintro e v5 ⟨rfl, hb5⟩
          have HBv5 := Lib.hid (new_call HBv4.out hb5)
          clear hb5
          go_wp2
          go_ret
          exact ⟨rfl, new_call HB2.out HBv5.out⟩
      · have ti : decide ((i : Int) < (n : Int)) = false := decide_eq_false (by omega)
        go_wp2_with (with_reducible fail)
        have HO := Lib.hid (open_few HG.out)
        have HLe' := Lib.hid HG.out.lens
        have q1 : decide ((0 : Int) ≤ (openG s : Int)) = true := decide_eq_true (by omega)
        have q2 : IntKind.wrap .i64 (3 * (s.T.length : Int)) = 3 * (s.T.length : Int) := by rw [IntKind.wrap_i64]; have := HLe'.out; omega
        have q3 : decide ((openG s : Int) ≤ 3 * (s.T.length : Int)) = true := decide_eq_true (by have := HO.out; omega)
        have q4 : ((s.N : Int) == (s.N : Int)) = true := beq_self_eq_true _
        have q5 : ((s.T.length : Int) == (s.T.length : Int)) = true := beq_self_eq_true _
        have HVe := Lib.hid (fun V (hV : Below wr.heap.size wr V) => gwVerts_any V (HG.out.next hV))
        have HTr := Lib.hid (fun V (hV : Below wr.heap.size wr V) => gwTris_any V (HG.out.next hV))
        have HOp := Lib.hid (fun V (hV : Below wr.heap.size wr V) => gwOpen_any V (HG.out.next hV))
        clear HO HLe'
        refine (HVe.out _ (Below.refl _ _)).mono ?_
        rintro e v1 ⟨rfl, hb1⟩
        have HBv1 := Lib.hid hb1
        clear hb1
        go_wp2_with fail
        refine (HTr.out _ HBv1.out).mono ?_
        rintro e v2 ⟨A7, c7, rfl, _, hb2⟩
        have HBv2 := Lib.hid (new_call HBv1.out hb2)
        clear hb2
        go_wp2_with fail
        refine (HOp.out _ HBv2.out).mono ?_
        rintro e v3 ⟨rfl, hb3⟩
        have HBv3 := Lib.hid (new_call HBv2.out hb3)
        clear hb3
        go_wp2_with fail
        refine (HOp.out _ HBv3.out).mono ?_
        rintro e v4 ⟨rfl, hb4⟩
        have HBv4 := Lib.hid (new_call HBv3.out hb4)
        clear hb4
        go_wp2_with fail
        refine (HKn.out _ (new_call HB.out HBv4.out)).mono ?_
        rintro e v5 ⟨rfl, hb5⟩
        have HBv5 := Lib.hid (new_call HBv4.out hb5)
        clear hb5
        go_wp2
        go_ret
        exact ⟨rfl, new_call HB.out HBv5.out⟩
  · have t1 : decide ((80 : Int) < (n : Int)) = true := decide_eq_true (by omega)
    have HK := Lib.hid (HKn.out W (Below.refl _ _))
    clear hl hi hbe hnw HKn
    go_enter Tryd.func8, Tryd.ntmps8
    go_wp2_with fail
    refine HK.out.mono ?_
    rintro e w4 ⟨rfl, hb4⟩
    have HB4 := Lib.hid hb4
    clear hb4
    go_wp2
    go_ret
    exact ⟨rfl, HB4.out⟩

set_option maxRecDepth 100000 in
theorem reads (os : Os) {H : Type} (enc : TypeId × Value → H) : ∃ places, DataW.whole enc Tryd.prog ((laidWorldG os).forCall (fun _ _ => 0) ⟨#[], #[.slice none 0 0], []⟩).memory Tryd.f8.params.toList Rows.growCountsSpec.vars false (#[.slice none 0 0] : Array Value).toList 8 = some ([.nil], [], places) := ⟨[], by kernel_rfl⟩
set_option maxRecDepth 100000 in
theorem lifted (os : Os) (started : os.Started) (H : Type) (enc : TypeId × Value → H) (F : Stop.Interp) :
    ReturnsInHanded {} Tryd.checked os 8 .any ((OpenSpec.ofChange Rows.growCountsSpec).preRow enc Tryd.prog Tryd.f8 Rows.growCountsRow.domain false Rows.growCountsRow.laid) (((OpenSpec.ofChange Rows.growCountsSpec).at F).post enc Tryd.prog Tryd.f8 false true false false) := by
  obtain ⟨places, hx⟩ := reads os enc
  refine returnsInHanded_of_row (C := Tryd.checked) (s := OpenSpec.ofChange Rows.growCountsSpec) Tryd.own started (by kernel_rfl) Tryd.func8
    (witness_row_at (enc := enc) (C := Tryd.checked) false (laidWorldG os) #[.slice none 0 0] rfl (by kernel_rfl) (by kernel_rfl) (by kernel_rfl)
      (OpenSpec.preRow_of_cond 8 hx (by kernel_rfl) (fun k hk => by cases hk) (by kernel_rfl) (laidMet_of_run' 8 (by kernel_rfl) (by kernel_rfl)))) ?_
  intro W base args ds gs before hval0 hW _ _ hsz0 hL _ _
  obtain ⟨hbe, hnw⟩ : BehW W ∧ NewW W := tabs_of_laid hL
  have hval : ∀ (j : Nat) t v, Tryd.f8.params[j]? = some t → args[j]? = some v → Value.okWide Tryd.prog W .any base t v := hval0
  have hW' := hW
  obtain ⟨p, q, hA0, hV, rfl, _, _⟩ := hW
  have hA : DataW.TrodAll enc Tryd.prog W 0 (fun _ => true) true Tryd.f8.params.toList args.toList ds p := hA0
  rw [Tryd.params8] at hA hval
  obtain ⟨v0, d0, rfl, rfl, h0⟩ := trodAll_one hA
  obtain ⟨rfl, rfl⟩ := trodVars_none hV
  obtain ⟨A0, n0, c0, bs0, rfl, hh0, hb0, hn0⟩ := open_steps (hval 0 22 v0 rfl rfl) h0
  exact (walk A0 n0 c0 bs0 W hbe hnw hh0 hb0 hn0).mono fun e W' he =>
    law_post rfl rfl (by rw [Tryd.params8]; intro t ht; simp at ht; subst ht; exact ⟨by kernel_rfl, of_decide_eq_true (by kernel_rfl)⟩) hW' rfl he

theorem said : Rows.GrowCountsSaid :=
  OpenClaim.holds_of_cond 8 Tryd.f8 rfl rfl rfl rfl rfl rfl rfl ⟨rfl, rfl, rfl, rfl, rfl⟩ rfl rfl rfl rfl rfl (by kernel_rfl) Tryd.func8 (by kernel_rfl)
    (of_decide_eq_true (by kernel_rfl)) (by unfold Func.isWrapper; first | (rw [if_pos (by decide +kernel)]; kernel_rfl) | (rw [if_neg (by decide +kernel)]; exact ⟨rfl, rfl⟩))
    (fun os started H enc _ F => by rw [OpenClaim.pre_eq_preRow]; exact lifted os started H enc F)
theorem plain (f : FuncId) (fn : Func) (hf : Tryd.pinned.checked.prog.funcNamed "lapidary/lapidarylaw12.GrowCounts" = some f) (hfn : Tryd.pinned.checked.prog.funcs[f]? = some fn) :
    false = Tryd.pinned.checked.prog.looks [] ∧ ∀ (j : Nat) t, fn.params[j]? = some t → Tryd.pinned.checked.prog.wantsStandIn t = false := by
  obtain rfl : f = 8 := Option.some.inj ((show Tryd.prog.funcNamed "lapidary/lapidarylaw12.GrowCounts" = some 8 by kernel_rfl).symm.trans hf) |>.symm
  obtain rfl : fn = Tryd.f8 := (Option.some.inj (Tryd.func8.symm.trans hfn)).symm
  refine ⟨by kernel_rfl, fun j t ht => ?_⟩
  rw [Tryd.params8] at ht
  have hm : t ∈ [22] := by simpa using Array.mem_of_getElem? ht
  have hall : ([22].all fun u => !Tryd.prog.wantsStandIn u) = true := by kernel_rfl
  exact (show Tryd.prog.wantsStandIn t = false by simpa using List.all_eq_true.1 hall t hm)
theorem proved : Rows.GrowCountsCardSaid :=
  Claim7.holds_tied_plain_at .later [] _ _ _ _ said (fun _ h => by cases h) (by kernel_rfl) (fun _ h => by cases h) growCounts_row_tie rfl ⟨rfl, rfl⟩ (by kernel_rfl) rfl plain (by kernel_rfl)
end Go.Proofs.YthjmojglcfmkmaaDoor.growCounts
