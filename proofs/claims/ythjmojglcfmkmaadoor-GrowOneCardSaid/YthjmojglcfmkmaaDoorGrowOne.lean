/- Many steps at once are as if one behind the other; what was wrong is told again, and nothing more is done: whatever steps come in, GrowOne answers true. -/
import Derived.Test.YthjmojglcfmkmaaDoorKnown12
import Derived.Test.YthjmojglcfmkmaaDoorGrowRefE
import Derived.Test.YthjmojglcfmkmaaDoorLawSteps
import Derived.Test.YthjmojglcfmkmaaDoorLawLaidG
import Derived.Deep.RegionHeld3
namespace Go.Proofs.YthjmojglcfmkmaaDoor.growOne
open Go.ChangeShapes Go.WideShapes Go.ChangeAt Go.RowKit

theorem grow_next {l : List (Int × Int)} {i : Nat} {s : GS} (h : growG (l.take i) = s) (hi : i < l.length) : growG (l.take (i + 1)) = stepG s l[i] := by
  rw [List.take_succ_eq_append_getElem hi, growG_next, h]
theorem grow_small {l : List (Int × Int)} {i : Nat} {s : GS} (h : growG (l.take i) = s) : s.B.length ≤ i := by
  have := (grow_lens (l.take i)).2
  rw [h, List.length_take] at this
  omega
set_option maxRecDepth 100000 in
set_option maxHeartbeats 6400000 in
theorem walk (A : Option Addr) (n c : Nat) (l : List (Int × Int)) (B : Option Addr) (m d : Nat) (q : List (Int × Int)) (W : World) (hbe : BehW W) (hnw : NewW W) (hl : HasK 2 W A n c (e2Cells l)) (hi : ∀ x ∈ l, i64D x) (hN : n ≤ 140737488355328) (hq : HasK 2 W B m d (e2Cells q)) (hj : ∀ x ∈ q, i64D x) (hM : m ≤ 140737488355328) : Calls Tryd.prog 7 #[.slice A n c, .slice B m d] W fun e w' => e = .returned (.bool true) ∧ Below W.heap.size W w' := by
  have HKn := Lib.hid (fun w (hW : Below W.heap.size W w) => known12 w (hbe.kept hW) (hnw.kept hW))
  have t0 : IntKind.wrap .i64 ((n : Int) + (m : Int)) = (n : Int) + (m : Int) := by rw [IntKind.wrap_i64]; omega
  by_cases hn : n + m ≤ 80
  · have t1 : decide ((80 : Int) < (n : Int) + (m : Int)) = false := decide_eq_false (by omega)
    have HLn : Hid (l.length = n) := by have := hl.len; rw [e2Cells_len] at this; show _ = _; omega
    have HL := Lib.hid hl
    have HQ := Lib.hid hq
    have HI : Hid (∀ d ∈ l, in64 d) := fun d hd => ⟨WalkArith.wf_i64 (hi d hd).1, WalkArith.wf_i64 (hi d hd).2⟩
    have HJ : Hid (∀ d ∈ q, in64 d) := fun d hd => ⟨WalkArith.wf_i64 (hj d hd).1, WalkArith.wf_i64 (hj d hd).2⟩
    have HNw := Lib.hid hnw
    have hn1 : n ≤ 80 := by omega
    have hm1 : m ≤ 80 := by omega
    have HGl : Hid (growG (l.take n) = growG l) := by show _ = _; rw [List.take_of_length_le (Nat.le_of_eq HLn.out)]
    clear hl hi hbe hnw hN hM hq hj
    go_enter Tryd.func7, Tryd.ntmps7
    go_wp2_with fail
    refine (gwNew_any _).mono ?_
    rintro e w1 ⟨rfl, hb1, F1, hg1, hf1⟩
    have HG1 := Lib.hid hg1
    have HB1 := Lib.hid hb1
    clear hb1 hg1
    go_wp2_with fail
    refine (gwNew_any _).mono ?_
    rintro e w2 ⟨rfl, hb2, X1, hx2, hx1⟩
    have HG2 := Lib.hid (HG1.out.next hb2)
    have HX2 := Lib.hid hx2
    have HB2 := Lib.hid (new_call HB1.out hb2)
    have HF1 : Hid (∀ k, F1 k → W.heap.size ≤ k) := fun k hk => (hf1 k hk).1
    have HX1 : Hid (∀ k, X1 k → W.heap.size ≤ k) := fun k hk => Nat.le_trans HB1.out.size (hx1 k hk).1
    have HA1 : Hid (∀ k, F1 k → ¬ X1 k) := fun k hk hx => by have h1 := hf1 k hk; have h2 := hx1 k hx; omega
    clear hb2 hx2 HG1 HB1 hf1 hx1
    generalize w1.heap.size = H at *
    have HBt2 : Hid (∀ V, Chg F1 w2 V → Below W.heap.size W V) := fun V hc => HB2.out.trans (hc.below HF1.out HB2.out.size)
    have HSa := Lib.hid (gwSteps_any F1 W.heap.size newG A n c l w2 HG2.out (fun V hV => HL.out.kept (HBt2.out V hV)) HI.out (fun V hV => HNw.out.kept (HBt2.out V hV)) (by omega) (Nat.zero_le _))
    go_wp2_with fail
    refine HSa.out.mono ?_
    rintro e w3 ⟨rfl, hc3, F3, hg3, hf3⟩
    have HG3 : Hid (GwF w3 F3 W.heap.size (growG l)) := hg3
    have HX3 := Lib.hid (HX2.out.chg hc3 (fun k hx hf => HA1.out k hf hx))
    have HB3 := Lib.hid (HBt2.out w3 hc3)
    have HA3 : Hid (∀ k, F3 k → ¬ X1 k) := fun k hf hx => (hf3 k hf).elim (fun e => HA1.out k e hx) (fun e => by have := HX2.out.lt k hx; omega)
    have HF3 : Hid (∀ k, F3 k → W.heap.size ≤ k) := fun k hk => (hf3 k hk).elim (HF1.out k) (fun e => Nat.le_trans HB2.out.size e)
    clear hc3 hg3 hf3 HSa HBt2 HG2 HX2 HB2 HF1 HA1
    rw [show (l.foldl stepG newG).E = (growG l).E from rfl]
    go_wp2
    go_loopg [8, 9] n (fun k s8 s9 wx => ∃ (i : Nat) (X : Nat → Prop) (s : GS), i + k = n ∧ s8 = .int .i64 s.E ∧ s9 = .int .i64 (i : Int) ∧ Hid (growG (l.take i) = s) ∧ Hid (GwF wx F3 W.heap.size (growG l)) ∧ Hid (GwF wx X H s) ∧ Hid (∀ k, F3 k → ¬ X k) ∧ Hid (∀ k, X k → W.heap.size ≤ k) ∧ Hid (Below W.heap.size W wx))
    case atStart => exact ⟨0, X1, newG, by omega, rfl, rfl, rfl, HG3, HX3, HA3, HX1, HB3⟩
    case round =>
      obtain ⟨i, X, s, hik, rfl, rfl, HFo, HG, HX, HA, HXs, HB⟩ := hrel
      clear HG3 HX3 HA3 HX1 HB3
      by_cases hi : i < n
      · have ti : decide ((i : Int) < (n : Int)) = true := decide_eq_true (by omega)
        have i2 : (i : Int) < (n : Int) := by omega
        have hil : i < l.length := by rw [HLn.out]; exact hi
        have HNx := Lib.hid (grow_next HFo.out hil)
        have HSm := Lib.hid (grow_small HFo.out)
        have HBt : Hid (∀ V, Chg X wr V → Below W.heap.size W V) := fun V hc => HB.out.trans (hc.below HXs.out HB.out.size)
        obtain ⟨b, off, rfl, _, hc⟩ := (HL.out.kept HB.out).spot (by omega)
        obtain ⟨z0, z1⟩ := e2Cells_at hil
        have c0 := hc _ _ z0
        have c1 := hc _ _ z1
        rw [← Nat.add_assoc] at c1
        have HIn := Lib.hid (HI.out _ (List.getElem_mem hil))
        generalize l[i] = e at *
        obtain ⟨k, v⟩ := e
        simp only at c0 c1
        have HSt := Lib.hid (gwStep1_any X H s k v wr HX.out HIn.out (fun V hV => HNw.out.kept (HBt.out V hV)) (by have := HSm.out; omega))
        have m1 : IntKind.wrap .i64 ((i : Int) + 1) = (i : Int) + 1 := by rw [IntKind.wrap_i64]; omega
        clear hc z0 z1 HSm
        go_wp2_with fail
        refine HSt.out.mono ?_
        rintro e w4 ⟨rfl, hc4, X4, hx4, hf4⟩
        have HG4 := Lib.hid (HG.out.chg hc4 HA.out)
        have HX4 := Lib.hid hx4
        have HB4 := Lib.hid (HBt.out w4 hc4)
        have HA4 : Hid (∀ k, F3 k → ¬ X4 k) := fun k hf hx => (hf4 k hx).elim (HA.out k hf) (fun e => by have := HG.out.lt k hf; omega)
        have HXs4 : Hid (∀ k, X4 k → W.heap.size ≤ k) := fun k hk => (hf4 k hk).elim (HXs.out k) (fun e => Nat.le_trans HB.out.size e)
        clear hc4 hx4 hf4 HSt HBt HG HX HA HXs HB c0 c1
        go_wp2
        go_roundg (n - (i + 1))
        case measure => omega
        case rel => exact ⟨i + 1, X4, stepG s (k, v), by omega, rfl, by go_num, HNx, HG4, HX4, HA4, HXs4, HB4⟩
      · have ti : decide ((i : Int) < (n : Int)) = false := decide_eq_false (by omega)
        obtain rfl : i = n := by omega
        have hss : s = growG l := by rw [← HFo.out, HGl.out]
        subst hss
        clear HFo
        have HSb : Hid ((growG l).B.length ≤ 80) := by have := (grow_lens l).2; have := HLn.out; show _ ≤ _; omega
        have HTo := Lib.hid (fun (h : (growG l).E ≠ 0) => grow_told (l := q) h)
        clear HGl HLn HI HL
        generalize growG l = s at *
        have HLe := Lib.hid HG.out.lens
        have q1 : (s.E != s.E) = false := bne_self_eq_false _
        have q2 : ((s.N : Int) != (s.N : Int)) = false := bne_self_eq_false _
        have q3 : ((openG s : Int) != (openG s : Int)) = false := bne_self_eq_false _
        have HVg := Lib.hid (fun V (hV : Below wr.heap.size wr V) => gwVerts_any V (HG.out.next hV))
        have HVh := Lib.hid (fun V (hV : Below wr.heap.size wr V) => gwVerts_any V (HX.out.next hV))
        have HTg := Lib.hid (fun V (hV : Below wr.heap.size wr V) => gwTris_any V (HG.out.next hV))
        have HTh := Lib.hid (fun V (hV : Below wr.heap.size wr V) => gwTris_any V (HX.out.next hV))
        have HOg := Lib.hid (fun V (hV : Below wr.heap.size wr V) => gwOpen_any V (HG.out.next hV))
        have HOh := Lib.hid (fun V (hV : Below wr.heap.size wr V) => gwOpen_any V (HX.out.next hV))
        have HSa : Hid (∀ V A7 c7 A8 c8, HasK 3 V A7 s.T.length c7 (p3Cells s.T) → HasK 3 V A8 s.T.length c8 (p3Cells s.T) → Calls Tryd.prog 14 #[.slice A7 s.T.length c7, .slice A8 s.T.length c8] V fun e w' => e = .returned (.bool true) ∧ Below V.heap.size V w') := fun V A7 c7 A8 c8 h7 h8 => by
          have := ref12Same_any A7 _ c7 s.T A8 _ c8 s.T V h7 h8 (by have := HLe.out; omega) (by have := HLe.out; omega)
          rwa [decide_eq_true rfl] at this
        go_wp2_with fail
        refine (HVg.out _ (Below.refl _ _)).mono ?_
        rintro e v1 ⟨rfl, hb1⟩
        have HBv1 := Lib.hid hb1
        clear hb1
        go_wp2_with fail
        refine (HVh.out _ HBv1.out).mono ?_
        rintro e v2 ⟨rfl, hb2⟩
        have HBv2 := Lib.hid (new_call HBv1.out hb2)
        clear hb2
        go_wp2_with fail
        refine (HTg.out _ HBv2.out).mono ?_
        rintro e v3 ⟨A7, c7, rfl, hh7, hb3⟩
        have HBv3 := Lib.hid (new_call HBv2.out hb3)
        have HH7 := Lib.hid hh7
        clear hb3 hh7
        go_wp2_with fail
        refine (HTh.out _ HBv3.out).mono ?_
        rintro e v4 ⟨A8, c8, rfl, hh8, hb4⟩
        have HBv4 := Lib.hid (new_call HBv3.out hb4)
        have HH8 := Lib.hid hh8
        have HH7b := Lib.hid (HH7.out.kept hb4)
        clear hb4 hh8
        go_wp2_with fail
        refine (HSa.out _ _ _ _ _ HH7b.out HH8.out).mono ?_
        rintro e v5 ⟨rfl, hb5⟩
        have HBv5 := Lib.hid (new_call HBv4.out hb5)
        clear hb5
        go_wp2_with fail
        refine (HOg.out _ HBv5.out).mono ?_
        rintro e v6 ⟨rfl, hb6⟩
        have HBv6 := Lib.hid (new_call HBv5.out hb6)
        clear hb6
        go_wp2_with fail
        refine (HOh.out _ HBv6.out).mono ?_
        rintro e v7 ⟨rfl, hb7⟩
        have HBv7 := Lib.hid (new_call HBv6.out hb7)
        clear hb7
        go_wp2_with fail
        refine (HVg.out _ HBv7.out).mono ?_
        rintro e v8 ⟨rfl, hb8⟩
        have HBv8 := Lib.hid (new_call HBv7.out hb8)
        have HG8 := Lib.hid (HG.out.next HBv8.out)
        have HX8 := Lib.hid (HX.out.next HBv8.out)
        have HB8 := Lib.hid (new_call HB.out HBv8.out)
        clear hb8 HVg HVh HTg HTh HOg HOh HH7 HH7b HH8 HBv1 HBv2 HBv3 HBv4 HBv5 HBv6 HBv7 HBv8 HG HX HB
        have HBt8 : Hid (∀ V, Chg F3 v8 V → Below W.heap.size W V) := fun V hc => HB8.out.trans (hc.below HF3.out HB8.out.size)
        have HSb8 := Lib.hid (gwSteps_any F3 W.heap.size s B m d q v8 HG8.out (fun V hV => HQ.out.kept (HBt8.out V hV)) HJ.out (fun V hV => HNw.out.kept (HBt8.out V hV)) (by omega) (by have := HSb.out; omega))
        go_wp2_with fail
        refine HSb8.out.mono ?_
        rintro e w9 ⟨rfl, hc9, F9, hg9, hf9⟩
        have HG9 := Lib.hid hg9
        have HX9 := Lib.hid (HX8.out.chg hc9 (fun k hx hf => HA.out k hf hx))
        have HB9 := Lib.hid (HBt8.out w9 hc9)
        clear hc9 hg9 hf9 HSb8 HBt8 HG8 HX8 HB8
        by_cases hE : s.E = 0
        · have tE : (s.E != 0) = false := by rw [hE]; rfl
          clear hE
          go_wp2_with fail
          refine (HKn.out _ HB9.out).mono ?_
          rintro e w4 ⟨rfl, hb4⟩
          have HB4 := Lib.hid (new_call HB9.out hb4)
          clear hb4
          go_wp2
          go_ret
          exact ⟨rfl, HB4.out⟩
        · have tE : (s.E != 0) = true := bne_iff_ne.2 hE
          rw [HTo.out hE] at HG9 ⊢
          clear hE
          have HVg := Lib.hid (fun V (hV : Below w9.heap.size w9 V) => gwVerts_any V (HG9.out.next hV))
          have HTg := Lib.hid (fun V (hV : Below w9.heap.size w9 V) => gwTris_any V (HG9.out.next hV))
          have HTh := Lib.hid (fun V (hV : Below w9.heap.size w9 V) => gwTris_any V (HX9.out.next hV))
          go_wp2_with fail
          refine (HVg.out _ (Below.refl _ _)).mono ?_
          rintro e v1 ⟨rfl, hb1⟩
          have HBv1 := Lib.hid hb1
          clear hb1
          go_wp2_with fail
          refine (HTg.out _ HBv1.out).mono ?_
          rintro e v3 ⟨A7, c7, rfl, hh7, hb3⟩
          have HBv3 := Lib.hid (new_call HBv1.out hb3)
          have HH7 := Lib.hid hh7
          clear hb3 hh7
          go_wp2_with fail
          refine (HTh.out _ HBv3.out).mono ?_
          rintro e v4 ⟨A8, c8, rfl, hh8, hb4⟩
          have HBv4 := Lib.hid (new_call HBv3.out hb4)
          have HH8 := Lib.hid hh8
          have HH7b := Lib.hid (HH7.out.kept hb4)
          clear hb4 hh8
          go_wp2_with fail
          refine (HSa.out _ _ _ _ _ HH7b.out HH8.out).mono ?_
          rintro e v5 ⟨rfl, hb5⟩
          have HBv5 := Lib.hid (new_call HB9.out (new_call HBv4.out hb5))
          clear hb5
          go_wp2_with fail
          refine (HKn.out _ HBv5.out).mono ?_
          rintro e w4 ⟨rfl, hb4⟩
          have HB4 := Lib.hid (new_call HBv5.out hb4)
          clear hb4
          go_wp2
          go_ret
          exact ⟨rfl, HB4.out⟩
  · have t1 : decide ((80 : Int) < (n : Int) + (m : Int)) = true := decide_eq_true (by omega)
    have HK := Lib.hid (HKn.out W (Below.refl _ _))
    clear hl hi hbe hnw HKn hq hj
    go_enter Tryd.func7, Tryd.ntmps7
    go_wp2_with fail
    refine HK.out.mono ?_
    rintro e w4 ⟨rfl, hb4⟩
    have HB4 := Lib.hid hb4
    clear hb4
    go_wp2
    go_ret
    exact ⟨rfl, HB4.out⟩

set_option maxRecDepth 100000 in
theorem reads (os : Os) {H : Type} (enc : TypeId × Value → H) : ∃ places, DataW.whole enc Tryd.prog ((laidWorldG os).forCall (fun _ _ => 0) ⟨#[], #[.slice none 0 0, .slice none 0 0], []⟩).memory Tryd.f7.params.toList Rows.growOneSpec.vars false (#[.slice none 0 0, .slice none 0 0] : Array Value).toList 8 = some ([.nil, .nil], [], places) := ⟨[], by kernel_rfl⟩
set_option maxRecDepth 100000 in
theorem lifted (os : Os) (started : os.Started) (H : Type) (enc : TypeId × Value → H) (F : Stop.Interp) :
    ReturnsInHanded {} Tryd.checked os 7 .any ((OpenSpec.ofChange Rows.growOneSpec).preRow enc Tryd.prog Tryd.f7 Rows.growOneRow.domain false Rows.growOneRow.laid) (((OpenSpec.ofChange Rows.growOneSpec).at F).post enc Tryd.prog Tryd.f7 false true false false) := by
  obtain ⟨places, hx⟩ := reads os enc
  refine returnsInHanded_of_row (C := Tryd.checked) (s := OpenSpec.ofChange Rows.growOneSpec) Tryd.own started (by kernel_rfl) Tryd.func7
    (witness_row_at (enc := enc) (C := Tryd.checked) false (laidWorldG os) #[.slice none 0 0, .slice none 0 0] rfl (by kernel_rfl) (by kernel_rfl) (by kernel_rfl)
      (OpenSpec.preRow_of_cond 8 hx (by kernel_rfl) (fun k hk => by cases hk) (by kernel_rfl) (laidMet_of_run' 8 (by kernel_rfl) (by kernel_rfl)))) ?_
  intro W base args ds gs before hval0 hW _ _ hsz0 hL _ _
  obtain ⟨hbe, hnw⟩ : BehW W ∧ NewW W := tabs_of_laid hL
  have hval : ∀ (j : Nat) t v, Tryd.f7.params[j]? = some t → args[j]? = some v → Value.okWide Tryd.prog W .any base t v := hval0
  have hW' := hW
  obtain ⟨p, q, hA0, hV, rfl, _, _⟩ := hW
  have hA : DataW.TrodAll enc Tryd.prog W 0 (fun _ => true) true Tryd.f7.params.toList args.toList ds p := hA0
  have hsz : (DataW.weightsEach Tryd.prog (Tryd.f7.params.toList ++ Rows.growOneSpec.plain.varTypes Tryd.prog) (ds ++ gs)).all (· ≤ reachBytes) = true := hsz0
  rw [Tryd.params7] at hA hval hsz
  obtain ⟨v0, v1, d0, d1, p0, p1, rfl, rfl, rfl, h0, h1⟩ := trodAll_two hA
  obtain ⟨rfl, rfl⟩ := trodVars_none hV
  obtain ⟨A0, n0, c0, bs0, rfl, hh0, hb0, hn0⟩ := open_steps_sized (hval 0 22 v0 rfl rfl) h0 (fun m hm => of_decide_eq_true (List.all_eq_true.1 hsz m (DataW.weights_mem_each (j := 0) rfl rfl m hm)))
  obtain ⟨A1, n1, c1, bs1, rfl, hh1, hb1, hn1⟩ := open_steps_sized (hval 1 22 v1 rfl rfl) h1 (fun m hm => of_decide_eq_true (List.all_eq_true.1 hsz m (DataW.weights_mem_each (j := 1) rfl rfl m hm)))
  exact (walk A0 n0 c0 bs0 A1 n1 c1 bs1 W hbe hnw hh0 hb0 hn0 hh1 hb1 hn1).mono fun e W' he =>
    law_post rfl rfl (by rw [Tryd.params7]; intro t ht; simp at ht; subst ht; exact ⟨by kernel_rfl, of_decide_eq_true (by kernel_rfl)⟩) hW' rfl he

theorem said : Rows.GrowOneSaid :=
  OpenClaim.holds_of_cond 7 Tryd.f7 rfl rfl rfl rfl rfl rfl rfl ⟨rfl, rfl, rfl, rfl, rfl⟩ rfl rfl rfl rfl rfl (by kernel_rfl) Tryd.func7 (by kernel_rfl)
    (of_decide_eq_true (by kernel_rfl)) (by unfold Func.isWrapper; first | (rw [if_pos (by decide +kernel)]; kernel_rfl) | (rw [if_neg (by decide +kernel)]; exact ⟨rfl, rfl⟩))
    (fun os started H enc _ F => by rw [OpenClaim.pre_eq_preRow]; exact lifted os started H enc F)
theorem plain (f : FuncId) (fn : Func) (hf : Tryd.pinned.checked.prog.funcNamed "lapidary/lapidarylaw12.GrowOne" = some f) (hfn : Tryd.pinned.checked.prog.funcs[f]? = some fn) :
    false = Tryd.pinned.checked.prog.looks [] ∧ ∀ (j : Nat) t, fn.params[j]? = some t → Tryd.pinned.checked.prog.wantsStandIn t = false := by
  obtain rfl : f = 7 := Option.some.inj ((show Tryd.prog.funcNamed "lapidary/lapidarylaw12.GrowOne" = some 7 by kernel_rfl).symm.trans hf) |>.symm
  obtain rfl : fn = Tryd.f7 := (Option.some.inj (Tryd.func7.symm.trans hfn)).symm
  refine ⟨by kernel_rfl, fun j t ht => ?_⟩
  rw [Tryd.params7] at ht
  have hm : t ∈ [22] := by simpa using Array.mem_of_getElem? ht
  have hall : ([22].all fun u => !Tryd.prog.wantsStandIn u) = true := by kernel_rfl
  exact (show Tryd.prog.wantsStandIn t = false by simpa using List.all_eq_true.1 hall t hm)
theorem proved : Rows.GrowOneCardSaid :=
  Claim7.holds_tied_plain_at .later [] _ _ _ _ said (fun _ h => by cases h) (by kernel_rfl) (fun _ h => by cases h) growOne_row_tie rfl ⟨rfl, rfl⟩ (by kernel_rfl) rfl plain (by kernel_rfl)
end Go.Proofs.YthjmojglcfmkmaaDoor.growOne
