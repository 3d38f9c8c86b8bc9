/- Whether any two are the same, and their copies, is what the chapter says, and a copy is its owner's: whatever meshes come in, MeshSame answers true. -/
import Derived.Test.YtckjmnbglbegmaaDoorKnown10
import Derived.Test.YtckjmnbglbegmaaDoorLawMesh
import Derived.Test.YtckjmnbglbegmaaDoorLawLaid
import Derived.Test.YtckjmnbglbegmaaDoorMeshOwn
namespace Go.Proofs.YtckjmnbglbegmaaDoor.meshSame
open Go.ChangeShapes Go.WideShapes Go.ChangeAt Go.RowKit

set_option maxRecDepth 100000 in
set_option maxHeartbeats 4000000 in
theorem walk (A : Option Addr) (n c : Nat) (P : List P3) (B : Option Addr) (m d : Nat) (T : List P3) (A' : Option Addr) (n' c' : Nat) (P' : List P3) (B' : Option Addr) (m' d' : Nat) (T' : List P3) (W : World) (hbe : BehW W) (hp : HasK 3 W A n c (p3Cells P)) (ht : HasK 3 W B m d (p3Cells T)) (_ : ∀ x ∈ P, i64T x) (_ : ∀ x ∈ T, i64T x) (_ : n ≤ 9223372036854775807) (_ : m ≤ 9223372036854775807) (hp' : HasK 3 W A' n' c' (p3Cells P')) (ht' : HasK 3 W B' m' d' (p3Cells T')) (_ : ∀ x ∈ P', i64T x) (_ : ∀ x ∈ T', i64T x) (_ : n' ≤ 9223372036854775807) (_ : m' ≤ 9223372036854775807) : Calls Tryd.prog 7 #[.agg #[.slice A n c, .slice B m d], .agg #[.slice A' n' c', .slice B' m' d']] W fun e w' => e = .returned (.bool true) ∧ Below W.heap.size W w' := by
  have HK0 := Lib.hid (MeshTwo.new W (.slice A n c) (.slice B m d) (.slice A' n' c') (.slice B' m' d'))
  have m0 := HK0.out.b0.cell 0
  have m1 := HK0.out.b0.cell 1
  have m2 := HK0.out.b1.cell 0
  have m3 := HK0.out.b1.cell 1
  have HKn := Lib.hid (fun w (hW : Below W.heap.size W w) => known10 w (hbe.kept hW))
  obtain ⟨la, hla⟩ : ∃ r, (decide (40 < n) || decide (60 < m)) = r := ⟨_, rfl⟩
  obtain ⟨lb, hlb⟩ : ∃ r, (decide (40 < n') || decide (60 < m')) = r := ⟨_, rfl⟩
  have HLa := Lib.hid (fun w => lawlong_any A n c B m d la w hla)
  have HLb := Lib.hid (fun w => lawlong_any A' n' c' B' m' d' lb w hlb)
  cases la with
  | true =>
    clear hp ht hp' ht' hla hlb
    go_enter Tryd.func7, Tryd.ntmps7
    go_wp2_with fail
    refine (HLa.out _).mono ?_
    rintro e w1 ⟨rfl, hb1⟩
    go_wp2_with fail
    refine (HKn.out _ (HK0.out.next hb1).bel).mono ?_
    rintro e w2 ⟨rfl, hb2⟩
    go_wp2
    go_ret
    exact ⟨rfl, new_call (HK0.out.next hb1).bel hb2⟩
  | false =>
    cases lb with
    | true =>
      clear hp ht hp' ht' hla hlb
      go_enter Tryd.func7, Tryd.ntmps7
      go_wp2_with fail
      refine (HLa.out _).mono ?_
      rintro e w1 ⟨rfl, hb1⟩
      have HK1 := Lib.hid (HK0.out.next hb1)
      clear hb1 HK0 m0 m1 m2 m3
      have m2 := HK1.out.b1.cell 0
      have m3 := HK1.out.b1.cell 1
      go_wp2_with fail
      refine (HLb.out _).mono ?_
      rintro e w2 ⟨rfl, hb2⟩
      have HK2 := Lib.hid (HK1.out.next hb2)
      go_wp2_with fail
      refine (HKn.out _ HK2.out.bel).mono ?_
      rintro e w3 ⟨rfl, hb3⟩
      go_wp2
      go_ret
      exact ⟨rfl, new_call HK2.out.bel hb3⟩
    | false =>
      have hl : n ≤ 40 ∧ m ≤ 60 ∧ n' ≤ 40 ∧ m' ≤ 60 := by
        rw [Bool.or_eq_false_iff, decide_eq_false_iff_not, decide_eq_false_iff_not] at hla hlb
        omega
      have HTm : Hid (T.length = m) := by have := ht.len; rw [p3Cells_len] at this; show _ = _; omega
      have HPn : Hid (P.length = n) := by have := hp.len; rw [p3Cells_len] at this; show _ = _; omega
      have HSm := Lib.hid (fun w (hW : Below W.heap.size W w) => meshSame_any A n c P B m d T A' n' c' P' B' m' d' T' w (hp.kept hW) (ht.kept hW) (hp'.kept hW) (ht'.kept hW) (by omega) (by omega) (by omega) (by omega))
      have HRs := Lib.hid (fun w (hW : Below W.heap.size W w) => ref10Same_any A n c P B m d T A' n' c' P' B' m' d' T' w (hp.kept hW) (ht.kept hW) (hp'.kept hW) (ht'.kept hW) (by omega) (by omega) (by omega) (by omega))
      have HSs : Hid (∀ w, Below W.heap.size W w → Calls Tryd.prog 25 #[.agg #[.slice A n c, .slice B m d], .agg #[.slice A n c, .slice B m d]] w fun e w' => e = .returned (.bool true) ∧ Below w.heap.size w w') := fun w hW => by
        have := meshSame_any A n c P B m d T A n c P B m d T w (hp.kept hW) (ht.kept hW) (hp.kept hW) (ht.kept hW) (by omega) (by omega) (by omega) (by omega)
        rw [decide_eq_true ⟨rfl, rfl⟩] at this
        exact this
      have HCp := Lib.hid (fun w (hW : Below W.heap.size W w) => meshCopy_any A n c P B m d T w (hp.kept hW) (ht.kept hW) (by omega) (by omega))
      have HRc : Hid (∀ w A9 c9 B9 d9, Below W.heap.size W w → HasK 3 w A9 n c9 (p3Cells P) → HasK 3 w B9 m d9 (p3Cells T) → Calls Tryd.prog 27 #[.agg #[.slice A9 n c9, .slice B9 m d9], .agg #[.slice A n c, .slice B m d]] w fun e w' => e = .returned (.bool true) ∧ Below w.heap.size w w') := fun w A9 c9 B9 d9 hW h1 h2 => by
        have := ref10Same_any A9 n c9 P B9 m d9 T A n c P B m d T w h1 h2 (hp.kept hW) (ht.kept hW) (by omega) (by omega) (by omega) (by omega)
        rw [decide_eq_true ⟨rfl, rfl⟩] at this
        exact this
      generalize decide (P = P' ∧ T = T') = s at *
      have hm60 := hl.2.1
      clear hp ht hp' ht' hla hlb hl
      go_enter Tryd.func7, Tryd.ntmps7
      go_wp2_with fail
      refine (HLa.out _).mono ?_
      rintro e w1 ⟨rfl, hb1⟩
      have HK1 := Lib.hid (HK0.out.next hb1)
      clear hb1 HK0 m0 m1 m2 m3
      have m2 := HK1.out.b1.cell 0
      have m3 := HK1.out.b1.cell 1
      go_wp2_with fail
      refine (HLb.out _).mono ?_
      rintro e w2 ⟨rfl, hb2⟩
      have HK2 := Lib.hid (HK1.out.next hb2)
      clear hb2 HK1 m2 m3
      have m0 := HK2.out.b0.cell 0
      have m1 := HK2.out.b0.cell 1
      have m2 := HK2.out.b1.cell 0
      have m3 := HK2.out.b1.cell 1
      go_wp2_with fail
      refine (HSm.out _ HK2.out.bel).mono ?_
      rintro e w3 ⟨rfl, hb3⟩
      have HK3 := Lib.hid (HK2.out.next hb3)
      clear hb3 HK2 m0 m1 m2 m3
      have m0 := HK3.out.b0.cell 0
      have m1 := HK3.out.b0.cell 1
      go_wp2_with fail
      refine (HCp.out _ HK3.out.bel).mono ?_
      rintro e w4 ⟨A9, c9, B9, d9, rfl, ho1, ho2, hb4, _⟩
      rw [HPn.out] at ho1
      rw [HTm.out] at ho2
      rw [HPn.out, HTm.out]
      have HK4 : Hid (MeshTwo W (.slice A n c) (.slice B m d) (.slice A' n' c') (.slice B' m' d') (w4.alloc (.cells #[.slice A9 n c9, .slice B9 m d9] 25))) := (HK3.out.next hb4).next (new_alloc (Below.refl _ _) _)
      have HC4 := Lib.hid (Blk.new w4 25 #[.slice A9 n c9, .slice B9 m d9])
      have HO4 : Hid (OwnK 3 (w4.alloc (.cells #[.slice A9 n c9, .slice B9 m d9] 25)) w3.heap.size 46 (.slice B9 m d9) m (p3Cells T)) := OwnK.alloc ho2 _
      have HQ4 : Hid (OwnK 3 (w4.alloc (.cells #[.slice A9 n c9, .slice B9 m d9] 25)) w3.heap.size 55 (.slice A9 n c9) n (p3Cells P)) := OwnK.alloc ho1 _
      have HZ : Hid (∀ g, (∃ cc, Value.slice B9 m d9 = .slice (some ⟨g, 0, none⟩) m cc) → g < w4.heap.size) := fun g ⟨cc, e⟩ => by
        cases e
        exact (World.ownsRow.lt ho2 g rfl).2
      have HW3 : Hid (W.heap.size + 2 ≤ w3.heap.size) := HK3.out.b1.lt
      clear hb4 ho1 ho2 HK3 m0 m1
      have HR4 : Hid (∀ w, Below (w4.alloc (.cells #[.slice A9 n c9, .slice B9 m d9] 25)).heap.size (w4.alloc (.cells #[.slice A9 n c9, .slice B9 m d9] 25)) w → Calls Tryd.prog 27 #[.agg #[.slice A9 n c9, .slice B9 m d9], .agg #[.slice A n c, .slice B m d]] w fun e w' => e = .returned (.bool true) ∧ Below w.heap.size w w') := fun w hW => by
        obtain ⟨_, _, e1, h1⟩ := OwnK.has (OwnK.keep HQ4.out hW)
        obtain ⟨_, _, e2, h2⟩ := OwnK.has (OwnK.keep HO4.out hW)
        cases e1
        cases e2
        exact HRc.out w A9 c9 B9 d9 (new_call HK4.out.bel hW) h1 h2
      have m0 := HK4.out.b0.cell 0
      have m1 := HK4.out.b0.cell 1
      have m2 := HK4.out.b1.cell 0
      have m3 := HK4.out.b1.cell 1
      go_wp2_with fail
      generalize w4.alloc (.cells #[.slice A9 n c9, .slice B9 m d9] 25) = w5 at *
      generalize w4.heap.size = G at *
      refine (HRs.out _ HK4.out.bel).mono ?_
      rintro e w6 ⟨rfl, hb6⟩
      have HK6 := Lib.hid (HK4.out.next hb6)
      have HC6 := Lib.hid (HC4.out.below hb6 HC4.out.lt)
      have HO6 := Lib.hid (OwnK.keep HO4.out hb6)
      have HS6 := Lib.hid (HR4.out w6 hb6)
      clear hb6 HK4 HC4 HO4 HQ4 HR4 m0 m1 m2 m3
      have m0 := HK6.out.b0.cell 0
      have m1 := HK6.out.b0.cell 1
      have m4 := HC6.out.cell 0
      have m5 := HC6.out.cell 1
      have ts : (s == s) = true := by simp
      have ts2 : (s != s) = false := by simp
      go_wp2_with fail
      refine HS6.out.mono ?_
      rintro e w7 ⟨rfl, hb7⟩
      have HK7 := Lib.hid (HK6.out.next hb7)
      have HC7 := Lib.hid (HC6.out.below hb7 HC6.out.lt)
      have HO7 := Lib.hid (OwnK.keep HO6.out hb7)
      clear hb7 HK6 HC6 HO6 HS6 m0 m1 m4 m5
      go_wp2
      go_loopg [7] m (fun g s7 wx => ∃ (i : Nat) (l : List P3), i + g = m ∧ s7 = .int .i64 i ∧ l.length = m ∧ Hid (MeshTwo W (.slice A n c) (.slice B m d) (.slice A' n' c') (.slice B' m' d') wx) ∧ Hid (Blk wx G 25 #[.slice A9 n c9, .slice B9 m d9]) ∧ Hid (OwnK 3 wx w3.heap.size 46 (.slice B9 m d9) m (p3Cells l)))
      case atStart => exact ⟨0, T, by omega, rfl, HTm.out, HK7, HC7, HO7⟩
      case round =>
        obtain ⟨i, l, hig, rfl, hll, HK, HC, HO⟩ := hrel
        clear HK7 HC7 HO7
        have m4 := HC.out.cell 0
        have m5 := HC.out.cell 1
        by_cases hi : i < m
        · have ti : decide ((i : Int) < (m : Int)) = true := by simp; omega
          have i2 : (i : Int) < (m : Int) := by omega
          obtain ⟨g, cap, e9, hbg, hgl⟩ := own3_form HO.out (by omega)
          have hgG := HZ.out g ⟨cap, e9⟩
          cases e9
          obtain ⟨⟨k0, k1, k2⟩, f0, f1, f2⟩ := own3_at HO.out hll hi
          obtain ⟨ho, hbl⟩ := own3_put HO.out i (-1) (-1) (-1)
          have HO2 := Lib.hid ho
          have hgne : G ≠ g := by omega
          have HC2 : Hid (Blk (((wr.setCell ⟨g, i * 3, none⟩ (.int .i64 (-1))).setCell ⟨g, i * 3 + 1, none⟩ (.int .i64 (-1))).setCell ⟨g, i * 3 + 2, none⟩ (.int .i64 (-1))) G 25 #[.slice A9 n c9, .slice (some ⟨g, 0, none⟩) m d9]) := by
            have q := HC.out
            exact ((q.far (by show G ≠ g; omega) _).far (by show G ≠ g; omega) _).far (by show G ≠ g; omega) _
          have HK2 : Hid (MeshTwo W (.slice A n c) (.slice (B) m d) (.slice A' n' c') (.slice B' m' d') (((wr.setCell ⟨g, i * 3, none⟩ (.int .i64 (-1))).setCell ⟨g, i * 3 + 1, none⟩ (.int .i64 (-1))).setCell ⟨g, i * 3 + 2, none⟩ (.int .i64 (-1)))) :=
            ⟨HK.out.b0.below hbl (by have := HW3.out; omega), HK.out.b1.below hbl (by have := HW3.out; omega), HK.out.bel.trans (hbl.mono (by have := HW3.out; omega))⟩
          clear ho hbl hgl
          go_wp2
          go_roundg (gk - 1)
          case measure => omega
          case rel => exact ⟨i + 1, l.set i (-1, -1, -1), by omega, by go_num, by rw [List.length_set]; exact hll, HK2, HC2, HO2⟩
        · have ti : decide ((i : Int) < (m : Int)) = false := by simp; omega
          have m0 := HK.out.b0.cell 0
          have m1 := HK.out.b0.cell 1
          have m2 := HK.out.b1.cell 0
          have m3 := HK.out.b1.cell 1
          go_wp2_with fail
          refine (HSm.out _ HK.out.bel).mono ?_
          rintro e w8 ⟨rfl, hb8⟩
          have HK8 := Lib.hid (HK.out.next hb8)
          clear hb8 m0 m1 m2 m3 m4 m5
          have m0 := HK8.out.b0.cell 0
          have m1 := HK8.out.b0.cell 1
          go_wp2_with fail
          refine (HSs.out _ HK8.out.bel).mono ?_
          rintro e w9 ⟨rfl, hb9⟩
          have HK9 := Lib.hid (HK8.out.next hb9)
          clear hb9
          go_wp2_with fail
          refine (HKn.out _ HK9.out.bel).mono ?_
          rintro e w10 ⟨rfl, hb10⟩
          go_wp2
          go_ret
          exact ⟨rfl, new_call HK9.out.bel hb10⟩

set_option maxRecDepth 100000 in
theorem reads (os : Os) {H : Type} (enc : TypeId × Value → H) : ∃ places, DataW.whole enc Tryd.prog ((laidWorld os).forCall (fun _ _ => 0) ⟨#[], #[.agg #[.slice none 0 0, .slice none 0 0], .agg #[.slice none 0 0, .slice none 0 0]], []⟩).memory Tryd.f7.params.toList Rows.meshSameSpec.vars false (#[.agg #[.slice none 0 0, .slice none 0 0], .agg #[.slice none 0 0, .slice none 0 0]] : Array Value).toList 8 = some ([.agg [.nil, .nil], .agg [.nil, .nil]], [], places) := ⟨[], by kernel_rfl⟩
set_option maxRecDepth 100000 in
theorem lifted (os : Os) (started : os.Started) (H : Type) (enc : TypeId × Value → H) (F : Stop.Interp) :
    ReturnsInHanded {} Tryd.checked os 7 .any ((OpenSpec.ofChange Rows.meshSameSpec).preRow enc Tryd.prog Tryd.f7 Rows.meshSameRow.domain false Rows.meshSameRow.laid) (((OpenSpec.ofChange Rows.meshSameSpec).at F).post enc Tryd.prog Tryd.f7 false true false false) := by
  obtain ⟨places, hx⟩ := reads os enc
  refine returnsInHanded_of_row (C := Tryd.checked) (s := OpenSpec.ofChange Rows.meshSameSpec) Tryd.own started (by kernel_rfl) Tryd.func7
    (witness_row_at (enc := enc) (C := Tryd.checked) false (laidWorld os) #[.agg #[.slice none 0 0, .slice none 0 0], .agg #[.slice none 0 0, .slice none 0 0]] rfl (by kernel_rfl) (by kernel_rfl) (by kernel_rfl)
      (OpenSpec.preRow_of_cond 8 hx (by kernel_rfl) (fun k hk => by cases hk) (by kernel_rfl) (laidMet_of_run' 8 (by kernel_rfl) (by kernel_rfl)))) ?_
  intro W base args ds gs before hval0 hW _ _ hsz0 hL _ _
  have hbe : BehW W := behW_of_laid hL
  have hval : ∀ (j : Nat) t v, Tryd.f7.params[j]? = some t → args[j]? = some v → Value.okWide Tryd.prog W .any base t v := hval0
  have hW' := hW
  obtain ⟨p, q, hA0, hV, rfl, _, _⟩ := hW
  have hA : DataW.TrodAll enc Tryd.prog W 0 (fun _ => true) true Tryd.f7.params.toList args.toList ds p := hA0
  rw [Tryd.params7] at hA hval
  obtain ⟨v0, v1, d0, d1, p0, p1, rfl, rfl, rfl, h0, h1⟩ := trodAll_two hA
  obtain ⟨rfl, rfl⟩ := trodVars_none hV
  obtain ⟨A0, n0, c0, P0, B0, m0, e0, T0, rfl, hp0, ht0, bp0, bt0, hn0, hm0⟩ := open_mesh (hval 0 25 v0 rfl rfl) h0
  obtain ⟨A1, n1, c1, P1, B1, m1, e1, T1, rfl, hp1, ht1, bp1, bt1, hn1, hm1⟩ := open_mesh (hval 1 25 v1 rfl rfl) h1
  exact (walk A0 n0 c0 P0 B0 m0 e0 T0 A1 n1 c1 P1 B1 m1 e1 T1 W hbe hp0 ht0 bp0 bt0 hn0 hm0 hp1 ht1 bp1 bt1 hn1 hm1).mono fun e W' he =>
    law_post rfl rfl (by rw [Tryd.params7]; intro t ht; simp at ht; subst ht; exact ⟨by kernel_rfl, of_decide_eq_true (by kernel_rfl)⟩) hW' rfl he

theorem said : Rows.MeshSameSaid :=
  OpenClaim.holds_of_cond 7 Tryd.f7 rfl rfl rfl rfl rfl rfl rfl ⟨rfl, rfl, rfl, rfl, rfl⟩ rfl rfl rfl rfl rfl (by kernel_rfl) Tryd.func7 (by kernel_rfl)
    (of_decide_eq_true (by kernel_rfl)) (by unfold Func.isWrapper; first | (rw [if_pos (by decide +kernel)]; kernel_rfl) | (rw [if_neg (by decide +kernel)]; exact ⟨rfl, rfl⟩))
    (fun os started H enc _ F => by rw [OpenClaim.pre_eq_preRow]; exact lifted os started H enc F)
theorem plain (f : FuncId) (fn : Func) (hf : Tryd.pinned.checked.prog.funcNamed "lapidary/lapidarylaw10.MeshSame" = some f) (hfn : Tryd.pinned.checked.prog.funcs[f]? = some fn) :
    false = Tryd.pinned.checked.prog.looks [] ∧ ∀ (j : Nat) t, fn.params[j]? = some t → Tryd.pinned.checked.prog.wantsStandIn t = false := by
  obtain rfl : f = 7 := Option.some.inj ((show Tryd.prog.funcNamed "lapidary/lapidarylaw10.MeshSame" = some 7 by kernel_rfl).symm.trans hf) |>.symm
  obtain rfl : fn = Tryd.f7 := (Option.some.inj (Tryd.func7.symm.trans hfn)).symm
  refine ⟨by kernel_rfl, fun j t ht => ?_⟩
  rw [Tryd.params7] at ht
  have hm : t ∈ [25] := by simpa using Array.mem_of_getElem? ht
  have hall : ([25].all fun u => !Tryd.prog.wantsStandIn u) = true := by kernel_rfl
  exact (show Tryd.prog.wantsStandIn t = false by simpa using List.all_eq_true.1 hall t hm)
theorem proved : Rows.MeshSameCardSaid :=
  Claim7.holds_tied_plain_at .later [] _ _ _ _ said (fun _ h => by cases h) (by kernel_rfl) (fun _ h => by cases h) meshSame_row_tie rfl ⟨rfl, rfl⟩ (by kernel_rfl) rfl plain (by kernel_rfl)
end Go.Proofs.YtckjmnbglbegmaaDoor.meshSame
