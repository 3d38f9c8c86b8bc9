/- Over any triangles the steps, and in which order vertices and triangles are met, or why not, is what the chapter says: whatever mesh comes in, WalkSteps answers true. -/
import Derived.Test.YtjahphfjobnkaaaDoorKnown11
import Derived.Test.YtjahphfjobnkaaaDoorLawMesh
import Derived.Test.YtjahphfjobnkaaaDoorLawLaid
namespace Go.Proofs.YtjahphfjobnkaaaDoor.walkSteps
open Go.ChangeShapes Go.WideShapes Go.ChangeAt Go.RowKit

set_option maxRecDepth 100000 in
set_option maxHeartbeats 3200000 in
theorem walk (A : Option Addr) (n c : Nat) (P : List P3) (B : Option Addr) (m d : Nat) (T : List P3) (W : World) (hbe : BehW W) (hp : HasK 3 W A n c (p3Cells P)) (ht : HasK 3 W B m d (p3Cells T)) (_ : ∀ x ∈ P, i64T x) (_ : ∀ x ∈ T, i64T x) (_ : n ≤ 9223372036854775807) (_ : m ≤ 9223372036854775807) : Calls Tryd.prog 3 #[.agg #[.slice A n c, .slice B m d]] W fun e w' => e = .returned (.bool true) ∧ Below W.heap.size W w' := by
  have HK0 := Lib.hid (MeshAt.new W (.slice A n c) (.slice B m d))
  have m0 := HK0.out.b0.cell 0
  have m1 := HK0.out.b0.cell 1
  have HKn := Lib.hid (fun w (hW : Below W.heap.size W w) => known11 w (hbe.kept hW))
  by_cases hl : n ≤ 40 ∧ m ≤ 60
  · have HLo := Lib.hid (fun w => lawlong_any A n c B m d false w (by rw [decide_eq_false (by omega), decide_eq_false (by omega)]; rfl))
    obtain ⟨r, hr⟩ := check_total P T
    have hTm : T.length = m := by have := ht.len; rw [p3Cells_len] at this; omega
    obtain ⟨R0, hR0⟩ : ∃ S, (if r = 0 then walkF T else ⟨[], [], [], [], []⟩ : WS) = S := ⟨_, rfl⟩
    have hS : (if r = 0 then (walkF T).S else []) = R0.S := by rw [← hR0]; split <;> rfl
    have hV : (if r = 0 then (walkF T).V else []) = R0.V := by rw [← hR0]; split <;> rfl
    have hO : (if r = 0 then (walkF T).O else []) = R0.O := by rw [← hR0]; split <;> rfl
    have HSz : Hid (WSmall R0 1000000) := by
      show WSmall _ _
      rw [← hR0]
      split
      · exact (walk_fine T T.length (Nat.le_refl _)).small (Nat.le_refl _) (by omega)
      · exact ⟨Nat.zero_le _, Nat.zero_le _, Nat.zero_le _, Nat.zero_le _, Nat.zero_le _⟩
    have HSt := Lib.hid (fun w (hW : Below W.heap.size W w) => walkSteps_any A n c P B m d T r w (hbe.kept hW) (hp.kept hW) (ht.kept hW) (by omega) (by omega) hr)
    have HOr := Lib.hid (fun w (hW : Below W.heap.size W w) => walkOrder_any A n c P B m d T r w (hbe.kept hW) (hp.kept hW) (ht.kept hW) (by omega) (by omega) hr)
    have HWk := Lib.hid (fun w (hW : Below W.heap.size W w) => ref11Walk_any A n c P B m d T r w (hp.kept hW) (ht.kept hW) (by omega) (by omega) hr)
    rw [hS] at HSt
    rw [hV, hO] at HOr
    rw [hR0] at HWk
    have te : (r == r) = true := beq_self_eq_true r
    obtain ⟨kz, ks⟩ := zero_of_info wInfo
    clear hp ht hr hTm hR0 hS hV hO hbe hl
    go_enter Tryd.func3, Tryd.ntmps3
    go_wp2_with fail
    refine (HLo.out _).mono ?_
    rintro e w1 ⟨rfl, hb1⟩
    have HK1 := Lib.hid (HK0.out.next hb1)
    clear hb1 HK0 m0 m1
    have m0 := HK1.out.b0.cell 0
    have m1 := HK1.out.b0.cell 1
    go_wp2_with fail
    refine (HSt.out _ HK1.out.bel).mono ?_
    rintro e w2 ⟨A2, c2, rfl, h2, hb2⟩
    have HK2 := Lib.hid (HK1.out.next hb2)
    have HS2 := Lib.hid h2
    clear hb2 h2 HK1 m0 m1
    have m0 := HK2.out.b0.cell 0
    have m1 := HK2.out.b0.cell 1
    go_wp2_with fail
    refine (HOr.out _ HK2.out.bel).mono ?_
    rintro e w3 ⟨A3, c3, A4, c4, rfl, h3, h4, hb3⟩
    have HK3 := Lib.hid (HK2.out.next hb3)
    have HS3 := Lib.hid (HS2.out.kept hb3)
    have HV3 := Lib.hid h3
    have HO3 := Lib.hid h4
    clear hb3 h3 h4 HK2 HS2 m0 m1
    have m0 := HK3.out.b0.cell 0
    have m1 := HK3.out.b0.cell 1
    go_wp2_with fail
    refine (HWk.out _ HK3.out.bel).mono ?_
    rintro e w5 ⟨a, b, c', d', f, rfl, hr5, hb5⟩
    obtain ⟨Aa, va, rfl, _⟩ := hr5.rV.has
    obtain ⟨Bb, vb, rfl, _⟩ := hr5.rO.has
    obtain ⟨Cc, vc, rfl, _⟩ := hr5.rN.has
    obtain ⟨Dd, vd, rfl, _⟩ := hr5.rG.has
    obtain ⟨Ee, ve, rfl, _⟩ := hr5.rS.has
    have HK5 := Lib.hid (HK3.out.next hb5)
    have HS5 := Lib.hid (HS3.out.kept hb5)
    have HV5 := Lib.hid (HV3.out.kept hb5)
    have HO5 := Lib.hid (HO3.out.kept hb5)
    have HRS := Lib.hid (own_hasK hr5.rS)
    have HRV := Lib.hid (own_plain hr5.rV)
    have HRO := Lib.hid (own_plain hr5.rO)
    clear hb5 hr5 HK3 HS3 HV3 HO3 m0 m1
    obtain ⟨W5, hW5⟩ : ∃ w, w5.alloc (.cells #[.slice Aa R0.V.length va, .slice Bb R0.O.length vb, .slice Cc R0.N.length vc, .slice Dd R0.G.length vd, .slice Ee R0.S.length ve] 37) = w := ⟨_, rfl⟩
    have HB5 : Hid (Below w5.heap.size w5 W5) := by show Below _ _ _; rw [← hW5]; exact new_alloc (Below.refl _ _) _
    have HBx : Hid (Blk W5 w5.heap.size 37 #[.slice Aa R0.V.length va, .slice Bb R0.O.length vb, .slice Cc R0.N.length vc, .slice Dd R0.G.length vd, .slice Ee R0.S.length ve]) := by show Blk _ _ _ _; rw [← hW5]; exact Blk.new _ _ _
    have HSS : Hid (∀ w, Below w5.heap.size w5 w → Calls Tryd.prog 14 #[.slice A2 R0.S.length c2, .slice Ee R0.S.length ve] w fun e w' => e = .returned (.bool true) ∧ Below w.heap.size w w') := fun w hw => by
      have := ref11SameSteps_any A2 R0.S.length c2 R0.S Ee R0.S.length ve R0.S w (HS5.out.kept hw) (HRS.out.kept hw) (by have := HSz.out.S; omega) (by have := HSz.out.S; omega)
      rw [decide_eq_true rfl] at this
      exact this
    have HSV : Hid (∀ w, Below w5.heap.size w5 w → Calls Tryd.prog 15 #[.slice A3 R0.V.length c3, .slice Aa R0.V.length va] w fun e w' => e = .returned (.bool true) ∧ Below w.heap.size w w') := fun w hw => by
      have := ref0SameInts_any A3 R0.V.length c3 R0.V Aa R0.V.length va R0.V w (HV5.out.kept hw) (HRV.out.kept hw) (by have := HSz.out.V; omega) (by have := HSz.out.V; omega)
      rw [decide_eq_true rfl] at this
      exact this
    have HSO : Hid (∀ w, Below w5.heap.size w5 w → Calls Tryd.prog 15 #[.slice A4 R0.O.length c4, .slice Bb R0.O.length vb] w fun e w' => e = .returned (.bool true) ∧ Below w.heap.size w w') := fun w hw => by
      have := ref0SameInts_any A4 R0.O.length c4 (R0.O.map fun (k : Nat) => (k : Int)) Bb R0.O.length vb (R0.O.map fun (k : Nat) => (k : Int)) w (HO5.out.kept hw) (HRO.out.kept hw) (by have := HSz.out.O; omega) (by have := HSz.out.O; omega)
      rw [decide_eq_true rfl] at this
      exact this
    have HKw := Lib.hid (HK5.out.next HB5.out)
    have k0 : W5.cell? ⟨w5.heap.size, 0, none⟩ = _ := HBx.out.cell 0
    have k1 : W5.cell? ⟨w5.heap.size, 1, none⟩ = _ := HBx.out.cell 1
    have k4 : W5.cell? ⟨w5.heap.size, 4, none⟩ = _ := HBx.out.cell 4
    clear HS5 HV5 HO5 HRS HRV HRO HK5
    go_wp2_with fail
    (try rw [hW5])
    refine (HSS.out _ HB5.out).mono ?_
    rintro e w6 ⟨rfl, hb6⟩
    have HBy := Lib.hid (HBx.out.below hb6 HBx.out.lt)
    have HBb6 := Lib.hid (new_call HB5.out hb6)
    have HK6 := Lib.hid (HKw.out.next hb6)
    clear hb6 HBx HKw HSS k0 k1 k4 hW5 HB5
    have k0 := HBy.out.cell 0
    have k1 := HBy.out.cell 1
    go_wp2_with fail
    refine (HSV.out _ HBb6.out).mono ?_
    rintro e w7 ⟨rfl, hb7⟩
    have HBz := Lib.hid (HBy.out.below hb7 HBy.out.lt)
    have HBb7 := Lib.hid (new_call HBb6.out hb7)
    have HK7 := Lib.hid (HK6.out.next hb7)
    clear hb7 HBy HBb6 HK6 HSV k0 k1
    have k1 := HBz.out.cell 1
    go_wp2_with fail
    refine (HSO.out _ HBb7.out).mono ?_
    rintro e w8 ⟨rfl, hb8⟩
    have HK8 := Lib.hid (HK7.out.next hb8)
    clear hb8 HBz HBb7 HK7 HSO k1
    go_wp2_with fail
    refine (HKn.out _ HK8.out.bel).mono ?_
    rintro e w9 ⟨rfl, hb9⟩
    go_wp2
    go_ret
    exact ⟨rfl, new_call HK8.out.bel hb9⟩
  · have HLo := Lib.hid (fun w => lawlong_any A n c B m d true w (by rw [Bool.or_eq_true, decide_eq_true_eq, decide_eq_true_eq]; omega))
    clear hp ht hl
    go_enter Tryd.func3, Tryd.ntmps3
    go_wp2_with fail
    refine (HLo.out _).mono ?_
    rintro e w1 ⟨rfl, hb1⟩
    go_wp2_with fail
    refine (HKn.out _ (HK0.out.next hb1).bel).mono ?_
    rintro e w2 ⟨rfl, hb2⟩
    go_wp2
    go_ret
    exact ⟨rfl, new_call (HK0.out.next hb1).bel hb2⟩

set_option maxRecDepth 100000 in
theorem reads (os : Os) {H : Type} (enc : TypeId × Value → H) : ∃ places, DataW.whole enc Tryd.prog ((laidWorld os).forCall (fun _ _ => 0) ⟨#[], #[.agg #[.slice none 0 0, .slice none 0 0]], []⟩).memory Tryd.f3.params.toList Rows.walkStepsSpec.vars false (#[.agg #[.slice none 0 0, .slice none 0 0]] : Array Value).toList 8 = some ([.agg [.nil, .nil]], [], places) := ⟨[], by kernel_rfl⟩
set_option maxRecDepth 100000 in
theorem lifted (os : Os) (started : os.Started) (H : Type) (enc : TypeId × Value → H) (F : Stop.Interp) :
    ReturnsInHanded {} Tryd.checked os 3 .any ((OpenSpec.ofChange Rows.walkStepsSpec).preRow enc Tryd.prog Tryd.f3 Rows.walkStepsRow.domain false Rows.walkStepsRow.laid) (((OpenSpec.ofChange Rows.walkStepsSpec).at F).post enc Tryd.prog Tryd.f3 false true false false) := by
  obtain ⟨places, hx⟩ := reads os enc
  refine returnsInHanded_of_row (C := Tryd.checked) (s := OpenSpec.ofChange Rows.walkStepsSpec) Tryd.own started (by kernel_rfl) Tryd.func3
    (witness_row_at (enc := enc) (C := Tryd.checked) false (laidWorld os) #[.agg #[.slice none 0 0, .slice none 0 0]] rfl (by kernel_rfl) (by kernel_rfl) (by kernel_rfl)
      (OpenSpec.preRow_of_cond 8 hx (by kernel_rfl) (fun k hk => by cases hk) (by kernel_rfl) (laidMet_of_run' 8 (by kernel_rfl) (by kernel_rfl)))) ?_
  intro W base args ds gs before hval0 hW _ _ hsz0 hL _ _
  have hbe : BehW W := behW_of_laid hL
  have hval : ∀ (j : Nat) t v, Tryd.f3.params[j]? = some t → args[j]? = some v → Value.okWide Tryd.prog W .any base t v := hval0
  have hW' := hW
  obtain ⟨p, q, hA0, hV, rfl, _, _⟩ := hW
  have hA : DataW.TrodAll enc Tryd.prog W 0 (fun _ => true) true Tryd.f3.params.toList args.toList ds p := hA0
  rw [Tryd.params3] at hA hval
  obtain ⟨v0, d0, rfl, rfl, h0⟩ := trodAll_one hA
  obtain ⟨rfl, rfl⟩ := trodVars_none hV
  obtain ⟨A0, n0, c0, P0, B0, m0, e0, T0, rfl, hp0, ht0, bp0, bt0, hn0, hm0⟩ := open_mesh (hval 0 25 v0 rfl rfl) h0
  exact (walk A0 n0 c0 P0 B0 m0 e0 T0 W hbe hp0 ht0 bp0 bt0 hn0 hm0).mono fun e W' he =>
    law_post rfl rfl (by rw [Tryd.params3]; intro t ht; simp at ht; subst ht; exact ⟨by kernel_rfl, of_decide_eq_true (by kernel_rfl)⟩) hW' rfl he

theorem said : Rows.WalkStepsSaid :=
  OpenClaim.holds_of_cond 3 Tryd.f3 rfl rfl rfl rfl rfl rfl rfl ⟨rfl, rfl, rfl, rfl, rfl⟩ rfl rfl rfl rfl rfl (by kernel_rfl) Tryd.func3 (by kernel_rfl)
    (of_decide_eq_true (by kernel_rfl)) (by unfold Func.isWrapper; first | (rw [if_pos (by decide +kernel)]; kernel_rfl) | (rw [if_neg (by decide +kernel)]; exact ⟨rfl, rfl⟩))
    (fun os started H enc _ F => by rw [OpenClaim.pre_eq_preRow]; exact lifted os started H enc F)
theorem plain (f : FuncId) (fn : Func) (hf : Tryd.pinned.checked.prog.funcNamed "lapidary/lapidarylaw11.WalkSteps" = some f) (hfn : Tryd.pinned.checked.prog.funcs[f]? = some fn) :
    false = Tryd.pinned.checked.prog.looks [] ∧ ∀ (j : Nat) t, fn.params[j]? = some t → Tryd.pinned.checked.prog.wantsStandIn t = false := by
  obtain rfl : f = 3 := Option.some.inj ((show Tryd.prog.funcNamed "lapidary/lapidarylaw11.WalkSteps" = some 3 by kernel_rfl).symm.trans hf) |>.symm
  obtain rfl : fn = Tryd.f3 := (Option.some.inj (Tryd.func3.symm.trans hfn)).symm
  refine ⟨by kernel_rfl, fun j t ht => ?_⟩
  rw [Tryd.params3] at ht
  have hm : t ∈ [25] := by simpa using Array.mem_of_getElem? ht
  have hall : ([25].all fun u => !Tryd.prog.wantsStandIn u) = true := by kernel_rfl
  exact (show Tryd.prog.wantsStandIn t = false by simpa using List.all_eq_true.1 hall t hm)
theorem proved : Rows.WalkStepsCardSaid :=
  Claim7.holds_tied_plain_at .later [] _ _ _ _ said (fun _ h => by cases h) (by kernel_rfl) (fun _ h => by cases h) walkSteps_row_tie rfl ⟨rfl, rfl⟩ (by kernel_rfl) rfl plain (by kernel_rfl)
end Go.Proofs.YtjahphfjobnkaaaDoor.walkSteps
