/- The triangles of any steps, how many vertices, or what is wrong, are what the chapter says: whatever steps come in, GrowAll answers true. -/
import Derived.Test.YthjmojglcfmkmaaDoorKnown12
import Derived.Test.YthjmojglcfmkmaaDoorLawSteps
import Derived.Test.YthjmojglcfmkmaaDoorLawLaidG
namespace Go.Proofs.YthjmojglcfmkmaaDoor.growAll
open Go.ChangeShapes Go.WideShapes Go.ChangeAt Go.RowKit

set_option maxRecDepth 100000 in
set_option maxHeartbeats 3200000 in
theorem walk (A : Option Addr) (n c : Nat) (l : List (Int × Int)) (W : World) (hbe : BehW W) (hnw : NewW W) (hl : HasK 2 W A n c (e2Cells l)) (hi : ∀ x ∈ l, i64D x) (_ : n ≤ 9223372036854775807) : Calls Tryd.prog 4 #[.slice A n c] W fun e w' => e = .returned (.bool true) ∧ Below W.heap.size W w' := by
  have HKn := Lib.hid (fun w (hW : Below W.heap.size W w) => known12 w (hbe.kept hW) (hnw.kept hW))
  by_cases hn : n ≤ 80
  · have t1 : decide ((80 : Int) < (n : Int)) = false := decide_eq_false (by omega)
    obtain ⟨r, hr⟩ := close_total (growG l)
    have HAl := Lib.hid (growAll_any A n c l r W hbe hnw hl (fun d hd => ⟨WalkArith.wf_i64 (hi d hd).1, WalkArith.wf_i64 (hi d hd).2⟩) (by omega) hr)
    have HRf := Lib.hid (fun w (hW : Below W.heap.size W w) => ref12All_any A n c l r w (hl.kept hW) (by omega) hr)
    have HOk := Lib.hid (growG_ok l)
    have HLn : Hid ((closeT (growG l) r).length ≤ 8000) := by
      show _ ≤ _
      unfold closeT
      split
      · exact HOk.out.lenT
      · exact Nat.zero_le _
    clear hl hi hbe hnw hr HOk
    go_enter Tryd.func4, Tryd.ntmps4
    go_wp2_with fail
    refine HAl.out.mono ?_
    rintro e w1 ⟨A1, n1, c1, rfl, h1, hb1⟩
    have HB1 := Lib.hid hb1
    have HT1 := Lib.hid h1
    clear h1 hb1 HAl
    go_wp2_with fail
    refine (HRf.out w1 HB1.out).mono ?_
    rintro e w2 ⟨A2, n2, c2, rfl, h2, hb2⟩
    have HB2 := Lib.hid (new_call HB1.out hb2)
    have HT2 := Lib.hid (HT1.out.kept hb2)
    have HU2 := Lib.hid h2
    have HS := Lib.hid (ref12Same_any A1 n1 c1 _ A2 n2 c2 _ w2 HT2.out HU2.out (by have := h2.len; have := HLn.out; have := HT1.out.len; rw [p3Cells_len] at *; omega) (by have := h2.len; have := HLn.out; rw [p3Cells_len] at *; omega))
    rw [decide_eq_true rfl] at HS
    have t2 : (closeN (growG l) r == closeN (growG l) r) = true := beq_self_eq_true _
    have t3 : (r == r) = true := beq_self_eq_true _
    clear h2 hb2 HRf HT1 HB1 HLn
    generalize closeN (growG l) r = N at *
    go_wp2_with fail
    refine HS.out.mono ?_
    rintro e w3 ⟨rfl, hb3⟩
    have HB3 := Lib.hid (new_call HB2.out hb3)
    clear hb3 HS HT2 HU2
    go_wp2_with fail
    refine (HKn.out w3 HB3.out).mono ?_
    rintro e w4 ⟨rfl, hb4⟩
    have HB4 := Lib.hid (new_call HB3.out hb4)
    clear hb4
    go_wp2
    go_ret
    exact ⟨rfl, HB4.out⟩
  · have t1 : decide ((80 : Int) < (n : Int)) = true := decide_eq_true (by omega)
    have HK := Lib.hid (HKn.out W (Below.refl _ _))
    clear hl hi hbe hnw HKn
    go_enter Tryd.func4, Tryd.ntmps4
    go_wp2_with fail
    refine HK.out.mono ?_
    rintro e w4 ⟨rfl, hb4⟩
    have HB4 := Lib.hid hb4
    clear hb4
    go_wp2
    go_ret
    exact ⟨rfl, HB4.out⟩

set_option maxRecDepth 100000 in
theorem reads (os : Os) {H : Type} (enc : TypeId × Value → H) : ∃ places, DataW.whole enc Tryd.prog ((laidWorldG os).forCall (fun _ _ => 0) ⟨#[], #[.slice none 0 0], []⟩).memory Tryd.f4.params.toList Rows.growAllSpec.vars false (#[.slice none 0 0] : Array Value).toList 8 = some ([.nil], [], places) := ⟨[], by kernel_rfl⟩
set_option maxRecDepth 100000 in
theorem lifted (os : Os) (started : os.Started) (H : Type) (enc : TypeId × Value → H) (F : Stop.Interp) :
    ReturnsInHanded {} Tryd.checked os 4 .any ((OpenSpec.ofChange Rows.growAllSpec).preRow enc Tryd.prog Tryd.f4 Rows.growAllRow.domain false Rows.growAllRow.laid) (((OpenSpec.ofChange Rows.growAllSpec).at F).post enc Tryd.prog Tryd.f4 false true false false) := by
  obtain ⟨places, hx⟩ := reads os enc
  refine returnsInHanded_of_row (C := Tryd.checked) (s := OpenSpec.ofChange Rows.growAllSpec) Tryd.own started (by kernel_rfl) Tryd.func4
    (witness_row_at (enc := enc) (C := Tryd.checked) false (laidWorldG os) #[.slice none 0 0] rfl (by kernel_rfl) (by kernel_rfl) (by kernel_rfl)
      (OpenSpec.preRow_of_cond 8 hx (by kernel_rfl) (fun k hk => by cases hk) (by kernel_rfl) (laidMet_of_run' 8 (by kernel_rfl) (by kernel_rfl)))) ?_
  intro W base args ds gs before hval0 hW _ _ hsz0 hL _ _
  obtain ⟨hbe, hnw⟩ : BehW W ∧ NewW W := tabs_of_laid hL
  have hval : ∀ (j : Nat) t v, Tryd.f4.params[j]? = some t → args[j]? = some v → Value.okWide Tryd.prog W .any base t v := hval0
  have hW' := hW
  obtain ⟨p, q, hA0, hV, rfl, _, _⟩ := hW
  have hA : DataW.TrodAll enc Tryd.prog W 0 (fun _ => true) true Tryd.f4.params.toList args.toList ds p := hA0
  rw [Tryd.params4] at hA hval
  obtain ⟨v0, d0, rfl, rfl, h0⟩ := trodAll_one hA
  obtain ⟨rfl, rfl⟩ := trodVars_none hV
  obtain ⟨A0, n0, c0, bs0, rfl, hh0, hb0, hn0⟩ := open_steps (hval 0 22 v0 rfl rfl) h0
  exact (walk A0 n0 c0 bs0 W hbe hnw hh0 hb0 hn0).mono fun e W' he =>
    law_post rfl rfl (by rw [Tryd.params4]; intro t ht; simp at ht; subst ht; exact ⟨by kernel_rfl, of_decide_eq_true (by kernel_rfl)⟩) hW' rfl he

theorem said : Rows.GrowAllSaid :=
  OpenClaim.holds_of_cond 4 Tryd.f4 rfl rfl rfl rfl rfl rfl rfl ⟨rfl, rfl, rfl, rfl, rfl⟩ rfl rfl rfl rfl rfl (by kernel_rfl) Tryd.func4 (by kernel_rfl)
    (of_decide_eq_true (by kernel_rfl)) (by unfold Func.isWrapper; first | (rw [if_pos (by decide +kernel)]; kernel_rfl) | (rw [if_neg (by decide +kernel)]; exact ⟨rfl, rfl⟩))
    (fun os started H enc _ F => by rw [OpenClaim.pre_eq_preRow]; exact lifted os started H enc F)
theorem plain (f : FuncId) (fn : Func) (hf : Tryd.pinned.checked.prog.funcNamed "lapidary/lapidarylaw12.GrowAll" = some f) (hfn : Tryd.pinned.checked.prog.funcs[f]? = some fn) :
    false = Tryd.pinned.checked.prog.looks [] ∧ ∀ (j : Nat) t, fn.params[j]? = some t → Tryd.pinned.checked.prog.wantsStandIn t = false := by
  obtain rfl : f = 4 := Option.some.inj ((show Tryd.prog.funcNamed "lapidary/lapidarylaw12.GrowAll" = some 4 by kernel_rfl).symm.trans hf) |>.symm
  obtain rfl : fn = Tryd.f4 := (Option.some.inj (Tryd.func4.symm.trans hfn)).symm
  refine ⟨by kernel_rfl, fun j t ht => ?_⟩
  rw [Tryd.params4] at ht
  have hm : t ∈ [22] := by simpa using Array.mem_of_getElem? ht
  have hall : ([22].all fun u => !Tryd.prog.wantsStandIn u) = true := by kernel_rfl
  exact (show Tryd.prog.wantsStandIn t = false by simpa using List.all_eq_true.1 hall t hm)
theorem proved : Rows.GrowAllCardSaid :=
  Claim7.holds_tied_plain_at .later [] _ _ _ _ said (fun _ h => by cases h) (by kernel_rfl) (fun _ h => by cases h) growAll_row_tie rfl ⟨rfl, rfl⟩ (by kernel_rfl) rfl plain (by kernel_rfl)
end Go.Proofs.YthjmojglcfmkmaaDoor.growAll
