/- Of any ring and any point GeomRings answers true: twice the area, and whether the point lies in it, is what the chapter says. Conditions: none. -/
import Derived.Test.YtnhoinonojhgiaaKnown09
import Derived.Test.YtnhoinonojhgiaaLawPts
namespace Go.Proofs.Ytnhoinonojhgiaa.geomRings
open Go.ChangeShapes Go.WideShapes Go.ChangeAt Go.RowKit

set_option maxRecDepth 100000 in
set_option maxHeartbeats 2000000 in
theorem walk (px py pz : Int) (A : Option Addr) (n c : Nat) (l : List P3) (w : World) (_ : i64P (px, py, pz)) (h : HasK 3 w A n c (p3Cells l)) (_ : ∀ x ∈ l, i64P x) (_ : n ≤ 9223372036854775807) :
    Calls Try.prog 5 #[.agg #[.int .i64 px, .int .i64 py, .int .i64 pz], .slice A n c] w fun e w' => e = .returned (.bool true) ∧ Below w.heap.size w w' := by
  by_cases h60 : 60 < n
  · have t : decide ((60 : Int) < (n : Int)) = true := by simp; omega
    have HB0 := Lib.hid (new_alloc (Below.refl w.heap.size w) (.cells #[.int .i64 px, .int .i64 py, .int .i64 pz] 23))
    clear h
    go_enter Try.func5, Try.ntmps5
    go_wp2_with (go_at_call 17; refine (known09 _).mono ?_; rintro e w9 ⟨rfl, hb9⟩)
    go_ret
    exact ⟨rfl, new_call HB0.out hb9⟩
  have t : decide ((60 : Int) < (n : Int)) = false := by simp; omega
  have hn : n ≤ 100000 := by omega
  have HA := Lib.hid (fun W (hW : Below w.heap.size w W) => geomArea_any A n c l W (h.kept hW) hn)
  have HRA := Lib.hid (fun W (hW : Below w.heap.size w W) => ref9Area_any A n c l W (h.kept hW) hn)
  have HI := Lib.hid (fun W (hW : Below w.heap.size w W) => geomIn_any px py pz A n c l W (h.kept hW) hn)
  have HRI := Lib.hid (fun W (hW : Below w.heap.size w W) => ref9In_any px py pz A n c l W (h.kept hW) hn)
  clear h
  generalize areaF l = S at *
  generalize inF (px, py, pz) l = o at *
  have HIs := Lib.hid (fun B d W (hB : Has W B 8 d (intVs (digI 8 S))) => ref8Is_any B d S (hiW S) (loW S) W hB (hi_in S) (lo_in S) (cong_num S))
  unfold numV at HA
  have HB0 := Lib.hid (new_alloc (Below.refl w.heap.size w) (.cells #[.int .i64 px, .int .i64 py, .int .i64 pz] 23))
  have HP0 := Lib.hid (Blk.new w 23 #[.int .i64 px, .int .i64 py, .int .i64 pz])
  go_enter Try.func5, Try.ntmps5
  go_wp2_with fail
  refine (HA.out _ HB0.out).mono ?_
  rintro e w1 ⟨rfl, hb1⟩
  have HB1 := Lib.hid (new_alloc (new_call HB0.out hb1) (.cells #[.int .i64 (hiW S), .int .u64 (loW S)] 34))
  have HP1 := Lib.hid ((HP0.out.below hb1 HP0.out.lt).alloc (.cells #[.int .i64 (hiW S), .int .u64 (loW S)] 34))
  have HN1 := Lib.hid (Blk.new w1 34 #[.int .i64 (hiW S), .int .u64 (loW S)])
  clear hb1 HB0 HP0 HA
  go_wp2_with (with_reducible fail)
  generalize w1.alloc (.cells #[.int .i64 (hiW S), .int .u64 (loW S)] 34) = W0 at *
  have HS : Hid (∀ W, Below W0.heap.size W0 W → W.cell? ⟨w.heap.size, 0, none⟩ = some (.int .i64 px) ∧ W.cell? ⟨w.heap.size, 1, none⟩ = some (.int .i64 py) ∧ W.cell? ⟨w.heap.size, 2, none⟩ = some (.int .i64 pz) ∧ W.cell? ⟨w1.heap.size, 0, none⟩ = some (.int .i64 (hiW S)) ∧ W.cell? ⟨w1.heap.size, 1, none⟩ = some (.int .u64 (loW S))) := fun W hW =>
    ⟨(HP1.out.below hW HP1.out.lt).cell 0, (HP1.out.below hW HP1.out.lt).cell 1, (HP1.out.below hW HP1.out.lt).cell 2, (HN1.out.below hW HN1.out.lt).cell 0, (HN1.out.below hW HN1.out.lt).cell 1⟩
  have HBv0 : Hid (Below W0.heap.size W0 W0.drew) := (Below.refl _ _).drew
  go_region_held3 (fun W => W.cell? ⟨w.heap.size, 0, none⟩ = some (.int .i64 px) ∧ W.cell? ⟨w.heap.size, 1, none⟩ = some (.int .i64 py) ∧ W.cell? ⟨w.heap.size, 2, none⟩ = some (.int .i64 pz) ∧ W.cell? ⟨w1.heap.size, 0, none⟩ = some (.int .i64 (hiW S)) ∧ W.cell? ⟨w1.heap.size, 1, none⟩ = some (.int .u64 (loW S))) (first | (with_reducible exact HS.out _ HBv5.out) | (with_reducible exact HS.out _ HBv4.out) | (with_reducible exact HS.out _ HBv3.out) | (with_reducible exact HS.out _ HBv2.out) | (with_reducible exact HS.out _ HBv1.out) | (with_reducible exact HS.out _ HBv0.out)) (first
    | (go_at_call 22; (with_reducible refine (HRA.out W0.drew (new_call HB1.out HBv0.out)).mono ?_); rintro e v1 ⟨A1, c1, rfl, hh1, hb1, _⟩; have HBv1 := Lib.hid (new_call HBv0.out hb1); have HIw := Lib.hid (HIs.out A1 c1 v1 hh1); clear hh1 hb1)
    | (go_at_call 21; (with_reducible refine HIw.out.mono ?_); rintro e v2 ⟨rfl, hb2⟩; have HBv2 := Lib.hid (new_call HBv1.out hb2); clear hb2)
    | (go_at_call 23; (with_reducible refine (HI.out v2 (new_call HB1.out HBv2.out)).mono ?_); rintro e v3 ⟨rfl, hb3⟩; have HBv3 := Lib.hid (new_call HBv2.out hb3); clear hb3)
    | (go_at_call 24; (with_reducible refine (HRI.out v3 (new_call HB1.out HBv3.out)).mono ?_); rintro e v4 ⟨rfl, hb4⟩; have HBv4 := Lib.hid (new_call HBv3.out hb4); clear hb4)
    | (go_at_call 17; (with_reducible refine (known09 _).mono ?_); rintro e v5 ⟨rfl, hb5⟩; have HBv5 := Lib.hid (new_call HBv4.out hb5); clear hb5))
  all_goals
    go_wp2
    go_ret
    exact ⟨rfl, new_call HB1.out HBv5.out⟩

set_option maxRecDepth 100000 in
theorem lifted (os : Os) (started : os.Started) (H : Type) (enc : TypeId × Value → H) :
    ReturnsInHanded {} Try.checked os 5 .any (Rows.geomRingsSpec.pre6 enc Try.prog Try.f5 Rows.geomRingsRow.domain false) (Rows.geomRingsSpec.post enc Try.prog Try.f5 false true false false) := by
  refine returnsInHanded_of_change (C := Try.checked) Try.own started (by kernel_rfl) Try.func5
    (ChangeSpec.witness6 (enc := enc) (C := Try.checked) false ⟨#[], #[.agg #[.int .i64 0, .int .i64 0, .int .i64 0], .slice none 0 0], []⟩ 8 (by kernel_rfl) (by kernel_rfl) (by kernel_rfl) (by kernel_rfl)) ?_
  intro W base args ds gs before hval0 hW _ _
  have hval : ∀ (j : Nat) t v, Try.f5.params[j]? = some t → args[j]? = some v → Value.okWide Try.prog W .any base t v := hval0
  have hW' := hW
  obtain ⟨p, q, hA0, hV, rfl, _, _⟩ := hW
  have hA : DataW.TrodAll enc Try.prog W 0 (fun _ => true) true Try.f5.params.toList args.toList ds p := hA0
  rw [Try.params5] at hA hval
  obtain ⟨v0, v1, d0, d1, p0, p1, rfl, rfl, rfl, h0, h1⟩ := trodAll_two hA
  obtain ⟨rfl, rfl⟩ := trodVars_none hV
  obtain ⟨x0, y0, z0, rfl, hh0⟩ := open_pt (hval 0 23 v0 rfl rfl) h0
  obtain ⟨A1, n1, c1, bs1, rfl, hh1, hb1, hn1⟩ := open_pts (hval 1 28 v1 rfl rfl) h1
  exact (walk x0 y0 z0 A1 n1 c1 bs1 W hh0 hh1 hb1 hn1).mono fun e W' he =>
    law_post rfl rfl (by rw [Try.params5]; intro t ht; simp at ht; rcases ht with rfl | rfl <;> exact ⟨by kernel_rfl, of_decide_eq_true (by kernel_rfl)⟩) hW' rfl he

theorem proved : Rows.GeomRingsSaid :=
  OpenClaim.holds_of_wide 5 Try.f5 rfl rfl rfl rfl rfl rfl rfl ⟨rfl, rfl, rfl, rfl, rfl⟩ rfl rfl rfl rfl rfl (by kernel_rfl) Try.func5 (by kernel_rfl)
    (of_decide_eq_true (by kernel_rfl)) (by unfold Func.isWrapper; first | (rw [if_pos (by decide +kernel)]; kernel_rfl) | (rw [if_neg (by decide +kernel)]; exact ⟨rfl, rfl⟩))
    (fun os started H enc _ => lifted os started H enc)
end Go.Proofs.Ytnhoinonojhgiaa.geomRings
