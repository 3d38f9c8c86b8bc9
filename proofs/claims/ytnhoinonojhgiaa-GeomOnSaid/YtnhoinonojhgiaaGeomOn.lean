/- Of any three points GeomOn answers true: whether one lies between the others is what the chapter says; from either side. Conditions: none. -/
import Derived.Test.YtnhoinonojhgiaaKnown09
import Derived.Test.YtnhoinonojhgiaaLawPts
namespace Go.Proofs.Ytnhoinonojhgiaa.geomOn
open Go.ChangeShapes Go.WideShapes Go.ChangeAt Go.RowKit

set_option maxRecDepth 100000 in
set_option maxHeartbeats 1000000 in
theorem walk (px py pz ax ay az bx bY bz : Int) (w : World) (_ : i64P (px, py, pz)) (_ : i64P (ax, ay, az)) (_ : i64P (bx, bY, bz)) :
    Calls Try.prog 8 #[.agg #[.int .i64 px, .int .i64 py, .int .i64 pz], .agg #[.int .i64 ax, .int .i64 ay, .int .i64 az], .agg #[.int .i64 bx, .int .i64 bY, .int .i64 bz]] w fun e w' => e = .returned (.bool true) ∧ Below w.heap.size w w' := by
  have HT0 := Lib.hid (Tri.new w (px, py, pz) (ax, ay, az) (bx, bY, bz))
  have HO1 := Lib.hid (fun W => geomOn_any px py pz ax ay az bx bY bz W)
  have HR1 := Lib.hid (fun W => ref9On_any px py pz ax ay az bx bY bz W)
  have HO2 := Lib.hid (fun W => geomOn_any px py pz bx bY bz ax ay az W)
  rw [on_swap (px, py, pz) (ax, ay, az) (bx, bY, bz)] at HO2
  generalize onF (px, py, pz) (ax, ay, az) (bx, bY, bz) = o at *
  go_enter Try.func8, Try.ntmps8
  go_wp2_with fail
  refine (HO1.out _).mono ?_
  rintro e w1 ⟨rfl, hb1⟩
  have HT1 := Lib.hid (HT0.out.next hb1)
  obtain ⟨c0, c1, c2, c3, c4, c5, c6, c7, c8⟩ := HT1.out.cells
  simp only at c0 c1 c2 c3 c4 c5 c6 c7 c8
  clear hb1 HT0 HO1
  go_wp2_with fail
  refine (HR1.out _).mono ?_
  rintro e w2 ⟨rfl, hb2⟩
  have HT2 := Lib.hid (HT1.out.next hb2)
  clear hb2 HT1 HR1 c0 c1 c2 c3 c4 c5 c6 c7 c8
  obtain ⟨c0, c1, c2, c3, c4, c5, c6, c7, c8⟩ := HT2.out.cells
  simp only at c0 c1 c2 c3 c4 c5 c6 c7 c8
  go_wp2_with fail
  refine (HO2.out _).mono ?_
  rintro e w3 ⟨rfl, hb3⟩
  have HT3 := Lib.hid (HT2.out.next hb3)
  clear hb3 HT2 HO2 c0 c1 c2 c3 c4 c5 c6 c7 c8
  go_wp2_with fail
  refine (known09 _).mono ?_
  rintro e w4 ⟨rfl, hb4⟩
  go_wp2
  go_ret
  exact ⟨rfl, new_call HT3.out.bel hb4⟩

set_option maxRecDepth 100000 in
theorem lifted (os : Os) (started : os.Started) (H : Type) (enc : TypeId × Value → H) :
    ReturnsInHanded {} Try.checked os 8 .any (Rows.geomOnSpec.pre6 enc Try.prog Try.f8 Rows.geomOnRow.domain false) (Rows.geomOnSpec.post enc Try.prog Try.f8 false true false false) := by
  refine returnsInHanded_of_change (C := Try.checked) Try.own started (by kernel_rfl) Try.func8
    (ChangeSpec.witness6 (enc := enc) (C := Try.checked) false ⟨#[], #[.agg #[.int .i64 0, .int .i64 0, .int .i64 0], .agg #[.int .i64 0, .int .i64 0, .int .i64 0], .agg #[.int .i64 0, .int .i64 0, .int .i64 0]], []⟩ 8 (by kernel_rfl) (by kernel_rfl) (by kernel_rfl) (by kernel_rfl)) ?_
  intro W base args ds gs before hval0 hW _ _
  have hval : ∀ (j : Nat) t v, Try.f8.params[j]? = some t → args[j]? = some v → Value.okWide Try.prog W .any base t v := hval0
  have hW' := hW
  obtain ⟨p, q, hA0, hV, rfl, _, _⟩ := hW
  have hA : DataW.TrodAll enc Try.prog W 0 (fun _ => true) true Try.f8.params.toList args.toList ds p := hA0
  rw [Try.params8] at hA hval
  obtain ⟨v0, v1, v2, d0, d1, d2, p0, p1, p2, rfl, rfl, rfl, h0, h1, h2⟩ := trodAll_three hA
  obtain ⟨rfl, rfl⟩ := trodVars_none hV
  obtain ⟨x0, y0, z0, rfl, hh0⟩ := open_pt (hval 0 23 v0 rfl rfl) h0
  obtain ⟨x1, y1, z1, rfl, hh1⟩ := open_pt (hval 1 23 v1 rfl rfl) h1
  obtain ⟨x2, y2, z2, rfl, hh2⟩ := open_pt (hval 2 23 v2 rfl rfl) h2
  exact (walk x0 y0 z0 x1 y1 z1 x2 y2 z2 W hh0 hh1 hh2).mono fun e W' he =>
    law_post rfl rfl (by rw [Try.params8]; intro t ht; simp at ht; subst ht; exact ⟨by kernel_rfl, of_decide_eq_true (by kernel_rfl)⟩) hW' rfl he

theorem proved : Rows.GeomOnSaid :=
  OpenClaim.holds_of_wide 8 Try.f8 rfl rfl rfl rfl rfl rfl rfl ⟨rfl, rfl, rfl, rfl, rfl⟩ rfl rfl rfl rfl rfl (by kernel_rfl) Try.func8 (by kernel_rfl)
    (of_decide_eq_true (by kernel_rfl)) (by unfold Func.isWrapper; first | (rw [if_pos (by decide +kernel)]; kernel_rfl) | (rw [if_neg (by decide +kernel)]; exact ⟨rfl, rfl⟩))
    (fun os started H enc _ => lifted os started H enc)
end Go.Proofs.Ytnhoinonojhgiaa.geomOn
