import Derived.Test.YtnhoinonojhgiaaLaw
import Derived.Test.YtnhoinonojhgiaaGeomRef
import Derived.Deep.Slices
import Derived.Deep.Fields
import Derived.Lib.SmallJoins
/- Points, and rows of them, that came in. -/
namespace Go.Proofs.Ytnhoinonojhgiaa
open Go.ChangeShapes Go.WideShapes Go.ChangeAt Go.RowKit Go.Deep Go.Joins

theorem wf_i16 {z : Int} (h : (Lit.int .i16 z).wf = true) : -32768 ≤ z ∧ z ≤ 32767 := by
  simp [Lit.wf, IntKind.min, IntKind.max, IntKind.signed, IntKind.bits] at h; omega
theorem pt_under : ∃ f0 f1 f2 : Field, Try.prog.underlying 23 = some (.struct #[f0, f1, f2]) ∧ f0.type = 3 ∧ f1.type = 3 ∧ f2.type = 3 ∧ oneCellFields Try.prog #[f0, f1, f2] = true ∧ Try.prog.cellsOf 23 = 3 :=
  ⟨_, _, _, Try.underlying23, rfl, rfl, rfl, by kernel_rfl, by kernel_rfl⟩
def i64P (p : P3) : Prop := (-9223372036854775808 ≤ p.1 ∧ p.1 ≤ 9223372036854775807) ∧ (-9223372036854775808 ≤ p.2.1 ∧ p.2.1 ≤ 9223372036854775807) ∧ (-9223372036854775808 ≤ p.2.2 ∧ p.2.2 ≤ 9223372036854775807)
set_option maxRecDepth 100000 in
theorem open_pt {H : Type} {enc : TypeId × Value → H} {W : World} {base : Nat} {v : Value} {d : DataW H} {p : List MemPlace} (hv : Value.okWide Try.prog W .any base 23 v)
    (h : DataW.Trod enc Try.prog W 0 (fun _ => true) true 23 v d p) :
    ∃ x y z, v = .agg #[.int .i64 x, .int .i64 y, .int .i64 z] ∧ i64P (x, y, z) := by
  obtain ⟨f0, f1, f2, hu, e0, e1, e2, hone, hC⟩ := pt_under
  obtain ⟨v0, v1, v2, y0, y1, y2, n, rfl, _, _, t0, t1, t2⟩ := open_agg3 hu hone hC hv h
  rw [e0] at t0
  rw [e1] at t1
  rw [e2] at t2
  obtain ⟨k, hk, _, hw⟩ := DataW.trod_int Try.underlying3 t0
  simp at hk
  subst hk
  obtain ⟨k1, hk1, _, hw1⟩ := DataW.trod_int Try.underlying3 t1
  simp at hk1
  subst hk1
  obtain ⟨k2, hk2, _, hw2⟩ := DataW.trod_int Try.underlying3 t2
  simp at hk2
  subst hk2
  exact ⟨k, k1, k2, rfl, wf_i64 hw, wf_i64 hw1, wf_i64 hw2⟩
set_option maxRecDepth 100000 in
theorem open_pts {H : Type} {enc : TypeId × Value → H} {W : World} {base : Nat} {v : Value} {d : DataW H} {p : List MemPlace} (hv : Value.okWide Try.prog W .any base 28 v)
    (h : DataW.Trod enc Try.prog W 0 (fun _ => true) true 28 v d p) :
    ∃ A n c l, v = .slice A n c ∧ HasK 3 W A n c (p3Cells l) ∧ (∀ x ∈ l, i64P x) ∧ n ≤ 9223372036854775807 := by
  obtain ⟨A, n, c, rfl⟩ := okWide_slice Try.underlying28 hv
  obtain ⟨fuel, hf⟩ := h
  obtain ⟨f0, f1, f2, hu, e0, e1, e2, hone, hC⟩ := pt_under
  rcases open_slice Try.underlying28 hf with ⟨hcs, _⟩ | ⟨a, len, cap, m, fu, D, Pl, hcs, _, hl, hm, hmm, hx, hi⟩
  · simp [Value.cells] at hcs
    obtain ⟨rfl, rfl, rfl⟩ := hcs
    exact ⟨_, _, _, [], rfl, HasK.none _ _ _ _ (fun _ => rfl), (fun x hx => by cases hx), by omega⟩
  · simp [Value.cells] at hcs
    obtain ⟨rfl, rfl, rfl⟩ := hcs
    simp only [if_true] at hmm
    subst hmm
    have each : ∀ i, i < n → ∃ y : P3, W.cell? (a.add (i * 3)) = some (.int .i64 y.1) ∧ W.cell? (a.add (i * 3 + 1)) = some (.int .i64 y.2.1) ∧ W.cell? (a.add (i * 3 + 2)) = some (.int .i64 y.2.2) ∧ i64P y := by
      intro i hin
      obtain ⟨cs', hc, ht'⟩ := hi i (by omega)
      rw [hC] at hc
      obtain ⟨xs, n', hn', hy, hlen, hyl, hfl⟩ := DataW.trod_struct hu ht'
      obtain ⟨_, hcl, hat⟩ := World.cells?_some hc
      match cs', hcl, xs, hyl with
      | [c0, c1, c2], _, [y0, y1, y2], _ =>
        obtain ⟨o0, k0⟩ := hone_of hone 0 f0 rfl
        obtain ⟨o1, k1⟩ := hone_of hone 1 f1 rfl
        obtain ⟨o2, k2⟩ := hone_of hone 2 f2 rfl
        have t0 := hfl 0 f0 rfl
        have t1 := hfl 1 f1 rfl
        have t2 := hfl 2 f2 rfl
        rw [o0, k0, e0] at t0
        rw [o1, k1, e1] at t1
        rw [o2, k2, e2] at t2
        simp at t0 t1 t2
        obtain ⟨k, hk, _, hw⟩ := DataW.trod_int Try.underlying3 t0
        simp at hk
        subst hk
        obtain ⟨k1, hk1, _, hw1⟩ := DataW.trod_int Try.underlying3 t1
        simp at hk1
        subst hk1
        obtain ⟨k2, hk2, _, hw2⟩ := DataW.trod_int Try.underlying3 t2
        simp at hk2
        subst hk2
        have hc0 := hat 0 (by omega)
        have hc1 := hat 1 (by omega)
        have hc2 := hat 2 (by omega)
        rw [Go.Deep.add_add] at hc0 hc1 hc2
        simp at hc0 hc1 hc2
        exact ⟨(k, k1, k2), hc0, hc1, hc2, wf_i64 hw, wf_i64 hw1, wf_i64 hw2⟩
    obtain ⟨y, hy⟩ := choose_lt each
    refine ⟨_, n, _, (List.range n).map y, rfl, ⟨by rw [p3Cells_len]; simp, hl, (fun h => by cases h), fun hn => ?_⟩, ?_, by unfold maxLen at hm; omega⟩
    · obtain ⟨b, off, spot⟩ := a
      have h0 := (hy 0 hn).1
      have hspot : spot = none := by simpa [Addr.add] using World.cell?_spot h0
      subst hspot
      refine ⟨b, off, rfl, World.block_lt_of_cell? W _ h0, fun j u hu' => ?_⟩
      have hj : j < (p3Cells ((List.range n).map y)).length := by
        rcases Nat.lt_or_ge j (p3Cells ((List.range n).map y)).length with hj | hj
        · exact hj
        · rw [List.getElem?_eq_none hj] at hu'; cases hu'
      rw [p3Cells_len, List.length_map, List.length_range] at hj
      obtain ⟨q0, q1, q2⟩ := p3Cells_at (l := (List.range n).map y) (i := j / 3) (by simp; omega)
      obtain ⟨z0, z1, z2, _⟩ := hy (j / 3) (by omega)
      rw [add_plain] at z0 z1 z2
      simp only [List.getElem_map, List.getElem_range] at q0 q1 q2
      rcases (show j % 3 = 0 ∨ j % 3 = 1 ∨ j % 3 = 2 by omega) with e | e | e
      · have ej : j / 3 * 3 = j := by omega
        rw [ej] at q0 z0
        rw [q0] at hu'
        rw [z0, ← hu']
      · have ej : j / 3 * 3 + 1 = j := by omega
        rw [ej] at q1 z1
        rw [q1] at hu'
        rw [z1, ← hu']
      · have ej : j / 3 * 3 + 2 = j := by omega
        rw [ej] at q2 z2
        rw [q2] at hu'
        rw [z2, ← hu']
    · intro s hs
      obtain ⟨i, hi', rfl⟩ := List.mem_map.1 hs
      exact (hy i (List.mem_range.1 hi')).2.2.2
theorem trodAll_fivep {H : Type} {enc : TypeId × Value → H} {P : Program} {w : World} {base : Nat} {spare : Nat → Bool} {held : Bool} {t0 t1 t2 t3 t4 : TypeId} {args : Array Value} {ds : List (DataW H)} {ps : List MemPlace} (h : DataW.TrodAll enc P w base spare held [t0, t1, t2, t3, t4] args.toList ds ps) :
    ∃ v0 v1 v2 v3 v4 d0 d1 d2 d3 d4 p0 p1 p2 p3 p4, args = #[v0, v1, v2, v3, v4] ∧ ds = [d0, d1, d2, d3, d4] ∧ ps = p0 ++ p1 ++ p2 ++ p3 ++ p4 ∧ DataW.Trod enc P w base spare held t0 v0 d0 p0 ∧ DataW.Trod enc P w base spare held t1 v1 d1 p1 ∧ DataW.Trod enc P w base spare held t2 v2 d2 p2 ∧ DataW.Trod enc P w base spare held t3 v3 d3 p3 ∧ DataW.Trod enc P w base spare held t4 v4 d4 p4 := by
  obtain ⟨v0, vs0, d0, ds0, p0, q0, hargs, rfl, rfl, hd0, hr0⟩ := trodAll_cons h
  obtain ⟨v1, vs1, d1, ds1, p1, q1, rfl, rfl, rfl, hd1, hr1⟩ := trodAll_cons hr0
  obtain ⟨v2, vs2, d2, ds2, p2, q2, rfl, rfl, rfl, hd2, hr2⟩ := trodAll_cons hr1
  obtain ⟨v3, vs3, d3, ds3, p3, q3, rfl, rfl, rfl, hd3, hr3⟩ := trodAll_cons hr2
  obtain ⟨v4, vs4, d4, ds4, p4, q4, rfl, rfl, rfl, hd4, hr4⟩ := trodAll_cons hr3
  obtain ⟨rfl, rfl, rfl⟩ := trodAll_nil hr4
  exact ⟨v0, v1, v2, v3, v4, d0, d1, d2, d3, d4, p0, p1, p2, p3, p4, by cases args; simp_all, rfl, by simp, hd0, hd1, hd2, hd3, hd4⟩
end Go.Proofs.Ytnhoinonojhgiaa
