import Derived.Test.YthjmojglcfmkmaaDoorLaw
import Derived.Test.YthjmojglcfmkmaaDoorPts
import Derived.Deep.Slices
import Derived.Deep.Fields
import Derived.Lib.SmallJoins
import Derived.Laws.IdiomArrays
/- Meshes that came in: points, and triangles, in rows. -/
namespace Go.Proofs.YthjmojglcfmkmaaDoor
open Go.ChangeShapes Go.WideShapes Go.ChangeAt Go.RowKit Go.Deep Go.Joins

theorem ptM_under : ∃ f0 f1 f2 : Field, Tryd.prog.underlying 84 = some (.struct #[f0, f1, f2]) ∧ f0.type = 3 ∧ f1.type = 3 ∧ f2.type = 3 ∧ oneCellFields Tryd.prog #[f0, f1, f2] = true ∧ Tryd.prog.cellsOf 84 = 3 :=
  ⟨_, _, _, Tryd.underlying84, rfl, rfl, rfl, by kernel_rfl, by kernel_rfl⟩
def i64T (p : P3) : Prop := (-9223372036854775808 ≤ p.1 ∧ p.1 ≤ 9223372036854775807) ∧ (-9223372036854775808 ≤ p.2.1 ∧ p.2.1 ≤ 9223372036854775807) ∧ (-9223372036854775808 ≤ p.2.2 ∧ p.2.2 ≤ 9223372036854775807)
/-- Elements of three numbers, read one by one, are a row. -/
theorem row_of_three {W : World} {a : Addr} {n cap : Nat} (hl : n ≤ cap) (hm : cap ≤ maxLen) (each : ∀ i, i < n → ∃ y : P3, W.cell? (a.add (i * 3)) = some (.int .i64 y.1) ∧ W.cell? (a.add (i * 3 + 1)) = some (.int .i64 y.2.1) ∧ W.cell? (a.add (i * 3 + 2)) = some (.int .i64 y.2.2) ∧ i64T y) :
    ∃ l : List P3, HasK 3 W (some a) n cap (p3Cells l) ∧ (∀ x ∈ l, i64T x) ∧ n ≤ 9223372036854775807 := by
  obtain ⟨y, hy⟩ := choose_lt each
  refine ⟨(List.range n).map y, ⟨by rw [p3Cells_len]; simp, hl, (fun h => by cases h), fun hn => ?_⟩, ?_, by unfold maxLen at hm; omega⟩
  · obtain ⟨b, off, spot⟩ := a
    have h0 := (hy 0 hn).1
    have hspot : spot = none := by simpa [Addr.add] using World.cell?_spot h0
    subst hspot
    refine ⟨b, off, rfl, World.block_lt_of_cell? W _ h0, fun j u hu' => ?_⟩
    have hj : j < (p3Cells ((List.range n).map y)).length := by
      rcases Nat.lt_or_ge j (p3Cells ((List.range n).map y)).length with hj | hj
      · exact hj
      · rw [List.getElem?_eq_none hj] at hu'; cases hu'
    rw [p3Cells_len, List.length_map, List.length_range] at hj
    obtain ⟨q0, q1, q2⟩ := p3Cells_at (l := (List.range n).map y) (i := j / 3) (by simp; omega)
    obtain ⟨z0, z1, z2, _⟩ := hy (j / 3) (by omega)
    rw [add_plain] at z0 z1 z2
    simp only [List.getElem_map, List.getElem_range] at q0 q1 q2
    rcases (show j % 3 = 0 ∨ j % 3 = 1 ∨ j % 3 = 2 by omega) with e | e | e
    · have ej : j / 3 * 3 = j := by omega
      rw [ej] at q0 z0
      rw [q0] at hu'
      rw [z0, ← hu']
    · have ej : j / 3 * 3 + 1 = j := by omega
      rw [ej] at q1 z1
      rw [q1] at hu'
      rw [z1, ← hu']
    · have ej : j / 3 * 3 + 2 = j := by omega
      rw [ej] at q2 z2
      rw [q2] at hu'
      rw [z2, ← hu']
  · intro s hs
    obtain ⟨i, hi', rfl⟩ := List.mem_map.1 hs
    exact (hy i (List.mem_range.1 hi')).2.2.2
set_option maxRecDepth 100000 in
theorem open_p3row {H : Type} {enc : TypeId × Value → H} {W : World} {fuel : Nat} {v : Value} {y : DataW H × List MemPlace} (hf : DataW.trod enc Tryd.prog W 0 (fun _ => true) true fuel 46 [v] = some y) :
    ∃ A n c l, v = .slice A n c ∧ HasK 3 W A n c (p3Cells l) ∧ (∀ x ∈ l, i64T x) ∧ n ≤ 9223372036854775807 := by
  obtain ⟨f0, f1, f2, hu, e0, e1, e2, hone, hC⟩ := ptM_under
  rcases open_slice Tryd.underlying46 hf with ⟨hcs, _⟩ | ⟨a, len, cap, m, fu, D, Pl, hcs, _, hl, hm, hmm, hx, hi⟩
  · simp at hcs
    subst hcs
    exact ⟨_, _, _, [], rfl, HasK.none _ _ _ _ (fun _ => rfl), (fun x hx => by cases hx), by omega⟩
  · simp at hcs
    subst hcs
    simp only [if_true] at hmm
    subst hmm
    obtain ⟨l, h1, h2, h3⟩ := row_of_three hl hm (by
      intro i hin
      obtain ⟨cs', hc, ht'⟩ := hi i (by omega)
      rw [hC] at hc
      obtain ⟨xs, n', hn', hy, hlen, hyl, hfl⟩ := DataW.trod_struct hu ht'
      obtain ⟨_, hcl, hat⟩ := World.cells?_some hc
      match cs', hcl, xs, hyl with
      | [c0, c1, c2], _, [y0, y1, y2], _ =>
        obtain ⟨o0, k0⟩ := hone_of hone 0 f0 rfl
        obtain ⟨o1, k1⟩ := hone_of hone 1 f1 rfl
        obtain ⟨o2, k2⟩ := hone_of hone 2 f2 rfl
        have t0 := hfl 0 f0 rfl
        have t1 := hfl 1 f1 rfl
        have t2 := hfl 2 f2 rfl
        rw [o0, k0, e0] at t0
        rw [o1, k1, e1] at t1
        rw [o2, k2, e2] at t2
        simp at t0 t1 t2
        obtain ⟨k, hk, _, hw⟩ := DataW.trod_int Tryd.underlying3 t0
        simp at hk
        subst hk
        obtain ⟨k1, hk1, _, hw1⟩ := DataW.trod_int Tryd.underlying3 t1
        simp at hk1
        subst hk1
        obtain ⟨k2, hk2, _, hw2⟩ := DataW.trod_int Tryd.underlying3 t2
        simp at hk2
        subst hk2
        have hc0 := hat 0 (by omega)
        have hc1 := hat 1 (by omega)
        have hc2 := hat 2 (by omega)
        rw [Go.Deep.add_add] at hc0 hc1 hc2
        simp at hc0 hc1 hc2
        exact ⟨(k, k1, k2), hc0, hc1, hc2, wf_i64 hw, wf_i64 hw1, wf_i64 hw2⟩)
    exact ⟨_, _, _, l, rfl, h1, h2, h3⟩
set_option maxRecDepth 100000 in
theorem open_t3row {H : Type} {enc : TypeId × Value → H} {W : World} {fuel : Nat} {v : Value} {y : DataW H × List MemPlace} (hf : DataW.trod enc Tryd.prog W 0 (fun _ => true) true fuel 26 [v] = some y) :
    ∃ A n c l, v = .slice A n c ∧ HasK 3 W A n c (p3Cells l) ∧ (∀ x ∈ l, i64T x) ∧ n ≤ 9223372036854775807 := by
  have hC : Tryd.prog.cellsOf 58 = 3 := by kernel_rfl
  have hI : Tryd.prog.cellsOf 3 = 1 := by kernel_rfl
  rcases open_slice Tryd.underlying26 hf with ⟨hcs, _⟩ | ⟨a, len, cap, m, fu, D, Pl, hcs, _, hl, hm, hmm, hx, hi⟩
  · simp at hcs
    subst hcs
    exact ⟨_, _, _, [], rfl, HasK.none _ _ _ _ (fun _ => rfl), (fun x hx => by cases hx), by omega⟩
  · simp at hcs
    subst hcs
    simp only [if_true] at hmm
    subst hmm
    obtain ⟨l, h1, h2, h3⟩ := row_of_three hl hm (by
      intro i hin
      obtain ⟨cs', hc, ht'⟩ := hi i (by omega)
      rw [hC] at hc
      obtain ⟨_, hcl, hat⟩ := World.cells?_some hc
      match cs', hcl with
      | [c0, c1, c2], _ =>
        obtain ⟨y0, y1, y2, n', _, t0, t1, t2⟩ := trod_array3 Tryd.underlying58 hI ht'
        obtain ⟨k, hk, _, hw⟩ := DataW.trod_int Tryd.underlying3 t0
        simp at hk
        subst hk
        obtain ⟨k1, hk1, _, hw1⟩ := DataW.trod_int Tryd.underlying3 t1
        simp at hk1
        subst hk1
        obtain ⟨k2, hk2, _, hw2⟩ := DataW.trod_int Tryd.underlying3 t2
        simp at hk2
        subst hk2
        have hc0 := hat 0 (by omega)
        have hc1 := hat 1 (by omega)
        have hc2 := hat 2 (by omega)
        rw [Go.Deep.add_add] at hc0 hc1 hc2
        simp at hc0 hc1 hc2
        exact ⟨(k, k1, k2), hc0, hc1, hc2, wf_i64 hw, wf_i64 hw1, wf_i64 hw2⟩)
    exact ⟨_, _, _, l, rfl, h1, h2, h3⟩
theorem meshM_under : ∃ f0 f1 : Field, Tryd.prog.underlying 48 = some (.struct #[f0, f1]) ∧ f0.type = 46 ∧ f1.type = 26 ∧ oneCellFields Tryd.prog #[f0, f1] = true ∧ Tryd.prog.cellsOf 48 = 2 :=
  ⟨_, _, Tryd.underlying48, rfl, rfl, by kernel_rfl, by kernel_rfl⟩
set_option maxRecDepth 100000 in
/-- A mesh by value. -/
theorem open_mesh {H : Type} {enc : TypeId × Value → H} {W : World} {base : Nat} {v : Value} {d : DataW H} {p : List MemPlace} (hv : Value.okWide Tryd.prog W .any base 48 v)
    (h : DataW.Trod enc Tryd.prog W 0 (fun _ => true) true 48 v d p) :
    ∃ A n c P B m d2 T, v = .agg #[.slice A n c, .slice B m d2] ∧ HasK 3 W A n c (p3Cells P) ∧ HasK 3 W B m d2 (p3Cells T) ∧ (∀ x ∈ P, i64T x) ∧ (∀ x ∈ T, i64T x) ∧ n ≤ 9223372036854775807 ∧ m ≤ 9223372036854775807 := by
  obtain ⟨f0, f1, hu, e0, e1, hone, hC⟩ := meshM_under
  obtain ⟨v0, v1, y0, y1, n, rfl, _, _, t0, t1⟩ := open_agg2 hu hone hC hv h
  rw [e0] at t0
  rw [e1] at t1
  obtain ⟨A, n1, c, P, rfl, h1, h2, h3⟩ := open_p3row t0
  obtain ⟨B, m, d2, T, rfl, g1, g2, g3⟩ := open_t3row t1
  exact ⟨A, n1, c, P, B, m, d2, T, rfl, h1, g1, h2, g2, h3, g3⟩
end Go.Proofs.YthjmojglcfmkmaaDoor
