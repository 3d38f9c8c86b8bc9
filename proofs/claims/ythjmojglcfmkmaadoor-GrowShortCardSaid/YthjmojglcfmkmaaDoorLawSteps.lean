/- Steps that came in: one, and a row of them. -/
import Derived.Test.YthjmojglcfmkmaaDoorLawMesh
import Derived.Test.YthjmojglcfmkmaaDoorMeshRefG
namespace Go.Proofs.YthjmojglcfmkmaaDoor
open Go.ChangeShapes Go.WideShapes Go.ChangeAt Go.RowKit Go.Deep Go.Joins

theorem step_under : ∃ f0 f1 : Field, Tryd.prog.underlying 33 = some (.struct #[f0, f1]) ∧ f0.type = 3 ∧ f1.type = 3 ∧ oneCellFields Tryd.prog #[f0, f1] = true ∧ Tryd.prog.cellsOf 33 = 2 :=
  ⟨_, _, Tryd.underlying33, rfl, rfl, by kernel_rfl, by kernel_rfl⟩
/-- Both numbers are words. -/
def i64D (x : Int × Int) : Prop := (-9223372036854775808 ≤ x.1 ∧ x.1 ≤ 9223372036854775807) ∧ -9223372036854775808 ≤ x.2 ∧ x.2 ≤ 9223372036854775807
set_option maxRecDepth 100000 in
theorem open_step {H : Type} {enc : TypeId × Value → H} {W : World} {base : Nat} {v : Value} {d : DataW H} {p : List MemPlace} (hv : Value.okWide Tryd.prog W .any base 33 v)
    (h : DataW.Trod enc Tryd.prog W 0 (fun _ => true) true 33 v d p) :
    ∃ k x, v = .agg #[.int .i64 k, .int .i64 x] ∧ i64D (k, x) := by
  obtain ⟨f0, f1, hu, e0, e1, hone, hC⟩ := step_under
  obtain ⟨v0, v1, y0, y1, n, rfl, _, _, t0, t1⟩ := open_agg2 hu hone hC hv h
  rw [e0] at t0
  rw [e1] at t1
  obtain ⟨k, hk, _, hw⟩ := DataW.trod_int Tryd.underlying3 t0
  simp at hk
  subst hk
  obtain ⟨k1, hk1, _, hw1⟩ := DataW.trod_int Tryd.underlying3 t1
  simp at hk1
  subst hk1
  exact ⟨k, k1, rfl, wf_i64 hw, wf_i64 hw1⟩
set_option maxRecDepth 100000 in
theorem open_steps {H : Type} {enc : TypeId × Value → H} {W : World} {base : Nat} {v : Value} {d : DataW H} {p : List MemPlace} (hv : Value.okWide Tryd.prog W .any base 22 v)
    (h : DataW.Trod enc Tryd.prog W 0 (fun _ => true) true 22 v d p) :
    ∃ A n c l, v = .slice A n c ∧ HasK 2 W A n c (e2Cells l) ∧ (∀ x ∈ l, i64D x) ∧ n ≤ 9223372036854775807 := by
  obtain ⟨A, n, c, rfl⟩ := okWide_slice Tryd.underlying22 hv
  obtain ⟨fuel, hf⟩ := h
  obtain ⟨f0, f1, hu, e0, e1, hone, hC⟩ := step_under
  rcases open_slice Tryd.underlying22 hf with ⟨hcs, _⟩ | ⟨a, len, cap, m, fu, D, Pl, hcs, _, hl, hm, hmm, hx, hi⟩
  · simp [Value.cells] at hcs
    obtain ⟨rfl, rfl, rfl⟩ := hcs
    exact ⟨_, _, _, [], rfl, HasK.none _ _ _ _ (fun _ => rfl), (fun x hx => by cases hx), by omega⟩
  · simp [Value.cells] at hcs
    obtain ⟨rfl, rfl, rfl⟩ := hcs
    simp only [if_true] at hmm
    subst hmm
    have each : ∀ i, i < n → ∃ y : Int × Int, W.cell? (a.add (i * 2)) = some (.int .i64 y.1) ∧ W.cell? (a.add (i * 2 + 1)) = some (.int .i64 y.2) ∧ i64D y := by
      intro i hin
      obtain ⟨cs', hc, ht'⟩ := hi i (by omega)
      rw [hC] at hc
      obtain ⟨xs, n', hn', hy, hlen, hyl, hfl⟩ := DataW.trod_struct hu ht'
      obtain ⟨_, hcl, hat⟩ := World.cells?_some hc
      match cs', hcl, xs, hyl with
      | [c0, c1], _, [y0, y1], _ =>
        obtain ⟨o0, k0⟩ := hone_of hone 0 f0 rfl
        obtain ⟨o1, k1⟩ := hone_of hone 1 f1 rfl
        have t0 := hfl 0 f0 rfl
        have t1 := hfl 1 f1 rfl
        rw [o0, k0, e0] at t0
        rw [o1, k1, e1] at t1
        simp at t0 t1
        obtain ⟨k, hk, _, hw⟩ := DataW.trod_int Tryd.underlying3 t0
        simp at hk
        subst hk
        obtain ⟨k2, hk2, _, hw2⟩ := DataW.trod_int Tryd.underlying3 t1
        simp at hk2
        subst hk2
        have hc0 := hat 0 (by omega)
        have hc1 := hat 1 (by omega)
        rw [Go.Deep.add_add] at hc0 hc1
        simp at hc0 hc1
        exact ⟨(k, k2), hc0, hc1, wf_i64 hw, wf_i64 hw2⟩
    obtain ⟨y, hy⟩ := choose_lt each
    refine ⟨_, n, _, (List.range n).map y, rfl, ⟨by rw [e2Cells_len]; simp, hl, (fun h => by cases h), fun hn => ?_⟩, ?_, by unfold maxLen at hm; omega⟩
    · obtain ⟨b, off, spot⟩ := a
      have h0 := (hy 0 hn).1
      have hspot : spot = none := by simpa [Addr.add] using World.cell?_spot h0
      subst hspot
      refine ⟨b, off, rfl, World.block_lt_of_cell? W _ h0, fun j u hu' => ?_⟩
      have hj : j < (e2Cells ((List.range n).map y)).length := by
        rcases Nat.lt_or_ge j (e2Cells ((List.range n).map y)).length with hj | hj
        · exact hj
        · rw [List.getElem?_eq_none hj] at hu'; cases hu'
      rw [e2Cells_len, List.length_map, List.length_range] at hj
      obtain ⟨q0, q1⟩ := e2Cells_at (l := (List.range n).map y) (i := j / 2) (by simp; omega)
      obtain ⟨z0, z1, _⟩ := hy (j / 2) (by omega)
      rw [add_plain] at z0 z1
      simp only [List.getElem_map, List.getElem_range] at q0 q1
      rcases Nat.mod_two_eq_zero_or_one j with e | e
      · have ej : j / 2 * 2 = j := by omega
        rw [ej] at q0 z0
        rw [q0] at hu'
        rw [z0, ← hu']
      · have ej : j / 2 * 2 + 1 = j := by omega
        rw [ej] at q1 z1
        rw [q1] at hu'
        rw [z1, ← hu']
    · intro s hs
      obtain ⟨i, hi', rfl⟩ := List.mem_map.1 hs
      exact (hy i (List.mem_range.1 hi')).2.2
set_option maxRecDepth 100000 in
theorem steps_len {H : Type} {enc : TypeId × Value → H} {W : World} {A : Option Addr} {n c : Nat} {d : DataW H} {p : List MemPlace} (h : DataW.Trod enc Tryd.prog W 0 (fun _ => true) true 22 (.slice A n c) d p) (hw : ∀ m ∈ d.weights Tryd.prog 22, m ≤ reachBytes) : n ≤ 140737488355328 := by
  obtain ⟨fuel, hf⟩ := h
  rcases open_slice Tryd.underlying22 hf with ⟨hcs, _⟩ | ⟨a, len, cap, m, fu, D, Pl, hcs, _, hl, hm, hmm, hx, hi⟩
  · simp [Value.cells] at hcs
    omega
  · simp [Value.cells] at hcs
    obtain ⟨rfl, rfl, rfl⟩ := hcs
    simp only [Prod.mk.injEq] at hx
    obtain ⟨rfl, _⟩ := hx
    have hb : Tryd.prog.bytesOf 33 = 16 := by kernel_rfl
    have := hw (((List.range n).map D).length * 16 + (((List.range (m - n)).map fun j => D (n + j)).length) * 16) (by simp [DataW.weights, Tryd.underlying22, hb, Nat.add_mul])
    have hrb := reachBytes_lt
    have e : (2 : Nat) ^ 47 = 140737488355328 := by decide
    simp only [List.length_map, List.length_range] at this
    omega
set_option maxRecDepth 100000 in
theorem open_steps_sized {H : Type} {enc : TypeId × Value → H} {W : World} {base : Nat} {v : Value} {d : DataW H} {p : List MemPlace} (hv : Value.okWide Tryd.prog W .any base 22 v)
    (h : DataW.Trod enc Tryd.prog W 0 (fun _ => true) true 22 v d p) (hw : ∀ m ∈ d.weights Tryd.prog 22, m ≤ reachBytes) :
    ∃ A n c l, v = .slice A n c ∧ HasK 2 W A n c (e2Cells l) ∧ (∀ x ∈ l, i64D x) ∧ n ≤ 140737488355328 := by
  obtain ⟨A, n, c, l, rfl, h1, h2, _⟩ := open_steps hv h
  exact ⟨A, n, c, l, rfl, h1, h2, steps_len h hw⟩
end Go.Proofs.YthjmojglcfmkmaaDoor
