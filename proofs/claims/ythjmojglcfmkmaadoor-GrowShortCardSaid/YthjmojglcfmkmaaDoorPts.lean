/- Points, and triangles, in rows: three cells each. -/
import Derived.Test.YthjmojglcfmkmaaDoorKeep
import Derived.Test.YthjmojglcfmkmaaDoorGeomMath
namespace Go.Proofs.YthjmojglcfmkmaaDoor
open Go.RowKit

/-- Points in a row: three cells each. -/
def p3V (p : P3) : Value := .agg #[.int .i64 p.1, .int .i64 p.2.1, .int .i64 p.2.2]
def p3Cells (l : List P3) : List Value := l.flatMap fun p => [.int .i64 p.1, .int .i64 p.2.1, .int .i64 p.2.2]
theorem p3Cells_len (l : List P3) : (p3Cells l).length = l.length * 3 := by
  induction l with
  | nil => rfl
  | cons p l ih => simp only [p3Cells, List.flatMap_cons, List.length_append, List.length_cons, List.length_nil] at *; omega
theorem p3Cells_app (l r : List P3) : p3Cells (l ++ r) = p3Cells l ++ p3Cells r := by simp [p3Cells]
theorem p3Cells_at {l : List P3} {i : Nat} (h : i < l.length) : (p3Cells l)[i * 3]? = some (.int .i64 l[i].1) ∧ (p3Cells l)[i * 3 + 1]? = some (.int .i64 l[i].2.1) ∧ (p3Cells l)[i * 3 + 2]? = some (.int .i64 l[i].2.2) := by
  induction l generalizing i with
  | nil => simp at h
  | cons q l ih =>
    have e : p3Cells (q :: l) = .int .i64 q.1 :: .int .i64 q.2.1 :: .int .i64 q.2.2 :: p3Cells l := by simp [p3Cells]
    cases i with
    | zero => rw [e]; simp
    | succ i =>
      have := ih (i := i) (by simpa using h)
      rw [e, show (i + 1) * 3 = i * 3 + 1 + 1 + 1 by omega]
      simpa using this
theorem p3Cells_one (l : List P3) : ∀ u ∈ p3Cells l, u.oneCell' = true := by
  intro u hu
  obtain ⟨p, _, hu⟩ := List.mem_flatMap.1 hu
  simp at hu
  rcases hu with rfl | rfl | rfl <;> rfl
theorem p3Info : (Tryd.prog.info? 84).map (fun i => (i.zero, i.size)) = some (some (.agg #[.int .i64 0, .int .i64 0, .int .i64 0]), 3) := by kernel_rfl
theorem elemP3 : ElemK Tryd.prog 46 84 3 24 := by
  have h : (Tryd.prog.info? 84).map (fun i => (i.zero, i.size, i.bytes)) = some (some (.agg #[.int .i64 0, .int .i64 0, .int .i64 0]), 3, 24) := by kernel_rfl
  obtain ⟨i, h1, h2, h3, h4⟩ := info_parts h
  exact ⟨Tryd.underlying46, i, _, h1, h2, h3, h4, rfl⟩
/-- The point at place i of a row. -/
theorem p3_at {w : World} {b off n c : Nat} {l : List P3} (h : HasK 3 w (some ⟨b, off, none⟩) n c (p3Cells l)) {i : Nat} (hi : i < l.length) :
    w.cell? ⟨b, off + i * 3, none⟩ = some (.int .i64 l[i].1) ∧ w.cell? ⟨b, off + i * 3 + 1, none⟩ = some (.int .i64 l[i].2.1) ∧ w.cell? ⟨b, off + i * 3 + 2, none⟩ = some (.int .i64 l[i].2.2) := by
  have hn : 0 < n := by
    have := h.len
    rw [p3Cells_len] at this
    omega
  obtain ⟨_, _, e, _, hc⟩ := h.spot hn
  cases e
  obtain ⟨h1, h2, h3⟩ := p3Cells_at hi
  exact ⟨hc _ _ h1, by rw [Nat.add_assoc]; exact hc _ _ h2, by rw [Nat.add_assoc]; exact hc _ _ h3⟩
theorem t3Info : (Tryd.prog.info? 58).map (fun i => (i.zero, i.size)) = some (some (.agg #[.int .i64 0, .int .i64 0, .int .i64 0]), 3) := by kernel_rfl
theorem elemT3 : ElemK Tryd.prog 26 58 3 24 := by
  have h : (Tryd.prog.info? 58).map (fun i => (i.zero, i.size, i.bytes)) = some (some (.agg #[.int .i64 0, .int .i64 0, .int .i64 0]), 3, 24) := by kernel_rfl
  obtain ⟨i, h1, h2, h3, h4⟩ := info_parts h
  exact ⟨Tryd.underlying26, i, _, h1, h2, h3, h4, rfl⟩
end Go.Proofs.YthjmojglcfmkmaaDoor
