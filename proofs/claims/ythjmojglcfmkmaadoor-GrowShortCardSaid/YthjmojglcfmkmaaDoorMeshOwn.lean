/- Rows of triangles of the call's own: a triangle stored. -/
import Derived.Test.YthjmojglcfmkmaaDoorPts
namespace Go.Proofs.YthjmojglcfmkmaaDoor
open Go.RowKit

theorem p3Cells_set (l : List P3) (i : Nat) (x y z : Int) : (((p3Cells l).set (i * 3) (.int .i64 x)).set (i * 3 + 1) (.int .i64 y)).set (i * 3 + 2) (.int .i64 z) = p3Cells (l.set i (x, y, z)) := by
  induction l generalizing i with
  | nil => simp [p3Cells]
  | cons q l ih =>
    have e : ∀ (q : P3) (l : List P3), p3Cells (q :: l) = .int .i64 q.1 :: .int .i64 q.2.1 :: .int .i64 q.2.2 :: p3Cells l := by intro q l; simp [p3Cells]
    cases i with
    | zero => rw [List.set_cons_zero, e, e]; rfl
    | succ i =>
      rw [List.set_cons_succ, e, e, ← ih i, show (i + 1) * 3 = i * 3 + 1 + 1 + 1 by omega]
      rfl
theorem own3_form {w : World} {base : Nat} {e : TypeId} {v : Value} {n : Nat} {xs : List Value} (h : OwnK 3 w base e v n xs) (hn : 0 < n) : ∃ g cap, v = .slice (some ⟨g, 0, none⟩) n cap ∧ base ≤ g ∧ g < w.heap.size := by
  have h0 := h
  rcases h.2 with ⟨_, h2⟩ | ⟨g, cap, cur, rfl, hg, _⟩
  · omega
  · exact ⟨g, cap, rfl, hg, (World.ownsRow.lt h0 g rfl).2⟩
theorem own3_at {w : World} {base g cap : Nat} {e : TypeId} {n : Nat} {l : List P3} (h : OwnK 3 w base e (.slice (some ⟨g, 0, none⟩) n cap) n (p3Cells l)) (hl : l.length = n) {i : Nat} (hi : i < n) :
    (w.cell? ⟨g, i * 3, none⟩ = some (.int .i64 (l[i]'(by omega)).1) ∧ w.cell? ⟨g, i * 3 + 1, none⟩ = some (.int .i64 (l[i]'(by omega)).2.1) ∧ w.cell? ⟨g, i * 3 + 2, none⟩ = some (.int .i64 (l[i]'(by omega)).2.2)) ∧
    (w.frozen? ⟨g, i * 3, none⟩ = false ∧ w.frozen? ⟨g, i * 3 + 1, none⟩ = false ∧ w.frozen? ⟨g, i * 3 + 2, none⟩ = false) := by
  have hi2 : i < l.length := by omega
  obtain ⟨h1, h2, h3⟩ := p3Cells_at hi2
  refine ⟨⟨(World.ownsRow.cellAt h (i * 3) (by omega)).trans h1, (World.ownsRow.cellAt h (i * 3 + 1) (by omega)).trans h2, (World.ownsRow.cellAt h (i * 3 + 2) (by omega)).trans h3⟩, World.ownsRow.frozenAt h _, World.ownsRow.frozenAt h _, World.ownsRow.frozenAt h _⟩
/-- A triangle stored: the row with it, and nothing older turned. -/
theorem own3_put {w : World} {base g cap : Nat} {e : TypeId} {n : Nat} {l : List P3} (h : OwnK 3 w base e (.slice (some ⟨g, 0, none⟩) n cap) n (p3Cells l)) (i : Nat) (x y z : Int) :
    OwnK 3 (((w.setCell ⟨g, i * 3, none⟩ (.int .i64 x)).setCell ⟨g, i * 3 + 1, none⟩ (.int .i64 y)).setCell ⟨g, i * 3 + 2, none⟩ (.int .i64 z)) base e (.slice (some ⟨g, 0, none⟩) n cap) n (p3Cells (l.set i (x, y, z))) ∧ Below base w (((w.setCell ⟨g, i * 3, none⟩ (.int .i64 x)).setCell ⟨g, i * 3 + 1, none⟩ (.int .i64 y)).setCell ⟨g, i * 3 + 2, none⟩ (.int .i64 z)) := by
  have hg := (World.ownsRow.lt h g rfl).1
  have h1 := (World.ownsRow.stored h (i * 3) (.int .i64 x)).1
  have h2 := (World.ownsRow.stored h1 (i * 3 + 1) (.int .i64 y)).1
  have h3 := (World.ownsRow.stored h2 (i * 3 + 2) (.int .i64 z)).1
  rw [p3Cells_set] at h3
  exact ⟨h3, (((Below.refl _ _).setCell hg _).setCell hg _).setCell hg _⟩
theorem OwnK.far {k : Nat} {w : World} {base : Nat} {e : TypeId} {v : Value} {n : Nat} {xs : List Value} (h : OwnK k w base e v n xs) {p : Addr} (hp : ∀ g c, v = .slice (some ⟨g, 0, none⟩) n c → g ≠ p.block) (u : Value) : OwnK k (w.setCell p u) base e v n xs := by
  refine ⟨h.1, ?_⟩
  rcases h.2 with h1 | ⟨g, cap, cur, h1, h2, h3, h4⟩
  · exact Or.inl h1
  · exact Or.inr ⟨g, cap, cur, h1, h2, (Below.heap_setCell w p u g (hp g cap h1)).trans h3, h4⟩
theorem OwnK.under {k : Nat} {w w' : World} {base B : Nat} {e : TypeId} {v : Value} {n : Nat} {xs : List Value} (h : OwnK k w base e v n xs) (hb : Below B w w') (hp : ∀ g c, v = .slice (some ⟨g, 0, none⟩) n c → g < B) : OwnK k w' base e v n xs := by
  refine ⟨h.1, ?_⟩
  rcases h.2 with h1 | ⟨g, cap, cur, h1, h2, h3, h4⟩
  · exact Or.inl h1
  · exact Or.inr ⟨g, cap, cur, h1, h2, (hb.block g (hp g cap h1)).trans h3, h4⟩
theorem own3_lt {w : World} {base : Nat} {e : TypeId} {v : Value} {n : Nat} {xs : List Value} (h : OwnK 3 w base e v n xs) : ∀ g c, v = .slice (some ⟨g, 0, none⟩) n c → base ≤ g ∧ g < w.heap.size := fun g c e => by
  subst e
  exact World.ownsRow.lt h g rfl
end Go.Proofs.YthjmojglcfmkmaaDoor
