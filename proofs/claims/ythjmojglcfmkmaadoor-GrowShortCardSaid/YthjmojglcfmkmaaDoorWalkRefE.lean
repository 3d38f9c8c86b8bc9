import Derived.Test.YthjmojglcfmkmaaDoorWalkRefC
/- lapidaryref11: gate: what is ahead of it. -/
namespace Go.Proofs.YthjmojglcfmkmaaDoor
open Go.RowKit

theorem own2_form {w : World} {base : Nat} {e : TypeId} {v : Value} {n : Nat} {xs : List Value} (h : OwnK 2 w base e v (n + 1) xs) : ∃ g cap, v = .slice (some ⟨g, 0, none⟩) (n + 1) cap ∧ n + 1 ≤ cap := by
  rcases h.2 with ⟨_, h2⟩ | ⟨g, cap, cur, rfl, _, _, hc, _⟩
  · omega
  · exact ⟨g, cap, rfl, hc⟩
theorem own2_pop {w : World} {base g c n : Nat} {e : TypeId} {xs : List Value} {u v : Value} (h : OwnK 2 w base e (.slice (some ⟨g, 0, none⟩) (n + 1) c) (n + 1) (xs ++ [u, v])) (hn : xs.length = n * 2) : OwnK 2 w base e (.slice (some ⟨g, 0, none⟩) n c) n xs := by
  obtain ⟨hl, hcase⟩ := h
  rcases hcase with ⟨h1, _⟩ | ⟨g', cap, cur, h1, hg, hh, hc, hcap, hsz, ht⟩
  · cases h1
  · obtain ⟨rfl, rfl⟩ : g' = g ∧ cap = c := by
      injection h1 with e1 _ e3
      injection e1 with e1
      injection e1 with e1
      exact ⟨e1.symm, e3.symm⟩
    refine ⟨hn, Or.inr ⟨g', cap, cur, rfl, hg, hh, by omega, hcap, hsz, ?_⟩⟩
    have e := congrArg (List.take xs.length) ht
    rw [List.take_take, List.take_append_of_le_length (Nat.le_refl _), List.take_of_length_le (Nat.le_refl _), hn, show min (n * 2) ((n + 1) * 2) = n * 2 by omega] at e
    exact e
theorem WRows.popG {w : World} {F : Nat → Prop} {eg : TypeId} {a b c f : Value} {s : WS} {g n cd : Nat} {l : List (Int × Int)} {p q : Int} (h : WRows w F eg a b c (.slice (some ⟨g, 0, none⟩) (n + 1) cd) f s) (hG : s.G = l ++ [(p, q)]) (hn : l.length = n) : WRows w F eg a b c (.slice (some ⟨g, 0, none⟩) n cd) f { s with G := l } := by
  have hr := h.rG
  rw [hG, List.length_append, hn, e2Cells_app] at hr
  have hr2 := own2_pop (u := .int .i64 p) (v := .int .i64 q) hr (by rw [e2Cells_len, hn])
  rw [← hn] at hr2 ⊢
  exact ⟨h.rV, h.rO, h.rN, hr2, h.rS, h.fV, h.fO, h.fN, h.fG, h.fS, h.aVO, h.aVN, h.aVG, h.aVS, h.aON, h.aOG, h.aOS, h.aNG, h.aNS, h.aGS⟩
/-- The last gate, where it lies. -/
theorem gate_at {w : World} {e : TypeId} {g n cd : Nat} {G l : List (Int × Int)} {p q : Int} (h : OwnK 2 w 0 e (.slice (some ⟨g, 0, none⟩) (n + 1) cd) G.length (e2Cells G)) (hG : G = l ++ [(p, q)]) (hn : l.length = n) : w.cell? ⟨g, n * 2, none⟩ = some (.int .i64 p) ∧ w.cell? ⟨g, n * 2 + 1, none⟩ = some (.int .i64 q) := by
  have hl : n < G.length := by rw [hG, List.length_append]; simp; omega
  have hx : G[n] = (p, q) := by
    subst hG hn
    simp
  obtain ⟨h1, h2⟩ := e2Cells_at hl
  rw [hx] at h1 h2
  have e1 : G.length = n + 1 := by rw [hG, List.length_append, hn]; rfl
  rw [e1] at h
  have hz : (e2Cells G).length = (n + 1) * 2 := by rw [e2Cells_len, e1]
  exact ⟨(World.ownsRow.cellAt h (n * 2) (by omega)).trans h1, (World.ownsRow.cellAt h (n * 2 + 1) (by omega)).trans h2⟩
def thirdTo (t : P3) (p q : Int) : Nat → Int
  | 0 => 0
  | k + 1 => if at3 t k ≠ p ∧ at3 t k ≠ q then at3 t k else thirdTo t p q k
theorem third_to (t : P3) (p q : Int) : thirdTo t p q 3 = thirdV t p q := by
  unfold thirdTo thirdTo thirdTo thirdTo thirdV at3
  simp
theorem natVs_ints (l : List Nat) : natVs l = intVs (l.map fun (k : Nat) => (k : Int)) := rfl
theorem find_nat (l : List Nat) (i : Nat) : (i ∈ l ∧ ∃ k : Nat, findW (l.map fun (k : Nat) => (k : Int)) (i : Int) = k) ∨ (i ∉ l ∧ findW (l.map fun (k : Nat) => (k : Int)) (i : Int) = -1) := by
  by_cases h : i ∈ l
  · exact Or.inl ⟨h, _, find_yes (List.mem_map.2 ⟨i, h, rfl⟩)⟩
  · refine Or.inr ⟨h, find_no fun hm => ?_⟩
    obtain ⟨j, hj, e⟩ := List.mem_map.1 hm
    exact h (by rw [← Int.ofNat.inj e]; exact hj)
/-- Sizes that a walk over a mesh does not go beyond. -/
structure WSmall (s : WS) (n : Nat) : Prop where
  V : s.V.length ≤ n
  O : s.O.length ≤ n
  N : s.N.length ≤ n
  G : s.G.length ≤ n
  S : s.S.length ≤ n
theorem meet_le (l : List Int) (x : Int) : (meetW l x).length ≤ l.length + 1 := by
  unfold meetW
  split
  · omega
  · simp
end Go.Proofs.YthjmojglcfmkmaaDoor

/- lapidaryref11: gate. -/
namespace Go.Proofs.YthjmojglcfmkmaaDoor
open Go.RowKit

section
variable {w : World} {F : Nat → Prop} {x y a b c d f : Value} {s : WS} {wx w' : World}
end
end Go.Proofs.YthjmojglcfmkmaaDoor
