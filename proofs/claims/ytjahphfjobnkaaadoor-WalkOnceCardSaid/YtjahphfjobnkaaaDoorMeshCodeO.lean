/- The landed mesh: Turned. -/
import Derived.Test.YtjahphfjobnkaaaDoorMeshCodeN
namespace Go.Proofs.YtjahphfjobnkaaaDoor
open Go.RowKit

def cornB (x : Int) : Bool := decide (0 ≤ x) && decide (x ≤ 2)
theorem corn_ways (x : Int) : (x < 0 ∧ cornB x = false) ∨ (¬ x < 0 ∧ 2 < x ∧ cornB x = false) ∨ (¬ x < 0 ∧ ¬ 2 < x ∧ cornB x = true) := by
  unfold cornB
  by_cases h1 : x < 0
  · exact Or.inl ⟨h1, by rw [decide_eq_false (by omega)]; rfl⟩
  · by_cases h2 : 2 < x
    · exact Or.inr (Or.inl ⟨h1, h2, by rw [decide_eq_false (p := x ≤ 2) (by omega), Bool.and_false]⟩)
    · exact Or.inr (Or.inr ⟨h1, h2, by rw [decide_eq_true (p := x ≤ 2) (by omega), decide_eq_true (p := 0 ≤ x) (by omega)]; rfl⟩)
/-- A triangle whose first corners have been turned already. -/
def mixT (b : Nat) (t : P3) (k : Nat) : P3 := (if 0 < k then at3 t (b % 3) else t.1, if 1 < k then at3 t ((b + 1) % 3) else t.2.1, if 2 < k then at3 t ((b + 2) % 3) else t.2.2)
theorem mix_zero (b : Nat) (t : P3) : mixT b t 0 = t := rfl
theorem mix_three {b : Nat} (hb : b < 3) (t : P3) : mixT b t 3 = rotT b t := by
  obtain ⟨x, y, z⟩ := t
  rcases (show b = 0 ∨ b = 1 ∨ b = 2 by omega) with rfl | rfl | rfl <;> rfl
theorem p3Cells_cons (q : P3) (l : List P3) : p3Cells (q :: l) = .int .i64 q.1 :: .int .i64 q.2.1 :: .int .i64 q.2.2 :: p3Cells l := by simp [p3Cells]
theorem mix_set {b k : Nat} (hk : k < 3) (t : P3) : ∀ (L : List P3) (i : Nat), i < L.length → (p3Cells (L.set i (mixT b t k))).set (i * 3 + k) (.int .i64 (at3 t ((b + k) % 3))) = p3Cells (L.set i (mixT b t (k + 1))) := by
  intro L
  induction L with
  | nil => intro i hi; cases hi
  | cons q L ih =>
    intro i hi
    cases i with
    | zero =>
      rw [List.set_cons_zero, List.set_cons_zero, p3Cells_cons, p3Cells_cons]
      rcases (show k = 0 ∨ k = 1 ∨ k = 2 by omega) with rfl | rfl | rfl <;> rfl
    | succ i =>
      rw [List.set_cons_succ, List.set_cons_succ, p3Cells_cons, p3Cells_cons, ← ih i (by simpa using hi), show (i + 1) * 3 + k = i * 3 + k + 1 + 1 + 1 by omega]
      rfl
/-- The triangles, the first ones turned. -/
def turnTo (T : List P3) (l : List Nat) (i : Nat) : List P3 := turnsT (T.take i) (l.take i) ++ T.drop i
theorem turnTo_zero (T : List P3) (l : List Nat) : turnTo T l 0 = T := by unfold turnTo; simp [turnsT]
theorem turnTo_len {T : List P3} {l : List Nat} (h : l.length = T.length) {i : Nat} (hi : i ≤ T.length) : (turnTo T l i).length = T.length := by
  unfold turnTo turnsT
  rw [List.length_append, List.length_zipWith, List.length_take, List.length_take, List.length_drop]
  omega
theorem turnTo_end {T : List P3} {l : List Nat} (h : l.length = T.length) : turnTo T l T.length = turnsT T l := by
  unfold turnTo
  rw [List.take_length, ← h, List.take_length, h, List.drop_length, List.append_nil]
theorem turnTo_next {T : List P3} {l : List Nat} (h : l.length = T.length) {i : Nat} (hi : i < T.length) : (turnTo T l i).set i (rotT (l[i]'(by omega)) T[i]) = turnTo T l (i + 1) ∧ (turnTo T l i).set i T[i] = turnTo T l i := by
  have hl : (turnsT (T.take i) (l.take i)).length = i := by
    unfold turnsT
    rw [List.length_zipWith, List.length_take, List.length_take]
    omega
  have hd : T.drop i = T[i] :: T.drop (i + 1) := List.drop_eq_getElem_cons hi
  have hs : turnsT (T.take (i + 1)) (l.take (i + 1)) = turnsT (T.take i) (l.take i) ++ [rotT (l[i]'(by omega)) T[i]] := by
    unfold turnsT
    rw [List.take_succ_eq_append_getElem hi, List.take_succ_eq_append_getElem (by omega : i < l.length), List.zipWith_append (by rw [List.length_take, List.length_take]; omega)]
    rfl
  unfold turnTo
  rw [hd, hs, List.set_append_right _ _ (by omega), List.set_append_right _ _ (by omega), hl, Nat.sub_self, List.set_cons_zero, List.set_cons_zero, List.append_assoc]
  exact ⟨rfl, rfl⟩
theorem results_pairM {fn : Func} {p u : Tmp} {ty : TypeId} (h : fn.results = #[.cell p ty, .tmp u]) {tmps : Array Value} {P : Program} {w : World} {a : Addr} {v x : Value} (hp : tmps.getD p undef = .pointer (some a)) (hu : tmps.getD u undef = x)
    (hl : (loadVar ty a).run P w = .ok v w) : (results fn tmps).run P w = .ok (.tuple #[v, x]) w := by
  have hp' : tmps[p]?.getD undef = .pointer (some a) := by rw [← hp]; simp
  have hu' : tmps[u]?.getD undef = x := by rw [← hu]; simp
  simp only [results, h]
  simp [hp', hu', asAddr, hl]
end Go.Proofs.YtjahphfjobnkaaaDoor
