/- Layer 9: rings: sides, twice the area, which points lie in: plain mathematics. -/
import Derived.Test.YtnhoinonojhgiaaGeomMath
namespace Go.Proofs.Ytnhoinonojhgiaa
open Go.RowKit

/-- The first one last. -/
def rotG {α : Type} : List α → List α
  | [] => []
  | x :: t => t ++ [x]
theorem rotG_len {α : Type} (l : List α) : (rotG l).length = l.length := by cases l <;> simp [rotG]
theorem rotG_perm {α : Type} (l : List α) : (rotG l).Perm l := by
  cases l with
  | nil => exact List.Perm.nil
  | cons x t => exact List.perm_append_comm (l₁ := t) (l₂ := [x])
theorem rotG_zip {α β : Type} (l : List α) (m : List β) (h : l.length = m.length) : rotG (l.zip m) = (rotG l).zip (rotG m) := by
  cases l with
  | nil => cases m <;> simp_all [rotG]
  | cons x t =>
    cases m with
    | nil => simp at h
    | cons y s =>
      show t.zip s ++ [(x, y)] = (t ++ [x]).zip (s ++ [y])
      rw [List.zip_append (by simpa using h)]
      rfl
theorem rotG_at {α : Type} {l : List α} {i : Nat} (hl : i < l.length) : (rotG l)[i]? = some (if h2 : i + 1 < l.length then l[i + 1] else l[0]'(by omega)) := by
  cases l with
  | nil => simp at hl
  | cons x t =>
    show (t ++ [x])[i]? = _
    by_cases h2 : i + 1 < (x :: t).length
    · rw [dif_pos h2]
      simp only [List.length_cons] at h2
      rw [List.getElem?_append_left (by omega), List.getElem?_eq_getElem (by omega)]
      rfl
    · rw [dif_neg h2]
      simp only [List.length_cons] at h2 hl
      have e : i = t.length := by omega
      subst e
      simp
/-- Each point and the next one. -/
def sides (l : List P3) : List (P3 × P3) := l.zip (rotG l)
theorem sides_len (l : List P3) : (sides l).length = l.length := by unfold sides; rw [List.length_zip, rotG_len, Nat.min_self]
theorem sides_at {l : List P3} {i : Nat} (hl : i < l.length) : (sides l)[i]? = some (l[i], if h2 : i + 1 < l.length then l[i + 1] else l[0]'(by omega)) := by
  unfold sides
  rw [List.getElem?_zip_eq_some]
  exact ⟨List.getElem?_eq_getElem hl, rotG_at hl⟩
theorem sides_rot (l : List P3) : sides (rotG l) = rotG (sides l) := by
  unfold sides
  rw [rotG_zip _ _ (rotG_len l).symm]
theorem turned_next {α : Type} {l : List α} {k : Nat} (h : k < l.length) : l.drop (k + 1) ++ l.take (k + 1) = rotG (l.drop k ++ l.take k) := by
  rw [List.drop_eq_getElem_cons h, List.take_succ_eq_append_getElem h, List.cons_append]
  show _ = _ ++ [_]
  rw [List.append_assoc]
theorem sides_turned (l : List P3) : ∀ k, k ≤ l.length → (sides (l.drop k ++ l.take k)).Perm (sides l) := by
  intro k
  induction k with
  | zero => intro _; simp
  | succ k ih =>
    intro hk
    rw [turned_next (by omega), sides_rot]
    exact (rotG_perm _).trans (ih (by omega))
def turnS (s : P3 × P3) : P3 × P3 := (s.2, s.1)
theorem zip_turn (l m : List P3) : (l.zip m).map turnS = m.zip l := by
  induction l generalizing m with
  | nil => cases m <;> rfl
  | cons x t ih =>
    cases m with
    | nil => rfl
    | cons y s => show turnS (x, y) :: (t.zip s).map turnS = (y, x) :: s.zip t; rw [ih]; rfl
theorem zip_rev {α β : Type} (l : List α) (m : List β) (h : l.length = m.length) : (l.zip m).reverse = l.reverse.zip m.reverse := by
  induction l generalizing m with
  | nil => cases m <;> simp_all
  | cons x t ih =>
    cases m with
    | nil => simp at h
    | cons y s =>
      have h2 : t.length = s.length := by simpa using h
      rw [List.zip_cons_cons, List.reverse_cons, List.reverse_cons, List.reverse_cons, ih s h2, List.zip_append (by simp [h2])]
      rfl
theorem sides_rev (l : List P3) : (sides l.reverse).Perm ((sides l).map turnS) := by
  cases l with
  | nil => exact List.Perm.nil
  | cons x t =>
    have e1 : (x :: t).reverse = rotG (x :: t.reverse) := by simp [rotG]
    have e2 : ((sides (x :: t)).map turnS).reverse = sides (x :: t.reverse) := by
      unfold sides
      rw [zip_turn, zip_rev _ _ (rotG_len _)]
      simp [rotG]
    rw [e1, sides_rot]
    refine (rotG_perm _).trans ?_
    rw [← e2]
    exact List.reverse_perm _
/-- What a side adds. -/
def sideA (s : P3 × P3) : Int := s.1.1 * s.2.2.1 - s.1.2.1 * s.2.1
def sumS : List (P3 × P3) → Int
  | [] => 0
  | s :: l => sideA s + sumS l
theorem sumS_app (l r : List (P3 × P3)) : sumS (l ++ r) = sumS l + sumS r := by
  induction l with
  | nil => simp [sumS]
  | cons s l ih => show sideA s + sumS (l ++ r) = sideA s + sumS l + sumS r; rw [ih]; omega
theorem sumS_perm {l r : List (P3 × P3)} (h : l.Perm r) : sumS l = sumS r := by
  induction h with
  | nil => rfl
  | cons x _ ih => show _ + _ = _ + _; rw [ih]
  | swap x y l => show sideA y + (sideA x + sumS l) = sideA x + (sideA y + sumS l); omega
  | trans _ _ i1 i2 => exact i1.trans i2
theorem sideA_turn (s : P3 × P3) : sideA (turnS s) = -sideA s := by
  obtain ⟨⟨ax, ay, _⟩, ⟨bx, bY, _⟩⟩ := s
  show bx * ay - bY * ax = -(ax * bY - ay * bx)
  have e1 : bx * ay = ay * bx := Int.mul_comm _ _
  have e2 : bY * ax = ax * bY := Int.mul_comm _ _
  omega
theorem sumS_turn (l : List (P3 × P3)) : sumS (l.map turnS) = -sumS l := by
  induction l with
  | nil => rfl
  | cons s l ih => show sideA (turnS s) + sumS (l.map turnS) = -(sideA s + sumS l); rw [ih, sideA_turn]; omega
/-- Twice the area. -/
def areaF (l : List P3) : Int := if rights l then sumS (sides l) else 0
theorem turned_perm {α : Type} (l : List α) (k : Nat) : (l.drop k ++ l.take k).Perm l := by
  have h := List.perm_append_comm (l₁ := l.drop k) (l₂ := l.take k)
  rw [List.take_append_drop] at h
  exact h
theorem area_turned (l : List P3) (k : Nat) (hk : k ≤ l.length) : areaF (l.drop k ++ l.take k) = areaF l := by
  unfold areaF
  rw [rights_perm (turned_perm l k), sumS_perm (sides_turned l k hk)]
theorem area_rev (l : List P3) : areaF l.reverse = -areaF l := by
  unfold areaF
  rw [rights_perm (List.reverse_perm l), sumS_perm (sides_rev l), sumS_turn]
  split <;> rfl
theorem area_three (a b c : P3) : areaF [a, b, c] = if rights [a, b, c] then crossF a b c else 0 := by
  unfold areaF
  congr 1
  obtain ⟨ax, ay, _⟩ := a
  obtain ⟨bx, bY, _⟩ := b
  obtain ⟨cx, cy, _⟩ := c
  show ax * bY - ay * bx + (bx * cy - bY * cx + (cx * ay - cy * ax + 0)) = (bx - ax) * (cy - ay) - (bY - ay) * (cx - ax)
  simp only [Int.sub_mul, Int.mul_sub]
  have e1 : bx * ay = ay * bx := Int.mul_comm _ _
  have e2 : bY * ax = ax * bY := Int.mul_comm _ _
  have e3 : cx * ay = ay * cx := Int.mul_comm _ _
  have e4 : cy * ax = ax * cy := Int.mul_comm _ _
  have e5 : bY * cx = cx * bY := Int.mul_comm _ _
  have e6 : ay * ax = ax * ay := Int.mul_comm _ _
  omega
/-- Does a line from p on, to the right, go through that side? -/
def hitF (p : P3) (s : P3 × P3) : Bool := (decide (s.1.2.1 ≤ p.2.1) && decide (p.2.1 < s.2.2.1)) && decide (0 < turnF s.1 s.2 p) || (decide (s.2.2.1 ≤ p.2.1) && decide (p.2.1 < s.1.2.1)) && decide (turnF s.1 s.2 p < 0)
def onSide (p : P3) (s : P3 × P3) : Bool := onF p s.1 s.2
/-- In, on, or out. -/
def inF (p : P3) (l : List P3) : Int :=
  if rightP p && rights l then
    if (sides l).any (onSide p) then 0 else if (sides l).countP (hitF p) % 2 = 1 then 1 else -1
  else 0
theorem hit_turn (p : P3) (s : P3 × P3) : hitF p (turnS s) = hitF p s := by
  unfold hitF turnS
  simp only
  rw [turn_swap s.1 s.2 p, show decide (0 < -turnF s.1 s.2 p) = decide (turnF s.1 s.2 p < 0) from decide_eq_decide.2 (by omega), show decide (-turnF s.1 s.2 p < 0) = decide (0 < turnF s.1 s.2 p) from decide_eq_decide.2 (by omega), Bool.or_comm]
theorem onSide_turn (p : P3) (s : P3 × P3) : onSide p (turnS s) = onSide p s := by unfold onSide turnS; exact on_swap p s.1 s.2
theorem in_sides {p : P3} {l r : List P3} (hr : rights l = rights r) (ha : (sides l).any (onSide p) = (sides r).any (onSide p)) (hc : (sides l).countP (hitF p) = (sides r).countP (hitF p)) : inF p l = inF p r := by
  unfold inF
  rw [hr, ha, hc]
theorem in_turned (p : P3) (l : List P3) (k : Nat) (hk : k ≤ l.length) : inF p (l.drop k ++ l.take k) = inF p l :=
  in_sides (rights_perm (turned_perm l k)) ((sides_turned l k hk).any_eq) ((sides_turned l k hk).countP_eq _)
theorem in_rev (p : P3) (l : List P3) : inF p l.reverse = inF p l := by
  refine in_sides (rights_perm (List.reverse_perm l)) ?_ ?_
  · rw [(sides_rev l).any_eq, List.any_map]
    congr 1
    funext s
    exact onSide_turn p s
  · rw [(sides_rev l).countP_eq, List.countP_map]
    congr 1
    funext s
    exact hit_turn p s
theorem turned_at {α : Type} {l : List α} {j k : Nat} (hj : j < l.length) (hk : k < l.length) (h : j < (l.drop k ++ l.take k).length) : (l.drop k ++ l.take k)[j] = l[(j + k) % l.length]'(Nat.mod_lt _ (by omega)) := by
  by_cases hc : j < l.length - k
  · rw [List.getElem_append_left (by rw [List.length_drop]; exact hc), List.getElem_drop]
    congr 1
    rw [Nat.mod_eq_of_lt (by omega), Nat.add_comm]
  · rw [List.getElem_append_right (by rw [List.length_drop]; omega), List.getElem_take]
    congr 1
    rw [List.length_drop, Nat.mod_eq_sub_mod (by omega), Nat.mod_eq_of_lt (by omega)]
    omega
/-- A corner is on a side. -/
theorem in_corner {l : List P3} (hl : rights l = true) {i : Nat} (h : i < l.length) : inF l[i] l = 0 := by
  have hr : rightP l[i] = true := List.all_eq_true.1 hl _ (List.getElem_mem h)
  unfold inF
  have ha : (sides l).any (onSide l[i]) = true := by
    rw [List.any_eq_true]
    have hm := List.mem_of_getElem? (sides_at h)
    refine ⟨_, hm, ?_⟩
    unfold onSide
    simp only
    refine on_first hr ?_
    split
    · exact List.all_eq_true.1 hl _ (List.getElem_mem _)
    · exact List.all_eq_true.1 hl _ (List.getElem_mem _)
  rw [hr, hl, ha]
  rfl
theorem cross_move (a b c : P3) (x y u v t : Int) : crossF (a.1 + x, a.2.1 + y, u) (b.1 + x, b.2.1 + y, v) (c.1 + x, c.2.1 + y, t) = crossF a b c := by
  unfold crossF
  simp only
  rw [show b.1 + x - (a.1 + x) = b.1 - a.1 by omega, show c.2.1 + y - (a.2.1 + y) = c.2.1 - a.2.1 by omega, show b.2.1 + y - (a.2.1 + y) = b.2.1 - a.2.1 by omega, show c.1 + x - (a.1 + x) = c.1 - a.1 by omega]
end Go.Proofs.Ytnhoinonojhgiaa
