/- Layer 9: points, to which side one turns, what two segments have in common, rings: plain mathematics. -/
import Derived.Test.YthjmojglcfmkmaaDoorWideMath
namespace Go.Proofs.YthjmojglcfmkmaaDoor
open Go.RowKit

/-- A point: X, Y, Z. -/
abbrev P3 := Int × Int × Int
/-- Of the plane. -/
def rightP (p : P3) : Bool := decide (-2147483648 ≤ p.1) && decide (p.1 ≤ 2147483647) && decide (-2147483648 ≤ p.2.1) && decide (p.2.1 ≤ 2147483647) && decide (p.2.2 = 0)
theorem rightP_iff {p : P3} : rightP p = true ↔ (-2147483648 ≤ p.1 ∧ p.1 ≤ 2147483647) ∧ (-2147483648 ≤ p.2.1 ∧ p.2.1 ≤ 2147483647) ∧ p.2.2 = 0 := by
  unfold rightP
  simp only [Bool.and_eq_true, decide_eq_true_eq]
  constructor
  · rintro ⟨⟨⟨⟨h1, h2⟩, h3⟩, h4⟩, h5⟩; exact ⟨⟨h1, h2⟩, ⟨h3, h4⟩, h5⟩
  · rintro ⟨⟨h1, h2⟩, ⟨h3, h4⟩, h5⟩; exact ⟨⟨⟨⟨h1, h2⟩, h3⟩, h4⟩, h5⟩
theorem right_eq {p q : P3} (hp : rightP p = true) (hq : rightP q = true) (h1 : p.1 = q.1) (h2 : p.2.1 = q.2.1) : p = q := by
  obtain ⟨x, y, z⟩ := p
  obtain ⟨x', y', z'⟩ := q
  have e1 := (rightP_iff.1 hp).2.2
  have e2 := (rightP_iff.1 hq).2.2
  simp only at h1 h2 e1 e2
  subst h1 h2 e1 e2
  rfl
/-- (b - a) by (c - a). -/
def crossF (a b c : P3) : Int := (b.1 - a.1) * (c.2.1 - a.2.1) - (b.2.1 - a.2.1) * (c.1 - a.1)
def rights (l : List P3) : Bool := l.all rightP
/-- To which side one turns. -/
def turnF (a b c : P3) : Int := if rights [a, b, c] then cmpI ((b.1 - a.1) * (c.2.1 - a.2.1)) ((b.2.1 - a.2.1) * (c.1 - a.1)) else 0
def withinF (n a b : Int) : Bool := (decide (a ≤ n) && decide (n ≤ b)) || (decide (b ≤ n) && decide (n ≤ a))
/-- Is p between a and b? -/
def onF (p a b : P3) : Bool := rights [p, a, b] && decide (turnF a b p = 0) && withinF p.1 a.1 b.1 && withinF p.2.1 a.2.1 b.2.1
/-- Those of the ends that are on both, the first one and those that are not it. -/
def endsF (a b c d : P3) : List P3 → List P3 → List P3
  | acc, [] => acc
  | acc, p :: l => if !onF p a b || !onF p c d then endsF a b c d acc l else if acc.length = 0 ∨ acc.head? ≠ some p then endsF a b c d (acc ++ [p]) l else endsF a b c d acc l
/-- What two segments have in common. -/
def meetF (a b c d : P3) : Int :=
  if rights [a, b, c, d] then
    let k := (endsF a b c d [] [a, b, c, d]).length
    if 1 < k then 3 else if k = 1 then 1
    else if turnF a b c * turnF a b d < 0 ∧ turnF c d a * turnF c d b < 0 then 2 else 0
  else 0

theorem rights_perm {l r : List P3} (h : l.Perm r) : rights l = rights r := by
  unfold rights
  exact h.all_eq
theorem cmp_sub (x y : Int) : cmpI x y = cmpI (x - y) 0 := by
  unfold cmpI
  by_cases h1 : x < y
  · rw [if_pos h1, if_pos (by omega)]
  · by_cases h2 : y < x
    · rw [if_neg h1, if_pos h2, if_neg (by omega), if_pos (by omega)]
    · rw [if_neg h1, if_neg h2, if_neg (by omega), if_neg (by omega)]
theorem cmp_opp (x : Int) : cmpI (-x) 0 = -cmpI x 0 := by
  unfold cmpI
  by_cases h1 : x < 0
  · rw [if_neg (by omega), if_pos (by omega), if_pos h1]; rfl
  · by_cases h2 : 0 < x
    · rw [if_pos (by omega), if_neg h1, if_pos h2]
    · rw [if_neg (by omega), if_neg (by omega), if_neg h1, if_neg h2]; rfl
theorem turn_cross (a b c : P3) : turnF a b c = if rights [a, b, c] then cmpI (crossF a b c) 0 else 0 := by
  unfold turnF crossF
  rw [cmp_sub]
theorem cross_swap (a b c : P3) : crossF b a c = -crossF a b c := by
  obtain ⟨ax, ay, _⟩ := a
  obtain ⟨bx, bY, _⟩ := b
  obtain ⟨cx, cy, _⟩ := c
  unfold crossF
  simp only [Int.sub_mul, Int.mul_sub]
  have e1 : ax * bY = bY * ax := Int.mul_comm _ _
  have e2 : bx * ay = ay * bx := Int.mul_comm _ _
  have e3 : ax * ay = ay * ax := Int.mul_comm _ _
  have e4 : bx * bY = bY * bx := Int.mul_comm _ _
  omega
theorem cross_next (a b c : P3) : crossF b c a = crossF a b c := by
  obtain ⟨ax, ay, _⟩ := a
  obtain ⟨bx, bY, _⟩ := b
  obtain ⟨cx, cy, _⟩ := c
  unfold crossF
  simp only [Int.sub_mul, Int.mul_sub]
  have e1 : cx * bY = bY * cx := Int.mul_comm _ _
  have e2 : bx * ay = ay * bx := Int.mul_comm _ _
  have e3 : cx * ay = ay * cx := Int.mul_comm _ _
  have e4 : bx * bY = bY * bx := Int.mul_comm _ _
  have e5 : ax * cy = cy * ax := Int.mul_comm _ _
  have e6 : bx * cy = cy * bx := Int.mul_comm _ _
  have e7 : ax * ay = ay * ax := Int.mul_comm _ _
  have e8 : ax * bY = bY * ax := Int.mul_comm _ _
  omega
theorem rights3_swap (a b c : P3) : rights [b, a, c] = rights [a, b, c] := rights_perm (List.Perm.swap a b [c])
theorem rights3_next (a b c : P3) : rights [b, c, a] = rights [a, b, c] := by
  unfold rights
  simp only [List.all_cons, List.all_nil, Bool.and_true]
  cases rightP a <;> cases rightP b <;> cases rightP c <;> rfl
theorem turn_swap (a b c : P3) : turnF b a c = -turnF a b c := by
  rw [turn_cross, turn_cross, rights3_swap, cross_swap, cmp_opp]
  split <;> rfl
theorem turn_next (a b c : P3) : turnF b c a = turnF a b c := by
  rw [turn_cross, turn_cross, rights3_next, cross_next]
theorem turn_range (a b c : P3) : -1 ≤ turnF a b c ∧ turnF a b c ≤ 1 := by
  unfold turnF cmpI
  repeat' split
  all_goals omega
theorem within_swap (n a b : Int) : withinF n b a = withinF n a b := by unfold withinF; exact Bool.or_comm _ _
theorem on_swap (p a b : P3) : onF p b a = onF p a b := by
  unfold onF
  rw [turn_swap a b p, within_swap _ a.1, within_swap _ a.2.1, rights_perm (List.Perm.cons p (List.Perm.swap a b []))]
  congr 3
  rw [decide_eq_decide]
  omega
/-- All that are on both are the same. -/
def onBoth (a b c d p : P3) : Bool := onF p a b && onF p c d
theorem ends_len (a b c d : P3) (l : List P3) : ∀ acc : List P3, (acc = [] → True) →
    ((endsF a b c d acc l).length = 0 ↔ acc = [] ∧ ∀ p ∈ l, onBoth a b c d p = false) ∧
    (1 < (endsF a b c d acc l).length ↔ 1 < acc.length ∨ ∃ p, (acc ++ l.filter (onBoth a b c d)).head? = some p ∧ ∃ q ∈ l, onBoth a b c d q = true ∧ q ≠ p) := by
  induction l with
  | nil =>
    intro acc _
    simp only [endsF, List.filter_nil, List.append_nil]
    constructor
    · simp
    · simp
  | cons x l ih =>
    intro acc _
    unfold endsF
    by_cases hx : onBoth a b c d x = true
    · have h0 : (!onF x a b || !onF x c d) = false := by
        unfold onBoth at hx
        simp only [Bool.and_eq_true] at hx
        rw [hx.1, hx.2]; rfl
      rw [h0, if_neg (by decide)]
      by_cases hc : acc.length = 0 ∨ acc.head? ≠ some x
      · rw [if_pos hc]
        obtain ⟨i1, i2⟩ := ih (acc ++ [x]) (fun _ => trivial)
        rw [i1, i2]
        constructor
        · constructor
          · rintro ⟨h, _⟩; simp at h
          · rintro ⟨_, h⟩; have := h x (List.mem_cons_self ..); rw [hx] at this; cases this
        · cases acc with
          | nil =>
            simp only [List.nil_append, List.length_cons, List.length_nil, List.cons_append, List.head?_cons, List.filter_cons, hx, if_true]
            constructor
            · rintro (h | ⟨p, hp, q, hq, h1, h2⟩)
              · omega
              · exact Or.inr ⟨p, hp, q, List.mem_cons_of_mem _ hq, h1, h2⟩
            · rintro (h | ⟨p, hp, q, hq, h1, h2⟩)
              · omega
              · cases hp
                rcases List.mem_cons.1 hq with rfl | hq
                · exact absurd rfl h2
                · exact Or.inr ⟨_, rfl, q, hq, h1, h2⟩
          | cons y acc =>
            have hyx : y ≠ x := by
              rcases hc with h | h
              · simp at h
              · intro e; apply h; rw [e]; rfl
            constructor
            · rintro _
              by_cases hl : 1 < (y :: acc).length
              · exact Or.inl hl
              · exact Or.inr ⟨y, rfl, x, List.mem_cons_self .., hx, fun e => hyx e.symm⟩
            · rintro _
              left
              simp
      · rw [if_neg hc]
        obtain ⟨i1, i2⟩ := ih acc (fun _ => trivial)
        rw [i1, i2]
        have hc1 : acc.head? = some x := by
          apply Classical.byContradiction
          intro h
          exact hc (Or.inr h)
        cases acc with
        | nil => cases hc1
        | cons y acc =>
          cases hc1
          constructor
          · simp
          · constructor
            · rintro (h | ⟨p, hp, q, hq, h1, h2⟩)
              · exact Or.inl h
              · cases hp
                exact Or.inr ⟨_, rfl, q, List.mem_cons_of_mem _ hq, h1, h2⟩
            · rintro (h | ⟨p, hp, q, hq, h1, h2⟩)
              · exact Or.inl h
              · cases hp
                rcases List.mem_cons.1 hq with rfl | hq
                · exact absurd rfl h2
                · exact Or.inr ⟨_, rfl, q, hq, h1, h2⟩
    · have hx0 : onBoth a b c d x = false := by simpa using hx
      have h0 : (!onF x a b || !onF x c d) = true := by
        unfold onBoth at hx0
        cases h1 : onF x a b <;> cases h2 : onF x c d <;> simp_all
      rw [h0, if_pos rfl]
      obtain ⟨i1, i2⟩ := ih acc (fun _ => trivial)
      rw [i1, i2]
      simp only [List.filter_cons, hx0, Bool.false_eq_true, if_false]
      constructor
      · constructor
        · rintro ⟨h1, h2⟩
          exact ⟨h1, fun p hp => by rcases List.mem_cons.1 hp with rfl | hp; exact hx0; exact h2 p hp⟩
        · rintro ⟨h1, h2⟩
          exact ⟨h1, fun p hp => h2 p (List.mem_cons_of_mem _ hp)⟩
      · constructor
        · rintro (h | ⟨p, hp, q, hq, h1, h2⟩)
          · exact Or.inl h
          · exact Or.inr ⟨p, hp, q, List.mem_cons_of_mem _ hq, h1, h2⟩
        · rintro (h | ⟨p, hp, q, hq, h1, h2⟩)
          · exact Or.inl h
          · rcases List.mem_cons.1 hq with rfl | hq
            · rw [hx0] at h1; cases h1
            · exact Or.inr ⟨p, hp, q, hq, h1, h2⟩
/-- What two segments have in common, said of the set of the ends. -/
theorem meet_is (a b c d : P3) : meetF a b c d =
    if rights [a, b, c, d] then
      if ∃ p ∈ [a, b, c, d], ∃ q ∈ [a, b, c, d], onBoth a b c d p = true ∧ onBoth a b c d q = true ∧ p ≠ q then 3
      else if ∃ p ∈ [a, b, c, d], onBoth a b c d p = true then 1
      else if turnF a b c * turnF a b d < 0 ∧ turnF c d a * turnF c d b < 0 then 2 else 0
    else 0 := by
  unfold meetF
  split
  · obtain ⟨i1, i2⟩ := ends_len a b c d [a, b, c, d] [] (fun _ => trivial)
    generalize [a, b, c, d] = l at *
    simp only [List.nil_append, List.length_nil] at i1 i2
    generalize (endsF a b c d [] l).length = k at *
    have e3 : 1 < k ↔ ∃ p ∈ l, ∃ q ∈ l, onBoth a b c d p = true ∧ onBoth a b c d q = true ∧ p ≠ q := by
      rw [i2]
      constructor
      · rintro (h | ⟨p, hp, q, hq, h1, h2⟩)
        · omega
        · have hm := List.mem_of_head? hp
          rw [List.mem_filter] at hm
          exact ⟨p, hm.1, q, hq, hm.2, h1, fun e => h2 e.symm⟩
      · rintro ⟨p, hp, q, hq, h1, h2, h3⟩
        right
        have hm : p ∈ l.filter (onBoth a b c d) := List.mem_filter.2 ⟨hp, h1⟩
        cases hf : l.filter (onBoth a b c d) with
        | nil => rw [hf] at hm; cases hm
        | cons f r =>
          refine ⟨f, rfl, ?_⟩
          by_cases e : q = f
          · exact ⟨p, hp, h1, fun e2 => h3 (e2.trans e.symm)⟩
          · exact ⟨q, hq, h2, e⟩
    have e1 : k = 0 ↔ ¬ ∃ p ∈ l, onBoth a b c d p = true := by
      rw [i1]
      constructor
      · rintro ⟨_, h⟩ ⟨p, hp, h1⟩
        rw [h p hp] at h1; cases h1
      · intro h
        refine ⟨trivial, fun p hp => ?_⟩
        cases h1 : onBoth a b c d p with
        | false => rfl
        | true => exact absurd ⟨p, hp, h1⟩ h
    by_cases h3 : 1 < k
    · rw [if_pos h3, if_pos (e3.1 h3)]
    · rw [if_neg h3, if_neg (fun h => h3 (e3.2 h))]
      by_cases h0 : k = 0
      · rw [if_neg (by omega), if_neg (e1.1 h0)]
      · rw [if_pos (by omega), if_pos (Classical.byContradiction fun h => h0 (e1.2 h))]
  · rfl
theorem both_left (a b c d p : P3) : onBoth b a c d p = onBoth a b c d p := by unfold onBoth; rw [on_swap p a b]
theorem both_right (a b c d p : P3) : onBoth a b d c p = onBoth a b c d p := by unfold onBoth; rw [on_swap p c d]
theorem both_turn (a b c d p : P3) : onBoth c d a b p = onBoth a b c d p := by unfold onBoth; exact Bool.and_comm _ _
theorem neg_mul_lt (x y : Int) : -x * -y < 0 ↔ x * y < 0 := by rw [Int.neg_mul_neg]
theorem meet_left (a b c d : P3) : meetF b a c d = meetF a b c d := by
  rw [meet_is, meet_is]
  have hp : List.Perm [b, a, c, d] [a, b, c, d] := List.Perm.swap a b _
  have e1 : (∃ p ∈ [b, a, c, d], ∃ q ∈ [b, a, c, d], onBoth b a c d p = true ∧ onBoth b a c d q = true ∧ p ≠ q) ↔ ∃ p ∈ [a, b, c, d], ∃ q ∈ [a, b, c, d], onBoth a b c d p = true ∧ onBoth a b c d q = true ∧ p ≠ q := by
    simp only [both_left, hp.mem_iff]
  have e2 : (∃ p ∈ [b, a, c, d], onBoth b a c d p = true) ↔ ∃ p ∈ [a, b, c, d], onBoth a b c d p = true := by
    simp only [both_left, hp.mem_iff]
  have e3 : (turnF b a c * turnF b a d < 0 ∧ turnF c d b * turnF c d a < 0) ↔ (turnF a b c * turnF a b d < 0 ∧ turnF c d a * turnF c d b < 0) := by
    rw [turn_swap a b c, turn_swap a b d, neg_mul_lt, Int.mul_comm (turnF c d b)]
  simp only [rights_perm hp, e1, e2, e3]
theorem meet_turn (a b c d : P3) : meetF c d a b = meetF a b c d := by
  rw [meet_is, meet_is]
  have hp : List.Perm [c, d, a, b] [a, b, c, d] := List.perm_append_comm (l₁ := [c, d]) (l₂ := [a, b])
  have e1 : (∃ p ∈ [c, d, a, b], ∃ q ∈ [c, d, a, b], onBoth c d a b p = true ∧ onBoth c d a b q = true ∧ p ≠ q) ↔ ∃ p ∈ [a, b, c, d], ∃ q ∈ [a, b, c, d], onBoth a b c d p = true ∧ onBoth a b c d q = true ∧ p ≠ q := by
    simp only [both_turn a b c d, hp.mem_iff]
  have e2 : (∃ p ∈ [c, d, a, b], onBoth c d a b p = true) ↔ ∃ p ∈ [a, b, c, d], onBoth a b c d p = true := by
    simp only [both_turn a b c d, hp.mem_iff]
  have e3 : (turnF c d a * turnF c d b < 0 ∧ turnF a b c * turnF a b d < 0) ↔ (turnF a b c * turnF a b d < 0 ∧ turnF c d a * turnF c d b < 0) := And.comm
  simp only [rights_perm hp, e1, e2, e3]
theorem meet_right (a b c d : P3) : meetF a b d c = meetF a b c d := by
  rw [meet_turn d c a b, meet_left c d a b, meet_turn a b c d]
theorem on_first {a b : P3} (ha : rightP a = true) (hb : rightP b = true) : onF a a b = true := by
  have hr : rights [a, a, b] = true := by simp [rights, ha, hb]
  have hr2 : rights [a, b, a] = true := by simp [rights, ha, hb]
  unfold onF
  rw [hr, turn_cross, if_pos hr2]
  have hc : crossF a b a = 0 := by
    unfold crossF
    rw [Int.sub_self, Int.sub_self, Int.mul_zero, Int.mul_zero]; rfl
  rw [hc]
  unfold withinF
  simp only [Int.le_refl, decide_true, Bool.true_and, Bool.and_true, cmpI, Int.lt_irrefl, if_false]
  by_cases h1 : a.1 ≤ b.1 <;> by_cases h2 : a.2.1 ≤ b.2.1 <;> simp [h1, h2] <;> omega
theorem on_last {a b : P3} (ha : rightP a = true) (hb : rightP b = true) : onF b a b = true := by rw [on_swap]; exact on_first hb ha
theorem on_one {p a : P3} (h : onF p a a = true) : p = a := by
  unfold onF at h
  simp only [Bool.and_eq_true] at h
  obtain ⟨⟨⟨h1, _⟩, h2⟩, h3⟩ := h
  have hp : rightP p = true := by simp [rights] at h1; exact h1.1
  have ha : rightP a = true := by simp [rights] at h1; exact h1.2
  unfold withinF at h2 h3
  simp at h2 h3
  exact right_eq hp ha (by omega) (by omega)
theorem meet_point {a b : P3} (ha : rightP a = true) (hb : rightP b = true) : meetF a b a a = 1 := by
  rw [meet_is, if_pos (by simp [rights, ha, hb])]
  have h1 : ∀ p, onBoth a b a a p = true → p = a := fun p hp => by
    unfold onBoth at hp
    simp only [Bool.and_eq_true] at hp
    exact on_one hp.2
  rw [if_neg (fun ⟨p, _, q, _, hp, hq, hn⟩ => hn ((h1 p hp).trans (h1 q hq).symm)), if_pos ⟨a, List.mem_cons_self .., by unfold onBoth; rw [on_first ha hb, on_first ha ha]; rfl⟩]
theorem meet_back {a b : P3} (ha : rightP a = true) (hb : rightP b = true) : meetF a b b a = if a = b then 1 else 3 := by
  by_cases h : a = b
  · subst h
    rw [if_pos rfl]
    exact meet_point ha ha
  · rw [meet_is, if_pos (by simp [rights, ha, hb]), if_neg h, if_pos ⟨a, List.mem_cons_self .., b, List.mem_cons_of_mem _ (List.mem_cons_self ..), by unfold onBoth; rw [on_first ha hb, on_last hb ha]; rfl, by unfold onBoth; rw [on_last ha hb, on_first hb ha]; rfl, h⟩]
end Go.Proofs.YthjmojglcfmkmaaDoor
