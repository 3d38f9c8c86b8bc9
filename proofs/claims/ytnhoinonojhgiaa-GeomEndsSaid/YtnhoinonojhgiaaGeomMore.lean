/- Layer 9: what the landed code goes by, in plain mathematics: segments far from one another, those that cross, the ends of those that do not, and sides that a line goes through. -/
import Derived.Test.YtnhoinonojhgiaaGeomRing
namespace Go.Proofs.Ytnhoinonojhgiaa
open Go.RowKit

theorem between_is (n a b : Int) : (decide (min a b ≤ n) && decide (n ≤ max a b)) = withinF n a b := by
  unfold withinF
  rw [Bool.eq_iff_iff]
  simp only [Bool.and_eq_true, Bool.or_eq_true, decide_eq_true_eq]
  omega
theorem opp_signs {x y : Int} (h : x * y < 0) : (0 < x ∧ y < 0) ∨ (x < 0 ∧ 0 < y) := by
  rcases Int.lt_trichotomy x 0 with h1 | h1 | h1
  · right
    refine ⟨h1, ?_⟩
    apply Classical.byContradiction
    intro h2
    have := Int.mul_nonneg (show 0 ≤ -x by omega) (show 0 ≤ -y by omega)
    rw [Int.neg_mul_neg] at this
    omega
  · rw [h1, Int.zero_mul] at h; omega
  · left
    refine ⟨h1, ?_⟩
    apply Classical.byContradiction
    intro h2
    have := Int.mul_nonneg (show 0 ≤ x by omega) (show 0 ≤ y by omega)
    omega
theorem cmp_signs {x y : Int} (h : cmpI x 0 * cmpI y 0 < 0) : (0 < x ∧ y < 0) ∨ (x < 0 ∧ 0 < y) := by
  have h1 : ∀ z : Int, (0 < cmpI z 0 ↔ 0 < z) ∧ (cmpI z 0 < 0 ↔ z < 0) := by
    intro z
    unfold cmpI
    repeat' split
    all_goals omega
  rcases opp_signs h with ⟨a, b⟩ | ⟨a, b⟩
  · exact Or.inl ⟨(h1 x).1.1 a, (h1 y).2.1 b⟩
  · exact Or.inr ⟨(h1 x).2.1 a, (h1 y).1.1 b⟩
/-- Two lines that are to either side of one another's ends have no number between them. -/
theorem cross_far {ax ay bx bY cx cy dx dy s1 s2 t1 t2 m : Int} (h1 : s1 = (bx - ax) * (cy - ay) - (bY - ay) * (cx - ax)) (h2 : s2 = (bx - ax) * (dy - ay) - (bY - ay) * (dx - ax)) (h3 : t1 = (dx - cx) * (ay - cy) - (dy - cy) * (ax - cx)) (h4 : t2 = (dx - cx) * (bY - cy) - (dy - cy) * (bx - cx)) (ha : ax ≤ m) (hb : bx ≤ m) (hc : m < cx) (hd : m < dx) (hs : (0 < s1 ∧ s2 < 0) ∨ (s1 < 0 ∧ 0 < s2)) (ht : (0 < t1 ∧ t2 < 0) ∨ (t1 < 0 ∧ 0 < t2)) : False := by
  have e : s1 * (dx - m) + -s2 * (cx - m) + t2 * (m - ax) + -t1 * (m - bx) = 0 := by grind
  have e0 : s1 - s2 + t1 - t2 = 0 := by grind
  have e' : -s1 * (dx - m) + s2 * (cx - m) + -t2 * (m - ax) + t1 * (m - bx) = 0 := by grind
  clear h1 h2 h3 h4
  rcases hs with ⟨p1, p2⟩ | ⟨p1, p2⟩ <;> rcases ht with ⟨q1, q2⟩ | ⟨q1, q2⟩
  · omega
  · have e1 : 0 < s1 * (dx - m) := Int.mul_pos p1 (by omega)
    have e2 : 0 < -s2 * (cx - m) := Int.mul_pos (by omega) (by omega)
    have e3 : 0 ≤ t2 * (m - ax) := Int.mul_nonneg (by omega) (by omega)
    have e4 : 0 ≤ -t1 * (m - bx) := Int.mul_nonneg (by omega) (by omega)
    omega
  · have e1 : 0 < -s1 * (dx - m) := Int.mul_pos (by omega) (by omega)
    have e2 : 0 < s2 * (cx - m) := Int.mul_pos (by omega) (by omega)
    have e3 : 0 ≤ -t2 * (m - ax) := Int.mul_nonneg (by omega) (by omega)
    have e4 : 0 ≤ t1 * (m - bx) := Int.mul_nonneg (by omega) (by omega)
    omega
  · omega
theorem rights4 {a b c d : P3} (h : rights [a, b, c, d] = true) : rightP a = true ∧ rightP b = true ∧ rightP c = true ∧ rightP d = true := by
  simpa [rights, and_assoc] using h
theorem turn_at {a b c : P3} (ha : rightP a = true) (hb : rightP b = true) (hc : rightP c = true) : turnF a b c = cmpI (crossF a b c) 0 := by
  rw [turn_cross, if_pos (by simp [rights, ha, hb, hc])]
def astrideF (a b c d : P3) : Bool := decide (turnF a b c * turnF a b d < 0)
theorem astride_cross {a b c d : P3} (h : rights [a, b, c, d] = true) (hs : astrideF a b c d = true) : (0 < crossF a b c ∧ crossF a b d < 0) ∨ (crossF a b c < 0 ∧ 0 < crossF a b d) := by
  obtain ⟨ha, hb, hc, hd⟩ := rights4 h
  unfold astrideF at hs
  rw [turn_at ha hb hc, turn_at ha hb hd] at hs
  exact cmp_signs (of_decide_eq_true hs)
/-- All of one are less, or all are greater. -/
def farF (a b c d : Int) : Bool := decide (max a b < min c d) || decide (max c d < min a b)
theorem far_turn (a b c d : Int) : farF c d a b = farF a b c d := by unfold farF; exact Bool.or_comm _ _
theorem not_far {a b c d : P3} (h : rights [a, b, c, d] = true) (h1 : astrideF a b c d = true) (h2 : astrideF c d a b = true) : farF a.1 b.1 c.1 d.1 = false ∧ farF a.2.1 b.2.1 c.2.1 d.2.1 = false := by
  have hr : rights [c, d, a, b] = true := by rw [← h]; exact rights_perm (List.perm_append_comm (l₁ := [c, d]) (l₂ := [a, b]))
  have s := astride_cross h h1
  have t := astride_cross hr h2
  clear h h1 h2 hr
  obtain ⟨ax, ay, _⟩ := a
  obtain ⟨bx, bY, _⟩ := b
  obtain ⟨cx, cy, _⟩ := c
  obtain ⟨dx, dy, _⟩ := d
  unfold crossF at s t
  simp only at s t ⊢
  constructor
  · cases hf : farF ax bx cx dx with
    | false => rfl
    | true =>
      exfalso
      unfold farF at hf
      rw [Bool.or_eq_true, decide_eq_true_eq, decide_eq_true_eq] at hf
      rcases hf with hf | hf
      · exact cross_far (m := max ax bx) rfl rfl rfl rfl (by omega) (by omega) (by omega) (by omega) s t
      · exact cross_far (m := max cx dx) rfl rfl rfl rfl (by omega) (by omega) (by omega) (by omega) t s
  · have sw : ∀ {x y : Int}, (0 < x ∧ y < 0) ∨ (x < 0 ∧ 0 < y) → (0 < -x ∧ -y < 0) ∨ (-x < 0 ∧ 0 < -y) := by intro x y h; omega
    cases hf : farF ay bY cy dy with
    | false => rfl
    | true =>
      exfalso
      unfold farF at hf
      rw [Bool.or_eq_true, decide_eq_true_eq, decide_eq_true_eq] at hf
      rcases hf with hf | hf
      · exact cross_far (m := max ay bY) (Int.neg_sub _ _) (Int.neg_sub _ _) (Int.neg_sub _ _) (Int.neg_sub _ _) (by omega) (by omega) (by omega) (by omega) (sw s) (sw t)
      · exact cross_far (m := max cy dy) (Int.neg_sub _ _) (Int.neg_sub _ _) (Int.neg_sub _ _) (Int.neg_sub _ _) (by omega) (by omega) (by omega) (by omega) (sw t) (sw s)
theorem far_both {a b c d p : P3} (h : (farF a.1 b.1 c.1 d.1 || farF a.2.1 b.2.1 c.2.1 d.2.1) = true) : onBoth a b c d p = false := by
  cases ho : onBoth a b c d p with
  | false => rfl
  | true =>
    exfalso
    unfold onBoth onF withinF at ho
    unfold farF at h
    simp only [Bool.and_eq_true, Bool.or_eq_true, decide_eq_true_eq] at ho h
    omega
/-- What is far apart has nothing in common. -/
theorem meet_far {a b c d : P3} (h : (farF a.1 b.1 c.1 d.1 || farF a.2.1 b.2.1 c.2.1 d.2.1) = true) : meetF a b c d = 0 := by
  rw [meet_is]
  by_cases hr : rights [a, b, c, d] = true
  · rw [if_pos hr, if_neg (fun ⟨p, _, q, _, hp, _⟩ => by rw [far_both h] at hp; cases hp), if_neg (fun ⟨p, _, hp⟩ => by rw [far_both h] at hp; cases hp)]
    by_cases hc : turnF a b c * turnF a b d < 0 ∧ turnF c d a * turnF c d b < 0
    · exfalso
      have := not_far hr (decide_eq_true hc.1) (decide_eq_true hc.2)
      rw [this.1, this.2] at h
      cases h
    · rw [if_neg hc]
  · rw [if_neg hr]
theorem on_zero {p a b : P3} (h : onF p a b = true) : turnF a b p = 0 := by
  unfold onF at h
  simp only [Bool.and_eq_true, decide_eq_true_eq] at h
  exact h.1.1.2
/-- What cross have no end in common. -/
theorem meet_cross {a b c d : P3} (hr : rights [a, b, c, d] = true) (h1 : astrideF a b c d = true) (h2 : astrideF c d a b = true) : meetF a b c d = 2 := by
  have e1 := of_decide_eq_true h1
  have e2 := of_decide_eq_true h2
  have hn : ¬ ∃ p ∈ [a, b, c, d], onBoth a b c d p = true := by
    rintro ⟨p, hp, ho⟩
    unfold onBoth at ho
    rw [Bool.and_eq_true] at ho
    have z1 := on_zero ho.1
    have z2 := on_zero ho.2
    simp only [List.mem_cons, List.not_mem_nil, or_false] at hp
    rcases hp with rfl | rfl | rfl | rfl
    · rw [z2, Int.zero_mul] at e2; omega
    · rw [z2, Int.mul_zero] at e2; omega
    · rw [z1, Int.zero_mul] at e1; omega
    · rw [z1, Int.mul_zero] at e1; omega
  rw [meet_is, if_pos hr, if_neg (fun ⟨p, hp, q, _, h, _⟩ => hn ⟨p, hp, h⟩), if_neg hn, if_pos ⟨e1, e2⟩]
/-- The ends that are on the other one, one by one. -/
def endF (met : Int) (first : P3) : List (P3 × P3 × P3) → Int
  | [] => met
  | e :: l => if onF e.1 e.2.1 e.2.2 then (if met = 0 then endF 1 e.1 l else if e.1 = first then endF met first l else 3) else endF met first l
theorem ends_mono (a b c d : P3) (l : List P3) : ∀ acc : List P3, acc.length ≤ (endsF a b c d acc l).length := by
  induction l with
  | nil => intro acc; exact Nat.le_refl _
  | cons p l ih =>
    intro acc
    unfold endsF
    split
    · exact ih acc
    · split
      · refine Nat.le_trans ?_ (ih _)
        simp
      · exact ih acc
theorem ends_off {a b c d : P3} {x : P3} (l acc : List P3) (h : onBoth a b c d x = false) : endsF a b c d acc (x :: l) = endsF a b c d acc l := by
  have hb' : (!onF x a b || !onF x c d) = true := by
    unfold onBoth at h
    cases h1 : onF x a b <;> cases h2 : onF x c d <;> simp_all
  show (if (!onF x a b || !onF x c d) = true then _ else _) = _
  rw [if_pos hb']
theorem ends_on {a b c d : P3} {x : P3} (l acc : List P3) (h : onBoth a b c d x = true) : endsF a b c d acc (x :: l) = if acc.length = 0 ∨ acc.head? ≠ some x then endsF a b c d (acc ++ [x]) l else endsF a b c d acc l := by
  have hb' : (!onF x a b || !onF x c d) = false := by
    unfold onBoth at h
    rw [Bool.and_eq_true] at h
    rw [h.1, h.2]; rfl
  show (if (!onF x a b || !onF x c d) = true then _ else _) = _
  rw [if_neg (by rw [hb']; exact Bool.false_ne_true)]
theorem end_cons (met : Int) (f : P3) (e : P3 × P3 × P3) (l : List (P3 × P3 × P3)) : endF met f (e :: l) = if onF e.1 e.2.1 e.2.2 then (if met = 0 then endF 1 e.1 l else if e.1 = f then endF met f l else 3) else endF met f l := rfl
theorem end_one {a b c d : P3} (l : List (P3 × P3 × P3)) (hl : ∀ e ∈ l, onF e.1 e.2.1 e.2.2 = onBoth a b c d e.1) (f : P3) : endF 1 f l = if 1 < (endsF a b c d [f] (l.map (·.1))).length then 3 else 1 := by
  induction l with
  | nil => rfl
  | cons e l ih =>
    have ih := ih (fun x hx => hl x (List.mem_cons_of_mem _ hx))
    have he := hl e (List.mem_cons_self ..)
    rw [List.map_cons, end_cons, he]
    by_cases hb : onBoth a b c d e.1 = true
    · rw [if_pos hb, if_neg (by omega), ends_on _ _ hb]
      by_cases hf : e.1 = f
      · rw [if_pos hf, ih, if_neg (c := [f].length = 0 ∨ [f].head? ≠ some e.1) (by rw [hf]; simp)]
      · have hm := ends_mono a b c d (l.map (·.1)) ([f] ++ [e.1])
        rw [if_neg hf, if_pos (c := [f].length = 0 ∨ [f].head? ≠ some e.1) (by right; intro h; exact hf (Option.some.inj h).symm), if_pos (by simp only [List.length_append, List.length_cons, List.length_nil] at hm; omega)]
    · rw [if_neg hb, ends_off _ _ (by simpa using hb), ih]
theorem end_none {a b c d : P3} (l : List (P3 × P3 × P3)) (hl : ∀ e ∈ l, onF e.1 e.2.1 e.2.2 = onBoth a b c d e.1) (z : P3) : endF 0 z l = (if 1 < (endsF a b c d [] (l.map (·.1))).length then 3 else if (endsF a b c d [] (l.map (·.1))).length = 1 then 1 else 0) := by
  induction l with
  | nil => rfl
  | cons e l ih =>
    have ih := ih (fun x hx => hl x (List.mem_cons_of_mem _ hx))
    have he := hl e (List.mem_cons_self ..)
    have h1 := end_one l (fun x hx => hl x (List.mem_cons_of_mem _ hx)) e.1
    rw [List.map_cons, end_cons, he]
    by_cases hb : onBoth a b c d e.1 = true
    · have hm := ends_mono a b c d (l.map (·.1)) [e.1]
      rw [if_pos hb, if_pos rfl, ends_on _ _ hb, if_pos (c := ([] : List P3).length = 0 ∨ ([] : List P3).head? ≠ some e.1) (Or.inl rfl), h1, List.nil_append]
      simp only [List.length_cons, List.length_nil] at hm
      generalize (endsF a b c d [e.1] (l.map (·.1))).length = k at *
      by_cases hk : 1 < k
      · rw [if_pos hk, if_pos hk]
      · rw [if_neg hk, if_neg hk, if_pos (by omega)]
    · rw [if_neg hb, ends_off _ _ (by simpa using hb), ih]
/-- What do not cross have in common as much as their ends tell. -/
theorem meet_ends {a b c d : P3} (hr : rights [a, b, c, d] = true) (h : (astrideF a b c d && astrideF c d a b) = false) (z : P3) : meetF a b c d = endF 0 z [(a, c, d), (b, c, d), (c, a, b), (d, a, b)] := by
  obtain ⟨ha, hb, hc, hd⟩ := rights4 hr
  rw [end_none (a := a) (b := b) (c := c) (d := d) _ (by
    intro e he
    simp only [List.mem_cons, List.not_mem_nil, or_false] at he
    unfold onBoth
    rcases he with rfl | rfl | rfl | rfl
    · rw [on_first ha hb, Bool.true_and]
    · rw [on_last ha hb, Bool.true_and]
    · rw [on_first hc hd, Bool.and_true]
    · rw [on_last hc hd, Bool.and_true])]
  unfold meetF
  rw [if_pos hr]
  show (let k := (endsF a b c d [] [a, b, c, d]).length; _) = _
  simp only [List.map_cons, List.map_nil]
  have hn : ¬ (turnF a b c * turnF a b d < 0 ∧ turnF c d a * turnF c d b < 0) := by
    rintro ⟨h1, h2⟩
    unfold astrideF at h
    rw [decide_eq_true h1, decide_eq_true h2] at h
    cases h
  rw [if_neg hn]
/-- Does a line from p on, to the right, go through a to b? -/
def goesF (p a b : P3) : Bool := if (decide (p.2.1 < a.2.1)) = decide (p.2.1 < b.2.1) then false else decide (0 < turnF a b p) == decide (p.2.1 < b.2.1)
theorem level_on {ax ay bx bY px py : Int} (h : (bx - ax) * (py - ay) = (bY - ay) * (px - ax)) (h1 : bY ≤ py) (h2 : py < ay) : (ax ≤ px ∧ px ≤ bx) ∨ (bx ≤ px ∧ px ≤ ax) := by
  have e1 : (ax - px) * (ay - bY) = (ax - bx) * (ay - py) := by grind
  have e2 : (px - bx) * (ay - bY) = (ax - bx) * (py - bY) := by grind
  have hp : 0 < ay - bY := by omega
  by_cases hx : bx ≤ ax
  · right
    have r1 : 0 ≤ (ax - bx) * (ay - py) := Int.mul_nonneg (by omega) (by omega)
    have r2 : 0 ≤ (ax - bx) * (py - bY) := Int.mul_nonneg (by omega) (by omega)
    constructor
    · apply Classical.byContradiction
      intro hc
      have : 0 < (bx - px) * (ay - bY) := Int.mul_pos (by omega) hp
      have e3 : (bx - px) * (ay - bY) = -((px - bx) * (ay - bY)) := by rw [← Int.neg_mul]; congr 1; omega
      omega
    · apply Classical.byContradiction
      intro hc
      have : 0 < (px - ax) * (ay - bY) := Int.mul_pos (by omega) hp
      have e3 : (px - ax) * (ay - bY) = -((ax - px) * (ay - bY)) := by rw [← Int.neg_mul]; congr 1; omega
      omega
  · left
    have r1 : 0 ≤ (bx - ax) * (ay - py) := Int.mul_nonneg (by omega) (by omega)
    have r2 : 0 ≤ (bx - ax) * (py - bY) := Int.mul_nonneg (by omega) (by omega)
    have q1 : (bx - ax) * (ay - py) = -((ax - bx) * (ay - py)) := by rw [← Int.neg_mul]; congr 1; omega
    have q2 : (bx - ax) * (py - bY) = -((ax - bx) * (py - bY)) := by rw [← Int.neg_mul]; congr 1; omega
    constructor
    · apply Classical.byContradiction
      intro hc
      have : 0 < (ax - px) * (ay - bY) := Int.mul_pos (by omega) hp
      omega
    · apply Classical.byContradiction
      intro hc
      have : 0 < (px - bx) * (ay - bY) := Int.mul_pos (by omega) hp
      omega
/-- Beside a side, both ways of telling whether it is gone through are one. -/
theorem goes_is {p a b : P3} (hp : rightP p = true) (ha : rightP a = true) (hb : rightP b = true) (ho : onF p a b = false) : goesF p a b = hitF p (a, b) := by
  unfold goesF hitF
  simp only
  by_cases h1 : p.2.1 < a.2.1 <;> by_cases h2 : p.2.1 < b.2.1
  · have n1 : ¬ a.2.1 ≤ p.2.1 := by omega
    have n2 : ¬ b.2.1 ≤ p.2.1 := by omega
    simp [h1, h2, n1, n2]
  · have n1 : ¬ a.2.1 ≤ p.2.1 := by omega
    have n2 : b.2.1 ≤ p.2.1 := by omega
    have hz : turnF a b p ≠ 0 := by
      intro hz
      have hz' := hz
      rw [turn_at ha hb hp] at hz'
      have hc : crossF a b p = 0 := by
        unfold cmpI at hz'
        split at hz'
        · omega
        · split at hz'
          · omega
          · omega
      unfold crossF at hc
      have hl := level_on (show (b.1 - a.1) * (p.2.1 - a.2.1) = (b.2.1 - a.2.1) * (p.1 - a.1) by omega) n2 h1
      have : onF p a b = true := by
        unfold onF withinF
        rw [hz]
        simp only [rights, List.all_cons, List.all_nil, hp, ha, hb, Bool.and_true, Bool.true_and, decide_true, Bool.and_eq_true, Bool.or_eq_true, decide_eq_true_eq]
        exact ⟨hl, by omega⟩
      rw [ho] at this
      cases this
    simp only [h1, h2, n1, n2, decide_true, decide_false, Bool.true_and, Bool.false_and, Bool.false_or, Bool.true_eq_false, if_false]
    rw [Bool.eq_iff_iff]
    simp only [beq_iff_eq, decide_eq_false_iff_not, decide_eq_true_eq]
    omega
  · have n1 : a.2.1 ≤ p.2.1 := by omega
    have n2 : ¬ b.2.1 ≤ p.2.1 := by omega
    simp only [h1, h2, n1, n2, decide_true, decide_false, Bool.true_and, Bool.false_and, Bool.or_false, Bool.false_eq_true, if_false]
    rw [Bool.eq_iff_iff]
    simp
  · have n1 : a.2.1 ≤ p.2.1 := by omega
    have n2 : b.2.1 ≤ p.2.1 := by omega
    simp [h1, h2, n1, n2]
end Go.Proofs.Ytnhoinonojhgiaa
