/- Layer 10: triangles that begin elsewhere; edges, and the border: plain mathematics. -/
import Derived.Test.YtckjmnbglbegmaaDoorMeshMath
namespace Go.Proofs.YtckjmnbglbegmaaDoor
open Classical

/-- A triangle that begins elsewhere. -/
def rotT (k : Nat) (t : P3) : P3 := if k = 0 then t else if k = 1 then (t.2.1, t.2.2, t.1) else (t.2.2, t.1, t.2.1)
theorem rot_ways (k : Nat) (t : P3) : rotT k t = t ∨ rotT k t = (t.2.1, t.2.2, t.1) ∨ rotT k t = (t.2.2, t.1, t.2.1) := by
  unfold rotT
  split
  · exact Or.inl rfl
  · split
    · exact Or.inr (Or.inl rfl)
    · exact Or.inr (Or.inr rfl)
theorem dirs_rot (k : Nat) (t : P3) : (dirs (rotT k t)).Perm (dirs t) := by
  obtain ⟨a, b, c⟩ := t
  rcases rot_ways k (a, b, c) with h | h | h
  · rw [h]
  · rw [h]
    show [(b, c), (c, a), (a, b)].Perm [(a, b), (b, c), (c, a)]
    exact List.perm_append_comm (l₁ := [(b, c), (c, a)]) (l₂ := [(a, b)])
  · rw [h]
    show [(c, a), (a, b), (b, c)].Perm [(a, b), (b, c), (c, a)]
    exact List.perm_append_comm (l₁ := [(c, a)]) (l₂ := [(a, b), (b, c)])
theorem hasV_rot (k : Nat) (t : P3) (v : Int) : hasV v (rotT k t) ↔ hasV v t := by
  rw [hasV_out, hasV_out]
  simp only [(dirs_rot k t).mem_iff]
theorem joined_rot (k m : Nat) (a b : P3) (v : Int) : joinedV v (rotT k a) (rotT m b) ↔ joinedV v a b := by
  unfold joinedV
  simp only [(dirs_rot k a).mem_iff, (dirs_rot m b).mem_iff]
theorem triM_rot (n k : Nat) (t : P3) : triM n (rotT k t) = triM n t := by
  obtain ⟨a, b, c⟩ := t
  rcases rot_ways k (a, b, c) with h | h | h <;> rw [h] <;> unfold triM <;> apply decide_eq_decide.2 <;> simp only <;> grind
/-- Each of them begins elsewhere. -/
def turnsT (T : List P3) (by_ : List Nat) : List P3 := List.zipWith (fun t k => rotT k t) T by_
theorem darts_turns : ∀ (T : List P3) (by_ : List Nat), by_.length = T.length → (darts (turnsT T by_)).Perm (darts T) := by
  intro T
  induction T with
  | nil => intro by_ _; cases by_ <;> exact List.Perm.refl _
  | cons t T ih =>
    intro by_ h
    cases by_ with
    | nil => cases h
    | cons k by_ => exact List.Perm.append (dirs_rot k t) (ih by_ (by simpa using h))
theorem turns_mem : ∀ (T : List P3) (by_ : List Nat), by_.length = T.length → (∀ t ∈ T, ∃ k, rotT k t ∈ turnsT T by_) ∧ ∀ u ∈ turnsT T by_, ∃ t ∈ T, ∃ k, u = rotT k t := by
  intro T
  induction T with
  | nil =>
    intro by_ h
    refine ⟨fun t ht => (by cases ht), fun u hu => ?_⟩
    cases by_ with
    | nil => cases hu
    | cons k by_ => cases h
  | cons t T ih =>
    intro by_ h
    cases by_ with
    | nil => cases h
    | cons k by_ =>
      obtain ⟨i1, i2⟩ := ih by_ (by simpa using h)
      constructor
      · intro u hu
        rcases List.mem_cons.1 hu with rfl | hu
        · exact ⟨k, List.mem_cons_self ..⟩
        · obtain ⟨m, hm⟩ := i1 u hu
          exact ⟨m, List.mem_cons_of_mem _ hm⟩
      · intro u hu
        rcases List.mem_cons.1 hu with rfl | hu
        · exact ⟨t, List.mem_cons_self .., k, rfl⟩
        · obtain ⟨v, hv, m, e⟩ := i2 u hu
          exact ⟨v, List.mem_cons_of_mem _ hv, m, e⟩
theorem turns_all (n : Nat) : ∀ (T : List P3) (by_ : List Nat), by_.length = T.length → (turnsT T by_).all (triM n) = T.all (triM n) := by
  intro T
  induction T with
  | nil => intro by_ _; cases by_ <;> rfl
  | cons t T ih =>
    intro by_ h
    cases by_ with
    | nil => cases h
    | cons k by_ =>
      show (triM n (rotT k t) && (turnsT T by_).all (triM n)) = (triM n t && T.all (triM n))
      rw [triM_rot, ih by_ (by simpa using h)]
theorem fan_turns {T : List P3} {by_ : List Nat} (h : by_.length = T.length) (hn : (darts T).Nodup) (v : Int) : Fan (turnsT T by_) v ↔ Fan T v := by
  obtain ⟨h1, h2⟩ := turns_mem T by_ h
  have hn2 : (darts (turnsT T by_)).Nodup := (darts_turns T by_ h).nodup_iff.2 hn
  have hd : ∀ t : P3, (t.1, t.2.1) ∈ dirs t := fun t => List.mem_cons_self ..
  constructor
  · refine fan_over (fun t t' => ∃ k, t = rotT k t') (fun u hu => ?_) (fun t ht _ => ?_) ?_ ?_ ?_
    · obtain ⟨t, ht, k, e⟩ := h2 u hu; exact ⟨t, ht, k, e⟩
    · obtain ⟨k, hk⟩ := h1 t ht; exact ⟨_, hk, k, rfl⟩
    · rintro _ t ⟨k, rfl⟩; exact hasV_rot k t v
    · rintro _ a _ b ⟨k, rfl⟩ ⟨m, rfl⟩; exact (joined_rot k m a b v).1
    · rintro t a b ha hb ⟨k, e1⟩ ⟨m, e2⟩
      have d1 := hd t
      refine dart_one hn ha hb (d := (t.1, t.2.1)) ?_ ?_
      · rw [e1] at d1 ⊢; exact (dirs_rot k a).mem_iff.1 d1
      · rw [e2] at d1 ⊢; exact (dirs_rot m b).mem_iff.1 d1
  · refine fan_over (fun t t' => ∃ k, t' = rotT k t) (fun t ht => ?_) (fun u hu _ => ?_) ?_ ?_ ?_
    · obtain ⟨k, hk⟩ := h1 t ht; exact ⟨_, hk, k, rfl⟩
    · obtain ⟨t, ht, k, e⟩ := h2 u hu; exact ⟨t, ht, k, e⟩
    · rintro t _ ⟨k, rfl⟩; exact (hasV_rot k t v).symm
    · rintro a _ b _ ⟨k, rfl⟩ ⟨m, rfl⟩; exact (joined_rot k m a b v).2
    · rintro t _ _ ha hb ⟨k, rfl⟩ ⟨m, rfl⟩
      refine dart_one hn2 ha hb (d := (t.1, t.2.1)) ?_ ?_
      · exact (dirs_rot k t).mem_iff.2 (hd t)
      · exact (dirs_rot m t).mem_iff.2 (hd t)
theorem turns_len {T : List P3} {by_ : List Nat} (h : by_.length = T.length) : (turnsT T by_).length = T.length := by
  unfold turnsT
  rw [List.length_zipWith, h, Nat.min_self]
theorem check_turns {P T : List P3} {by_ : List Nat} (h : by_.length = T.length) {e : Int} (hc : CheckIs P T e) : CheckIs P (turnsT T by_) e := by
  refine check_congr ?_ ?_ ?_ ?_ hc
  · unfold longM; rw [turns_len h]
  · unfold plainM; rw [turns_all _ T by_ h]
  · exact (darts_turns T by_ h).nodup_iff.symm
  · intro _ hn
    unfold fansM
    simp only [fan_turns h hn]
/-- All pairs, rising. -/
def pairsN (n : Nat) : List (Int × Int) := (List.range n).flatMap fun (a : Nat) => (List.range n).map fun (b : Nat) => ((a : Int), (b : Int))
theorem mem_pairs {n : Nat} {d : Int × Int} : d ∈ pairsN n ↔ (0 ≤ d.1 ∧ d.1 < n) ∧ (0 ≤ d.2 ∧ d.2 < n) := by
  unfold pairsN
  rw [List.mem_flatMap]
  constructor
  · rintro ⟨a, ha, h⟩
    obtain ⟨b, hb, rfl⟩ := List.mem_map.1 h
    rw [List.mem_range] at ha hb
    simp only
    omega
  · rintro ⟨⟨h1, h2⟩, ⟨h3, h4⟩⟩
    refine ⟨d.1.toNat, List.mem_range.2 (by omega), List.mem_map.2 ⟨d.2.toNat, List.mem_range.2 (by omega), ?_⟩⟩
    exact Prod.ext (by simp only; omega) (by simp only; omega)
theorem pairs_nodup (n : Nat) : (pairsN n).Nodup := by
  unfold pairsN List.Nodup
  rw [List.pairwise_flatMap]
  constructor
  · intro a _
    refine List.pairwise_map.2 ((List.nodup_range (n := n)).imp ?_)
    intro x y h e
    have := congrArg Prod.snd e
    simp only at this
    exact h (by omega)
  · refine List.Pairwise.imp ?_ (List.nodup_range (n := n))
    intro a b hab d h1 e2 h2 e
    obtain ⟨x, _, rfl⟩ := List.mem_map.1 h1
    obtain ⟨y, _, rfl⟩ := List.mem_map.1 h2
    have := congrArg Prod.fst e
    simp only at this
    exact hab (by omega)
/-- Edges each once; or those that have no opposite. -/
def edgeB (D : List (Int × Int)) (border : Bool) (d : Int × Int) : Bool := if border then D.contains d && !D.contains (swapD d) else decide (d.1 < d.2) && (D.contains d || D.contains (swapD d))
def edgesF (n : Nat) (T : List P3) (border : Bool) : List (Int × Int) := (pairsN n).filter (edgeB (darts T) border)
theorem edges_same {n : Nat} {T T' : List P3} (h : ∀ d, d ∈ darts T ↔ d ∈ darts T') (border : Bool) : edgesF n T border = edgesF n T' border := by
  unfold edgesF
  congr 1
  funext d
  unfold edgeB
  have e : ∀ d, (darts T).contains d = (darts T').contains d := fun d => by
    rw [Bool.eq_iff_iff, List.contains_iff_mem, List.contains_iff_mem]; exact h d
  rw [e, e]
theorem edges_nodup (n : Nat) (T : List P3) (border : Bool) : (edgesF n T border).Nodup := (pairs_nodup n).filter _
theorem darts_in {P T : List P3} (h : plainM P T = true) {d : Int × Int} (hd : d ∈ darts T) : d ∈ pairsN P.length ∧ d.1 ≠ d.2 := by
  unfold plainM at h
  rw [Bool.and_eq_true] at h
  obtain ⟨t, ht, h1⟩ := mem_darts.1 hd
  have h2 := triM_iff.1 (List.all_eq_true.1 h.2 t ht)
  rw [mem_pairs]
  rcases mem_dirs.1 h1 with rfl | rfl | rfl <;> simp only <;> omega
theorem mem_border {P T : List P3} (h : plainM P T = true) {d : Int × Int} : d ∈ edgesF P.length T true ↔ d ∈ darts T ∧ swapD d ∉ darts T := by
  unfold edgesF edgeB
  rw [List.mem_filter, if_pos rfl, Bool.and_eq_true, Bool.not_eq_true', List.contains_iff_mem]
  constructor
  · rintro ⟨_, h1, h2⟩
    refine ⟨h1, fun h3 => ?_⟩
    rw [List.contains_iff_mem.2 h3] at h2; cases h2
  · rintro ⟨h1, h2⟩
    refine ⟨(darts_in h h1).1, h1, ?_⟩
    cases hc : (darts T).contains (swapD d) with
    | false => rfl
    | true => exact absurd (List.contains_iff_mem.1 hc) h2
theorem mem_edges {P T : List P3} (h : plainM P T = true) {d : Int × Int} : d ∈ edgesF P.length T false ↔ d.1 < d.2 ∧ (d ∈ darts T ∨ swapD d ∈ darts T) := by
  unfold edgesF edgeB
  rw [List.mem_filter, if_neg (by decide), Bool.and_eq_true, Bool.or_eq_true, decide_eq_true_eq, List.contains_iff_mem, List.contains_iff_mem]
  constructor
  · rintro ⟨_, h1⟩; exact h1
  · rintro ⟨h1, h2⟩
    refine ⟨?_, h1, h2⟩
    rcases h2 with h2 | h2
    · exact (darts_in h h2).1
    · have := (darts_in h h2).1
      rw [mem_pairs] at this ⊢
      unfold swapD at this
      exact ⟨this.2, this.1⟩
theorem perm_of_mem {α : Type} {l m : List α} (hl : l.Nodup) (hm : m.Nodup) (h : ∀ x, x ∈ l ↔ x ∈ m) : l.Perm m := (List.perm_ext_iff_of_nodup hl hm).2 h
theorem border_perm {P T : List P3} (h : plainM P T = true) (hn : (darts T).Nodup) : (edgesF P.length T true).Perm ((darts T).filter fun d => !(darts T).contains (swapD d)) := by
  refine perm_of_mem (edges_nodup _ _ _) (hn.filter _) (fun d => ?_)
  rw [mem_border h, List.mem_filter]
  simp
theorem darts_len (T : List P3) : (darts T).length = 3 * T.length := by
  induction T with
  | nil => rfl
  | cons t T ih =>
    show (dirs t ++ darts T).length = 3 * (T.length + 1)
    rw [List.length_append, ih]
    show 3 + _ = _
    omega
theorem len_filter {α : Type} (f : α → Bool) (l : List α) : (l.filter f).length + (l.filter fun x => !f x).length = l.length := by
  induction l with
  | nil => rfl
  | cons x l ih =>
    cases h : f x <;> simp [h] <;> omega
theorem swap_inj {D : List (Int × Int)} (h : D.Nodup) : (D.map swapD).Nodup := swap_nodup.2 h
theorem mem_swap {D : List (Int × Int)} {d : Int × Int} : d ∈ D.map swapD ↔ swapD d ∈ D := by
  constructor
  · intro h; obtain ⟨e, he, rfl⟩ := List.mem_map.1 h; exact he
  · intro h; exact List.mem_map.2 ⟨_, h, rfl⟩
/-- Twice the edges are three times the triangles, and the border. -/
theorem edges_count {P T : List P3} (h : plainM P T = true) (hn : (darts T).Nodup) : 2 * (edgesF P.length T false).length = 3 * T.length + (edgesF P.length T true).length := by
  rw [(border_perm h hn).length_eq]
  have hD := darts_len T
  have hin : ∀ d ∈ darts T, d.1 ≠ d.2 := fun d hd => (darts_in h hd).2
  have hE : (edgesF P.length T false).Perm ((darts T).filter (fun d => decide (d.1 < d.2)) ++ (((darts T).filter (fun d => decide (d.2 < d.1))).filter (fun d => !(darts T).contains (swapD d))).map swapD) := by
    refine perm_of_mem (edges_nodup _ _ _) ?_ (fun d => ?_)
    · rw [List.nodup_append]
      refine ⟨hn.filter _, swap_inj ((hn.filter _).filter _), ?_⟩
      rintro a h1 b h2 rfl
      rw [mem_swap, List.mem_filter] at h2
      rw [List.mem_filter] at h1
      have := h2.2
      rw [Bool.not_eq_true'] at this
      have e : swapD (swapD a) = a := rfl
      rw [e, List.contains_iff_mem.2 h1.1] at this
      cases this
    · rw [mem_edges h, List.mem_append, mem_swap, List.mem_filter, List.mem_filter, List.mem_filter]
      have e : swapD (swapD d) = d := rfl
      rw [e, Bool.not_eq_true', decide_eq_true_eq, decide_eq_true_eq]
      have e2 : (swapD d).2 < (swapD d).1 ↔ d.1 < d.2 := Iff.rfl
      rw [e2]
      by_cases hd : d ∈ darts T
      · simp only [hd, true_or, and_true, true_and]
        constructor
        · exact Or.inl
        · rintro (h1 | ⟨⟨_, h1⟩, _⟩)
          · exact h1
          · exact h1
      · have : (darts T).contains d = false := by
          cases hc : (darts T).contains d with
          | false => rfl
          | true => exact absurd (List.contains_iff_mem.1 hc) hd
        simp only [hd, false_or, false_and, this, and_true]
        exact And.comm
  rw [hE.length_eq, List.length_append, List.length_map]
  have c1 := len_filter (fun d : Int × Int => decide (d.1 < d.2)) (darts T)
  have c2 : (darts T).filter (fun d => !decide (d.1 < d.2)) = (darts T).filter (fun d => decide (d.2 < d.1)) := by
    refine List.filter_congr (fun d hd => ?_)
    have := hin d hd
    rw [Bool.eq_iff_iff]
    simp only [Bool.not_eq_true', decide_eq_false_iff_not, decide_eq_true_eq]
    omega
  rw [c2] at c1
  have c3 := len_filter (fun d : Int × Int => (darts T).contains (swapD d)) ((darts T).filter (fun d => decide (d.2 < d.1)))
  have c4 := len_filter (fun d : Int × Int => (darts T).contains (swapD d)) (darts T)
  -- those with an opposite are half of them rising
  have c5 := len_filter (fun d : Int × Int => decide (d.1 < d.2)) ((darts T).filter fun d => (darts T).contains (swapD d))
  have c6 : (((darts T).filter fun d => (darts T).contains (swapD d)).filter fun d => !decide (d.1 < d.2)) = (((darts T).filter (fun d => decide (d.2 < d.1))).filter fun d => (darts T).contains (swapD d)) := by
    rw [List.filter_filter, List.filter_filter]
    refine List.filter_congr (fun d hd => ?_)
    have := hin d hd
    have e : (!decide (d.1 < d.2)) = decide (d.2 < d.1) := by
      rw [Bool.eq_iff_iff]
      simp only [Bool.not_eq_true', decide_eq_false_iff_not, decide_eq_true_eq]
      omega
    rw [e]
    exact Bool.and_comm _ _
  rw [c6] at c5
  have c7 : (((darts T).filter fun d => (darts T).contains (swapD d)).filter fun d => decide (d.1 < d.2)).Perm ((((darts T).filter (fun d => decide (d.2 < d.1))).filter fun d => (darts T).contains (swapD d)).map swapD) := by
    refine perm_of_mem ((hn.filter _).filter _) (swap_inj ((hn.filter _).filter _)) (fun d => ?_)
    rw [mem_swap, List.mem_filter, List.mem_filter, List.mem_filter, List.mem_filter]
    have e : swapD (swapD d) = d := rfl
    rw [e, List.contains_iff_mem, List.contains_iff_mem, decide_eq_true_eq, decide_eq_true_eq]
    have e2 : (swapD d).2 < (swapD d).1 ↔ d.1 < d.2 := Iff.rfl
    rw [e2]
    constructor
    · rintro ⟨⟨h1, h2⟩, h3⟩; exact ⟨⟨h2, h3⟩, h1⟩
    · rintro ⟨⟨h1, h2⟩, h3⟩; exact ⟨⟨h3, h1⟩, h2⟩
  have c8 := c7.length_eq
  rw [List.length_map] at c8
  omega
end Go.Proofs.YtckjmnbglbegmaaDoor
