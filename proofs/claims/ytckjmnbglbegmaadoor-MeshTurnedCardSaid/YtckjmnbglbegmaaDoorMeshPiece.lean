/- Layer 10: the border at a vertex; orbits; pieces: plain mathematics. -/
import Derived.Test.YtckjmnbglbegmaaDoorMeshEdge
namespace Go.Proofs.YtckjmnbglbegmaaDoor
open Classical

instance (v : Int) (t : P3) : Decidable (hasV v t) := by unfold hasV; infer_instance
theorem dirs_count {n : Nat} {t : P3} (h : triM n t = true) (v : Int) : (dirs t).countP (fun d => decide (d.1 = v)) = (if hasV v t then 1 else 0) ∧ (dirs t).countP (fun d => decide (d.2 = v)) = (if hasV v t then 1 else 0) := by
  have h := triM_iff.1 h
  obtain ⟨a, b, c⟩ := t
  unfold dirs hasV
  simp only [List.countP_cons, List.countP_nil, decide_eq_true_eq] at h ⊢
  obtain ⟨h1, h2, h3, _⟩ := h
  by_cases e1 : a = v
  · subst e1
    simp [Ne.symm h1, h3]
  · by_cases e2 : b = v
    · subst e2
      simp [h1, Ne.symm h2]
    · by_cases e3 : c = v
      · subst e3
        simp [Ne.symm h3, h2]
      · simp [e1, e2, e3]
theorem darts_count {n : Nat} {T : List P3} (h : T.all (triM n) = true) (v : Int) : (darts T).countP (fun d => decide (d.1 = v)) = (T.filter fun t => decide (hasV v t)).length ∧ (darts T).countP (fun d => decide (d.2 = v)) = (T.filter fun t => decide (hasV v t)).length := by
  induction T with
  | nil => exact ⟨rfl, rfl⟩
  | cons t T ih =>
    rw [List.all_cons, Bool.and_eq_true] at h
    obtain ⟨i1, i2⟩ := ih h.2
    obtain ⟨d1, d2⟩ := dirs_count h.1 v
    show (dirs t ++ darts T).countP _ = _ ∧ (dirs t ++ darts T).countP _ = _
    rw [List.countP_append, List.countP_append, i1, i2, d1, d2, List.filter_cons]
    by_cases hv : hasV v t
    · simp only [hv, if_true, decide_true, List.length_cons]; omega
    · simp only [hv, if_false, decide_false, Bool.false_eq_true]; omega
/-- The triangle of a directed edge. -/
def triOf (T : List P3) (d : Int × Int) : P3 := (T.find? fun t => (dirs t).contains d).getD (0, 0, 0)
theorem triOf_is {T : List P3} (hn : (darts T).Nodup) {t : P3} {d : Int × Int} (ht : t ∈ T) (hd : d ∈ dirs t) : triOf T d = t := by
  unfold triOf
  cases hf : T.find? fun t => (dirs t).contains d with
  | none =>
    have := List.find?_eq_none.1 hf t ht
    exact absurd (List.contains_iff_mem.2 hd) this
  | some u =>
    have hu := List.mem_of_find?_eq_some hf
    have hp := List.find?_some hf
    exact dart_one hn hu ht (List.contains_iff_mem.1 hp) hd
theorem triOf_in {T : List P3} (hn : (darts T).Nodup) {d : Int × Int} (hd : d ∈ darts T) : triOf T d ∈ T ∧ d ∈ dirs (triOf T d) := by
  obtain ⟨t, ht, h⟩ := mem_darts.1 hd
  rw [triOf_is hn ht h]
  exact ⟨ht, h⟩
def bothAt (T : List P3) (v : Int) : List (Int × Int) := (darts T).filter fun d => decide (d.1 = v) && (darts T).contains (swapD d)
/-- At a vertex there is one triangle more than edges between them, at most. -/
theorem fan_count {T : List P3} {v : Int} (hn : (darts T).Nodup) (hf : Fan T v) : (T.filter fun t => decide (hasV v t)).length ≤ (bothAt T v).length + 1 := by
  have hL : (T.filter fun t => decide (hasV v t)).Nodup := (darts_nodup hn).filter _
  have hq : Eqv (fun x y : P3 => x = y) := ⟨fun _ => rfl, fun e => e.symm, fun e f => e.trans f⟩
  have h1 := merges_le ((bothAt T v).map fun d => (triOf T d, triOf T (swapD d))) hq (T.filter fun t => decide (hasV v t))
  have he := merges_eqv ((bothAt T v).map fun d => (triOf T d, triOf T (swapD d))) hq
  have h1 := Nat.le_trans (Nat.le_of_eq (@cls_eq P3 (fun x y => x = y) (fun a b => propDecidable (a = b)) (fun _ _ e => e) _ hL).symm) h1
  rw [List.length_map] at h1
  refine Nat.le_trans h1 (Nat.add_comm _ _ ▸ Nat.add_le_add_left ?_ _)
  refine cls_all _ (fun x hx y hy => ?_)
  rw [List.mem_filter, decide_eq_true_eq] at hx hy
  have hr := hf.2 x hx.1 y hy.1 hx.2 hy.2
  have key : ∀ {z}, Reach (fun a b => b ∈ T ∧ joinedV v a b) x z → z ∈ T ∧ merges (fun x y : P3 => x = y) ((bothAt T v).map fun d => (triOf T d, triOf T (swapD d))) x z := by
    intro z hz
    induction hz with
    | refl => exact ⟨hx.1, he.refl x⟩
    | step _ s ih =>
      obtain ⟨i1, i2⟩ := ih
      obtain ⟨s1, p, q, s2, s3, s4⟩ := s
      refine ⟨s1, he.trans i2 ?_⟩
      rename_i y z _
      have m1 : (p, q) ∈ darts T := mem_darts.2 ⟨y, i1, s2⟩
      have m2 : (q, p) ∈ darts T := mem_darts.2 ⟨z, s1, s4⟩
      have t1 := triOf_is hn i1 s2
      have t2 := triOf_is hn s1 s4
      rcases s3 with rfl | rfl
      · have hm : (p, q) ∈ bothAt T p := by
          unfold bothAt
          rw [List.mem_filter, Bool.and_eq_true, List.contains_iff_mem]
          exact ⟨m1, decide_eq_true rfl, m2⟩
        have := merges_mem _ hq (List.mem_map_of_mem (f := fun d => (triOf T d, triOf T (swapD d))) hm)
        simp only [swapD, t1, t2] at this
        exact this
      · have hm : (q, p) ∈ bothAt T q := by
          unfold bothAt
          rw [List.mem_filter, Bool.and_eq_true, List.contains_iff_mem]
          exact ⟨m2, decide_eq_true rfl, m1⟩
        have := merges_mem _ hq (List.mem_map_of_mem (f := fun d => (triOf T d, triOf T (swapD d))) hm)
        simp only [swapD, t1, t2] at this
        exact he.symm this
  exact (key hr).2
/-- Of the border as many begin at a vertex as end there, one at most. -/
theorem border_vertex {P T : List P3} (h : plainM P T = true) (hn : (darts T).Nodup) {v : Int} (hf : Fan T v) : (edgesF P.length T true).countP (fun d => decide (d.1 = v)) = (edgesF P.length T true).countP (fun d => decide (d.2 = v)) ∧ (edgesF P.length T true).countP (fun d => decide (d.1 = v)) ≤ 1 := by
  rw [(border_perm h hn).countP_eq, (border_perm h hn).countP_eq]
  have hall : T.all (triM P.length) = true := by unfold plainM at h; rw [Bool.and_eq_true] at h; exact h.2
  obtain ⟨c1, c2⟩ := darts_count hall v
  have hc := fan_count hn hf
  have k1 := len_filter (fun d : Int × Int => (darts T).contains (swapD d)) ((darts T).filter fun d => decide (d.1 = v))
  have k2 := len_filter (fun d : Int × Int => (darts T).contains (swapD d)) ((darts T).filter fun d => decide (d.2 = v))
  have c3 : ((darts T).filter fun d => decide (d.1 = v)).length = (T.filter fun t => decide (hasV v t)).length := List.countP_eq_length_filter.symm.trans c1
  have c4 : ((darts T).filter fun d => decide (d.2 = v)).length = (T.filter fun t => decide (hasV v t)).length := List.countP_eq_length_filter.symm.trans c2
  have b1 : (((darts T).filter fun d => decide (d.1 = v)).filter fun d => (darts T).contains (swapD d)) = bothAt T v := by
    unfold bothAt
    rw [List.filter_filter]
    exact List.filter_congr (fun d _ => Bool.and_comm _ _)
  have b2 : (((darts T).filter fun d => decide (d.2 = v)).filter fun d => (darts T).contains (swapD d)).Perm ((bothAt T v).map swapD) := by
    refine perm_of_mem ((hn.filter _).filter _) (swap_inj (hn.filter _)) (fun d => ?_)
    unfold bothAt
    rw [mem_swap, List.mem_filter, List.mem_filter, List.mem_filter, Bool.and_eq_true, List.contains_iff_mem, List.contains_iff_mem, decide_eq_true_eq, decide_eq_true_eq]
    have e : swapD (swapD d) = d := rfl
    rw [e]
    constructor
    · rintro ⟨⟨x1, x2⟩, x3⟩; exact ⟨x3, x2, x1⟩
    · rintro ⟨x3, x2, x1⟩; exact ⟨⟨x1, x2⟩, x3⟩
  have b3 := b2.length_eq
  rw [List.length_map] at b3
  have f1 : ((darts T).filter fun d => !(darts T).contains (swapD d)).countP (fun d => decide (d.1 = v)) = (((darts T).filter fun d => decide (d.1 = v)).filter fun d => !(darts T).contains (swapD d)).length := by
    rw [List.countP_eq_length_filter, List.filter_filter, List.filter_filter]
    exact congrArg List.length (List.filter_congr (fun d _ => Bool.and_comm _ _))
  have f2 : ((darts T).filter fun d => !(darts T).contains (swapD d)).countP (fun d => decide (d.2 = v)) = (((darts T).filter fun d => decide (d.2 = v)).filter fun d => !(darts T).contains (swapD d)).length := by
    rw [List.countP_eq_length_filter, List.filter_filter, List.filter_filter]
    exact congrArg List.length (List.filter_congr (fun d _ => Bool.and_comm _ _))
  rw [f1, f2]
  rw [b1] at k1
  rw [b3] at k2
  omega
/-- The next directed edge in a triangle. -/
def nextIn (t : P3) (d : Int × Int) : Int × Int := if d.1 = t.1 then (t.2.1, t.2.2) else if d.1 = t.2.1 then (t.2.2, t.1) else (t.1, t.2.1)
theorem next_ways {n : Nat} {t : P3} (h : triM n t = true) : nextIn t (t.1, t.2.1) = (t.2.1, t.2.2) ∧ nextIn t (t.2.1, t.2.2) = (t.2.2, t.1) ∧ nextIn t (t.2.2, t.1) = (t.1, t.2.1) := by
  obtain ⟨h1, h2, h3, _⟩ := triM_iff.1 h
  unfold nextIn
  refine ⟨if_pos rfl, ?_, ?_⟩
  · rw [if_neg (Ne.symm h1), if_pos rfl]
  · rw [if_neg h3, if_neg (Ne.symm h2)]
theorem next_in {n : Nat} {t : P3} (h : triM n t = true) {d : Int × Int} (hd : d ∈ dirs t) : nextIn t d ∈ dirs t ∧ (nextIn t d).1 = d.2 := by
  obtain ⟨n1, n2, n3⟩ := next_ways h
  rcases mem_dirs.1 hd with rfl | rfl | rfl
  · rw [n1]; exact ⟨mem_dirs.2 (Or.inr (Or.inl rfl)), rfl⟩
  · rw [n2]; exact ⟨mem_dirs.2 (Or.inr (Or.inr rfl)), rfl⟩
  · rw [n3]; exact ⟨mem_dirs.2 (Or.inl rfl), rfl⟩
theorem out_one {n : Nat} {t : P3} (h : triM n t = true) {d e : Int × Int} (hd : d ∈ dirs t) (he : e ∈ dirs t) (h1 : d.1 = e.1) : d = e := by
  obtain ⟨h2, h3, h4, _⟩ := triM_iff.1 h
  rcases mem_dirs.1 hd with rfl | rfl | rfl <;> rcases mem_dirs.1 he with rfl | rfl | rfl <;> first | rfl | (exfalso; simp only at h1; first | exact h2 h1 | exact h3 h1 | exact h4 h1 | exact h2 h1.symm | exact h3 h1.symm | exact h4 h1.symm)
theorem in_one {n : Nat} {t : P3} (h : triM n t = true) {d e : Int × Int} (hd : d ∈ dirs t) (he : e ∈ dirs t) (h1 : d.2 = e.2) : d = e := by
  obtain ⟨h2, h3, h4, _⟩ := triM_iff.1 h
  rcases mem_dirs.1 hd with rfl | rfl | rfl <;> rcases mem_dirs.1 he with rfl | rfl | rfl <;> first | rfl | (exfalso; simp only at h1; first | exact h2 h1 | exact h3 h1 | exact h4 h1 | exact h2 h1.symm | exact h3 h1.symm | exact h4 h1.symm)
def nextD (T : List P3) (d : Int × Int) : Int × Int := nextIn (triOf T d) d
theorem nextD_in {n : Nat} {T : List P3} (h : T.all (triM n) = true) (hn : (darts T).Nodup) {d : Int × Int} (hd : d ∈ darts T) : nextD T d ∈ darts T ∧ (nextD T d).1 = d.2 ∧ triOf T (nextD T d) = triOf T d := by
  obtain ⟨h1, h2⟩ := triOf_in hn hd
  have ht := List.all_eq_true.1 h _ h1
  obtain ⟨h3, h4⟩ := next_in ht h2
  exact ⟨mem_darts.2 ⟨_, h1, h3⟩, h4, triOf_is hn h1 h3⟩
theorem nextD_perm {n : Nat} {T : List P3} (h : T.all (triM n) = true) (hn : (darts T).Nodup) : PermOn (darts T) (nextD T) := by
  refine ⟨fun d hd => (nextD_in h hn hd).1, fun d hd e he heq => ?_⟩
  obtain ⟨_, d2, d3⟩ := nextD_in h hn hd
  obtain ⟨_, e2, e3⟩ := nextD_in h hn he
  rw [heq] at d2 d3
  have ht : triOf T d = triOf T e := d3.symm.trans e3
  obtain ⟨h1, h2⟩ := triOf_in hn hd
  obtain ⟨h3, h4⟩ := triOf_in hn he
  rw [← ht] at h4
  exact in_one (List.all_eq_true.1 h _ h1) h2 h4 (d2.symm.trans e2)
theorem orb_tri {n : Nat} {T : List P3} (h : T.all (triM n) = true) (hn : (darts T).Nodup) : ∀ d ∈ darts T, ∀ e ∈ darts T, (Orb (darts T) (nextD T) d e ↔ triOf T d = triOf T e) := by
  intro d hd e he
  constructor
  · intro ho
    exact Orb.least (s := fun x y => triOf T x = triOf T y) ⟨fun _ => rfl, fun e => e.symm, fun e f => e.trans f⟩ (fun x hx => (nextD_in h hn hx).2.2.symm) ho
  · intro heq
    obtain ⟨h1, h2⟩ := triOf_in hn hd
    obtain ⟨h3, h4⟩ := triOf_in hn he
    rw [← heq] at h4
    generalize triOf T d = t at *
    have htr := List.all_eq_true.1 h _ h1
    obtain ⟨n1, n2, n3⟩ := next_ways htr
    have m1 : (t.1, t.2.1) ∈ dirs t := mem_dirs.2 (Or.inl rfl)
    have m2 : (t.2.1, t.2.2) ∈ dirs t := mem_dirs.2 (Or.inr (Or.inl rfl))
    have s1 := Orb.step (p := nextD T) (t.1, t.2.1) (mem_darts.2 ⟨t, h1, m1⟩)
    have s2 := Orb.step (p := nextD T) (t.2.1, t.2.2) (mem_darts.2 ⟨t, h1, m2⟩)
    unfold nextD at s1 s2
    rw [triOf_is hn h1 m1, n1] at s1
    rw [triOf_is hn h1 m2, n2] at s2
    have hfirst : ∀ x ∈ dirs t, Orb (darts T) (nextD T) (t.1, t.2.1) x := by
      intro x hx
      rcases mem_dirs.1 hx with rfl | rfl | rfl
      · exact Orb.refl _
      · exact s1
      · exact Orb.trans s1 s2
    exact Orb.trans (Orb.symm (hfirst d h2)) (hfirst e h4)
theorem orb_tris {n : Nat} {T : List P3} (h : T.all (triM n) = true) (hn : (darts T).Nodup) : cls (Orb (darts T) (nextD T)) (darts T) = T.length := by
  rw [cls_congr (s := fun x y => triOf T x = triOf T y) _ (orb_tri h hn)]
  refine cls_key (triOf T) _ T (darts_nodup hn) (fun x hx => (triOf_in hn hx).1) (fun t ht => ?_)
  have m1 : (t.1, t.2.1) ∈ dirs t := mem_dirs.2 (Or.inl rfl)
  exact ⟨(t.1, t.2.1), mem_darts.2 ⟨t, ht, m1⟩, triOf_is hn ht m1⟩
def Apart {α : Type} (e f : α × α) : Prop := e.1 ≠ f.1 ∧ e.1 ≠ f.2 ∧ e.2 ≠ f.1 ∧ e.2 ≠ f.2
theorem comps_out {α : Type} [DecidableEq α] : ∀ (l : List (α × α)) (p : α → α) (x : α), (∀ e ∈ l, x ≠ e.1 ∧ x ≠ e.2) → comps p l x = p x := by
  intro l
  induction l with
  | nil => intro p x _; rfl
  | cons e l ih =>
    intro p x h
    show comps (swapped p e.1 e.2) l x = _
    rw [ih _ x (fun f hf => h f (List.mem_cons_of_mem _ hf))]
    have := h e (List.mem_cons_self ..)
    exact swapped_o p this.1 this.2
theorem comps_at {α : Type} [DecidableEq α] : ∀ (l : List (α × α)) (p : α → α), l.Pairwise Apart → (∀ e ∈ l, e.1 ≠ e.2) → ∀ e ∈ l, comps p l e.1 = p e.2 ∧ comps p l e.2 = p e.1 := by
  intro l
  induction l with
  | nil => intro p _ _ e he; cases he
  | cons d l ih =>
    intro p hp hne e he
    rw [List.pairwise_cons] at hp
    show comps (swapped p d.1 d.2) l e.1 = _ ∧ comps (swapped p d.1 d.2) l e.2 = _
    rcases List.mem_cons.1 he with rfl | he
    · have hd := hne e (List.mem_cons_self ..)
      rw [comps_out l _ e.1 (fun f hf => ⟨(hp.1 f hf).1, (hp.1 f hf).2.1⟩), comps_out l _ e.2 (fun f hf => ⟨(hp.1 f hf).2.2.1, (hp.1 f hf).2.2.2⟩)]
      exact ⟨swapped_a p _ _, swapped_b p hd⟩
    · obtain ⟨i1, i2⟩ := ih (swapped p d.1 d.2) hp.2 (fun f hf => hne f (List.mem_cons_of_mem _ hf)) e he
      obtain ⟨a1, a2, a3, a4⟩ := hp.1 e he
      rw [i1, i2, swapped_o p (Ne.symm a2) (Ne.symm a4), swapped_o p (Ne.symm a1) (Ne.symm a3)]
      exact ⟨rfl, rfl⟩
/-- Triangles one comes to over edges. -/
def ConnT (T : List P3) (t u : P3) : Prop := Reach (fun a b => b ∈ T ∧ ∃ p q, (p, q) ∈ dirs a ∧ (q, p) ∈ dirs b) t u
def maxNext : List Nat → Nat
  | [] => 0
  | x :: l => max (x + 1) (maxNext l)
theorem maxNext_app (l r : List Nat) : maxNext (l ++ r) = max (maxNext l) (maxNext r) := by
  induction l with
  | nil => simp [maxNext]
  | cons x l ih => show max (x + 1) (maxNext (l ++ r)) = max (max (x + 1) (maxNext l)) (maxNext r); rw [ih]; omega
theorem maxNext_mem {l : List Nat} {x : Nat} (h : x ∈ l) : x < maxNext l := by
  induction l with
  | nil => cases h
  | cons y l ih =>
    show x < max (y + 1) (maxNext l)
    rcases List.mem_cons.1 h with rfl | h
    · omega
    · have := ih h; omega
/-- Pieces, numbered by their first triangles. -/
structure PiecesIs (T : List P3) (p : List Nat) : Prop where
  len : p.length = T.length
  same : ∀ (i j : Nat) (hi : i < p.length) (hj : j < p.length), p[i] = p[j] ↔ ConnT T (T[i]'(len ▸ hi)) (T[j]'(len ▸ hj))
  rise : ∀ (i : Nat) (hi : i < p.length), p[i] ≤ maxNext (p.take i)
theorem rise_all {p : List Nat} (h : ∀ (i : Nat) (hi : i < p.length), p[i] ≤ maxNext (p.take i)) : ∀ m, m ≤ p.length → ∀ c, c < maxNext (p.take m) → c ∈ p.take m := by
  intro m
  induction m with
  | zero => intro _ c hc; simp [maxNext] at hc
  | succ m ih =>
    intro hm c hc
    have hs : p.take (m + 1) = p.take m ++ [p[m]] := List.take_succ_eq_append_getElem (by omega)
    rw [hs, maxNext_app] at hc
    rw [hs, List.mem_append, List.mem_singleton]
    have hr := h m (by omega)
    have e : maxNext [p[m]] = p[m] + 1 := by show max (p[m] + 1) 0 = _; omega
    rw [e] at hc
    by_cases h1 : c < maxNext (p.take m)
    · exact Or.inl (ih (by omega) c h1)
    · right; omega
theorem pieces_one {T : List P3} {p q : List Nat} (hp : PiecesIs T p) (hq : PiecesIs T q) : p = q := by
  have hl : p.length = q.length := hp.len.trans hq.len.symm
  have key : ∀ m, m ≤ p.length → p.take m = q.take m := by
    intro m
    induction m with
    | zero => intro _; rfl
    | succ m ih =>
      intro hm
      have ih := ih (by omega)
      have h1 : m < p.length := by omega
      have h2 : m < q.length := by omega
      rw [List.take_succ_eq_append_getElem h1, List.take_succ_eq_append_getElem h2, ih]
      congr 2
      by_cases hc : ∃ k, ∃ hk : k < m, ConnT T (T[k]'(by have := hp.len; omega)) (T[m]'(by have := hp.len; omega))
      · obtain ⟨k, hk, hconn⟩ := hc
        have e1 := (hp.same k m (by omega) h1).2 hconn
        have e2 := (hq.same k m (by omega) h2).2 hconn
        rw [← e1, ← e2]
        have f1 : (p.take m)[k]? = some (p[k]'(by omega)) := by rw [List.getElem?_take_of_lt hk]; exact List.getElem?_eq_getElem _
        have f2 : (q.take m)[k]? = some (q[k]'(by omega)) := by rw [List.getElem?_take_of_lt hk]; exact List.getElem?_eq_getElem _
        rw [ih] at f1
        exact Option.some.inj (f1.symm.trans f2)
      · have new : ∀ {r : List Nat} (hr : PiecesIs T r) (h : m < r.length), r[m] = maxNext (r.take m) := by
          intro r hr h
          have h3 := hr.rise m h
          apply Classical.byContradiction
          intro h4
          have h5 := rise_all hr.rise m (by omega) (r[m]) (by omega)
          obtain ⟨k, hk, e⟩ := List.mem_iff_getElem.1 h5
          rw [List.length_take] at hk
          rw [List.getElem_take] at e
          exact hc ⟨k, by omega, (hr.same k m (by omega) h).1 e⟩
        rw [new hp h1, new hq h2, ih]
  have := key p.length (Nat.le_refl _)
  rw [List.take_length, hl, List.take_length] at this
  exact this
end Go.Proofs.YtckjmnbglbegmaaDoor
