/- Layer 10: the first triangle of a directed edge; those at a vertex that one comes to: plain mathematics. -/
import Derived.Test.YtckjmnbglbegmaaDoorMeshUnion
namespace Go.Proofs.YtckjmnbglbegmaaDoor
open Classical

/-- The first triangle that has a directed edge; below 0: none. -/
def hasF (T : List P3) (a b : Int) : Int := match T.findIdx? fun t => (dirs t).contains (a, b) with
  | some i => (i : Int)
  | none => -1
theorem hasF_at {T : List P3} {a b : Int} {i : Nat} (hi : i < T.length) (h : (a, b) ∈ dirs T[i]) (hno : ∀ j, ∀ hj : j < i, (a, b) ∉ dirs (T[j]'(by omega))) : hasF T a b = i := by
  have : T.findIdx? (fun t => (dirs t).contains (a, b)) = some i := by
    rw [List.findIdx?_eq_some_iff_getElem]
    refine ⟨hi, List.contains_iff_mem.2 h, fun j hj hc => hno j hj (List.contains_iff_mem.1 hc)⟩
  unfold hasF
  rw [this]
theorem hasF_none {T : List P3} {a b : Int} (h : (a, b) ∉ darts T) : hasF T a b = -1 := by
  have : T.findIdx? (fun t => (dirs t).contains (a, b)) = none := by
    rw [List.findIdx?_eq_none_iff]
    intro t ht
    cases hc : (dirs t).contains (a, b) with
    | false => rfl
    | true => exact absurd (mem_darts.2 ⟨t, ht, List.contains_iff_mem.1 hc⟩) h
  unfold hasF
  rw [this]
theorem hasF_ways (T : List P3) (a b : Int) : (hasF T a b = -1 ∧ (a, b) ∉ darts T) ∨ ∃ i, ∃ hi : i < T.length, hasF T a b = i ∧ (a, b) ∈ dirs T[i] ∧ ∀ j, ∀ hj : j < i, (a, b) ∉ dirs (T[j]'(by omega)) := by
  cases hf : T.findIdx? (fun t => (dirs t).contains (a, b)) with
  | none =>
    left
    have h1 := List.findIdx?_eq_none_iff.1 hf
    have h2 : (a, b) ∉ darts T := fun hc => by
      obtain ⟨t, ht, hd⟩ := mem_darts.1 hc
      have := h1 t ht
      rw [List.contains_iff_mem.2 hd] at this
      cases this
    exact ⟨hasF_none h2, h2⟩
  | some i =>
    right
    obtain ⟨hi, h1, h2⟩ := List.findIdx?_eq_some_iff_getElem.1 hf
    have h3 := List.contains_iff_mem.1 h1
    have h4 : ∀ j, ∀ hj : j < i, (a, b) ∉ dirs (T[j]'(by omega)) := fun j hj hc => h2 j hj (List.contains_iff_mem.2 hc)
    exact ⟨i, hi, hasF_at hi h3 h4, h3, h4⟩
theorem hasF_nonneg {T : List P3} {a b : Int} : 0 ≤ hasF T a b ↔ (a, b) ∈ darts T := by
  rcases hasF_ways T a b with ⟨h1, h2⟩ | ⟨i, hi, h1, h2, _⟩
  · rw [h1]
    exact ⟨fun h => absurd h (by decide), fun h => absurd h h2⟩
  · rw [h1]
    exact ⟨fun _ => mem_darts.2 ⟨_, List.getElem_mem hi, h2⟩, fun _ => Int.natCast_nonneg i⟩
theorem hasF_is {T : List P3} (hn : (darts T).Nodup) {a b : Int} {i : Nat} (hi : i < T.length) (h : (a, b) ∈ dirs T[i]) : hasF T a b = i := by
  refine hasF_at hi h (fun j hj hc => ?_)
  have e := dart_one hn (List.getElem_mem hi) (List.getElem_mem (show j < T.length by omega)) h hc
  exact List.pairwise_iff_getElem.1 (darts_nodup hn) j i (by omega) hi hj e.symm
theorem dirs_nodup {n : Nat} {t : P3} (h : triM n t = true) : (dirs t).Nodup := by
  obtain ⟨h1, h2, h3, _⟩ := triM_iff.1 h
  obtain ⟨a, b, c⟩ := t
  simp only at h1 h2 h3
  unfold dirs
  simp only [List.nodup_cons, List.mem_cons, List.not_mem_nil, or_false, Prod.mk.injEq, List.nodup_nil, and_true, not_false_eq_true]
  grind
/-- Each directed edge once: told triangle by triangle. -/
theorem nodup_has {n : Nat} {T : List P3} (h : T.all (triM n) = true) : (darts T).Nodup ↔ ∀ i, ∀ hi : i < T.length, ∀ d ∈ dirs T[i], hasF T d.1 d.2 = i := by
  constructor
  · intro hn i hi d hd
    exact hasF_is hn hi hd
  · intro hh
    unfold darts List.Nodup
    rw [List.pairwise_flatMap]
    constructor
    · intro t ht
      exact dirs_nodup (List.all_eq_true.1 h t ht)
    · rw [List.pairwise_iff_getElem]
      intro i j hi hj hij d hd e he heq
      subst heq
      have h1 := hh i hi d hd
      have h2 := hh j hj d he
      rw [h1] at h2
      omega
/-- A corner, by its place. -/
def at3 (t : P3) (k : Nat) : Int := if k = 0 then t.1 else if k = 1 then t.2.1 else t.2.2
theorem dirs_at {t : P3} {k : Nat} (h : k < 3) : (dirs t)[k]? = some (at3 t k, at3 t ((k + 1) % 3)) := by
  rcases (show k = 0 ∨ k = 1 ∨ k = 2 by omega) with rfl | rfl | rfl <;> rfl
theorem dirs_len (t : P3) : (dirs t).length = 3 := rfl
theorem dirs_mem_at {t : P3} {d : Int × Int} : d ∈ dirs t ↔ ∃ k, k < 3 ∧ d = (at3 t k, at3 t ((k + 1) % 3)) := by
  constructor
  · intro h
    rcases mem_dirs.1 h with rfl | rfl | rfl
    · exact ⟨0, by decide, rfl⟩
    · exact ⟨1, by decide, rfl⟩
    · exact ⟨2, by decide, rfl⟩
  · rintro ⟨k, hk, rfl⟩
    exact List.mem_of_getElem? (dirs_at hk)
def joinedB (v : Int) (a b : P3) : Bool := (dirs a).any fun d => (decide (d.1 = v) || decide (d.2 = v)) && (dirs b).contains (swapD d)
theorem joinedB_iff {v : Int} {a b : P3} : joinedB v a b = true ↔ joinedV v a b := by
  unfold joinedB joinedV
  rw [List.any_eq_true]
  constructor
  · rintro ⟨d, hd, h⟩
    rw [Bool.and_eq_true, Bool.or_eq_true, decide_eq_true_eq, decide_eq_true_eq, List.contains_iff_mem] at h
    exact ⟨d.1, d.2, hd, h.1, h.2⟩
  · rintro ⟨p, q, h1, h2, h3⟩
    refine ⟨(p, q), h1, ?_⟩
    rw [Bool.and_eq_true, Bool.or_eq_true, decide_eq_true_eq, decide_eq_true_eq, List.contains_iff_mem]
    exact ⟨h2, h3⟩
/-- The triangles at a vertex, by their places. -/
structure AtIs (T : List P3) (v : Int) (at_ : List Nat) : Prop where
  nodup : at_.Nodup
  has : ∀ (j : Nat) (hj : j < at_.length), ∃ h : at_[j] < T.length, hasV v (T[at_[j]]'h)
  all : ∀ (i : Nat) (hi : i < T.length), hasV v T[i] → i ∈ at_
/-- By the places of their corners. -/
def joinAt (v : Int) (a b : P3) (i k : Nat) : Bool := (at3 a i == v || at3 a ((i + 1) % 3) == v) && at3 b k == at3 a ((i + 1) % 3) && at3 b ((k + 1) % 3) == at3 a i
theorem joinAt_iff {v : Int} {a b : P3} : joinedB v a b = true ↔ ∃ i k, i < 3 ∧ k < 3 ∧ joinAt v a b i k = true := by
  rw [joinedB_iff]
  unfold joinedV joinAt
  constructor
  · rintro ⟨p, q, h1, h2, h3⟩
    obtain ⟨i, hi, e1⟩ := dirs_mem_at.1 h1
    obtain ⟨k, hk, e2⟩ := dirs_mem_at.1 h3
    cases e1
    rw [Prod.mk.injEq] at e2
    refine ⟨i, k, hi, hk, ?_⟩
    rw [Bool.and_eq_true, Bool.and_eq_true, Bool.or_eq_true, beq_iff_eq, beq_iff_eq, beq_iff_eq, beq_iff_eq]
    exact ⟨⟨h2, e2.1.symm⟩, e2.2.symm⟩
  · rintro ⟨i, k, hi, hk, h⟩
    rw [Bool.and_eq_true, Bool.and_eq_true, Bool.or_eq_true, beq_iff_eq, beq_iff_eq, beq_iff_eq, beq_iff_eq] at h
    obtain ⟨⟨h1, h2⟩, h3⟩ := h
    exact ⟨_, _, dirs_mem_at.2 ⟨i, hi, rfl⟩, h1, dirs_mem_at.2 ⟨k, hk, by rw [h2, h3]⟩⟩
/-- Those of the first so many. -/
structure AtTo (T : List P3) (v : Int) (m : Nat) (at_ : List Nat) : Prop where
  rise : at_.Pairwise (· < ·)
  has : ∀ i ∈ at_, i < m ∧ ∃ h : i < T.length, hasV v (T[i]'h)
  all : ∀ (i : Nat) (hi : i < T.length), i < m → hasV v T[i] → i ∈ at_
theorem AtTo.nil (T : List P3) (v : Int) : AtTo T v 0 [] := ⟨List.Pairwise.nil, fun i h => (by cases h), fun i _ h => (by omega)⟩
theorem AtTo.skip {T : List P3} {v : Int} {m : Nat} {at_ : List Nat} (h : AtTo T v m at_) (hm : m < T.length) (hv : ¬ hasV v T[m]) : AtTo T v (m + 1) at_ := by
  refine ⟨h.rise, fun i hi => ⟨by have := (h.has i hi).1; omega, (h.has i hi).2⟩, fun i hi hl hvi => ?_⟩
  by_cases e : i = m
  · subst e; exact absurd hvi hv
  · exact h.all i hi (by omega) hvi
theorem AtTo.take {T : List P3} {v : Int} {m : Nat} {at_ : List Nat} (h : AtTo T v m at_) (hm : m < T.length) (hv : hasV v T[m]) : AtTo T v (m + 1) (at_ ++ [m]) := by
  refine ⟨?_, fun i hi => ?_, fun i hi hl hvi => ?_⟩
  · rw [List.pairwise_append]
    refine ⟨h.rise, List.pairwise_singleton _ _, fun a ha b hb => ?_⟩
    rw [List.mem_singleton] at hb
    subst hb
    exact (h.has a ha).1
  · rcases List.mem_append.1 hi with hi | hi
    · exact ⟨by have := (h.has i hi).1; omega, (h.has i hi).2⟩
    · rw [List.mem_singleton] at hi
      subst hi
      exact ⟨by omega, hm, hv⟩
  · by_cases e : i = m
    · subst e; exact List.mem_append_right _ (List.mem_singleton.2 rfl)
    · exact List.mem_append_left _ (h.all i hi (by omega) hvi)
theorem AtTo.is {T : List P3} {v : Int} {at_ : List Nat} (h : AtTo T v T.length at_) : AtIs T v at_ :=
  ⟨h.rise.imp (fun hl => Nat.ne_of_lt hl), fun _ hj => (h.has _ (List.getElem_mem hj)).2, fun i hi hv => h.all i hi hi hv⟩
theorem fan_none {T : List P3} {v : Int} (h : AtIs T v []) : ¬ Fan T v := by
  rintro ⟨⟨t, ht, hv⟩, _⟩
  obtain ⟨i, hi, rfl⟩ := List.mem_iff_getElem.1 ht
  have := h.all i hi hv
  cases this
/-- Those one has come to: closed, and all of them come to. -/
theorem fan_closed {T : List P3} (hT : T.Nodup) {v : Int} {at_ : List Nat} (ha : AtIs T v at_) {seen : List Bool} (hlen : seen.length = at_.length) (h0 : seen[0]? = some true)
    (hr : ∀ j, ∀ hj : j < at_.length, seen[j]? = some true → Reach (fun a b => b ∈ T ∧ joinedV v a b) (T[at_[0]'(by omega)]'(ha.has 0 (by omega)).1) (T[at_[j]]'(ha.has j hj).1))
    (hc : ∀ i k, ∀ hi : i < at_.length, ∀ hk : k < at_.length, seen[k]? = some true → joinedV v (T[at_[i]]'(ha.has i hi).1) (T[at_[k]]'(ha.has k hk).1) → seen[i]? = some true) :
    seen.countP id = at_.length ↔ Fan T v := by
  have hpos : 0 < at_.length := by
    have := (List.getElem?_eq_some_iff.1 h0).1
    omega
  have hall : seen.countP id = at_.length ↔ ∀ j, j < at_.length → seen[j]? = some true := by
    rw [← hlen, List.countP_eq_length]
    constructor
    · intro h j hj
      have := h seen[j] (List.getElem_mem hj)
      rw [List.getElem?_eq_getElem hj]
      exact congrArg some this
    · intro h b hb
      obtain ⟨j, hj, e⟩ := List.mem_iff_getElem.1 hb
      have := h j hj
      rw [List.getElem?_eq_getElem hj, e] at this
      exact Option.some.inj this
  rw [hall]
  obtain ⟨q0, v0⟩ := ha.has 0 hpos
  have hsymm : ∀ {x y : P3}, x ∈ T → Reach (fun a b => b ∈ T ∧ joinedV v a b) x y → y ∈ T ∧ Reach (fun a b => b ∈ T ∧ joinedV v a b) y x := by
    intro x y hx h
    induction h with
    | refl => exact ⟨hx, Reach.refl⟩
    | step _ s ih =>
      obtain ⟨i1, i2⟩ := ih
      exact ⟨s.1, Reach.head ⟨i1, joined_symm s.2⟩ i2⟩
  constructor
  · intro h
    refine ⟨⟨_, List.getElem_mem q0, v0⟩, ?_⟩
    intro t ht u hu hvt hvu
    obtain ⟨i, hi, rfl⟩ := List.mem_iff_getElem.1 ht
    obtain ⟨k, hk, rfl⟩ := List.mem_iff_getElem.1 hu
    obtain ⟨ji, hji, ei⟩ := List.mem_iff_getElem.1 (ha.all i hi hvt)
    obtain ⟨jk, hjk, ek⟩ := List.mem_iff_getElem.1 (ha.all k hk hvu)
    have r1 := hr ji hji (h ji hji)
    have r2 := hr jk hjk (h jk hjk)
    simp only [ei] at r1
    simp only [ek] at r2
    exact (hsymm (List.getElem_mem q0) r1).2.trans r2
  · intro hf j hj
    obtain ⟨qj, vj⟩ := ha.has j hj
    have hp := hf.2 _ (List.getElem_mem q0) _ (List.getElem_mem qj) v0 vj
    have key : ∀ {x}, Reach (fun a b => b ∈ T ∧ joinedV v a b) (T[at_[0]]'q0) x → x ∈ T ∧ hasV v x ∧ ∀ i, ∀ hi : i < at_.length, T[at_[i]]'(ha.has i hi).1 = x → seen[i]? = some true := by
      intro x hx
      have same : ∀ (i k : Nat) (hi : i < at_.length) (hk : k < at_.length), T[at_[i]]'(ha.has i hi).1 = T[at_[k]]'(ha.has k hk).1 → i = k := by
        intro i k hi hk e
        have e2 : at_[i] = at_[k] := by
          apply Classical.byContradiction
          intro hne
          rcases Nat.lt_or_gt_of_ne hne with hl | hl
          · exact List.pairwise_iff_getElem.1 hT _ _ (ha.has i hi).1 (ha.has k hk).1 hl e
          · exact List.pairwise_iff_getElem.1 hT _ _ (ha.has k hk).1 (ha.has i hi).1 hl e.symm
        apply Classical.byContradiction
        intro hne
        rcases Nat.lt_or_gt_of_ne hne with hl | hl
        · exact List.pairwise_iff_getElem.1 ha.nodup _ _ hi hk hl e2
        · exact List.pairwise_iff_getElem.1 ha.nodup _ _ hk hi hl e2.symm
      induction hx with
      | refl =>
        refine ⟨List.getElem_mem q0, v0, fun i hi e => ?_⟩
        rw [same i 0 hi hpos e]
        exact h0
      | step _ s ih =>
        rename_i y z _
        obtain ⟨i1, i2, i3⟩ := ih
        have hz := (joined_has s.2).2
        refine ⟨s.1, hz, fun i hi e => ?_⟩
        obtain ⟨m, hm, em⟩ := List.mem_iff_getElem.1 i1
        have hym : hasV v T[m] := by rw [em]; exact i2
        obtain ⟨k, hk, ek⟩ := List.mem_iff_getElem.1 (ha.all m hm hym)
        have ey : T[at_[k]]'(ha.has k hk).1 = y := by simp only [ek]; exact em
        have hs := i3 k hk ey
        refine hc i k hi hk hs ?_
        rw [e, ey]
        exact joined_symm s.2
    exact (key hp).2.2 j hj rfl
/-- Those one has come to, at some time. -/
structure OneInv (T : List P3) (v : Int) (at_ : List Nat) (ha : AtIs T v at_) (sn : List Bool) (n : Nat) : Prop where
  len : sn.length = at_.length
  first : sn[0]? = some true
  cnt : sn.countP id = n
  reach : ∀ j, ∀ hj : j < at_.length, sn[j]? = some true → Reach (fun a b => b ∈ T ∧ joinedV v a b) (T[at_[0]'(by omega)]'(ha.has 0 (by omega)).1) (T[at_[j]]'(ha.has j hj).1)
theorem OneInv.le {T : List P3} {v : Int} {at_ : List Nat} {ha : AtIs T v at_} {sn : List Bool} {n : Nat} (h : OneInv T v at_ ha sn n) : n ≤ at_.length := by
  rw [← h.cnt, ← h.len]; exact List.countP_le_length
theorem OneInv.put {T : List P3} {v : Int} {at_ : List Nat} {ha : AtIs T v at_} {sn : List Bool} {n : Nat} (h : OneInv T v at_ ha sn n) {i k : Nat} (hi : i < at_.length) (hk : k < at_.length) (h1 : sn[i]? = some false) (h2 : sn[k]? = some true) (hj : joinedV v (T[at_[i]]'(ha.has i hi).1) (T[at_[k]]'(ha.has k hk).1)) : OneInv T v at_ ha (sn.set i true) (n + 1) := by
  have hil : i < sn.length := by rw [h.len]; exact hi
  refine ⟨by rw [List.length_set]; exact h.len, ?_, ?_, ?_⟩
  · by_cases e : i = 0
    · subst e; rw [h.first] at h1; cases h1
    · rw [List.getElem?_set_ne e]; exact h.first
  · rw [List.countP_set hil, h.cnt]
    have : sn[i] = false := by rw [List.getElem?_eq_getElem hil] at h1; exact Option.some.inj h1
    simp [this]
  · intro j hj2 hs
    by_cases e : i = j
    · subst e
      exact (h.reach k hk h2).step ⟨List.getElem_mem _, joined_symm hj⟩
    · rw [List.getElem?_set_ne e] at hs
      exact h.reach j hj2 hs
theorem OneInv.start {T : List P3} {v : Int} {at_ : List Nat} (ha : AtIs T v at_) (hp : 0 < at_.length) : OneInv T v at_ ha ((List.replicate at_.length false).set 0 true) 1 := by
  refine ⟨by rw [List.length_set, List.length_replicate], ?_, ?_, ?_⟩
  · rw [List.getElem?_set_self (by rw [List.length_replicate]; exact hp)]
  · rw [List.countP_set (by rw [List.length_replicate]; exact hp)]
    simp
  · intro j hj hs
    by_cases e : 0 = j
    · subst e; exact Reach.refl
    · rw [List.getElem?_set_ne e, List.getElem?_replicate] at hs
      split at hs <;> cases hs
/-- Of one to whom none that one has come to is joined. -/
def Shy (T : List P3) (v : Int) (at_ : List Nat) (ha : AtIs T v at_) (sn : List Bool) (i K : Nat) : Prop := ∀ k, ∀ hi : i < at_.length, ∀ hk : k < at_.length, k < K → sn[k]? = some true → ¬ joinedV v (T[at_[i]]'(ha.has i hi).1) (T[at_[k]]'(ha.has k hk).1)
theorem OneInv.done {T : List P3} (hT : T.Nodup) {v : Int} {at_ : List Nat} {ha : AtIs T v at_} {sn : List Bool} {n : Nat} (h : OneInv T v at_ ha sn n) (hc : ∀ i, i < at_.length → sn[i]? = some true ∨ Shy T v at_ ha sn i at_.length) : n = at_.length ↔ Fan T v := by
  rw [← fan_closed hT ha h.len h.first h.reach (fun i k hi hk hs hj => by
    rcases hc i hi with h1 | h1
    · exact h1
    · exact absurd hj (h1 k hi hk hk hs)), h.cnt]
end Go.Proofs.YtckjmnbglbegmaaDoor
