/- A piece found by spreading its number, from a triangle to all that border on it. -/
import Derived.Test.YthjmojglcfmkmaaDoorMeshCodeE
import Derived.Test.YthjmojglcfmkmaaDoorMeshPlain
namespace Go.Proofs.YthjmojglcfmkmaaDoor

def putI (a : Nat → Int) (u : Nat) (x : Int) (j : Nat) : Int := if j = u then x else a j
/-- The numbers below N, as far as the numbering has come. -/
def numTo (f : Nat → Nat) (N : Nat) (j : Nat) : Int := if f j < N then f j else -1
/-- What is found of piece N: those on the pile have their borders still to be looked over; of x the first k are. -/
structure SpreadAt (T : List P3) (f : Nat → Nat) (N i : Nat) (a : Nat → Int) (pile : List Nat) (x k : Nat) : Prop where
  old : ∀ j, j < T.length → f j < N → a j = f j
  new : ∀ j, j < T.length → N < f j → a j = -1
  now : ∀ j, j < T.length → f j = N → a j = -1 ∨ a j = N
  fst : a i = N
  on : ∀ j ∈ pile, j < T.length ∧ f j = N
  done : ∀ j, ∀ hj : j < T.length, f j = N → a j = N → j ∈ pile ∨ ∀ q, q < (if j = x then k else 3) → ∀ u, ∀ hu : u < T.length, (at3 T[j] ((q + 1) % 3), at3 T[j] q) ∈ dirs T[u] → a u ≠ -1
def PieceF (T : List P3) (f : Nat → Nat) : Prop := ∀ j u, ∀ hj : j < T.length, ∀ hu : u < T.length, f j = f u ↔ ConnT T T[j] T[u]
theorem beside_conn {T : List P3} {x u k : Nat} (hx : x < T.length) (hu : u < T.length) (hk : k < 3) (hd : (at3 T[x] ((k + 1) % 3), at3 T[x] k) ∈ dirs T[u]) : ConnT T T[x] T[u] :=
  Reach.refl.step ⟨List.getElem_mem hu, at3 T[x] k, at3 T[x] ((k + 1) % 3), dirs_mem_at.2 ⟨k, hk, rfl⟩, hd⟩
theorem spread_start {T : List P3} {f : Nat → Nat} {N i : Nat} (hi : i < T.length) (hf : f i = N) : SpreadAt T f N i (putI (numTo f N) i N) [i] T.length 0 := by
  constructor
  · intro j hj h
    unfold putI numTo
    rw [if_neg (by rintro rfl; omega), if_pos h]
  · intro j hj h
    unfold putI numTo
    rw [if_neg (by rintro rfl; omega), if_neg (by omega)]
  · intro j hj h
    unfold putI numTo
    by_cases e : j = i
    · rw [if_pos e]; exact Or.inr rfl
    · rw [if_neg e, if_neg (by omega)]; exact Or.inl rfl
  · unfold putI; rw [if_pos rfl]
  · intro j hj
    rw [List.mem_singleton.1 hj]
    exact ⟨hi, hf⟩
  · intro j hj h ha
    left
    unfold putI numTo at ha
    by_cases e : j = i
    · exact List.mem_singleton.2 e
    · rw [if_neg e, if_neg (by omega)] at ha
      omega
theorem SpreadAt.pop {T : List P3} {f : Nat → Nat} {N i : Nat} {a : Nat → Int} {l : List Nat} {x : Nat} (h : SpreadAt T f N i a (l ++ [x]) T.length 0) : SpreadAt T f N i a l x 0 := by
  refine ⟨h.old, h.new, h.now, h.fst, fun j hj => h.on j (List.mem_append_left _ hj), fun j hj hf ha => ?_⟩
  by_cases e : j = x
  · right
    intro q hq
    rw [if_pos e] at hq
    omega
  · rcases h.done j hj hf ha with h1 | h1
    · rcases List.mem_append.1 h1 with h2 | h2
      · exact Or.inl h2
      · exact absurd (List.mem_singleton.1 h2) e
    · right
      intro q hq
      rw [if_neg e] at hq
      exact h1 q (by rw [if_neg (by omega)]; exact hq)
theorem SpreadAt.round {T : List P3} {f : Nat → Nat} {N i : Nat} {a : Nat → Int} {l : List Nat} {x : Nat} (h : SpreadAt T f N i a l x 3) : SpreadAt T f N i a l T.length 0 := by
  refine ⟨h.old, h.new, h.now, h.fst, h.on, fun j hj hf ha => ?_⟩
  rcases h.done j hj hf ha with h1 | h1
  · exact Or.inl h1
  · right
    intro q hq
    rw [if_neg (by omega)] at hq
    exact h1 q (by split <;> exact hq)
theorem SpreadAt.put {T : List P3} {f : Nat → Nat} {N i : Nat} {a : Nat → Int} {l : List Nat} {x k u : Nat} (h : SpreadAt T f N i a l x k) (hF : PieceF T f) (hnd : (darts T).Nodup) (hx : x < T.length) (fx : f x = N) (hk : k < 3) (hu : u < T.length) (hd : (at3 T[x] ((k + 1) % 3), at3 T[x] k) ∈ dirs T[u]) (ha : a u = -1) :
    SpreadAt T f N i (putI a u N) (l ++ [u]) x (k + 1) := by
  have fu : f u = N := by rw [← (hF x u hx hu).2 (beside_conn hx hu hk hd)]; exact fx
  have mono : ∀ j, a j ≠ -1 → putI a u N j ≠ -1 := fun j hj => by
    unfold putI
    by_cases e : j = u
    · rw [if_pos e]; omega
    · rw [if_neg e]; exact hj
  constructor
  · intro j hj hlt
    unfold putI
    rw [if_neg (by rintro rfl; omega)]
    exact h.old j hj hlt
  · intro j hj hlt
    unfold putI
    rw [if_neg (by rintro rfl; omega)]
    exact h.new j hj hlt
  · intro j hj e
    unfold putI
    by_cases e1 : j = u
    · rw [if_pos e1]; exact Or.inr rfl
    · rw [if_neg e1]; exact h.now j hj e
  · unfold putI
    by_cases e1 : i = u
    · rw [if_pos e1]
    · rw [if_neg e1]; exact h.fst
  · intro j hj
    rcases List.mem_append.1 hj with h1 | h1
    · exact h.on j h1
    · rw [List.mem_singleton.1 h1]; exact ⟨hu, fu⟩
  · intro j hj e haj
    by_cases e1 : j = u
    · exact Or.inl (List.mem_append_right _ (List.mem_singleton.2 e1))
    · have haj' : a j = N := by unfold putI at haj; rw [if_neg e1] at haj; exact haj
      rcases h.done j hj e haj' with h1 | h1
      · exact Or.inl (List.mem_append_left _ h1)
      · right
        intro q hq u2 hu2 hd2
        by_cases e2 : j = x
        · subst e2
          rw [if_pos rfl] at hq
          by_cases e3 : q = k
          · subst e3
            have h3 := dart_one hnd (List.getElem_mem hu) (List.getElem_mem hu2) hd hd2
            have h4 := tri_same (darts_nodup hnd) hu hu2 h3
            subst h4
            unfold putI
            rw [if_pos rfl]
            omega
          · exact mono _ (h1 q (by rw [if_pos rfl]; omega) u2 hu2 hd2)
        · rw [if_neg e2] at hq
          exact mono _ (h1 q (by rw [if_neg e2]; exact hq) u2 hu2 hd2)
theorem SpreadAt.pass {T : List P3} {f : Nat → Nat} {N i : Nat} {a : Nat → Int} {l : List Nat} {x k : Nat} (h : SpreadAt T f N i a l x k) (hx : x < T.length) (ho : ∀ u, ∀ hu : u < T.length, (at3 T[x] ((k + 1) % 3), at3 T[x] k) ∈ dirs T[u] → a u ≠ -1) :
    SpreadAt T f N i a l x (k + 1) := by
  refine ⟨h.old, h.new, h.now, h.fst, h.on, fun j hj e haj => ?_⟩
  rcases h.done j hj e haj with h1 | h1
  · exact Or.inl h1
  · right
    intro q hq u2 hu2 hd2
    by_cases e2 : j = x
    · subst e2
      rw [if_pos rfl] at hq
      by_cases e3 : q = k
      · subst e3
        exact ho u2 hu2 hd2
      · exact h1 q (by rw [if_pos rfl]; omega) u2 hu2 hd2
    · rw [if_neg e2] at hq
      exact h1 q (by rw [if_neg e2]; exact hq) u2 hu2 hd2
theorem SpreadAt.all {T : List P3} {f : Nat → Nat} {N i : Nat} {a : Nat → Int} (h : SpreadAt T f N i a [] T.length 0) (hF : PieceF T f) (hnd : (darts T).Nodup) (hi : i < T.length) (hf : f i = N) : ∀ j, j < T.length → a j = numTo f (N + 1) j := by
  have key : ∀ s, ConnT T T[i] s → s ∈ T ∧ ∀ j, ∀ hj : j < T.length, T[j] = s → a j = N := by
    intro s hs
    have hs0 := hs
    unfold ConnT at hs
    induction hs with
    | refl =>
      refine ⟨List.getElem_mem hi, fun j hj e => ?_⟩
      rw [tri_same (darts_nodup hnd) hj hi e]
      exact h.fst
    | step hr hst ih =>
      obtain ⟨hm, p, q, h1, h2⟩ := hst
      refine ⟨hm, fun j hj e => ?_⟩
      obtain ⟨hy, ihy⟩ := ih hr
      obtain ⟨j0, hj0, rfl⟩ := List.getElem_of_mem hy
      have a0 := ihy j0 hj0 rfl
      have f0 : f j0 = N := by rw [← (hF i j0 hi hj0).2 hr]; exact hf
      have fj : f j = N := by rw [← (hF i j hi hj).2 (e ▸ hs0)]; exact hf
      obtain ⟨k, hk, e2⟩ := dirs_mem_at.1 h1
      have hp : p = at3 T[j0] k := congrArg Prod.fst e2
      have hq : q = at3 T[j0] ((k + 1) % 3) := congrArg Prod.snd e2
      rcases h.done j0 hj0 f0 a0 with h3 | h3
      · cases h3
      · have h4 := h3 k (by rw [if_neg (by omega)]; exact hk) j hj (by rw [e, ← hp, ← hq]; exact h2)
        rcases h.now j hj fj with h5 | h5
        · exact absurd h5 h4
        · exact h5
  intro j hj
  unfold numTo
  rcases Nat.lt_trichotomy (f j) N with h1 | h1 | h1
  · rw [if_pos (by omega)]; exact h.old j hj h1
  · rw [if_pos (by omega), h1]
    exact (key T[j] ((hF i j hi hj).1 (hf.trans h1.symm))).2 j hj rfl
  · rw [if_neg (by omega)]; exact h.new j hj h1
def holes (a : Nat → Int) (m : Nat) : Nat := (List.range m).countP fun j => a j == -1
theorem holes_put {a : Nat → Int} {m u : Nat} (hu : u < m) (ha : a u = -1) (N : Nat) : holes (putI a u N) m < holes a m := by
  unfold holes
  refine count_lt (fun j _ h => ?_) (List.mem_range.2 hu) (beq_iff_eq.2 ha) ?_
  · unfold putI at h
    by_cases e : j = u
    · rw [e]; exact beq_iff_eq.2 ha
    · rw [if_neg e] at h; exact h
  · unfold putI
    rw [if_pos rfl]
    exact beq_eq_false_iff_ne.2 (by omega)
theorem holes_le (a : Nat → Int) (m : Nat) : holes a m ≤ m := by
  have := List.countP_le_length (p := fun j => a j == -1) (l := List.range m)
  rw [List.length_range] at this
  exact this
/-- The numbers so far, where all before the i-th are numbered. -/
theorem num_step {f : Nat → Nat} {p : List Nat} (hr : ∀ (i : Nat) (hi : i < p.length), p[i] ≤ maxNext (p.take i)) {i : Nat} (hi : i < p.length) (hf : f i = p[i]) :
    (f i < maxNext (p.take i) ∧ maxNext (p.take (i + 1)) = maxNext (p.take i)) ∨ (f i = maxNext (p.take i) ∧ maxNext (p.take (i + 1)) = maxNext (p.take i) + 1) := by
  have h1 := hr i hi
  rw [List.take_succ_eq_append_getElem hi, maxNext_app, hf]
  have e : maxNext [p[i]] = p[i] + 1 := by show max (p[i] + 1) 0 = _; omega
  rw [e]
  omega
end Go.Proofs.YthjmojglcfmkmaaDoor
