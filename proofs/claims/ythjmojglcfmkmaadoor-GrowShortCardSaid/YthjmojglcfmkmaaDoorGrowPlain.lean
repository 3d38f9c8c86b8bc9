/- Layer 12, laid ahead: the chapter's grower as plain functions. Mathematics only. -/
import Derived.Test.YthjmojglcfmkmaaDoorWalkPlain
namespace Go.Proofs.YthjmojglcfmkmaaDoor

/-- Triangles that grow: how many vertices, gates, borders; the error. -/
structure GS where
  T : List P3
  N : Nat
  P : List (Int × Int)
  B : List (Int × Int)
  E : Int
/-- A gate's other side has a triangle. -/
def shutG (T : List P3) (d : Int × Int) : Bool := decide ((d.2, d.1) ∈ darts T)
/-- Shut gates taken from the pile's end. -/
def popG (T : List P3) (l : List (Int × Int)) : List (Int × Int) := (l.reverse.dropWhile (shutG T)).reverse
/-- What is no step here, whatever the last gate is. -/
def formG (P : List (Int × Int)) (s : Int × Int) : Prop := s.1 < 0 ∨ 3 < s.1 ∨ (s.1 < 3 ∧ s.2 ≠ 0) ∨ (s.1 = 0 ∧ P ≠ []) ∨ (0 < s.1 ∧ P = [])
instance (P : List (Int × Int)) (s : Int × Int) : Decidable (formG P s) := by unfold formG; infer_instance
def longG (g : GS) (s : Int × Int) : Prop := (s.1 ≠ 1 ∧ 8000 ≤ g.T.length) ∨ (s.1 = 0 ∧ 3997 < g.N) ∨ (s.1 = 2 ∧ 3999 < g.N)
instance (g : GS) (s : Int × Int) : Decidable (longG g s) := by unfold longG; infer_instance
/-- A triangle over the gate p q, to the vertex v. -/
def overG (g : GS) (P : List (Int × Int)) (p q v : Int) (N : Nat) : GS :=
  if (p, v) ∈ darts g.T ∨ (v, q) ∈ darts g.T ∨ (p, v) ∈ g.B ∨ (v, q) ∈ g.B then { g with P := P, E := 80 }
  else { g with T := g.T ++ [(q, p, v)], N := N, P := P.dropLast ++ [(p, v), (v, q)] }
def stepG (g : GS) (s : Int × Int) : GS :=
  if g.E ≠ 0 then g else
  let P := popG g.T g.P
  if formG P s then { g with P := P, E := 11 }
  else if longG g s then { g with P := P, E := 3 }
  else if s.1 = 0 then { g with T := g.T ++ [((g.N : Int), (g.N : Int) + 1, (g.N : Int) + 2)], N := g.N + 3, P := P ++ [((g.N : Int), (g.N : Int) + 1), ((g.N : Int) + 1, (g.N : Int) + 2), ((g.N : Int) + 2, (g.N : Int))] }
  else match P.getLast? with
  | none => { g with P := P, E := 11 }
  | some d =>
    if s.1 = 1 then { g with P := P.dropLast, B := g.B ++ [(d.2, d.1)] }
    else if s.1 = 2 then overG g P d.1 d.2 g.N (g.N + 1)
    else if s.2 < 0 ∨ (g.N : Int) ≤ s.2 ∨ s.2 = d.1 ∨ s.2 = d.2 then { g with P := P, E := 11 }
    else overG g P d.1 d.2 s.2 g.N
def newG : GS := ⟨[], 0, [], [], 0⟩
/-- Steps, one behind the other. -/
def growG (l : List (Int × Int)) : GS := l.foldl stepG newG
def openG (g : GS) : Nat := g.P.countP fun d => !shutG g.T d
theorem stepG_told {g : GS} (h : g.E ≠ 0) (s : Int × Int) : stepG g s = g := by
  unfold stepG
  rw [if_pos h]
theorem growG_next (l : List (Int × Int)) (s : Int × Int) : growG (l ++ [s]) = stepG (growG l) s := by
  unfold growG
  rw [List.foldl_append]
  rfl
theorem grow_told {g : GS} (h : g.E ≠ 0) : ∀ l : List (Int × Int), l.foldl stepG g = g := by
  intro l
  induction l with
  | nil => rfl
  | cons s l ih =>
    rw [List.foldl_cons, stepG_told h]
    exact ih
theorem popG_pre (T : List P3) (l : List (Int × Int)) : popG T l <+: l := by
  unfold popG
  obtain ⟨a, ha⟩ := List.dropWhile_suffix (l := l.reverse) (shutG T)
  refine ⟨a.reverse, ?_⟩
  rw [← List.reverse_append, ha, List.reverse_reverse]
theorem popG_last {T : List P3} {l : List (Int × Int)} {d : Int × Int} (h : (popG T l).getLast? = some d) : shutG T d = false := by
  unfold popG at h
  rw [List.getLast?_reverse] at h
  have := List.head?_dropWhile_not (shutG T) l.reverse
  rw [h] at this
  simpa using this
theorem popG_self {T : List P3} {l : List (Int × Int)} (h : ∀ d, l.getLast? = some d → shutG T d = false) : popG T l = l := by
  unfold popG
  cases hl : l.reverse with
  | nil => rw [List.dropWhile_nil, ← hl, List.reverse_reverse]
  | cons d r =>
    have h1 : l.getLast? = some d := by rw [← List.head?_reverse, hl]; rfl
    rw [List.dropWhile_cons_of_neg (by rw [h d h1]; simp), ← hl, List.reverse_reverse]
theorem popG_twice (T : List P3) (l : List (Int × Int)) : popG T (popG T l) = popG T l := popG_self fun _ h => popG_last h
theorem popG_app {T : List P3} {l r : List (Int × Int)} (h : ∀ d ∈ r, shutG T d = true) : popG T (l ++ r) = popG T l := by
  unfold popG
  rw [List.reverse_append]
  have e : ∀ x ∈ r.reverse, shutG T x = true := fun x hx => h x (List.mem_reverse.1 hx)
  rw [List.dropWhile_append_of_pos e]
/-- What is never wrong with a grower. -/
structure GOk (g : GS) : Prop where
  nd : (darts g.T).Nodup
  tri : g.T.all (triM g.N) = true
  gat : ∀ d ∈ g.P, d ∈ darts g.T
  pnd : g.P.Nodup
  sep : ∀ d ∈ g.P, (d.2, d.1) ∉ g.B
  bor : ∀ d ∈ g.B, d ∉ darts g.T ∧ (d.2, d.1) ∈ darts g.T
  lenT : g.T.length ≤ 8000
  lenN : g.N ≤ 4000
theorem newG_ok : GOk newG := ⟨List.nodup_nil, rfl, (fun _ h => by cases h), List.nodup_nil, (fun _ h => by cases h), (fun _ h => by cases h), Nat.zero_le _, Nat.zero_le _⟩
theorem darts_in_range {n : Nat} {T : List P3} (h : T.all (triM n) = true) {d : Int × Int} (hd : d ∈ darts T) : (0 ≤ d.1 ∧ d.1 < n) ∧ (0 ≤ d.2 ∧ d.2 < n) ∧ d.1 ≠ d.2 := by
  obtain ⟨t, ht, hd⟩ := mem_darts.1 hd
  obtain ⟨h1, h2, h3, h4, h5, h6⟩ := triM_iff.1 (List.all_eq_true.1 h t ht)
  rcases mem_dirs.1 hd with rfl | rfl | rfl
  · exact ⟨h4, h5, h1⟩
  · exact ⟨h5, h6, h2⟩
  · exact ⟨h6, h4, h3⟩
theorem all_wider {n n' : Nat} {T : List P3} (h : T.all (triM n) = true) (hn : n ≤ n') : T.all (triM n') = true := by
  refine List.all_eq_true.2 fun t ht => ?_
  obtain ⟨h1, h2, h3, h4, h5, h6⟩ := triM_iff.1 (List.all_eq_true.1 h t ht)
  exact triM_iff.2 ⟨h1, h2, h3, ⟨h4.1, by omega⟩, ⟨h5.1, by omega⟩, ⟨h6.1, by omega⟩⟩
theorem darts_app (T : List P3) (t : P3) : darts (T ++ [t]) = darts T ++ dirs t := by
  unfold darts
  rw [List.flatMap_append, List.flatMap_cons, List.flatMap_nil, List.append_nil]
theorem dirsG_nodup {n : Nat} {t : P3} (h : triM n t = true) : (dirs t).Nodup := by
  obtain ⟨h1, h2, h3, _⟩ := triM_iff.1 h
  unfold dirs
  simp only [List.nodup_cons, List.mem_cons, Prod.mk.injEq, List.not_mem_nil, or_false, not_or, not_and, not_false_eq_true, List.nodup_nil, and_true]
  exact ⟨⟨fun e => absurd e h1, fun e => absurd e.symm h3⟩, fun e => absurd e h2⟩
/-- The pile is shorter, nothing else is turned. -/
theorem GOk.pile {g : GS} (h : GOk g) {P : List (Int × Int)} (hp : P <+: g.P) (e : Int) : GOk { g with P := P, E := e } :=
  ⟨h.nd, h.tri, fun d hd => h.gat d (hp.subset hd), h.pnd.sublist hp.sublist, fun d hd => h.sep d (hp.subset hd), h.bor, h.lenT, h.lenN⟩
/-- A triangle more. -/
theorem GOk.more {g : GS} (h : GOk g) {P Q : List (Int × Int)} (hp : P <+: g.P) {t : P3} {N : Nat} (hN : g.N ≤ N) (hl : g.T.length < 8000) (hn : N ≤ 4000) (ht : triM N t = true) (hd : ∀ d ∈ dirs t, d ∉ darts g.T ∧ d ∉ g.B) (hq : ∀ d ∈ Q, d ∈ dirs t) (hqn : Q.Nodup) :
    GOk { g with T := g.T ++ [t], N := N, P := P ++ Q } := by
  refine ⟨?_, ?_, ?_, ?_, ?_, ?_, ?_, hn⟩
  · show (darts (g.T ++ [t])).Nodup
    rw [darts_app]
    exact List.nodup_append.2 ⟨h.nd, dirsG_nodup ht, fun a ha b hb e => (hd b hb).1 (e ▸ ha)⟩
  · show (g.T ++ [t]).all (triM N) = true
    rw [List.all_append, all_wider h.tri hN]
    simp [ht]
  · intro d hd2
    show d ∈ darts (g.T ++ [t])
    rw [darts_app]
    rcases List.mem_append.1 hd2 with h2 | h2
    · exact List.mem_append.2 (Or.inl (h.gat d (hp.subset h2)))
    · exact List.mem_append.2 (Or.inr (hq d h2))
  · exact List.nodup_append.2 ⟨h.pnd.sublist hp.sublist, hqn, fun a ha b hb e => (hd b (hq b hb)).1 (e ▸ h.gat a (hp.subset ha))⟩
  · intro d hd2
    rcases List.mem_append.1 hd2 with h2 | h2
    · exact h.sep d (hp.subset h2)
    · intro h3
      exact (hd d (hq d h2)).1 (h.bor _ h3).2
  · intro d hd2
    obtain ⟨h1, h2⟩ := h.bor d hd2
    refine ⟨?_, ?_⟩
    · show d ∉ darts (g.T ++ [t])
      rw [darts_app]
      intro h3
      rcases List.mem_append.1 h3 with h3 | h3
      · exact h1 h3
      · exact (hd d h3).2 hd2
    · show (d.2, d.1) ∈ darts (g.T ++ [t])
      rw [darts_app]
      exact List.mem_append.2 (Or.inl h2)
  · show (g.T ++ [t]).length ≤ 8000
    rw [List.length_append]
    exact hl
theorem overG_ok {g : GS} (h : GOk g) {P : List (Int × Int)} (hp : P <+: g.P) {p q v : Int} (hl : P.getLast? = some (p, q)) (hs : shutG g.T (p, q) = false) {N : Nat} (hN : g.N ≤ N) (hn : N ≤ 4000) (hT : g.T.length < 8000) (hv : 0 ≤ v ∧ v < N) (hvp : v ≠ p) (hvq : v ≠ q) : GOk (overG g P p q v N) := by
  unfold overG
  split
  · exact h.pile hp _
  · rename_i hno
    have hno1 : (p, v) ∉ darts g.T := fun e => hno (Or.inl e)
    have hno2 : (v, q) ∉ darts g.T := fun e => hno (Or.inr (Or.inl e))
    have hno3 : (p, v) ∉ g.B := fun e => hno (Or.inr (Or.inr (Or.inl e)))
    have hno4 : (v, q) ∉ g.B := fun e => hno (Or.inr (Or.inr (Or.inr e)))
    have hm : (p, q) ∈ g.P := hp.subset (List.mem_of_getLast? hl)
    obtain ⟨⟨p0, p1⟩, ⟨q0, q1⟩, hpq⟩ := darts_in_range h.tri (h.gat _ hm)
    simp only at p0 p1 q0 q1 hpq
    have hq2 : (q, p) ∉ darts g.T := of_decide_eq_false hs
    have hq3 : (q, p) ∉ g.B := h.sep _ hm
    refine h.more ((List.dropLast_prefix _).trans hp) hN hT hn (triM_iff.2 ⟨fun e => hpq e.symm, fun e => hvp e.symm, hvq, ⟨q0, by show q < _; omega⟩, ⟨p0, by show p < _; omega⟩, hv⟩) ?_ ?_ ?_
    · intro d hd
      rcases mem_dirs.1 hd with rfl | rfl | rfl
      · exact ⟨hq2, hq3⟩
      · exact ⟨hno1, hno3⟩
      · exact ⟨hno2, hno4⟩
    · intro d hd
      rcases List.mem_cons.1 hd with rfl | hd
      · exact mem_dirs.2 (Or.inr (Or.inl rfl))
      · rw [List.mem_singleton.1 hd]; exact mem_dirs.2 (Or.inr (Or.inr rfl))
    · refine List.nodup_cons.2 ⟨fun e => ?_, List.nodup_cons.2 ⟨fun e => (by cases e), List.nodup_nil⟩⟩
      have := List.mem_singleton.1 e
      exact hvp (Prod.mk.inj this).1.symm
theorem stepG_ok {g : GS} (h : GOk g) (s : Int × Int) : GOk (stepG g s) := by
  unfold stepG
  split
  · exact h
  · have hp := popG_pre g.T g.P
    simp only
    split
    · exact h.pile hp _
    · split
      · exact h.pile hp _
      · rename_i hlg
        split
        · rename_i hz
          have h1 : g.T.length < 8000 := Nat.lt_of_not_le fun e => hlg (Or.inl ⟨by omega, e⟩)
          have h2 : g.N ≤ 3997 := Nat.le_of_not_lt fun e => hlg (Or.inr (Or.inl ⟨hz, e⟩))
          have hbig : ∀ d : Int × Int, (g.N : Int) ≤ d.1 ∨ (g.N : Int) ≤ d.2 → d ∉ darts g.T ∧ d ∉ g.B := fun d hd => by
            have k : d ∉ darts g.T := fun e => by
              have := darts_in_range h.tri e
              omega
            refine ⟨k, fun e => ?_⟩
            have := darts_in_range h.tri (h.bor d e).2
            simp only at this
            omega
          have ht : triM (g.N + 3) ((g.N : Int), (g.N : Int) + 1, (g.N : Int) + 2) = true := by
            refine triM_iff.2 ⟨?_, ?_, ?_, ⟨?_, ?_⟩, ⟨?_, ?_⟩, ⟨?_, ?_⟩⟩
            all_goals first | omega | (simp only; omega)
          refine h.more hp (Nat.le_add_right _ 3) h1 (by omega) ht ?_ (fun d hd => hd) (dirsG_nodup ht)
          intro d hd
          refine hbig d ?_
          rcases mem_dirs.1 hd with rfl | rfl | rfl <;> simp only <;> omega
        · rename_i hz
          split
          · exact h.pile hp _
          · rename_i d hl
            obtain ⟨p, q⟩ := d
            have hm : (p, q) ∈ g.P := hp.subset (List.mem_of_getLast? hl)
            have hsh := popG_last hl
            obtain ⟨⟨p0, p1⟩, ⟨q0, q1⟩, hpq⟩ := darts_in_range h.tri (h.gat _ hm)
            simp only at p0 p1 q0 q1 hpq
            split
            · have h2 := h.pile ((List.dropLast_prefix _).trans hp) g.E
              refine ⟨h2.nd, h2.tri, h2.gat, h2.pnd, ?_, ?_, h2.lenT, h2.lenN⟩
              · intro d hd hb
                rcases List.mem_append.1 hb with hb | hb
                · exact h2.sep d hd hb
                · have e := List.mem_singleton.1 hb
                  obtain ⟨e1, e2⟩ := Prod.mk.inj e
                  have ed : d = (p, q) := Prod.ext e2 e1
                  have hnd : (popG g.T g.P).Nodup := h.pnd.sublist hp.sublist
                  have hsp : popG g.T g.P = (popG g.T g.P).dropLast ++ [(p, q)] := by
                    obtain ⟨ys, hys⟩ := List.getLast?_eq_some_iff.1 hl
                    rw [hys, List.dropLast_concat]
                  rw [hsp] at hnd
                  exact (List.nodup_append.1 hnd).2.2 d hd (p, q) (List.mem_singleton.2 rfl) ed
              · intro d hd
                rcases List.mem_append.1 hd with hd | hd
                · exact h.bor d hd
                · rw [List.mem_singleton.1 hd]
                  exact ⟨of_decide_eq_false hsh, h.gat _ hm⟩
            · rename_i hb
              have h1 : g.T.length < 8000 := Nat.lt_of_not_le fun e => hlg (Or.inl ⟨hb, e⟩)
              split
              · rename_i h2
                have h3 : g.N ≤ 3999 := Nat.le_of_not_lt fun e => hlg (Or.inr (Or.inr ⟨h2, e⟩))
                exact overG_ok h hp hl hsh (Nat.le_succ _) (by omega) h1 ⟨by omega, by omega⟩ (by omega) (by omega)
              · split
                · exact h.pile hp _
                · exact overG_ok h hp hl hsh (Nat.le_refl _) h.lenN h1 ⟨by omega, by omega⟩ (by omega) (by omega)
theorem growG_ok (l : List (Int × Int)) : GOk (growG l) := by
  unfold growG
  have : ∀ (l : List (Int × Int)) (g : GS), GOk g → GOk (l.foldl stepG g) := fun l => by
    induction l with
    | nil => intro g h; exact h
    | cons s l ih => intro g h; rw [List.foldl_cons]; exact ih _ (stepG_ok h s)
  exact this l _ newG_ok
/-- What a step does, where it is told to be none wrong; and what it never does. -/
structure GWay (g : GS) (s : Int × Int) (g' : GS) : Prop where
  lenP : g.P.length ≤ 3 * g.T.length → g'.P.length ≤ 3 * g'.T.length
  lenB : g'.B.length ≤ g.B.length + 1
  lenT : g'.T.length ≤ g.T.length + 1
  lenN : g'.N ≤ g.N + 3
  err : g.E = 0 ∨ g.E = 3 ∨ g.E = 11 ∨ g.E = 80 → g'.E = 0 ∨ g'.E = 3 ∨ g'.E = 11 ∨ g'.E = 80
  bad : g'.E ≠ 0 → g'.T = g.T ∧ g'.N = g.N ∧ g'.B = g.B ∧ openG g' = openG g
  fit : g'.E = 0 → g.E = 0 ∧ ((s.1 = 0 ∧ g'.N = g.N + 3 ∧ g'.T.length = g.T.length + 1) ∨ (s.1 = 1 ∧ g'.N = g.N ∧ g'.T = g.T) ∨ (s.1 = 2 ∧ g'.N = g.N + 1 ∧ g'.T.length = g.T.length + 1) ∨ (s.1 = 3 ∧ g'.N = g.N ∧ g'.T.length = g.T.length + 1))
theorem popG_open (T : List P3) (l : List (Int × Int)) : (popG T l).countP (fun d => !shutG T d) = l.countP fun d => !shutG T d := by
  have h : ∀ r : List (Int × Int), (r.dropWhile (shutG T)).countP (fun d => !shutG T d) = r.countP fun d => !shutG T d := fun r => by
    induction r with
    | nil => rfl
    | cons d r ih =>
      by_cases hd : shutG T d = true
      · rw [List.dropWhile_cons_of_pos hd, ih, List.countP_cons_of_neg (by rw [hd]; decide)]
      · rw [List.dropWhile_cons_of_neg hd]
  unfold popG
  rw [List.countP_reverse, h, List.countP_reverse]
theorem popG_len (T : List P3) (l : List (Int × Int)) : (popG T l).length ≤ l.length := (popG_pre T l).length_le
theorem GWay.wrong (g : GS) (s : Int × Int) {e : Int} (he : e = 3 ∨ e = 11 ∨ e = 80) : GWay g s { g with P := popG g.T g.P, E := e } := by
  have hp := popG_len g.T g.P
  refine ⟨fun h => Nat.le_trans hp h, Nat.le_succ _, Nat.le_succ _, Nat.le_add_right _ _, fun _ => Or.inr he, fun _ => ⟨rfl, rfl, rfl, popG_open _ _⟩, fun h => ?_⟩
  have h2 : e = 0 := h
  omega
theorem overG_way {g : GS} {s : Int × Int} (h0 : g.E = 0) {d : Int × Int} (hl : (popG g.T g.P).getLast? = some d) {v : Int} {N : Nat} (hs : (s.1 = 2 ∧ N = g.N + 1) ∨ (s.1 = 3 ∧ N = g.N)) : GWay g s (overG g (popG g.T g.P) d.1 d.2 v N) := by
  unfold overG
  split
  · exact GWay.wrong g s (Or.inr (Or.inr rfl))
  · have hp := popG_len g.T g.P
    obtain ⟨ys, hys⟩ := List.getLast?_eq_some_iff.1 hl
    have hle : (popG g.T g.P).dropLast.length + 1 ≤ g.P.length := by
      rw [hys, List.dropLast_concat]
      rw [hys, List.length_append] at hp
      exact hp
    refine ⟨fun h => ?_, Nat.le_succ _, ?_, ?_, fun _ => Or.inl h0, fun h => absurd h0 h, fun _ => ⟨h0, ?_⟩⟩
    · show ((popG g.T g.P).dropLast ++ [(d.1, v), (v, d.2)]).length ≤ 3 * (g.T ++ [(d.2, d.1, v)]).length
      rw [List.length_append, List.length_append]
      simp only [List.length_cons, List.length_nil]
      omega
    · show (g.T ++ [(d.2, d.1, v)]).length ≤ _
      rw [List.length_append]
      exact Nat.le_refl _
    · show N ≤ g.N + 3
      omega
    · have hT : (g.T ++ [(d.2, d.1, v)]).length = g.T.length + 1 := by rw [List.length_append]; rfl
      rcases hs with ⟨h1, h2⟩ | ⟨h1, h2⟩
      · exact Or.inr (Or.inr (Or.inl ⟨h1, h2, hT⟩))
      · exact Or.inr (Or.inr (Or.inr ⟨h1, h2, hT⟩))
theorem stepG_way (g : GS) (s : Int × Int) : GWay g s (stepG g s) := by
  unfold stepG
  split
  · rename_i h0
    exact ⟨fun h => h, Nat.le_succ _, Nat.le_succ _, Nat.le_add_right _ _, fun h => h, fun _ => ⟨rfl, rfl, rfl, rfl⟩, fun h => absurd h h0⟩
  · rename_i h0
    have h0 : g.E = 0 := Decidable.of_not_not h0
    have hp := popG_len g.T g.P
    simp only
    split
    · exact GWay.wrong g s (Or.inr (Or.inl rfl))
    · rename_i hf
      split
      · exact GWay.wrong g s (Or.inl rfl)
      · split
        · rename_i hz
          refine ⟨fun h => ?_, Nat.le_succ _, ?_, Nat.le_refl _, fun _ => Or.inl h0, fun h => absurd h0 h, fun _ => ⟨h0, Or.inl ⟨hz, rfl, ?_⟩⟩⟩
          · simp only [List.length_append, List.length_cons, List.length_nil]
            omega
          · simp only [List.length_append, List.length_cons, List.length_nil]
            omega
          · simp only [List.length_append, List.length_cons, List.length_nil]
        · rename_i hz
          split
          · exact GWay.wrong g s (Or.inr (Or.inl rfl))
          · rename_i d hl
            split
            · rename_i h1
              have hd : (popG g.T g.P).dropLast.length ≤ g.P.length := by rw [List.length_dropLast]; omega
              refine ⟨fun h => Nat.le_trans hd h, ?_, Nat.le_succ _, Nat.le_add_right _ _, fun _ => Or.inl h0, fun h => absurd h0 h, fun _ => ⟨h0, Or.inr (Or.inl ⟨h1, rfl, rfl⟩)⟩⟩
              simp only [List.length_append, List.length_cons, List.length_nil]
              omega
            · split
              · rename_i h2
                exact overG_way h0 hl (Or.inl ⟨h2, rfl⟩)
              · rename_i h1 h2
                split
                · exact GWay.wrong g s (Or.inr (Or.inl rfl))
                · have h3 : s.1 = 3 := by
                    unfold formG at hf
                    omega
                  exact overG_way h0 hl (Or.inr ⟨h3, rfl⟩)
theorem pop_none {g : GS} (h : openG g = 0) : popG g.T g.P = [] := by
  have hs : ∀ d ∈ g.P, shutG g.T d = true := fun d hd => by
    have := List.countP_eq_zero.1 h d hd
    simpa using this
  have := popG_app (T := g.T) (l := []) (r := g.P) hs
  rw [List.nil_append] at this
  exact this
/-- Behind a whole one: what is no seed is refused. -/
theorem more_form {g : GS} (h0 : g.E = 0) (ho : openG g = 0) {s : Int × Int} (hs : ¬ (s.1 = 0 ∧ s.2 = 0)) : (stepG g s).E = 11 := by
  unfold stepG
  rw [if_neg (by rw [h0]; decide)]
  simp only [pop_none ho]
  rw [if_pos ?_]
  unfold formG
  by_cases h1 : s.1 = 0
  · exact Or.inr (Or.inr (Or.inl ⟨by omega, fun e => hs ⟨h1, e⟩⟩))
  · by_cases h2 : s.1 < 0
    · exact Or.inl h2
    · exact Or.inr (Or.inr (Or.inr (Or.inr ⟨by omega, rfl⟩)))
/-- Behind a whole one: a seed leaves gates open. -/
theorem more_seed {g : GS} (hok : GOk g) (h0 : g.E = 0) (ho : openG g = 0) (hT : g.T.length < 8000) (hN : g.N ≤ 3997) : (stepG g (0, 0)).E = 0 ∧ 0 < openG (stepG g (0, 0)) := by
  have e : stepG g (0, 0) = { g with T := g.T ++ [((g.N : Int), (g.N : Int) + 1, (g.N : Int) + 2)], N := g.N + 3, P := [((g.N : Int), (g.N : Int) + 1), ((g.N : Int) + 1, (g.N : Int) + 2), ((g.N : Int) + 2, (g.N : Int))] } := by
    unfold stepG
    rw [if_neg (by rw [h0]; decide)]
    simp only [pop_none ho]
    rw [if_neg (by unfold formG; simp), if_neg (by unfold longG; simp only; omega), if_pos trivial]
    rfl
  rw [e]
  refine ⟨h0, ?_⟩
  unfold openG
  refine List.countP_pos_iff.2 ⟨((g.N : Int), (g.N : Int) + 1), List.mem_cons_self .., ?_⟩
  have hs : shutG (g.T ++ [((g.N : Int), (g.N : Int) + 1, (g.N : Int) + 2)]) ((g.N : Int), (g.N : Int) + 1) = false := by
    refine decide_eq_false fun h => ?_
    rw [darts_app] at h
    rcases List.mem_append.1 h with h | h
    · have := darts_in_range hok.tri h
      simp only at this
      omega
    · rcases mem_dirs.1 h with h | h | h
      · have := (Prod.mk.inj h).1; simp only at this; omega
      · have := (Prod.mk.inj h).2; simp only at this; omega
      · have := (Prod.mk.inj h).1; simp only at this; omega
  show (!shutG _ _) = true
  rw [hs]
  rfl
/-- What is grown with nothing wrong was never wrong. -/
theorem grow_pre {l : List (Int × Int)} (h : (growG l).E = 0) (k : Nat) : (growG (l.take k)).E = 0 := by
  refine Decidable.byContradiction fun e => e ?_
  have h2 : growG l = (l.drop k).foldl stepG (growG (l.take k)) := by
    unfold growG
    rw [← List.foldl_append, List.take_append_drop]
  rw [grow_told e] at h2
  rw [← h2]
  exact h
/-- Where no gate is open, a seed follows. -/
theorem grow_seed {l : List (Int × Int)} (h : (growG l).E = 0) {k : Nat} (hk : k < l.length) (ho : openG (growG (l.take k)) = 0) : l[k].1 = 0 ∧ l[k].2 = 0 := by
  refine Decidable.byContradiction fun e => ?_
  have h1 := grow_pre h (k + 1)
  rw [List.take_succ_eq_append_getElem hk, growG_next, more_form (grow_pre h k) ho e] at h1
  cases h1
/-- How many vertices and triangles steps make. -/
theorem grow_counts : ∀ (l : List (Int × Int)), (growG l).E = 0 → (growG l).N = 3 * (l.countP fun s => decide (s.1 = 0)) + (l.countP fun s => decide (s.1 = 2)) ∧ (growG l).T.length = (l.countP fun s => decide (s.1 = 0)) + (l.countP fun s => decide (s.1 = 2)) + l.countP fun s => decide (s.1 = 3) := by
  intro l h
  have key : ∀ k, k ≤ l.length → (growG (l.take k)).N = 3 * ((l.take k).countP fun s => decide (s.1 = 0)) + ((l.take k).countP fun s => decide (s.1 = 2)) ∧ (growG (l.take k)).T.length = ((l.take k).countP fun s => decide (s.1 = 0)) + ((l.take k).countP fun s => decide (s.1 = 2)) + (l.take k).countP fun s => decide (s.1 = 3) := by
    intro k
    induction k with
    | zero => intro _; exact ⟨rfl, rfl⟩
    | succ k ih =>
      intro hk
      obtain ⟨h1, h2⟩ := ih (by omega)
      have h3 := grow_pre h (k + 1)
      have hw := stepG_way (growG (l.take k)) l[k]
      rw [List.take_succ_eq_append_getElem (by omega), growG_next] at h3 ⊢
      simp only [List.countP_append, List.countP_cons, List.countP_nil]
      rcases (hw.fit h3).2 with ⟨a, b, c⟩ | ⟨a, b, c⟩ | ⟨a, b, c⟩ | ⟨a, b, c⟩
      all_goals
        rw [b, c, a]
        simp
        omega
  have := key l.length (Nat.le_refl _)
  rw [List.take_length] at this
  exact this
end Go.Proofs.YthjmojglcfmkmaaDoor
