import Derived.Test.YthjmojglcfmkmaaDoorMeshPlain
/- Layer 11: a walk over a surface, in plain words; two walks that differ in numbers alone. -/
namespace Go.Proofs.YthjmojglcfmkmaaDoor

/-- How far a walk has come: vertices and triangles as they are met, the triangles by new numbers, the gates (the last one is on top), the steps. -/
structure WS where
  V : List Int
  O : List Nat
  N : List P3
  G : List (Int × Int)
  S : List (Int × Int)
/-- The place of a number in a row; below 0: it is not there. -/
def findW (l : List Int) (x : Int) : Int := if x ∈ l then (l.idxOf x : Int) else -1
def meetW (l : List Int) (x : Int) : List Int := if x ∈ l then l else l ++ [x]
/-- The corner that is neither. -/
def thirdV (t : P3) (p q : Int) : Int := if t.2.2 ≠ p ∧ t.2.2 ≠ q then t.2.2 else if t.2.1 ≠ p ∧ t.2.1 ≠ q then t.2.1 else if t.1 ≠ p ∧ t.1 ≠ q then t.1 else 0
theorem third_is {n : Nat} {t : P3} (h : triM n t = true) {p q : Int} (hd : (q, p) ∈ dirs t) : (p, thirdV t p q) ∈ dirs t ∧ (thirdV t p q, q) ∈ dirs t := by
  obtain ⟨h1, h2, h3, _⟩ := triM_iff.1 h
  obtain ⟨a, b, c⟩ := t
  simp only at h1 h2 h3
  unfold thirdV
  simp only [mem_dirs, Prod.mk.injEq] at hd ⊢
  rcases hd with ⟨rfl, rfl⟩ | ⟨rfl, rfl⟩ | ⟨rfl, rfl⟩
  · rw [if_pos ⟨by omega, by omega⟩]
    exact ⟨Or.inr (Or.inl ⟨rfl, rfl⟩), Or.inr (Or.inr ⟨rfl, rfl⟩)⟩
  · rw [if_neg (by omega), if_neg (by omega), if_pos ⟨by omega, by omega⟩]
    exact ⟨Or.inr (Or.inr ⟨rfl, rfl⟩), Or.inl ⟨rfl, rfl⟩⟩
  · rw [if_neg (by omega), if_pos ⟨by omega, by omega⟩]
    exact ⟨Or.inl ⟨rfl, rfl⟩, Or.inr (Or.inl ⟨rfl, rfl⟩)⟩
/-- What a gate leads to. -/
def stepTo (T : List P3) (w : WS) (i : Nat) (p q : Int) : WS :=
  let v := thirdV (T[i]?.getD (0, 0, 0)) p q
  let V := meetW w.V v
  { V := V, O := w.O ++ [i], N := w.N ++ [(findW V q, findW V p, findW V v)], G := w.G.dropLast ++ [(p, v), (v, q)], S := w.S ++ [if v ∈ w.V then (3, findW w.V v) else (2, 0)] }
/-- The last gate. -/
def gateTo (T : List P3) (w : WS) (p q : Int) : WS :=
  if hasF T q p < 0 then { w with G := w.G.dropLast, S := w.S ++ [(1, 0)] }
  else if (hasF T q p).toNat ∈ w.O then { w with G := w.G.dropLast }
  else stepTo T w (hasF T q p).toNat p q
def gateW (T : List P3) (w : WS) : WS := match w.G.getLast? with
  | none => w
  | some d => gateTo T w d.1 d.2
def seedW (T : List P3) (w : WS) (i : Nat) : WS :=
  let t := T[i]?.getD (0, 0, 0)
  let V := meetW (meetW (meetW w.V t.1) t.2.1) t.2.2
  { V := V, O := w.O ++ [i], N := w.N ++ [(findW V t.1, findW V t.2.1, findW V t.2.2)], G := w.G ++ [(t.1, t.2.1), (t.2.1, t.2.2), (t.2.2, t.1)], S := w.S ++ [(0, 0)] }
def drainW (T : List P3) : Nat → WS → WS
  | 0, w => w
  | k + 1, w => if w.G = [] then w else drainW T k (gateW T w)
def walkTo (T : List P3) : Nat → WS
  | 0 => ⟨[], [], [], [], []⟩
  | i + 1 => if i ∈ (walkTo T i).O then walkTo T i else drainW T (3 * T.length + 4) (seedW T (walkTo T i) i)
/-- All of it. -/
def walkF (T : List P3) : WS := walkTo T T.length
/-! ### it ends -/
structure WOk (T : List P3) (w : WS) : Prop where
  nd : w.O.Nodup
  lt : ∀ i ∈ w.O, i < T.length
  len : w.N.length = w.O.length
theorem nodup_len : ∀ (m : Nat) (l : List Nat), l.Nodup → (∀ x ∈ l, x < m) → l.length ≤ m := by
  intro m
  induction m with
  | zero =>
    intro l _ h
    cases l with
    | nil => exact Nat.le_refl _
    | cons x l => exact absurd (h x (List.mem_cons_self ..)) (Nat.not_lt_zero _)
  | succ m ih =>
    intro l hn h
    by_cases hm : m ∈ l
    · have h1 := ih (l.erase m) (hn.erase m) (fun x hx => by
        have h2 := (hn.mem_erase_iff).1 hx
        have := h x h2.2
        have := h2.1
        omega)
      rw [List.length_erase_of_mem hm] at h1
      omega
    · have h1 := ih l hn (fun x hx => by
        have := h x hx
        have : x ≠ m := fun e => hm (e ▸ hx)
        omega)
      omega
theorem WOk.le {T : List P3} {w : WS} (h : WOk T w) : w.O.length ≤ T.length :=
  nodup_len _ _ h.nd h.lt
def gatesLeft (T : List P3) (w : WS) : Nat := w.G.length + 3 * (T.length - w.O.length)
theorem gateTo_ok {T : List P3} {w : WS} (h : WOk T w) (p q : Int) : WOk T (gateTo T w p q) ∧ (w.G ≠ [] → gatesLeft T (gateTo T w p q) < gatesLeft T w) ∧ w.O <+: (gateTo T w p q).O := by
  have hG : w.G ≠ [] → w.G.dropLast.length + 1 = w.G.length := fun hg => by
    rw [List.length_dropLast]
    have := List.length_pos_iff.2 hg
    omega
  unfold gateTo
  split
  · exact ⟨⟨h.nd, h.lt, h.len⟩, fun hg => by have := hG hg; unfold gatesLeft; simp only; omega, List.prefix_refl _⟩
  · split
    · exact ⟨⟨h.nd, h.lt, h.len⟩, fun hg => by have := hG hg; unfold gatesLeft; simp only; omega, List.prefix_refl _⟩
    · rename_i h1 h2
      have hi : (hasF T q p).toNat < T.length := by
        rcases hasF_ways T q p with ⟨e, _⟩ | ⟨i, hi, e, _⟩
        · omega
        · omega
      have hok : WOk T (stepTo T w (hasF T q p).toNat p q) := by
        refine ⟨?_, ?_, ?_⟩
        · show (w.O ++ [_]).Nodup
          rw [List.nodup_append]
          exact ⟨h.nd, List.nodup_cons.2 ⟨List.not_mem_nil, List.nodup_nil⟩, fun a ha b hb e => h2 (by rw [← List.mem_singleton.1 hb, ← e]; exact ha)⟩
        · intro i hm
          rcases List.mem_append.1 hm with h3 | h3
          · exact h.lt i h3
          · rw [List.mem_singleton.1 h3]; exact hi
        · show (w.N ++ [_]).length = (w.O ++ [_]).length
          rw [List.length_append, List.length_append, h.len]
          rfl
      refine ⟨hok, fun hg => ?_, List.prefix_append _ _⟩
      have h3 := hG hg
      have h4 := hok.le
      have e1 : (stepTo T w (hasF T q p).toNat p q).O.length = w.O.length + 1 := by show (w.O ++ [_]).length = _; rw [List.length_append]; rfl
      have e2 : (stepTo T w (hasF T q p).toNat p q).G.length = w.G.dropLast.length + 2 := by show (w.G.dropLast ++ [_, _]).length = _; rw [List.length_append]; rfl
      unfold gatesLeft
      rw [e1, e2]
      rw [e1] at h4
      omega
theorem gateW_last {T : List P3} {w : WS} (hg : w.G ≠ []) : ∃ p q, w.G.getLast? = some (p, q) ∧ gateW T w = gateTo T w p q := by
  refine ⟨(w.G.getLast hg).1, (w.G.getLast hg).2, List.getLast?_eq_some_getLast hg, ?_⟩
  unfold gateW
  rw [List.getLast?_eq_some_getLast hg]
theorem gateW_ok {T : List P3} {w : WS} (h : WOk T w) (hg : w.G ≠ []) : WOk T (gateW T w) ∧ gatesLeft T (gateW T w) < gatesLeft T w ∧ w.O <+: (gateW T w).O := by
  obtain ⟨p, q, _, e⟩ := gateW_last (T := T) hg
  rw [e]
  obtain ⟨h1, h2, h3⟩ := gateTo_ok h p q
  exact ⟨h1, h2 hg, h3⟩
theorem drain_ok {T : List P3} : ∀ (k : Nat) (w : WS), WOk T w → gatesLeft T w ≤ k → WOk T (drainW T k w) ∧ (drainW T k w).G = [] ∧ w.O <+: (drainW T k w).O := by
  intro k
  induction k with
  | zero =>
    intro w h hk
    refine ⟨h, List.length_eq_zero_iff.1 ?_, List.prefix_refl _⟩
    show w.G.length = 0
    unfold gatesLeft at hk
    omega
  | succ k ih =>
    intro w h hk
    unfold drainW
    by_cases hg : w.G = []
    · rw [if_pos hg]
      exact ⟨h, hg, List.prefix_refl _⟩
    · rw [if_neg hg]
      obtain ⟨h1, h2, h3⟩ := gateW_ok h hg
      obtain ⟨h4, h5, h6⟩ := ih _ h1 (by omega)
      exact ⟨h4, h5, h3.trans h6⟩
/-- More rounds than are needed change nothing. -/
theorem drain_more {T : List P3} : ∀ (k : Nat) (w : WS), WOk T w → gatesLeft T w ≤ k → drainW T (k + 1) w = drainW T k w := by
  intro k
  induction k with
  | zero =>
    intro w h hk
    have hg : w.G = [] := List.length_eq_zero_iff.1 (by unfold gatesLeft at hk; omega)
    show (if w.G = [] then w else _) = w
    rw [if_pos hg]
  | succ k ih =>
    intro w h hk
    by_cases hg : w.G = []
    · show (if w.G = [] then w else _) = if w.G = [] then w else _
      rw [if_pos hg, if_pos hg]
    · show (if w.G = [] then w else drainW T (k + 1) (gateW T w)) = if w.G = [] then w else drainW T k (gateW T w)
      rw [if_neg hg, if_neg hg]
      obtain ⟨h1, h2, _⟩ := gateW_ok h hg
      exact ih _ h1 (by omega)
theorem seed_ok {T : List P3} {w : WS} (h : WOk T w) {i : Nat} (hi : i < T.length) (hn : i ∉ w.O) (hg : w.G = []) : WOk T (seedW T w i) ∧ gatesLeft T (seedW T w i) ≤ 3 * T.length + 4 ∧ (seedW T w i).O = w.O ++ [i] := by
  have hok : WOk T (seedW T w i) := by
    refine ⟨?_, ?_, ?_⟩
    · show (w.O ++ [_]).Nodup
      rw [List.nodup_append]
      exact ⟨h.nd, List.nodup_cons.2 ⟨List.not_mem_nil, List.nodup_nil⟩, fun a ha b hb e => hn (by rw [← List.mem_singleton.1 hb, ← e]; exact ha)⟩
    · intro j hm
      rcases List.mem_append.1 hm with h3 | h3
      · exact h.lt j h3
      · rw [List.mem_singleton.1 h3]; exact hi
    · show (w.N ++ [_]).length = (w.O ++ [_]).length
      rw [List.length_append, List.length_append, h.len]
      rfl
  refine ⟨hok, ?_, rfl⟩
  unfold gatesLeft
  show (w.G ++ [_, _, _]).length + _ ≤ _
  rw [List.length_append, hg]
  show 0 + 3 + _ ≤ _
  omega
theorem walk_ok (T : List P3) : ∀ i, i ≤ T.length → WOk T (walkTo T i) ∧ (walkTo T i).G = [] ∧ ∀ j, j < i → j ∈ (walkTo T i).O := by
  intro i
  induction i with
  | zero => intro _; exact ⟨⟨List.nodup_nil, (fun j hj => by cases hj), rfl⟩, rfl, fun j hj => absurd hj (Nat.not_lt_zero _)⟩
  | succ i ih =>
    intro hi
    obtain ⟨h1, h2, h3⟩ := ih (by omega)
    unfold walkTo
    by_cases hm : i ∈ (walkTo T i).O
    · rw [if_pos hm]
      exact ⟨h1, h2, fun j hj => by
        by_cases e : j = i
        · rw [e]; exact hm
        · exact h3 j (by omega)⟩
    · rw [if_neg hm]
      obtain ⟨s1, s2, s3⟩ := seed_ok h1 (show i < T.length by omega) hm h2
      obtain ⟨d1, d2, d3⟩ := drain_ok _ _ s1 s2
      refine ⟨d1, d2, fun j hj => d3.subset ?_⟩
      rw [s3]
      by_cases e : j = i
      · rw [e]; exact List.mem_append_right _ (List.mem_singleton.2 rfl)
      · exact List.mem_append_left _ (h3 j (by omega))
theorem walk_more (T : List P3) : ∀ i, i + 1 ≤ T.length → (walkTo T i).O <+: (walkTo T (i + 1)).O := by
  intro i hi
  obtain ⟨h1, h2, h3⟩ := walk_ok T i (by omega)
  show _ <+: (if i ∈ (walkTo T i).O then walkTo T i else drainW T (3 * T.length + 4) (seedW T (walkTo T i) i)).O
  by_cases hm : i ∈ (walkTo T i).O
  · rw [if_pos hm]; exact List.prefix_refl _
  · rw [if_neg hm]
    obtain ⟨s1, s2, s3⟩ := seed_ok h1 (show i < T.length by omega) hm h2
    obtain ⟨_, _, d3⟩ := drain_ok _ _ s1 s2
    exact (s3 ▸ List.prefix_append _ _ : (walkTo T i).O <+: (seedW T (walkTo T i) i).O).trans d3
end Go.Proofs.YthjmojglcfmkmaaDoor

/- Layer 11: walks over triangles by other numbers, in another order, and begun elsewhere: plain mathematics. -/
namespace Go.Proofs.YthjmojglcfmkmaaDoor

def mapT (σ : Int → Int) (t : P3) : P3 := (σ t.1, σ t.2.1, σ t.2.2)
def mapD (σ : Int → Int) (d : Int × Int) : Int × Int := (σ d.1, σ d.2)
/-- The same triangles by other numbers, in other places, begun elsewhere. -/
structure SameW (T T' : List P3) (σ : Int → Int) (τ : Nat → Nat) : Prop where
  inj : ∀ x y, σ x = σ y → x = y
  len : T'.length = T.length
  tinj : ∀ i j, i < T.length → j < T.length → τ i = τ j → i = j
  cov : ∀ j, j < T'.length → ∃ i, i < T.length ∧ τ i = j
  tri : ∀ i, ∀ hi : i < T.length, ∃ k, T'[τ i]? = some (rotT k (mapT σ T[i]))
structure SimW (σ : Int → Int) (τ : Nat → Nat) (w w' : WS) : Prop where
  V : w'.V = w.V.map σ
  O : w'.O = w.O.map τ
  N : w'.N = w.N
  G : w'.G = w.G.map (mapD σ)
  S : w'.S = w.S
theorem dirs_rot_mem (k : Nat) (t : P3) (d : Int × Int) : d ∈ dirs (rotT k t) ↔ d ∈ dirs t := by
  obtain ⟨a, b, c⟩ := t
  rcases rot_ways k (a, b, c) with e | e | e <;> rw [e] <;> simp only [mem_dirs] <;> constructor <;> rintro (h | h | h) <;> simp [h]
theorem dirs_mapT (σ : Int → Int) (t : P3) : dirs (mapT σ t) = (dirs t).map (mapD σ) := rfl
theorem mem_mapD {σ : Int → Int} (hσ : ∀ x y, σ x = σ y → x = y) {l : List (Int × Int)} {p q : Int} : (σ p, σ q) ∈ l.map (mapD σ) ↔ (p, q) ∈ l := by
  rw [List.mem_map]
  constructor
  · rintro ⟨⟨a, b⟩, h, e⟩
    have e1 : σ a = σ p := congrArg Prod.fst e
    have e2 : σ b = σ q := congrArg Prod.snd e
    rw [← hσ _ _ e1, ← hσ _ _ e2]
    exact h
  · intro h
    exact ⟨_, h, rfl⟩
theorem SameW.at_ {T T' : List P3} {σ : Int → Int} {τ : Nat → Nat} (h : SameW T T' σ τ) {i : Nat} (hi : i < T.length) : ∃ hi' : τ i < T'.length, ∃ k, T'[τ i] = rotT k (mapT σ T[i]) := by
  obtain ⟨k, e⟩ := h.tri i hi
  obtain ⟨h1, h2⟩ := List.getElem?_eq_some_iff.1 e
  exact ⟨h1, k, h2⟩
theorem SameW.dir {T T' : List P3} {σ : Int → Int} {τ : Nat → Nat} (h : SameW T T' σ τ) {i : Nat} (hi : i < T.length) (hi' : τ i < T'.length) (p q : Int) : (σ p, σ q) ∈ dirs T'[τ i] ↔ (p, q) ∈ dirs T[i] := by
  obtain ⟨_, k, e⟩ := h.at_ hi
  rw [e, dirs_rot_mem, dirs_mapT]
  exact mem_mapD h.inj
theorem SameW.has {T T' : List P3} {σ : Int → Int} {τ : Nat → Nat} (h : SameW T T' σ τ) (hn' : (darts T').Nodup) (p q : Int) :
    (hasF T q p = -1 ∧ hasF T' (σ q) (σ p) = -1) ∨ ∃ i, ∃ hi : i < T.length, ∃ hi' : τ i < T'.length, hasF T q p = i ∧ hasF T' (σ q) (σ p) = (τ i : Nat) ∧ (q, p) ∈ dirs T[i] ∧ (σ q, σ p) ∈ dirs T'[τ i] := by
  rcases hasF_ways T q p with ⟨h1, h2⟩ | ⟨i, hi, h1, h2, _⟩
  · left
    refine ⟨h1, hasF_none fun hc => h2 ?_⟩
    obtain ⟨t, ht, hd⟩ := mem_darts.1 hc
    obtain ⟨j, hj, rfl⟩ := List.getElem_of_mem ht
    obtain ⟨i, hi, rfl⟩ := h.cov j hj
    exact mem_darts.2 ⟨_, List.getElem_mem hi, (h.dir hi hj q p).1 hd⟩
  · right
    obtain ⟨hi', _⟩ := h.at_ hi
    have h3 := (h.dir hi hi' q p).2 h2
    exact ⟨i, hi, hi', h1, hasF_is hn' hi' h3, h2, h3⟩
theorem map_mem_inj {σ : Int → Int} (hσ : ∀ x y, σ x = σ y → x = y) {l : List Int} {x : Int} : σ x ∈ l.map σ ↔ x ∈ l := by
  rw [List.mem_map]
  constructor
  · rintro ⟨a, h, e⟩
    rw [← hσ _ _ e]
    exact h
  · intro h
    exact ⟨_, h, rfl⟩
theorem idx_map {σ : Int → Int} (hσ : ∀ x y, σ x = σ y → x = y) (x : Int) : ∀ l : List Int, (l.map σ).idxOf (σ x) = l.idxOf x := by
  intro l
  induction l with
  | nil => rfl
  | cons a l ih =>
    rw [List.map_cons, List.idxOf_cons, List.idxOf_cons, ih]
    by_cases e : a = x
    · rw [e]; simp
    · rw [beq_eq_false_iff_ne.2 e, beq_eq_false_iff_ne.2 (fun e2 => e (hσ _ _ e2))]
theorem find_map {σ : Int → Int} (hσ : ∀ x y, σ x = σ y → x = y) (l : List Int) (x : Int) : findW (l.map σ) (σ x) = findW l x := by
  unfold findW
  rw [idx_map hσ]
  by_cases h : x ∈ l
  · rw [if_pos h, if_pos ((map_mem_inj hσ).2 h)]
  · rw [if_neg h, if_neg (fun h2 => h ((map_mem_inj hσ).1 h2))]
theorem meet_map {σ : Int → Int} (hσ : ∀ x y, σ x = σ y → x = y) (l : List Int) (x : Int) : meetW (l.map σ) (σ x) = (meetW l x).map σ := by
  unfold meetW
  by_cases h : x ∈ l
  · rw [if_pos h, if_pos ((map_mem_inj hσ).2 h)]
  · rw [if_neg h, if_neg (fun h2 => h ((map_mem_inj hσ).1 h2)), List.map_append]
    rfl
theorem tau_mem {T T' : List P3} {σ : Int → Int} {τ : Nat → Nat} (h : SameW T T' σ τ) {w : WS} (hw : WOk T w) {i : Nat} (hi : i < T.length) : τ i ∈ w.O.map τ ↔ i ∈ w.O := by
  rw [List.mem_map]
  constructor
  · rintro ⟨j, hj, e⟩
    rw [← h.tinj j i (hw.lt j hj) hi e]
    exact hj
  · intro hm
    exact ⟨_, hm, rfl⟩
theorem third_sim {n n' : Nat} {T T' : List P3} {σ : Int → Int} {τ : Nat → Nat} (h : SameW T T' σ τ) (hall : T.all (triM n) = true) (hall' : T'.all (triM n') = true) {i : Nat} (hi : i < T.length) (hi' : τ i < T'.length) {p q : Int} (h1 : (q, p) ∈ dirs T[i]) (h2 : (σ q, σ p) ∈ dirs T'[τ i]) : thirdV T'[τ i] (σ p) (σ q) = σ (thirdV T[i] p q) := by
  have t1 := List.all_eq_true.1 hall _ (List.getElem_mem hi)
  have t2 := List.all_eq_true.1 hall' _ (List.getElem_mem hi')
  obtain ⟨a1, _⟩ := third_is t1 h1
  obtain ⟨a2, _⟩ := third_is t2 h2
  have a3 := (h.dir hi hi' p (thirdV T[i] p q)).2 a1
  exact congrArg Prod.snd (out_one t2 a2 a3 rfl)
theorem gate_sim {n n' : Nat} {T T' : List P3} {σ : Int → Int} {τ : Nat → Nat} (h : SameW T T' σ τ) (hall : T.all (triM n) = true) (hall' : T'.all (triM n') = true) (hn' : (darts T').Nodup) {w w' : WS} (hw : WOk T w) (hs : SimW σ τ w w') (p q : Int) : SimW σ τ (gateTo T w p q) (gateTo T' w' (σ p) (σ q)) := by
  have hdl : w'.G.dropLast = w.G.dropLast.map (mapD σ) := by rw [hs.G, List.map_dropLast]
  unfold gateTo
  rcases h.has hn' p q with ⟨e1, e2⟩ | ⟨i, hi, hi', e1, e2, h1, h2⟩
  · rw [e1, e2, if_pos (by decide), if_pos (by decide)]
    exact ⟨hs.V, hs.O, hs.N, hdl, by show w'.S ++ _ = w.S ++ _; rw [hs.S]⟩
  · have z1 : ¬ ((i : Nat) : Int) < 0 := by omega
    have z2 : ¬ ((τ i : Nat) : Int) < 0 := by omega
    rw [e1, e2, if_neg z1, if_neg z2, Int.toNat_natCast, Int.toNat_natCast]
    by_cases hm : i ∈ w.O
    · rw [if_pos hm, if_pos (by rw [hs.O]; exact (tau_mem h hw hi).2 hm)]
      exact ⟨hs.V, hs.O, hs.N, hdl, hs.S⟩
    · rw [if_neg hm, if_neg (by rw [hs.O]; exact fun hc => hm ((tau_mem h hw hi).1 hc))]
      have e3 := third_sim h hall hall' hi hi' h1 h2
      unfold stepTo
      rw [List.getElem?_eq_getElem hi, List.getElem?_eq_getElem hi', Option.getD_some, Option.getD_some, e3]
      generalize thirdV T[i] p q = v
      refine ⟨?_, ?_, ?_, ?_, ?_⟩
      · show meetW w'.V (σ v) = (meetW w.V v).map σ
        rw [hs.V, meet_map h.inj]
      · show w'.O ++ [τ i] = (w.O ++ [i]).map τ
        rw [hs.O, List.map_append]
        rfl
      · show w'.N ++ [(findW (meetW w'.V (σ v)) (σ q), findW (meetW w'.V (σ v)) (σ p), findW (meetW w'.V (σ v)) (σ v))] = w.N ++ [(findW (meetW w.V v) q, findW (meetW w.V v) p, findW (meetW w.V v) v)]
        rw [hs.N, hs.V, meet_map h.inj, find_map h.inj, find_map h.inj, find_map h.inj]
      · show w'.G.dropLast ++ [(σ p, σ v), (σ v, σ q)] = (w.G.dropLast ++ [(p, v), (v, q)]).map (mapD σ)
        rw [hdl, List.map_append]
        rfl
      · show w'.S ++ [if σ v ∈ w'.V then (3, findW w'.V (σ v)) else (2, 0)] = w.S ++ [if v ∈ w.V then (3, findW w.V v) else (2, 0)]
        rw [hs.S, hs.V, find_map h.inj]
        congr 2
        by_cases hv : v ∈ w.V
        · rw [if_pos hv, if_pos ((map_mem_inj h.inj).2 hv)]
        · rw [if_neg hv, if_neg (fun hc => hv ((map_mem_inj h.inj).1 hc))]
theorem drain_sim {n n' : Nat} {T T' : List P3} {σ : Int → Int} {τ : Nat → Nat} (h : SameW T T' σ τ) (hall : T.all (triM n) = true) (hall' : T'.all (triM n') = true) (hn' : (darts T').Nodup) : ∀ (k : Nat) (w w' : WS), WOk T w → SimW σ τ w w' → SimW σ τ (drainW T k w) (drainW T' k w') := by
  intro k
  induction k with
  | zero => intro w w' _ hs; exact hs
  | succ k ih =>
    intro w w' hw hs
    unfold drainW
    by_cases hg : w.G = []
    · have hg' : w'.G = [] := by rw [hs.G, hg]; rfl
      rw [if_pos hg, if_pos hg']
      exact hs
    · have hg' : w'.G ≠ [] := fun e => by
        rw [hs.G, List.map_eq_nil_iff] at e
        exact hg e
      rw [if_neg hg, if_neg hg']
      obtain ⟨p, q, e1, e2⟩ := gateW_last (T := T) hg
      have e3 : gateW T' w' = gateTo T' w' (σ p) (σ q) := by
        unfold gateW
        rw [hs.G, List.getLast?_map, e1]
        rfl
      rw [e3]
      have hw2 := (gateW_ok hw hg).1
      rw [e2] at hw2 ⊢
      exact ih _ _ hw2 (gate_sim h hall hall' hn' hw hs p q)
theorem seed_sim {T T' : List P3} {σ : Int → Int} {τ : Nat → Nat} (h : SameW T T' σ τ) {w w' : WS} (hs : SimW σ τ w w') {i : Nat} (hi : i < T.length) (ht : T'[τ i]? = some (mapT σ T[i])) : SimW σ τ (seedW T w i) (seedW T' w' (τ i)) := by
  unfold seedW
  rw [ht, List.getElem?_eq_getElem hi, Option.getD_some, Option.getD_some]
  generalize T[i] = t
  obtain ⟨a, b, c⟩ := t
  have hv : meetW (meetW (meetW w'.V (σ a)) (σ b)) (σ c) = (meetW (meetW (meetW w.V a) b) c).map σ := by rw [hs.V, meet_map h.inj, meet_map h.inj, meet_map h.inj]
  refine ⟨hv, ?_, ?_, ?_, ?_⟩
  · show w'.O ++ [τ i] = (w.O ++ [i]).map τ
    rw [hs.O, List.map_append]
    rfl
  · show w'.N ++ [(findW (meetW (meetW (meetW w'.V (σ a)) (σ b)) (σ c)) (σ a), findW (meetW (meetW (meetW w'.V (σ a)) (σ b)) (σ c)) (σ b), findW (meetW (meetW (meetW w'.V (σ a)) (σ b)) (σ c)) (σ c))] = _
    rw [hv, hs.N, find_map h.inj, find_map h.inj, find_map h.inj]
  · show w'.G ++ [(σ a, σ b), (σ b, σ c), (σ c, σ a)] = (w.G ++ [(a, b), (b, c), (c, a)]).map (mapD σ)
    rw [hs.G, List.map_append]
    rfl
  · show w'.S ++ [(0, 0)] = w.S ++ [(0, 0)]
    rw [hs.S]
/-- Where all triangles hang together, the walks from the same triangle are the same. -/
theorem walk_one {T : List P3} (hc : ∀ j, j < T.length → j ∈ (walkTo T 1).O) : ∀ i, 1 ≤ i → i ≤ T.length → walkTo T i = walkTo T 1 := by
  intro i
  induction i with
  | zero => intro h; omega
  | succ i ih =>
    intro _ h2
    by_cases e : i = 0
    · rw [e]
    · have h3 := ih (by omega) (by omega)
      show (if i ∈ (walkTo T i).O then walkTo T i else _) = _
      rw [if_pos (by rw [h3]; exact hc i (by omega)), h3]
theorem numbers_sim {n n' : Nat} {T T' : List P3} {σ : Int → Int} {τ : Nat → Nat} (h : SameW T T' σ τ) (hall : T.all (triM n) = true) (hall' : T'.all (triM n') = true) (hn' : (darts T').Nodup) (h0 : 0 < T.length) (ht0 : τ 0 = 0) (ht : T'[0]? = some (mapT σ T[0])) (hc : ∀ j, j < T.length → j ∈ (walkTo T 1).O) : SimW σ τ (walkF T) (walkF T') := by
  have hs0 : SimW σ τ (walkTo T 0) (walkTo T' 0) := ⟨rfl, rfl, rfl, rfl, rfl⟩
  have hs1 := seed_sim h hs0 h0 (by rw [ht0]; exact ht)
  rw [ht0] at hs1
  obtain ⟨k0, g0, _⟩ := walk_ok T 0 (Nat.zero_le _)
  obtain ⟨s1, _, _⟩ := seed_ok k0 h0 (by show 0 ∉ ([] : List Nat); exact List.not_mem_nil) g0
  have hs2 : SimW σ τ (walkTo T 1) (walkTo T' 1) := by
    have := drain_sim h hall hall' hn' (3 * T.length + 4) _ _ s1 hs1
    show SimW σ τ (if 0 ∈ (walkTo T 0).O then walkTo T 0 else _) (if 0 ∈ (walkTo T' 0).O then walkTo T' 0 else drainW T' (3 * T'.length + 4) _)
    rw [if_neg (by show 0 ∉ ([] : List Nat); exact List.not_mem_nil), if_neg (by show 0 ∉ ([] : List Nat); exact List.not_mem_nil), h.len]
    exact this
  have hc' : ∀ j, j < T'.length → j ∈ (walkTo T' 1).O := fun j hj => by
    obtain ⟨i, hi, rfl⟩ := h.cov j hj
    rw [hs2.O]
    exact List.mem_map.2 ⟨i, hc i hi, rfl⟩
  unfold walkF
  rw [walk_one hc _ h0 (Nat.le_refl _), walk_one hc' _ (by rw [h.len]; exact h0) (Nat.le_refl _)]
  exact hs2
end Go.Proofs.YthjmojglcfmkmaaDoor

/- Layer 11: what a walk has met, and what is still to be met: plain mathematics. -/
namespace Go.Proofs.YthjmojglcfmkmaaDoor

theorem find_app {l r : List Int} {x : Int} (h : x ∈ l) : findW (l ++ r) x = findW l x := by
  unfold findW
  rw [if_pos h, if_pos (List.mem_append_left _ h), List.idxOf_append, if_pos h]
theorem meet_pre (l : List Int) (x : Int) : l <+: meetW l x := by
  unfold meetW
  split
  · exact List.prefix_refl _
  · exact List.prefix_append _ _
theorem find_pre {l l' : List Int} (hp : l <+: l') {x : Int} (h : x ∈ l) : findW l' x = findW l x := by
  obtain ⟨r, rfl⟩ := hp
  exact find_app h
theorem meet_mem {l : List Int} {x y : Int} : y ∈ meetW l x ↔ y ∈ l ∨ y = x := by
  unfold meetW
  split
  · rename_i h
    constructor
    · exact Or.inl
    · rintro (h1 | rfl)
      · exact h1
      · exact h
  · rw [List.mem_append, List.mem_singleton]
theorem meet_nodup {l : List Int} (h : l.Nodup) (x : Int) : (meetW l x).Nodup := by
  unfold meetW
  split
  · exact h
  · rename_i hx
    rw [List.nodup_append]
    exact ⟨h, List.nodup_cons.2 ⟨List.not_mem_nil, List.nodup_nil⟩, fun a ha b hb e => hx (by rw [← List.mem_singleton.1 hb, ← e]; exact ha)⟩
theorem mapT_pre {l l' : List Int} (hp : l <+: l') {t : P3} (h : ∀ v, hasV v t → v ∈ l) : mapT (findW l') t = mapT (findW l) t := by
  unfold mapT
  rw [find_pre hp (h _ (Or.inl rfl)), find_pre hp (h _ (Or.inr (Or.inl rfl))), find_pre hp (h _ (Or.inr (Or.inr rfl)))]
theorem map_rot (f : Int → Int) (k : Nat) (t : P3) : mapT f (rotT k t) = rotT k (mapT f t) := by
  unfold rotT
  split
  · rfl
  · split <;> rfl
/-- A triangle, told from one of its edges on. -/
theorem tri_from {n : Nat} {t : P3} (h : triM n t = true) {p q : Int} (hd : (q, p) ∈ dirs t) : ∃ k, (q, p, thirdV t p q) = rotT k t := by
  obtain ⟨h1, h2, h3, _⟩ := triM_iff.1 h
  obtain ⟨a, b, c⟩ := t
  simp only at h1 h2 h3
  unfold thirdV
  simp only [mem_dirs, Prod.mk.injEq] at hd
  rcases hd with ⟨rfl, rfl⟩ | ⟨rfl, rfl⟩ | ⟨rfl, rfl⟩
  · refine ⟨0, ?_⟩
    simp only
    rw [if_pos ⟨by omega, by omega⟩]
    rfl
  · refine ⟨1, ?_⟩
    simp only
    rw [if_neg (by omega), if_neg (by omega), if_pos ⟨by omega, by omega⟩]
    rfl
  · refine ⟨2, ?_⟩
    simp only
    rw [if_neg (by omega), if_pos ⟨by omega, by omega⟩]
    rfl
structure WInv (T : List P3) (w : WS) : Prop where
  ok : WOk T w
  frm : ∀ d : Int × Int, d ∈ w.G → ∃ i : Nat, i ∈ w.O ∧ ∃ hi : i < T.length, d ∈ dirs T[i]
  to_ : ∀ i : Nat, i ∈ w.O → ∀ hi : i < T.length, ∀ p q, (p, q) ∈ dirs T[i] → ∀ j : Nat, ∀ hj : j < T.length, (q, p) ∈ dirs T[j] → j ∈ w.O ∨ (p, q) ∈ w.G
  vnd : w.V.Nodup
  cor : ∀ i : Nat, i ∈ w.O → ∀ hi : i < T.length, ∀ v, hasV v T[i] → v ∈ w.V
  vin : ∀ v, v ∈ w.V → ∃ i : Nat, i ∈ w.O ∧ ∃ hi : i < T.length, hasV v T[i]
  tri : ∀ j i : Nat, w.O[j]? = some i → ∀ hi : i < T.length, ∃ k, w.N[j]? = some (rotT k (mapT (findW w.V) T[i]))
theorem dirs_has {t : P3} {p q : Int} (h : (p, q) ∈ dirs t) : hasV p t ∧ hasV q t := by
  obtain ⟨a, b, c⟩ := t
  unfold hasV
  simp only [mem_dirs, Prod.mk.injEq] at h ⊢
  rcases h with ⟨rfl, rfl⟩ | ⟨rfl, rfl⟩ | ⟨rfl, rfl⟩
  · exact ⟨Or.inl rfl, Or.inr (Or.inl rfl)⟩
  · exact ⟨Or.inr (Or.inl rfl), Or.inr (Or.inr rfl)⟩
  · exact ⟨Or.inr (Or.inr rfl), Or.inl rfl⟩
theorem rot_has {k : Nat} {t : P3} {a b c v : Int} (e : (a, b, c) = rotT k t) : hasV v t ↔ v = a ∨ v = b ∨ v = c := by
  rw [← hasV_rot k t v, ← e]
  unfold hasV
  simp only
  constructor <;> rintro (h | h | h) <;> simp [h]
theorem WInv.gate {n : Nat} {T : List P3} (hall : T.all (triM n) = true) (hn : (darts T).Nodup) {w : WS} (h : WInv T w) {p q : Int} (hg : w.G.getLast? = some (p, q)) : WInv T (gateTo T w p q) := by
  have hne : w.G ≠ [] := fun e => by rw [e] at hg; cases hg
  have hgs : w.G = w.G.dropLast ++ [(p, q)] := by
    have h1 := List.dropLast_concat_getLast hne
    have h2 := List.getLast?_eq_some_getLast hne
    rw [hg] at h2
    rw [← Option.some.inj h2] at h1
    exact h1.symm
  have hin : (p, q) ∈ w.G := by rw [hgs]; exact List.mem_append_right _ (List.mem_singleton.2 rfl)
  have hsub : ∀ d, d ∈ w.G.dropLast → d ∈ w.G := fun d hd => by rw [hgs]; exact List.mem_append_left _ hd
  have hok := (gateTo_ok h.ok p q).1
  have hto : ∀ (hdone : ∀ j, ∀ hj : j < T.length, (q, p) ∈ dirs T[j] → j ∈ w.O), ∀ i, i ∈ w.O → ∀ hi : i < T.length, ∀ p' q', (p', q') ∈ dirs T[i] → ∀ j, ∀ hj : j < T.length, (q', p') ∈ dirs T[j] → j ∈ w.O ∨ (p', q') ∈ w.G.dropLast := fun hdone i hi hi' p' q' h1 j hj h2 => by
    rcases h.to_ i hi hi' p' q' h1 j hj h2 with h3 | h3
    · exact Or.inl h3
    · rw [hgs, List.mem_append, List.mem_singleton] at h3
      rcases h3 with h4 | h4
      · exact Or.inr h4
      · have e1 : p' = p := congrArg Prod.fst h4
        have e2 : q' = q := congrArg Prod.snd h4
        subst e1 e2
        exact Or.inl (hdone j hj h2)
  unfold gateTo at hok ⊢
  rcases hasF_ways T q p with ⟨e1, e2⟩ | ⟨i, hi, e1, h1, _⟩
  · rw [if_pos (by rw [e1]; decide)] at hok ⊢
    exact ⟨hok, fun d hd => h.frm d (hsub d hd), hto (fun j hj hd => absurd (mem_darts.2 ⟨_, List.getElem_mem hj, hd⟩) e2), h.vnd, h.cor, h.vin, h.tri⟩
  · have z1 : ¬ hasF T q p < 0 := by rw [e1]; omega
    have z2 : (hasF T q p).toNat = i := by rw [e1]; rfl
    have huniq : ∀ j, ∀ hj : j < T.length, (q, p) ∈ dirs T[j] → j = i := fun j hj hd => tri_same (darts_nodup hn) hj hi (dart_one hn (List.getElem_mem hj) (List.getElem_mem hi) hd h1)
    rw [if_neg z1, z2] at hok ⊢
    by_cases hm : i ∈ w.O
    · rw [if_pos hm] at hok ⊢
      exact ⟨hok, fun d hd => h.frm d (hsub d hd), hto (fun j hj hd => by rw [huniq j hj hd]; exact hm), h.vnd, h.cor, h.vin, h.tri⟩
    · rw [if_neg hm] at hok ⊢
      have ht := List.all_eq_true.1 hall _ (List.getElem_mem hi)
      obtain ⟨a1, a2⟩ := third_is ht h1
      obtain ⟨k, ek⟩ := tri_from ht h1
      obtain ⟨i0, hi0, hl0, hd0⟩ := h.frm _ hin
      have hpV : p ∈ w.V := h.cor i0 hi0 hl0 p (dirs_has hd0).1
      have hqV : q ∈ w.V := h.cor i0 hi0 hl0 q (dirs_has hd0).2
      unfold stepTo at hok ⊢
      rw [List.getElem?_eq_getElem hi, Option.getD_some] at hok ⊢
      generalize hv : thirdV T[i] p q = v at *
      have hpre := meet_pre w.V v
      refine ⟨hok, ?_, ?_, meet_nodup h.vnd v, ?_, ?_, ?_⟩
      · intro d hd
        rcases List.mem_append.1 hd with h2 | h2
        · obtain ⟨j, hj, hl, hd2⟩ := h.frm d (hsub d h2)
          exact ⟨j, List.mem_append_left _ hj, hl, hd2⟩
        · refine ⟨i, List.mem_append_right _ (List.mem_singleton.2 rfl), hi, ?_⟩
          rcases List.mem_cons.1 h2 with rfl | h3
          · exact a1
          · rw [List.mem_singleton.1 h3]; exact a2
      · intro j hj hl p' q' h2 j2 hj2 h3
        show j2 ∈ w.O ++ [i] ∨ (p', q') ∈ w.G.dropLast ++ [(p, v), (v, q)]
        rcases List.mem_append.1 hj with h4 | h4
        · rcases h.to_ j h4 hl p' q' h2 j2 hj2 h3 with h5 | h5
          · exact Or.inl (List.mem_append_left _ h5)
          · rw [hgs, List.mem_append, List.mem_singleton] at h5
            rcases h5 with h6 | h6
            · exact Or.inr (List.mem_append_left _ h6)
            · have e3 : p' = p := congrArg Prod.fst h6
              have e4 : q' = q := congrArg Prod.snd h6
              subst e3 e4
              exact Or.inl (List.mem_append_right _ (List.mem_singleton.2 (huniq j2 hj2 h3)))
        · have e5 := List.mem_singleton.1 h4
          subst e5
          have hw : (p', q') ∈ dirs (q, p, v) := by rw [ek]; exact (dirs_rot_mem _ _ _).2 h2
          simp only [mem_dirs, Prod.mk.injEq] at hw
          rcases hw with ⟨rfl, rfl⟩ | ⟨rfl, rfl⟩ | ⟨rfl, rfl⟩
          · left
            have e6 : j2 = i0 := tri_same (darts_nodup hn) hj2 hl0 (dart_one hn (List.getElem_mem hj2) (List.getElem_mem hl0) h3 hd0)
            rw [e6]
            exact List.mem_append_left _ hi0
          · exact Or.inr (List.mem_append_right _ (List.mem_cons_self ..))
          · exact Or.inr (List.mem_append_right _ (List.mem_cons_of_mem _ (List.mem_cons_self ..)))
      · intro j hj hl x hx
        show x ∈ meetW w.V v
        rcases List.mem_append.1 hj with h4 | h4
        · exact meet_mem.2 (Or.inl (h.cor j h4 hl x hx))
        · have e5 := List.mem_singleton.1 h4
          subst e5
          rcases (rot_has ek).1 hx with rfl | rfl | rfl
          · exact meet_mem.2 (Or.inl hqV)
          · exact meet_mem.2 (Or.inl hpV)
          · exact meet_mem.2 (Or.inr rfl)
      · intro x hx
        rcases meet_mem.1 hx with h2 | rfl
        · obtain ⟨j, hj, hl, hv2⟩ := h.vin x h2
          exact ⟨j, List.mem_append_left _ hj, hl, hv2⟩
        · exact ⟨i, List.mem_append_right _ (List.mem_singleton.2 rfl), hi, (dirs_has a1).2⟩
      · intro j x hj hx
        show ∃ k, (w.N ++ [_])[j]? = some (rotT k (mapT (findW (meetW w.V v)) T[x]))
        have hj : (w.O ++ [i])[j]? = some x := hj
        rcases Nat.lt_or_ge j w.O.length with h2 | h2
        · rw [List.getElem?_append_left h2] at hj
          obtain ⟨k2, e2⟩ := h.tri j x hj hx
          refine ⟨k2, ?_⟩
          rw [List.getElem?_append_left (by rw [h.ok.len]; exact h2), e2, mapT_pre hpre (h.cor x (List.mem_of_getElem? hj) hx)]
        · rw [List.getElem?_append_right h2] at hj
          have hj0 : j - w.O.length = 0 := by
            rcases Nat.eq_zero_or_pos (j - w.O.length) with h3 | h3
            · exact h3
            · rw [List.getElem?_eq_none (by show 1 ≤ _; omega)] at hj
              cases hj
          rw [hj0] at hj
          have e5 : i = x := Option.some.inj hj
          subst e5
          refine ⟨k, ?_⟩
          rw [List.getElem?_append_right (by rw [h.ok.len]; exact h2), h.ok.len, hj0, ← map_rot, ← ek]
          rfl
end Go.Proofs.YthjmojglcfmkmaaDoor

/- Layer 11: what a walk keeps, from seed to seed; where all hangs together: plain mathematics. -/
namespace Go.Proofs.YthjmojglcfmkmaaDoor

theorem WInv.seed {T : List P3} {w : WS} (h : WInv T w) {i : Nat} (hi : i < T.length) (hm : i ∉ w.O) (hg : w.G = []) : WInv T (seedW T w i) := by
  have hok := (seed_ok h.ok hi hm hg).1
  unfold seedW at hok ⊢
  rw [List.getElem?_eq_getElem hi, Option.getD_some] at hok ⊢
  have hp1 := meet_pre w.V T[i].1
  have hp2 := meet_pre (meetW w.V T[i].1) T[i].2.1
  have hp3 := meet_pre (meetW (meetW w.V T[i].1) T[i].2.1) T[i].2.2
  have hpre := (hp1.trans hp2).trans hp3
  have hmem : ∀ x, x ∈ meetW (meetW (meetW w.V T[i].1) T[i].2.1) T[i].2.2 ↔ x ∈ w.V ∨ hasV x T[i] := fun x => by
    rw [meet_mem, meet_mem, meet_mem]
    unfold hasV
    constructor
    · rintro (((h1 | h1) | h1) | h1)
      · exact Or.inl h1
      · exact Or.inr (Or.inl h1.symm)
      · exact Or.inr (Or.inr (Or.inl h1.symm))
      · exact Or.inr (Or.inr (Or.inr h1.symm))
    · rintro (h1 | h1 | h1 | h1)
      · exact Or.inl (Or.inl (Or.inl h1))
      · exact Or.inl (Or.inl (Or.inr h1.symm))
      · exact Or.inl (Or.inr h1.symm)
      · exact Or.inr h1.symm
  refine ⟨hok, ?_, ?_, meet_nodup (meet_nodup (meet_nodup h.vnd _) _) _, ?_, ?_, ?_⟩
  · intro d hd
    have hd : d ∈ w.G ++ dirs T[i] := hd
    rw [hg, List.nil_append] at hd
    exact ⟨i, List.mem_append_right _ (List.mem_singleton.2 rfl), hi, hd⟩
  · intro j hj hl p q h2 j2 hj2 h3
    show j2 ∈ w.O ++ [i] ∨ (p, q) ∈ w.G ++ dirs T[i]
    rcases List.mem_append.1 hj with h4 | h4
    · rcases h.to_ j h4 hl p q h2 j2 hj2 h3 with h5 | h5
      · exact Or.inl (List.mem_append_left _ h5)
      · rw [hg] at h5; cases h5
    · have e5 := List.mem_singleton.1 h4
      subst e5
      exact Or.inr (List.mem_append_right _ h2)
  · intro j hj hl x hx
    rcases List.mem_append.1 hj with h4 | h4
    · exact (hmem x).2 (Or.inl (h.cor j h4 hl x hx))
    · have e5 := List.mem_singleton.1 h4
      subst e5
      exact (hmem x).2 (Or.inr hx)
  · intro x hx
    rcases (hmem x).1 hx with h2 | h2
    · obtain ⟨j, hj, hl, hv2⟩ := h.vin x h2
      exact ⟨j, List.mem_append_left _ hj, hl, hv2⟩
    · exact ⟨i, List.mem_append_right _ (List.mem_singleton.2 rfl), hi, h2⟩
  · intro j x hj hx
    have hj : (w.O ++ [i])[j]? = some x := hj
    rcases Nat.lt_or_ge j w.O.length with h2 | h2
    · rw [List.getElem?_append_left h2] at hj
      obtain ⟨k2, e2⟩ := h.tri j x hj hx
      refine ⟨k2, ?_⟩
      show (w.N ++ [_])[j]? = _
      rw [List.getElem?_append_left (by rw [h.ok.len]; exact h2), e2, mapT_pre hpre (h.cor x (List.mem_of_getElem? hj) hx)]
    · rw [List.getElem?_append_right h2] at hj
      have hj0 : j - w.O.length = 0 := by
        rcases Nat.eq_zero_or_pos (j - w.O.length) with h3 | h3
        · exact h3
        · rw [List.getElem?_eq_none (by show 1 ≤ _; omega)] at hj
          cases hj
      rw [hj0] at hj
      have e5 : i = x := Option.some.inj hj
      subst e5
      refine ⟨0, ?_⟩
      show (w.N ++ [_])[j]? = _
      rw [List.getElem?_append_right (by rw [h.ok.len]; exact h2), h.ok.len, hj0]
      rfl
theorem drain_inv {n : Nat} {T : List P3} (hall : T.all (triM n) = true) (hn : (darts T).Nodup) : ∀ (k : Nat) (w : WS), WInv T w → WInv T (drainW T k w) := by
  intro k
  induction k with
  | zero => intro w h; exact h
  | succ k ih =>
    intro w h
    unfold drainW
    by_cases hg : w.G = []
    · rw [if_pos hg]; exact h
    · rw [if_neg hg]
      obtain ⟨p, q, e1, e2⟩ := gateW_last (T := T) hg
      rw [e2]
      exact ih _ (h.gate hall hn e1)
theorem walk_inv {n : Nat} {T : List P3} (hall : T.all (triM n) = true) (hn : (darts T).Nodup) : ∀ i, i ≤ T.length → WInv T (walkTo T i) := by
  intro i
  induction i with
  | zero => intro _; exact ⟨(walk_ok T 0 (Nat.zero_le _)).1, (fun d hd => by cases hd), (fun j hj => by cases hj), List.nodup_nil, (fun j hj => by cases hj), (fun x hx => by cases hx), (fun j x hj => by cases hj)⟩
  | succ i ih =>
    intro hi
    have h := ih (by omega)
    obtain ⟨h1, h2, _⟩ := walk_ok T i (by omega)
    show WInv T (if i ∈ (walkTo T i).O then walkTo T i else drainW T (3 * T.length + 4) (seedW T (walkTo T i) i))
    by_cases hm : i ∈ (walkTo T i).O
    · rw [if_pos hm]; exact h
    · rw [if_neg hm]
      exact drain_inv hall hn _ _ (h.seed (by omega) hm h2)
/-- What borders on what is met is met, where no gate is left. -/
theorem WInv.closed {T : List P3} (hT : T.Nodup) {w : WS} (h : WInv T w) (hg : w.G = []) {i : Nat} (hi : i < T.length) (hm : i ∈ w.O) : ∀ j, ∀ hj : j < T.length, ConnT T T[i] T[j] → j ∈ w.O := by
  have key : ∀ s, ConnT T T[i] s → s ∈ T ∧ ∀ j, ∀ hj : j < T.length, T[j] = s → j ∈ w.O := by
    intro s hs
    unfold ConnT at hs
    induction hs with
    | refl =>
      refine ⟨List.getElem_mem hi, fun j hj e => ?_⟩
      rw [tri_same hT hj hi e]
      exact hm
    | step hr hst ih =>
      obtain ⟨hmm, p, q, h1, h2⟩ := hst
      refine ⟨hmm, fun j hj e => ?_⟩
      obtain ⟨hy, ihy⟩ := ih
      obtain ⟨j0, hj0, rfl⟩ := List.getElem_of_mem hy
      have h0 := ihy j0 hj0 rfl
      rcases h.to_ j0 h0 hj0 p q h1 j hj (by rw [e]; exact h2) with h3 | h3
      · exact h3
      · rw [hg] at h3; cases h3
  intro j hj hc
  exact (key T[j] hc).2 j hj rfl
theorem one_all {n : Nat} {T : List P3} (hall : T.all (triM n) = true) (hn : (darts T).Nodup) (h0 : 0 < T.length) (hc : ∀ j, ∀ hj : j < T.length, ConnT T T[0] T[j]) : ∀ j, j < T.length → j ∈ (walkTo T 1).O := by
  intro j hj
  have h := walk_inv hall hn 1 h0
  obtain ⟨_, h2, h3⟩ := walk_ok T 1 h0
  exact h.closed (darts_nodup hn) h2 h0 (h3 0 (by omega)) j hj (hc j hj)
/-! ### what was met stays as it was -/
structure PreW (w w' : WS) : Prop where
  V : w.V <+: w'.V
  O : w.O <+: w'.O
  N : w.N <+: w'.N
  S : w.S <+: w'.S
theorem PreW.refl (w : WS) : PreW w w := ⟨List.prefix_refl _, List.prefix_refl _, List.prefix_refl _, List.prefix_refl _⟩
theorem PreW.trans {a b c : WS} (h : PreW a b) (k : PreW b c) : PreW a c := ⟨h.V.trans k.V, h.O.trans k.O, h.N.trans k.N, h.S.trans k.S⟩
theorem gate_pre (T : List P3) (w : WS) (p q : Int) : PreW w (gateTo T w p q) := by
  unfold gateTo
  split
  · exact ⟨List.prefix_refl _, List.prefix_refl _, List.prefix_refl _, List.prefix_append _ _⟩
  · split
    · exact ⟨List.prefix_refl _, List.prefix_refl _, List.prefix_refl _, List.prefix_refl _⟩
    · exact ⟨meet_pre _ _, List.prefix_append _ _, List.prefix_append _ _, List.prefix_append _ _⟩
theorem drain_pre (T : List P3) : ∀ (k : Nat) (w : WS), PreW w (drainW T k w) := by
  intro k
  induction k with
  | zero => intro w; exact PreW.refl w
  | succ k ih =>
    intro w
    unfold drainW
    by_cases hg : w.G = []
    · rw [if_pos hg]; exact PreW.refl w
    · rw [if_neg hg]
      obtain ⟨p, q, _, e2⟩ := gateW_last (T := T) hg
      rw [e2]
      exact (gate_pre T w p q).trans (ih _)
theorem seed_pre (T : List P3) (w : WS) (i : Nat) : PreW w (seedW T w i) := by
  unfold seedW
  exact ⟨((meet_pre _ _).trans (meet_pre _ _)).trans (meet_pre _ _), List.prefix_append _ _, List.prefix_append _ _, List.prefix_append _ _⟩
theorem next_pre (T : List P3) (i : Nat) : PreW (walkTo T i) (walkTo T (i + 1)) := by
  show PreW _ (if i ∈ (walkTo T i).O then walkTo T i else drainW T (3 * T.length + 4) (seedW T (walkTo T i) i))
  split
  · exact PreW.refl _
  · exact (seed_pre T _ i).trans (drain_pre T _ _)
theorem walk_pre (T : List P3) {i j : Nat} (h : i ≤ j) : PreW (walkTo T i) (walkTo T j) := by
  induction j with
  | zero => rw [show i = 0 by omega]; exact PreW.refl _
  | succ j ih =>
    by_cases e : i = j + 1
    · rw [e]; exact PreW.refl _
    · exact (ih (by omega)).trans (next_pre T j)
theorem walk_skip {T : List P3} {a : Nat} : ∀ b, a ≤ b → (∀ j, a ≤ j → j < b → j ∈ (walkTo T a).O) → walkTo T b = walkTo T a := by
  intro b
  induction b with
  | zero => intro h _; rw [show a = 0 by omega]
  | succ b ih =>
    intro h hm
    by_cases e : a = b + 1
    · rw [e]
    · have h1 := ih (by omega) (fun j h2 h3 => hm j h2 (by omega))
      show (if b ∈ (walkTo T b).O then walkTo T b else _) = _
      rw [if_pos (by rw [h1]; exact hm b (by omega) (by omega)), h1]
end Go.Proofs.YthjmojglcfmkmaaDoor

/- Layer 11: the walk over a canon is the walk itself: plain mathematics. -/
namespace Go.Proofs.YthjmojglcfmkmaaDoor

/-- A vertex' new number. -/
def sigW (V : List Int) (x : Int) : Int := if x ∈ V then (V.idxOf x : Int) else x
theorem sig_in {V : List Int} {x : Int} (h : x ∈ V) : sigW V x = findW V x := by
  unfold sigW findW
  rw [if_pos h, if_pos h]
theorem idx_inj {α : Type} [BEq α] [LawfulBEq α] {l : List α} {x y : α} (hx : x ∈ l) (hy : y ∈ l) (h : l.idxOf x = l.idxOf y) : x = y := by
  have h1 : l.idxOf x < l.length := List.idxOf_lt_length_of_mem hx
  have h2 : l.idxOf y < l.length := List.idxOf_lt_length_of_mem hy
  have e1 := List.getElem_idxOf h1
  have e2 := List.getElem_idxOf h2
  have e3 : l[l.idxOf x] = l[l.idxOf y] := by congr 1
  rw [e1, e2] at e3
  exact e3
theorem idx_at {l : List Nat} (hn : l.Nodup) {j : Nat} {x : Nat} (h : l[j]? = some x) : l.idxOf x = j := by
  obtain ⟨hj, rfl⟩ := List.getElem?_eq_some_iff.1 h
  have h1 : l.idxOf l[j] < l.length := List.idxOf_lt_length_of_mem (List.getElem_mem hj)
  have e1 := List.getElem_idxOf h1
  rcases Nat.lt_trichotomy (l.idxOf l[j]) j with h2 | h2 | h2
  · exact absurd e1 (List.pairwise_iff_getElem.1 hn _ _ h1 hj h2)
  · exact h2
  · exact absurd e1.symm (List.pairwise_iff_getElem.1 hn _ _ hj h1 h2)
theorem verts_len {n : Nat} {V : List Int} (hnd : V.Nodup) (hV : ∀ x ∈ V, 0 ≤ x ∧ x < n) : V.length ≤ n := by
  have h1 : (V.map Int.toNat).Nodup := by
    unfold List.Nodup
    rw [List.pairwise_map]
    refine List.Pairwise.imp_of_mem (fun {a b} ha hb hne e => hne ?_) hnd
    have := hV a ha
    have := hV b hb
    omega
  have h2 := nodup_len n _ h1 (fun x hx => by
    obtain ⟨y, hy, rfl⟩ := List.mem_map.1 hx
    have := hV y hy
    omega)
  rw [List.length_map] at h2
  exact h2
theorem sig_inj {n : Nat} {V : List Int} (hnd : V.Nodup) (hV : ∀ x, x ∈ V ↔ 0 ≤ x ∧ x < n) : ∀ x y, sigW V x = sigW V y → x = y := by
  have hl := verts_len hnd (fun x hx => (hV x).1 hx)
  intro x y h
  unfold sigW at h
  by_cases hx : x ∈ V
  · rw [if_pos hx] at h
    by_cases hy : y ∈ V
    · rw [if_pos hy] at h
      exact idx_inj hx hy (by omega)
    · rw [if_neg hy] at h
      have h1 : V.idxOf x < V.length := List.idxOf_lt_length_of_mem hx
      exact absurd ((hV y).2 ⟨by omega, by omega⟩) hy
  · rw [if_neg hx] at h
    by_cases hy : y ∈ V
    · rw [if_pos hy] at h
      have h1 : V.idxOf y < V.length := List.idxOf_lt_length_of_mem hy
      exact absurd ((hV x).2 ⟨by omega, by omega⟩) hx
    · rw [if_neg hy] at h
      exact h
theorem walk_len (T : List P3) : (walkF T).O.length = T.length := by
  obtain ⟨h1, _, h3⟩ := walk_ok T T.length (Nat.le_refl _)
  refine Nat.le_antisymm h1.le ?_
  have h2 : ((List.range T.length).map fun i => (walkTo T T.length).O.idxOf i).Nodup := by
    unfold List.Nodup
    rw [List.pairwise_map]
    exact List.Pairwise.imp_of_mem (fun {a b} ha hb hne e => hne (idx_inj (h3 a (List.mem_range.1 ha)) (h3 b (List.mem_range.1 hb)) e)) List.nodup_range
  have h4 := nodup_len (walkTo T T.length).O.length _ h2 (fun x hx => by
    obtain ⟨y, hy, rfl⟩ := List.mem_map.1 hx
    exact List.idxOf_lt_length_of_mem (h3 y (List.mem_range.1 hy)))
  rw [List.length_map, List.length_range] at h4
  exact h4
/-- The canon's triangles are the triangles, by new numbers. -/
theorem canon_same {n n' : Nat} {T : List P3} (hall : T.all (triM n') = true) (hn : (darts T).Nodup) (hV : ∀ x, x ∈ (walkF T).V ↔ 0 ≤ x ∧ x < n) : SameW T (walkF T).N (sigW (walkF T).V) (fun i => (walkF T).O.idxOf i) := by
  obtain ⟨h1, _, h3⟩ := walk_ok T T.length (Nat.le_refl _)
  have hi := walk_inv hall hn T.length (Nat.le_refl _)
  have hl := walk_len T
  unfold walkF at hV hl ⊢
  refine ⟨sig_inj hi.vnd hV, by rw [h1.len, hl], ?_, ?_, ?_⟩
  · intro i j hi' hj' e
    exact idx_inj (h3 i hi') (h3 j hj') e
  · intro j hj
    rw [h1.len] at hj
    exact ⟨(walkTo T T.length).O[j], h1.lt _ (List.getElem_mem hj), idx_at h1.nd (List.getElem?_eq_getElem hj)⟩
  · intro i hi'
    have hlt : (walkTo T T.length).O.idxOf i < (walkTo T T.length).O.length := List.idxOf_lt_length_of_mem (h3 i hi')
    have e1 : (walkTo T T.length).O[(walkTo T T.length).O.idxOf i]? = some i := by rw [List.getElem?_eq_getElem hlt, List.getElem_idxOf hlt]
    obtain ⟨k, e2⟩ := hi.tri _ i e1 hi'
    refine ⟨k, ?_⟩
    rw [e2]
    congr 2
    unfold mapT
    have hc := hi.cor i (h3 i hi') hi'
    rw [sig_in (hc _ (Or.inl rfl)), sig_in (hc _ (Or.inr (Or.inl rfl))), sig_in (hc _ (Or.inr (Or.inr rfl)))]
theorem canon_sim {n n' : Nat} {T : List P3} (hall : T.all (triM n') = true) (hn : (darts T).Nodup) (hV : ∀ x, x ∈ (walkF T).V ↔ 0 ≤ x ∧ x < n) (hall' : (walkF T).N.all (triM n) = true) (hn2 : (darts (walkF T).N).Nodup) :
    SimW (sigW (walkF T).V) (fun i => (walkF T).O.idxOf i) (walkF T) (walkF (walkF T).N) := by
  have hS := canon_same hall hn hV
  have hl := walk_len T
  have hok := (walk_ok T T.length (Nat.le_refl _)).1
  have key : ∀ i, i ≤ T.length → SimW (sigW (walkF T).V) (fun i => (walkF T).O.idxOf i) (walkTo T i) (walkTo (walkF T).N (walkTo T i).O.length) := by
    intro i
    induction i with
    | zero => intro _; exact ⟨rfl, rfl, rfl, rfl, rfl⟩
    | succ i ih =>
      intro hi
      have hs := ih (by omega)
      obtain ⟨w1, w2, w3⟩ := walk_ok T i (by omega)
      have hwi := walk_inv hall hn i (by omega)
      by_cases hm : i ∈ (walkTo T i).O
      · have e : walkTo T (i + 1) = walkTo T i := by
          show (if i ∈ (walkTo T i).O then walkTo T i else _) = _
          rw [if_pos hm]
        rw [e]
        exact hs
      · have e : walkTo T (i + 1) = drainW T (3 * T.length + 4) (seedW T (walkTo T i) i) := by
          show (if i ∈ (walkTo T i).O then walkTo T i else _) = _
          rw [if_neg hm]
        have hfin := walk_pre T (show i + 1 ≤ T.length from hi)
        rw [e] at hfin ⊢
        have hd := drain_pre T (3 * T.length + 4) (seedW T (walkTo T i) i)
        obtain ⟨s1, _, s3⟩ := seed_ok w1 (show i < T.length by omega) hm w2
        have hsi := hwi.seed (show i < T.length by omega) hm w2
        have hpre := hd.trans hfin
        generalize hw : walkTo T i = w at *
        generalize hj : w.O.length = j at *
        have hOj : (walkF T).O[j]? = some i := by
          obtain ⟨r, hr⟩ := hpre.O
          show (walkTo T T.length).O[j]? = _
          rw [← hr, s3, List.append_assoc, List.getElem?_append_right (by omega), hj, Nat.sub_self]
          rfl
        have htj : (walkF T).O.idxOf i = j := idx_at hok.nd hOj
        have hNj : (walkF T).N[j]? = some (mapT (sigW (walkF T).V) (T[i]'(by omega))) := by
          obtain ⟨r, hr⟩ := hpre.N
          have hcor := hsi.cor i (by rw [s3]; exact List.mem_append_right _ (List.mem_singleton.2 rfl)) (show i < T.length by omega)
          have e4 : (seedW T w i).N = w.N ++ [mapT (findW (seedW T w i).V) (T[i]'(by omega))] := by
            unfold seedW
            rw [List.getElem?_eq_getElem (show i < T.length by omega), Option.getD_some]
            rfl
          show (walkTo T T.length).N[j]? = _
          rw [← hr, e4, List.append_assoc, List.getElem?_append_right (by rw [w1.len]; omega), w1.len, hj, Nat.sub_self]
          show some _ = some _
          congr 1
          have hcor2 : ∀ v, hasV v (T[i]'(by omega)) → v ∈ (walkF T).V := fun v hv => hpre.V.subset (hcor v hv)
          rw [← mapT_pre hpre.V hcor]
          unfold mapT
          show _ = (sigW (walkF T).V _, sigW (walkF T).V _, sigW (walkF T).V _)
          rw [sig_in (hcor2 _ (Or.inl rfl)), sig_in (hcor2 _ (Or.inr (Or.inl rfl))), sig_in (hcor2 _ (Or.inr (Or.inr rfl)))]
          rfl
        have hs2 := seed_sim hS hs (show i < T.length by omega) (by rw [htj]; exact hNj)
        have hs3 := drain_sim hS hall hall' hn2 (3 * T.length + 4) _ _ s1 hs2
        simp only [htj] at hs3
        have hjn : j ∉ (walkTo (walkF T).N j).O := by
          rw [hs.O, ← htj]
          intro hc
          exact hm ((tau_mem hS w1 (show i < T.length by omega)).1 hc)
        have e5 : walkTo (walkF T).N (j + 1) = drainW (walkF T).N (3 * T.length + 4) (seedW (walkF T).N (walkTo (walkF T).N j) j) := by
          show (if j ∈ (walkTo (walkF T).N j).O then walkTo (walkF T).N j else drainW (walkF T).N (3 * (walkF T).N.length + 4) _) = _
          rw [if_neg hjn, hS.len]
        rw [← e5] at hs3
        have hb : j + 1 ≤ (drainW T (3 * T.length + 4) (seedW T w i)).O.length := by
          have := hd.O.length_le
          rw [s3, List.length_append, hj] at this
          exact this
        have hskip := walk_skip (T := (walkF T).N) (drainW T (3 * T.length + 4) (seedW T w i)).O.length hb (fun x _ hx => by
          rw [hs3.O]
          refine List.mem_map.2 ⟨(drainW T (3 * T.length + 4) (seedW T w i)).O[x], List.getElem_mem hx, ?_⟩
          refine idx_at hok.nd ?_
          obtain ⟨r, hr⟩ := hfin.O
          rw [← hr, List.getElem?_append_left hx]
          exact List.getElem?_eq_getElem hx)
        rw [hskip]
        exact hs3
  have h := key T.length (Nat.le_refl _)
  have e1 : (walkTo T T.length).O.length = (walkF T).N.length := by
    show _ = (walkTo T T.length).N.length
    rw [hok.len]
  rw [e1] at h
  exact h
end Go.Proofs.YthjmojglcfmkmaaDoor

/- Layer 11: a surface by other numbers is a surface: plain mathematics. -/
namespace Go.Proofs.YthjmojglcfmkmaaDoor

theorem SameW.back {T T' : List P3} {σ : Int → Int} {τ : Nat → Nat} (h : SameW T T' σ τ) {j : Nat} (hj : j < T'.length) {d : Int × Int} (hd : d ∈ dirs T'[j]) : ∃ i, ∃ hi : i < T.length, τ i = j ∧ ∃ e, e ∈ dirs T[i] ∧ d = mapD σ e := by
  obtain ⟨i, hi, rfl⟩ := h.cov j hj
  obtain ⟨_, k, e⟩ := h.at_ hi
  rw [e, dirs_rot_mem, dirs_mapT, List.mem_map] at hd
  obtain ⟨e0, h1, h2⟩ := hd
  exact ⟨i, hi, rfl, e0, h1, h2.symm⟩
theorem mapD_inj {σ : Int → Int} (hσ : ∀ x y, σ x = σ y → x = y) {d e : Int × Int} (h : mapD σ d = mapD σ e) : d = e := Prod.ext (hσ _ _ (congrArg Prod.fst h)) (hσ _ _ (congrArg Prod.snd h))
theorem SameW.nodup {n' : Nat} {T T' : List P3} {σ : Int → Int} {τ : Nat → Nat} (h : SameW T T' σ τ) (hn : (darts T).Nodup) (hall' : T'.all (triM n') = true) : (darts T').Nodup := by
  refine (nodup_has hall').2 fun j hj d hd => ?_
  rcases hasF_ways T' d.1 d.2 with ⟨_, h2⟩ | ⟨j2, hj2, h1, h2, _⟩
  · exact absurd (mem_darts.2 ⟨_, List.getElem_mem hj, hd⟩) h2
  · rw [h1]
    obtain ⟨i, hi, rfl, e, he, hde⟩ := h.back hj hd
    obtain ⟨i2, hi2, rfl, e2, he2, hde2⟩ := h.back hj2 h2
    have e3 : e = e2 := mapD_inj h.inj (hde.symm.trans hde2)
    subst e3
    rw [tri_same (darts_nodup hn) hi hi2 (dart_one hn (List.getElem_mem hi) (List.getElem_mem hi2) he he2)]
theorem hasV_mapT {σ : Int → Int} (hσ : ∀ x y, σ x = σ y → x = y) {t : P3} {v : Int} : hasV (σ v) (mapT σ t) ↔ hasV v t := by
  unfold hasV mapT
  constructor
  · rintro (h | h | h)
    · exact Or.inl (hσ _ _ h)
    · exact Or.inr (Or.inl (hσ _ _ h))
    · exact Or.inr (Or.inr (hσ _ _ h))
  · rintro (h | h | h)
    · exact Or.inl (congrArg σ h)
    · exact Or.inr (Or.inl (congrArg σ h))
    · exact Or.inr (Or.inr (congrArg σ h))
theorem SameW.tris {n n' : Nat} {T T' : List P3} {σ : Int → Int} {τ : Nat → Nat} (h : SameW T T' σ τ) (hall : T.all (triM n) = true) (hr : ∀ x : Int, 0 ≤ x ∧ x < n → 0 ≤ σ x ∧ σ x < n') : T'.all (triM n') = true := by
  refine List.all_eq_true.2 fun t ht => ?_
  obtain ⟨j, hj, rfl⟩ := List.getElem_of_mem ht
  obtain ⟨i, hi, rfl⟩ := h.cov j hj
  obtain ⟨_, k, e⟩ := h.at_ hi
  rw [e, triM_rot]
  have h1 := List.all_eq_true.1 hall _ (List.getElem_mem hi)
  generalize T[i] = t at *
  obtain ⟨a, b, c⟩ := t
  have h2 := triM_iff.1 h1
  simp only at h2
  have ra := hr a (by omega)
  have rb := hr b (by omega)
  have rc := hr c (by omega)
  have n1 : σ a ≠ σ b := fun e => by have := h.inj _ _ e; omega
  have n2 : σ b ≠ σ c := fun e => by have := h.inj _ _ e; omega
  have n3 : σ c ≠ σ a := fun e => by have := h.inj _ _ e; omega
  refine triM_iff.2 ?_
  show _
  unfold mapT
  simp only
  omega
theorem SameW.fan {T T' : List P3} {σ : Int → Int} {τ : Nat → Nat} (h : SameW T T' σ τ) (hT : T.Nodup) {v : Int} (hf : Fan T v) : Fan T' (σ v) := by
  obtain ⟨⟨t0, ht0, hv0⟩, hc⟩ := hf
  have hv : ∀ i, ∀ hi : i < T.length, ∀ hi' : τ i < T'.length, hasV (σ v) T'[τ i] ↔ hasV v T[i] := fun i hi hi' => by
    obtain ⟨_, k, e⟩ := h.at_ hi
    rw [e, hasV_rot]
    exact hasV_mapT h.inj
  refine ⟨?_, ?_⟩
  · obtain ⟨i, hi, rfl⟩ := List.getElem_of_mem ht0
    obtain ⟨hi', _⟩ := h.at_ hi
    exact ⟨_, List.getElem_mem hi', (hv i hi hi').2 hv0⟩
  · intro t' ht' u' hu' htv huv
    obtain ⟨j, hj, rfl⟩ := List.getElem_of_mem ht'
    obtain ⟨j2, hj2, rfl⟩ := List.getElem_of_mem hu'
    obtain ⟨i, hi, rfl⟩ := h.cov j hj
    obtain ⟨i2, hi2, rfl⟩ := h.cov j2 hj2
    have hr := hc T[i] (List.getElem_mem hi) T[i2] (List.getElem_mem hi2) ((hv i hi hj).1 htv) ((hv i2 hi2 hj2).1 huv)
    have key : ∀ s, Reach (fun a b => b ∈ T ∧ joinedV v a b) T[i] s → s ∈ T ∧ ∀ i2, ∀ hi2 : i2 < T.length, ∀ hj2 : τ i2 < T'.length, T[i2] = s → Reach (fun a b => b ∈ T' ∧ joinedV (σ v) a b) T'[τ i] T'[τ i2] := by
      intro s hs
      induction hs with
      | refl =>
        refine ⟨List.getElem_mem hi, fun i2 hi2 hj2 e => ?_⟩
        have e1 := tri_same hT hi2 hi e
        subst e1
        exact Reach.refl
      | step hr hst ih =>
        obtain ⟨hm, p, q, h1, h2, h3⟩ := hst
        refine ⟨hm, fun i2 hi2 hj2 e => ?_⟩
        obtain ⟨hy, ihy⟩ := ih
        obtain ⟨i0, hi0, rfl⟩ := List.getElem_of_mem hy
        obtain ⟨hj0, _⟩ := h.at_ hi0
        refine (ihy i0 hi0 hj0 rfl).step ⟨List.getElem_mem hj2, σ p, σ q, (h.dir hi0 hj0 p q).2 h1, ?_, (h.dir hi2 hj2 q p).2 (by rw [e]; exact h3)⟩
        rcases h2 with h4 | h4
        · exact Or.inl (congrArg σ h4)
        · exact Or.inr (congrArg σ h4)
    exact (key T[i2] hr).2 i2 hi2 hj2 rfl
/-- A surface by other numbers is a surface. -/
theorem SameW.check {P P' T T' : List P3} {σ : Int → Int} {τ : Nat → Nat} (h : SameW T T' σ τ) (hP : P'.length = P.length) (hpt : P'.all pointM = true) (hr : ∀ x : Int, 0 ≤ x ∧ x < P.length → 0 ≤ σ x ∧ σ x < P.length) (hs : ∀ y : Int, 0 ≤ y ∧ y < P.length → ∃ x : Int, (0 ≤ x ∧ x < P.length) ∧ σ x = y) (hc : CheckIs P T 0) : CheckIs P' T' 0 := by
  obtain ⟨hl, hp, hn, hf⟩ := check_zero hc
  have hall : T.all (triM P.length) = true := by unfold plainM at hp; rw [Bool.and_eq_true] at hp; exact hp.2
  have hall' : T'.all (triM P'.length) = true := by rw [hP]; exact h.tris hall hr
  refine Or.inr (Or.inr (Or.inr (Or.inr ⟨?_, ?_, h.nodup hn hall', ?_, rfl⟩)))
  · unfold longM at hl ⊢
    rw [hP, h.len]
    exact hl
  · unfold plainM
    rw [hpt, hall']
    rfl
  · intro v hv
    rw [hP] at hv
    obtain ⟨x, hx, e⟩ := hs (v : Int) ⟨by omega, by omega⟩
    rw [← e]
    have := hf x.toNat (by omega)
    rw [Int.toNat_of_nonneg hx.1] at this
    exact h.fan (darts_nodup hn) this
/-- Of a surface all vertices are met, and no others. -/
theorem verts_all {P T : List P3} (hc : CheckIs P T 0) : ∀ x, x ∈ (walkF T).V ↔ 0 ≤ x ∧ x < P.length := by
  obtain ⟨_, hp, hn, hf⟩ := check_zero hc
  have hall : T.all (triM P.length) = true := by unfold plainM at hp; rw [Bool.and_eq_true] at hp; exact hp.2
  have hi := walk_inv hall hn T.length (Nat.le_refl _)
  obtain ⟨_, _, h3⟩ := walk_ok T T.length (Nat.le_refl _)
  intro x
  constructor
  · intro hx
    obtain ⟨i, _, hl, hv⟩ := hi.vin x hx
    have h1 := triM_iff.1 (List.all_eq_true.1 hall _ (List.getElem_mem hl))
    unfold hasV at hv
    rcases hv with rfl | rfl | rfl <;> omega
  · intro hx
    obtain ⟨⟨t, ht, hv⟩, _⟩ := hf x.toNat (by omega)
    rw [Int.toNat_of_nonneg hx.1] at hv
    obtain ⟨i, hl, rfl⟩ := List.getElem_of_mem ht
    exact hi.cor i (h3 i hl) hl x hv
end Go.Proofs.YthjmojglcfmkmaaDoor

/- Layer 11: the canon of a canon: plain mathematics. -/
namespace Go.Proofs.YthjmojglcfmkmaaDoor

theorem idx_of_nodup {α : Type} [BEq α] [LawfulBEq α] {l : List α} (hn : l.Nodup) {j : Nat} (hj : j < l.length) : l.idxOf l[j] = j := by
  have h1 : l.idxOf l[j] < l.length := List.idxOf_lt_length_of_mem (List.getElem_mem hj)
  have e1 := List.getElem_idxOf h1
  rcases Nat.lt_trichotomy (l.idxOf l[j]) j with h2 | h2 | h2
  · exact absurd e1 (List.pairwise_iff_getElem.1 hn _ _ h1 hj h2)
  · exact h2
  · exact absurd e1.symm (List.pairwise_iff_getElem.1 hn _ _ hj h1 h2)
theorem verts_count {n : Nat} {V : List Int} (hnd : V.Nodup) (hV : ∀ x, x ∈ V ↔ 0 ≤ x ∧ x < n) : V.length = n := by
  refine Nat.le_antisymm (verts_len hnd (fun x hx => (hV x).1 hx)) ?_
  have hm : ∀ i, i < n → ((i : Nat) : Int) ∈ V := fun i hi => (hV _).2 ⟨by omega, by omega⟩
  have h2 : ((List.range n).map fun (i : Nat) => V.idxOf (i : Int)).Nodup := by
    unfold List.Nodup
    rw [List.pairwise_map]
    exact List.Pairwise.imp_of_mem (fun {a b} ha hb hne e => hne (by have := idx_inj (hm a (List.mem_range.1 ha)) (hm b (List.mem_range.1 hb)) e; omega)) List.nodup_range
  have h4 := nodup_len V.length _ h2 (fun x hx => by
    obtain ⟨y, hy, rfl⟩ := List.mem_map.1 hx
    exact List.idxOf_lt_length_of_mem (hm y (List.mem_range.1 hy)))
  rw [List.length_map, List.length_range] at h4
  exact h4
/-- The canon's points. -/
def canonP (P T : List P3) : List P3 := (walkF T).V.map fun x => P[x.toNat]?.getD (0, 0, 0)
theorem sig_range {V : List Int} (hn : V.Nodup) : V.map (sigW V) = (List.range V.length).map fun (i : Nat) => (i : Int) := by
  apply List.ext_getElem
  · rw [List.length_map, List.length_map, List.length_range]
  · intro j h1 h2
    rw [List.length_map] at h1
    rw [List.getElem_map, List.getElem_map, List.getElem_range]
    unfold sigW
    rw [if_pos (List.getElem_mem h1), idx_of_nodup hn h1]
/-- The canon of a surface is a surface; its walk is the same, and it is its own canon. -/
theorem canon_twice {P T : List P3} (hc : CheckIs P T 0) : CheckIs (canonP P T) (walkF T).N 0 ∧ (walkF (walkF T).N).S = (walkF T).S ∧ (walkF (walkF T).N).N = (walkF T).N ∧ canonP (canonP P T) (walkF T).N = canonP P T ∧
    (canonP P T).length = P.length ∧ (walkF T).N.length = T.length ∧ SameW T (walkF T).N (sigW (walkF T).V) (fun i => (walkF T).O.idxOf i) := by
  obtain ⟨_, hp, hn, _⟩ := check_zero hc
  have hpp : P.all pointM = true ∧ T.all (triM P.length) = true := by unfold plainM at hp; rw [Bool.and_eq_true] at hp; exact hp
  have hV := verts_all hc
  have hi := walk_inv hpp.2 hn T.length (Nat.le_refl _)
  have hnd : (walkF T).V.Nodup := hi.vnd
  have hVl := verts_count hnd hV
  have hS := canon_same hpp.2 hn hV
  have hlen : (canonP P T).length = P.length := by unfold canonP; rw [List.length_map]; exact hVl
  have hck : CheckIs (canonP P T) (walkF T).N 0 := by
    refine hS.check hlen ?_ ?_ ?_ hc
    · refine List.all_eq_true.2 fun x hx => ?_
      unfold canonP at hx
      obtain ⟨v, hv, rfl⟩ := List.mem_map.1 hx
      have h1 := (hV v).1 hv
      have h2 : v.toNat < P.length := by omega
      rw [List.getElem?_eq_getElem h2, Option.getD_some]
      exact List.all_eq_true.1 hpp.1 _ (List.getElem_mem h2)
    · intro x hx
      have hm := (hV x).2 hx
      unfold sigW
      rw [if_pos hm]
      have h1 : (walkF T).V.idxOf x < (walkF T).V.length := List.idxOf_lt_length_of_mem hm
      omega
    · intro y hy
      have h1 : y.toNat < (walkF T).V.length := by omega
      refine ⟨(walkF T).V[y.toNat], (hV _).1 (List.getElem_mem h1), ?_⟩
      unfold sigW
      rw [if_pos (List.getElem_mem h1), idx_of_nodup hnd h1]
      omega
  obtain ⟨_, hp2, hn2, _⟩ := check_zero hck
  have hall2 : (walkF T).N.all (triM P.length) = true := by
    unfold plainM at hp2
    rw [Bool.and_eq_true, hlen] at hp2
    exact hp2.2
  have hs := canon_sim hpp.2 hn hV hall2 hn2
  refine ⟨hck, hs.S, hs.N, ?_, hlen, hS.len, hS⟩
  show ((walkF (walkF T).N).V).map (fun x => (canonP P T)[x.toNat]?.getD (0, 0, 0)) = canonP P T
  rw [hs.V, sig_range hnd, hVl]
  apply List.ext_getElem
  · rw [List.length_map, List.length_map, List.length_range, hlen]
  · intro j h1 h2
    rw [List.length_map, List.length_map, List.length_range] at h1
    rw [List.getElem_map, List.getElem_map, List.getElem_range, Int.toNat_natCast, List.getElem?_eq_getElem h2, Option.getD_some]
end Go.Proofs.YthjmojglcfmkmaaDoor

/- Layer 11: how many steps there are of each kind: plain mathematics. -/
namespace Go.Proofs.YthjmojglcfmkmaaDoor

def kindC (w : WS) (k : Int) : Nat := w.S.countP fun s => decide (s.1 = k)
def bordB (T : List P3) (d : Int × Int) : Bool := !(darts T).contains (swapD d)
def dirsAt (T : List P3) (i : Nat) : List (Int × Int) := dirs (T[i]?.getD (0, 0, 0))
structure CInv (T : List P3) (w : WS) : Prop where
  take : kindC w 0 + kindC w 2 + kindC w 3 = w.O.length
  vert : w.V.length = 3 * kindC w 0 + kindC w 2
  brd : kindC w 1 + w.G.countP (bordB T) = (w.O.flatMap (dirsAt T)).countP (bordB T)
theorem kind_app (S : List (Int × Int)) (s : Int × Int) (k : Int) : (S ++ [s]).countP (fun s => decide (s.1 = k)) = S.countP (fun s => decide (s.1 = k)) + if s.1 = k then 1 else 0 := by
  rw [List.countP_append]
  congr 1
  by_cases h : s.1 = k
  · rw [if_pos h, List.countP_cons_of_pos (by rw [decide_eq_true h])]
    rfl
  · rw [if_neg h, List.countP_cons_of_neg (by rw [decide_eq_false h]; decide)]
    rfl
theorem bord_has {T : List P3} {p q : Int} : bordB T (p, q) = true ↔ (q, p) ∉ darts T := by
  unfold bordB swapD
  rw [Bool.not_eq_true', ← Bool.not_eq_true, List.contains_iff_mem]
theorem CInv.gate {n : Nat} {T : List P3} (hall : T.all (triM n) = true) {w : WS} (h : WInv T w) (hc : CInv T w) {p q : Int} (hg : w.G.getLast? = some (p, q)) : CInv T (gateTo T w p q) := by
  have hne : w.G ≠ [] := fun e => by rw [e] at hg; cases hg
  have hgs : w.G = w.G.dropLast ++ [(p, q)] := by
    have h1 := List.dropLast_concat_getLast hne
    have h2 := List.getLast?_eq_some_getLast hne
    rw [hg] at h2
    rw [← Option.some.inj h2] at h1
    exact h1.symm
  have hin : (p, q) ∈ w.G := by rw [hgs]; exact List.mem_append_right _ (List.mem_singleton.2 rfl)
  have hcnt : w.G.countP (bordB T) = w.G.dropLast.countP (bordB T) + if bordB T (p, q) = true then 1 else 0 := by
    have : (w.G.dropLast ++ [(p, q)]).countP (bordB T) = w.G.dropLast.countP (bordB T) + if bordB T (p, q) = true then 1 else 0 := by
      rw [List.countP_append, List.countP_cons, List.countP_nil, Nat.zero_add]
    rw [← hgs] at this
    exact this
  have hb := hc.brd
  rw [hcnt] at hb
  unfold gateTo
  rcases hasF_ways T q p with ⟨e1, e2⟩ | ⟨i, hi, e1, h1, _⟩
  · rw [if_pos (by rw [e1]; decide)]
    rw [if_pos (bord_has.2 e2)] at hb
    refine ⟨?_, ?_, ?_⟩
    · show (w.S ++ [(1, 0)]).countP _ + (w.S ++ [(1, 0)]).countP _ + (w.S ++ [(1, 0)]).countP _ = w.O.length
      rw [kind_app, kind_app, kind_app]
      exact hc.take
    · show w.V.length = 3 * (w.S ++ [(1, 0)]).countP _ + (w.S ++ [(1, 0)]).countP _
      rw [kind_app, kind_app]
      exact hc.vert
    · show (w.S ++ [(1, 0)]).countP _ + w.G.dropLast.countP (bordB T) = _
      rw [kind_app]
      unfold kindC at hb
      simp only [if_true]
      omega
  · have z1 : ¬ hasF T q p < 0 := by rw [e1]; omega
    have z2 : (hasF T q p).toNat = i := by rw [e1]; rfl
    have hnb : ¬ bordB T (p, q) = true := fun hb => bord_has.1 hb (mem_darts.2 ⟨_, List.getElem_mem hi, h1⟩)
    rw [if_neg hnb] at hb
    rw [if_neg z1, z2]
    by_cases hm : i ∈ w.O
    · rw [if_pos hm]
      exact ⟨hc.take, hc.vert, hb⟩
    · rw [if_neg hm]
      have ht := List.all_eq_true.1 hall _ (List.getElem_mem hi)
      obtain ⟨k, ek⟩ := tri_from ht h1
      obtain ⟨i0, hi0, hl0, hd0⟩ := h.frm _ hin
      have hnb2 : ¬ bordB T (q, p) = true := fun hb => bord_has.1 hb (mem_darts.2 ⟨_, List.getElem_mem hl0, hd0⟩)
      have hdir : (dirsAt T i).countP (bordB T) = [(p, thirdV T[i] p q), (thirdV T[i] p q, q)].countP (bordB T) := by
        unfold dirsAt
        rw [List.getElem?_eq_getElem hi, Option.getD_some, ← (dirs_rot k T[i]).countP_eq, ← ek]
        show List.countP _ [(q, p), (p, thirdV T[i] p q), (thirdV T[i] p q, q)] = _
        rw [List.countP_cons_of_neg hnb2]
      unfold stepTo
      rw [List.getElem?_eq_getElem hi, Option.getD_some]
      generalize thirdV T[i] p q = v at *
      have hO : (w.O ++ [i]).length = w.O.length + 1 := by rw [List.length_append]; rfl
      have hB : ((w.O ++ [i]).flatMap (dirsAt T)).countP (bordB T) = (w.O.flatMap (dirsAt T)).countP (bordB T) + [(p, v), (v, q)].countP (bordB T) := by
        rw [List.flatMap_append, List.countP_append, ← hdir]
        rw [List.flatMap_cons, List.flatMap_nil, List.append_nil]
      have hG : (w.G.dropLast ++ [(p, v), (v, q)]).countP (bordB T) = w.G.dropLast.countP (bordB T) + [(p, v), (v, q)].countP (bordB T) := List.countP_append ..
      have ht0 := hc.take
      have hv0 := hc.vert
      by_cases hv : v ∈ w.V
      · have hV : (meetW w.V v).length = w.V.length := by unfold meetW; rw [if_pos hv]
        refine ⟨?_, ?_, ?_⟩
        · show (w.S ++ [if v ∈ w.V then (3, findW w.V v) else (2, 0)]).countP _ + (w.S ++ [if v ∈ w.V then (3, findW w.V v) else (2, 0)]).countP _ + (w.S ++ [if v ∈ w.V then (3, findW w.V v) else (2, 0)]).countP _ = (w.O ++ [i]).length
          rw [if_pos hv, kind_app, kind_app, kind_app, hO]
          unfold kindC at ht0
          simp only [if_true]
          simp
          omega
        · show (meetW w.V v).length = 3 * (w.S ++ [if v ∈ w.V then (3, findW w.V v) else (2, 0)]).countP _ + (w.S ++ [if v ∈ w.V then (3, findW w.V v) else (2, 0)]).countP _
          rw [if_pos hv, kind_app, kind_app, hV]
          unfold kindC at hv0
          simp
          omega
        · show (w.S ++ [if v ∈ w.V then (3, findW w.V v) else (2, 0)]).countP _ + (w.G.dropLast ++ [(p, v), (v, q)]).countP (bordB T) = ((w.O ++ [i]).flatMap (dirsAt T)).countP (bordB T)
          rw [if_pos hv, kind_app, hG, hB]
          unfold kindC at hb
          simp
          omega
      · have hV : (meetW w.V v).length = w.V.length + 1 := by unfold meetW; rw [if_neg hv, List.length_append]; rfl
        refine ⟨?_, ?_, ?_⟩
        · show (w.S ++ [if v ∈ w.V then (3, findW w.V v) else (2, 0)]).countP _ + (w.S ++ [if v ∈ w.V then (3, findW w.V v) else (2, 0)]).countP _ + (w.S ++ [if v ∈ w.V then (3, findW w.V v) else (2, 0)]).countP _ = (w.O ++ [i]).length
          rw [if_neg hv, kind_app, kind_app, kind_app, hO]
          unfold kindC at ht0
          simp
          omega
        · show (meetW w.V v).length = 3 * (w.S ++ [if v ∈ w.V then (3, findW w.V v) else (2, 0)]).countP _ + (w.S ++ [if v ∈ w.V then (3, findW w.V v) else (2, 0)]).countP _
          rw [if_neg hv, kind_app, kind_app, hV]
          unfold kindC at hv0
          simp
          omega
        · show (w.S ++ [if v ∈ w.V then (3, findW w.V v) else (2, 0)]).countP _ + (w.G.dropLast ++ [(p, v), (v, q)]).countP (bordB T) = ((w.O ++ [i]).flatMap (dirsAt T)).countP (bordB T)
          rw [if_neg hv, kind_app, hG, hB]
          unfold kindC at hb
          simp
          omega
theorem CInv.seed {n : Nat} {T : List P3} (hall : T.all (triM n) = true) {w : WS} (hc : CInv T w) {i : Nat} (hi : i < T.length) (hg : w.G = []) (hv : ∀ x, hasV x T[i] → x ∉ w.V) : CInv T (seedW T w i) := by
  have ht0 := hc.take
  have hv0 := hc.vert
  have hb := hc.brd
  rw [hg] at hb
  obtain ⟨n1, n2, n3, _⟩ := triM_iff.1 (List.all_eq_true.1 hall _ (List.getElem_mem hi))
  have hB : ((w.O ++ [i]).flatMap (dirsAt T)).countP (bordB T) = (w.O.flatMap (dirsAt T)).countP (bordB T) + (dirs T[i]).countP (bordB T) := by
    rw [List.flatMap_append, List.countP_append, List.flatMap_cons, List.flatMap_nil, List.append_nil]
    unfold dirsAt
    rw [List.getElem?_eq_getElem hi, Option.getD_some]
  unfold seedW
  rw [List.getElem?_eq_getElem hi, Option.getD_some]
  have h1 : T[i].1 ∉ w.V := hv _ (Or.inl rfl)
  have h2 : T[i].2.1 ∉ w.V := hv _ (Or.inr (Or.inl rfl))
  have h3 : T[i].2.2 ∉ w.V := hv _ (Or.inr (Or.inr rfl))
  generalize T[i] = t at *
  obtain ⟨a, b, c⟩ := t
  simp only at n1 n2 n3 h1 h2 h3
  have hV : (meetW (meetW (meetW w.V a) b) c).length = w.V.length + 3 := by
    have e1 : meetW w.V a = w.V ++ [a] := by unfold meetW; rw [if_neg h1]
    have e2 : meetW (w.V ++ [a]) b = w.V ++ [a] ++ [b] := by
      unfold meetW
      rw [if_neg (by rw [List.mem_append, List.mem_singleton]; exact fun h => h.elim (fun h => h2 h) (fun h => n1 h.symm))]
    have e3 : meetW (w.V ++ [a] ++ [b]) c = w.V ++ [a] ++ [b] ++ [c] := by
      unfold meetW
      rw [if_neg (by rw [List.mem_append, List.mem_append, List.mem_singleton, List.mem_singleton]; exact fun h => h.elim (fun h => h.elim (fun h => h3 h) (fun h => n3 h)) (fun h => n2 h.symm))]
    rw [e1, e2, e3]
    simp
  refine ⟨?_, ?_, ?_⟩
  · show (w.S ++ [(0, 0)]).countP _ + (w.S ++ [(0, 0)]).countP _ + (w.S ++ [(0, 0)]).countP _ = (w.O ++ [i]).length
    rw [kind_app, kind_app, kind_app, List.length_append]
    unfold kindC at ht0
    simp
    omega
  · show (meetW (meetW (meetW w.V a) b) c).length = 3 * (w.S ++ [(0, 0)]).countP _ + (w.S ++ [(0, 0)]).countP _
    rw [kind_app, kind_app, hV]
    unfold kindC at hv0
    simp
    omega
  · show (w.S ++ [(0, 0)]).countP _ + (w.G ++ dirs (a, b, c)).countP (bordB T) = ((w.O ++ [i]).flatMap (dirsAt T)).countP (bordB T)
    rw [kind_app, hg, List.nil_append, hB]
    unfold kindC at hb
    simp at hb ⊢
    omega
theorem drain_cinv {n : Nat} {T : List P3} (hall : T.all (triM n) = true) (hn : (darts T).Nodup) : ∀ (k : Nat) (w : WS), WInv T w → CInv T w → CInv T (drainW T k w) := by
  intro k
  induction k with
  | zero => intro w _ h; exact h
  | succ k ih =>
    intro w h hc
    unfold drainW
    by_cases hg : w.G = []
    · rw [if_pos hg]; exact hc
    · rw [if_neg hg]
      obtain ⟨p, q, e1, e2⟩ := gateW_last (T := T) hg
      rw [e2]
      exact ih _ (h.gate hall hn e1) (hc.gate hall h e1)
theorem fan_conn {T : List P3} {v : Int} (hf : Fan T v) {t u : P3} (ht : t ∈ T) (hu : u ∈ T) (h1 : hasV v t) (h2 : hasV v u) : ConnT T t u :=
  (hf.2 t ht u hu h1 h2).mono fun _ _ h => ⟨h.1, by obtain ⟨p, q, a, _, c⟩ := h.2; exact ⟨p, q, a, c⟩⟩
theorem walk_cinv {P T : List P3} (hc : CheckIs P T 0) : ∀ i, i ≤ T.length → CInv T (walkTo T i) := by
  obtain ⟨_, hp, hn, hf⟩ := check_zero hc
  have hall : T.all (triM P.length) = true := by unfold plainM at hp; rw [Bool.and_eq_true] at hp; exact hp.2
  intro i
  induction i with
  | zero => intro _; exact ⟨rfl, rfl, rfl⟩
  | succ i ih =>
    intro hi
    have h := ih (by omega)
    obtain ⟨h1, h2, _⟩ := walk_ok T i (by omega)
    have hw := walk_inv hall hn i (by omega)
    show CInv T (if i ∈ (walkTo T i).O then walkTo T i else drainW T (3 * T.length + 4) (seedW T (walkTo T i) i))
    by_cases hm : i ∈ (walkTo T i).O
    · rw [if_pos hm]; exact h
    · rw [if_neg hm]
      have hil : i < T.length := by omega
      refine drain_cinv hall hn _ _ (hw.seed hil hm h2) (h.seed hall hil h2 fun x hx hxV => hm ?_)
      obtain ⟨j, hj, hl, hv⟩ := hw.vin x hxV
      have hr := triM_iff.1 (List.all_eq_true.1 hall _ (List.getElem_mem hil))
      have hx0 : 0 ≤ x ∧ x < P.length := by
        unfold hasV at hx
        rcases hx with rfl | rfl | rfl <;> omega
      have hfx := hf x.toNat (by omega)
      rw [Int.toNat_of_nonneg hx0.1] at hfx
      exact hw.closed (darts_nodup hn) h2 hl hj i hil (fan_conn hfx (List.getElem_mem hl) (List.getElem_mem hil) hv hx)
theorem range_tris (T : List P3) : (List.range T.length).flatMap (dirsAt T) = darts T := by
  have e : (List.range T.length).map (fun i => T[i]?.getD (0, 0, 0)) = T := by
    apply List.ext_getElem
    · rw [List.length_map, List.length_range]
    · intro j h1 h2
      rw [List.getElem_map, List.getElem_range, List.getElem?_eq_getElem h2, Option.getD_some]
  unfold darts
  conv => rhs; rw [← e]
  rw [List.flatMap_map]
  rfl
/-- Of a surface: as many seeds, fresh and known ones as triangles; three vertices for a seed, one for a fresh one; as many borders as edges of the border. -/
theorem walk_counts {P T : List P3} (hc : CheckIs P T 0) : kindC (walkF T) 0 + kindC (walkF T) 2 + kindC (walkF T) 3 = T.length ∧ 3 * kindC (walkF T) 0 + kindC (walkF T) 2 = P.length ∧ kindC (walkF T) 1 = (edgesF P.length T true).length := by
  obtain ⟨_, hp, hn, _⟩ := check_zero hc
  have hall : T.all (triM P.length) = true := by unfold plainM at hp; rw [Bool.and_eq_true] at hp; exact hp.2
  have hC := walk_cinv hc T.length (Nat.le_refl _)
  obtain ⟨w1, w2, w3⟩ := walk_ok T T.length (Nat.le_refl _)
  have hi := walk_inv hall hn T.length (Nat.le_refl _)
  have hl := walk_len T
  have hv := verts_count hi.vnd (verts_all hc)
  refine ⟨hC.take.trans hl, ?_, ?_⟩
  · have := hC.vert
    unfold walkF
    omega
  · have hb := hC.brd
    rw [w2, List.countP_nil, Nat.add_zero] at hb
    have hperm : (walkTo T T.length).O.Perm (List.range T.length) := perm_of_mem w1.nd List.nodup_range (fun x => ⟨fun h => List.mem_range.2 (w1.lt x h), fun h => w3 x (List.mem_range.1 h)⟩)
    rw [(hperm.flatMap_right (dirsAt T)).countP_eq, range_tris, List.countP_eq_length_filter] at hb
    rw [(border_perm hp hn).length_eq]
    exact hb
end Go.Proofs.YthjmojglcfmkmaaDoor

/- Layer 11: a seed for each piece: plain mathematics. -/
namespace Go.Proofs.YthjmojglcfmkmaaDoor

/-- All that is met hangs together with one of these. -/
def NearW (T : List P3) (J : Nat → Prop) (w : WS) : Prop := ∀ i, i ∈ w.O → ∀ hi : i < T.length, ∃ j, J j ∧ ∃ hj : j < T.length, ConnT T T[j] T[i]
theorem gate_near {T : List P3} {J : Nat → Prop} {w : WS} (h : WInv T w) (hJ : NearW T J w) {p q : Int} (hg : w.G.getLast? = some (p, q)) : NearW T J (gateTo T w p q) ∧ kindC (gateTo T w p q) 0 = kindC w 0 := by
  have hin : (p, q) ∈ w.G := List.mem_of_getLast? hg
  unfold gateTo
  rcases hasF_ways T q p with ⟨e1, e2⟩ | ⟨i, hi, e1, h1, _⟩
  · rw [if_pos (by rw [e1]; decide)]
    refine ⟨hJ, ?_⟩
    show (w.S ++ [(1, 0)]).countP _ = _
    rw [kind_app]
    rfl
  · have z1 : ¬ hasF T q p < 0 := by rw [e1]; omega
    have z2 : (hasF T q p).toNat = i := by rw [e1]; rfl
    rw [if_neg z1, z2]
    by_cases hm : i ∈ w.O
    · rw [if_pos hm]
      exact ⟨hJ, rfl⟩
    · rw [if_neg hm]
      obtain ⟨i0, hi0, hl0, hd0⟩ := h.frm _ hin
      refine ⟨fun x hx hxl => ?_, ?_⟩
      · rcases List.mem_append.1 hx with h2 | h2
        · exact hJ x h2 hxl
        · have e := List.mem_singleton.1 h2
          subst e
          obtain ⟨j, hj, hjl, hc⟩ := hJ i0 hi0 hl0
          exact ⟨j, hj, hjl, hc.step ⟨List.getElem_mem hxl, p, q, hd0, h1⟩⟩
      · show (w.S ++ [if _ ∈ w.V then (3, findW w.V _) else (2, 0)]).countP _ = _
        rw [kind_app]
        split <;> rfl
theorem drain_near {n : Nat} {T : List P3} (hall : T.all (triM n) = true) (hn : (darts T).Nodup) {J : Nat → Prop} : ∀ (k : Nat) (w : WS), WInv T w → NearW T J w → NearW T J (drainW T k w) ∧ kindC (drainW T k w) 0 = kindC w 0 := by
  intro k
  induction k with
  | zero => intro w _ h; exact ⟨h, rfl⟩
  | succ k ih =>
    intro w h hJ
    unfold drainW
    by_cases hg : w.G = []
    · rw [if_pos hg]; exact ⟨hJ, rfl⟩
    · rw [if_neg hg]
      obtain ⟨p, q, e1, e2⟩ := gateW_last (T := T) hg
      rw [e2]
      obtain ⟨g1, g2⟩ := gate_near h hJ e1
      obtain ⟨d1, d2⟩ := ih _ (h.gate hall hn e1) g1
      exact ⟨d1, d2.trans g2⟩
theorem walk_near {n : Nat} {T : List P3} (hall : T.all (triM n) = true) (hn : (darts T).Nodup) : ∀ k, k ≤ T.length → NearW T (· < k) (walkTo T k) ∧ (∀ k', k = k' + 1 → kindC (walkTo T k) 0 = kindC (walkTo T k') 0 + if k' ∈ (walkTo T k').O then 0 else 1) := by
  intro k
  induction k with
  | zero => intro _; exact ⟨(fun i hi => by cases hi), (fun k' h => by omega)⟩
  | succ k ih =>
    intro hk
    obtain ⟨hJ, _⟩ := ih (by omega)
    obtain ⟨h1, h2, _⟩ := walk_ok T k (by omega)
    have hw := walk_inv hall hn k (by omega)
    have hJ2 : NearW T (· < k + 1) (walkTo T k) := fun i hi hl => by
      obtain ⟨j, hj, hjl, hc⟩ := hJ i hi hl
      exact ⟨j, Nat.lt_succ_of_lt hj, hjl, hc⟩
    have hkl : k < T.length := by omega
    by_cases hm : k ∈ (walkTo T k).O
    · have e : walkTo T (k + 1) = walkTo T k := by
        show (if k ∈ (walkTo T k).O then walkTo T k else _) = _
        rw [if_pos hm]
      rw [e]
      refine ⟨hJ2, fun k' hk' => ?_⟩
      have hkk : k = k' := by omega
      subst hkk
      rw [if_pos hm, Nat.add_zero]
    · have e : walkTo T (k + 1) = drainW T (3 * T.length + 4) (seedW T (walkTo T k) k) := by
        show (if k ∈ (walkTo T k).O then walkTo T k else _) = _
        rw [if_neg hm]
      have hS : NearW T (· < k + 1) (seedW T (walkTo T k) k) := fun i hi hl => by
        rcases List.mem_append.1 hi with h3 | h3
        · exact hJ2 i h3 hl
        · have e3 := List.mem_singleton.1 h3
          subst e3
          exact ⟨i, Nat.lt_succ_self _, hl, Reach.refl⟩
      obtain ⟨d1, d2⟩ := drain_near hall hn (3 * T.length + 4) _ (hw.seed hkl hm h2) hS
      rw [e]
      refine ⟨d1, fun k' hk' => ?_⟩
      have hkk : k = k' := by omega
      subst hkk
      rw [d2, if_neg hm]
      show ((walkTo T k).S ++ [(0, 0)]).countP _ = _
      rw [kind_app]
      rfl
theorem walk_seeds {P T : List P3} {p : List Nat} (hc : CheckIs P T 0) (hp : PiecesIs T p) : kindC (walkF T) 0 = maxNext p := by
  obtain ⟨_, hpl, hn, _⟩ := check_zero hc
  have hall : T.all (triM P.length) = true := by unfold plainM at hpl; rw [Bool.and_eq_true] at hpl; exact hpl.2
  have key : ∀ k, k ≤ T.length → kindC (walkTo T k) 0 = maxNext (p.take k) := by
    intro k
    induction k with
    | zero => intro _; rfl
    | succ k ih =>
      intro hk
      have h := ih (by omega)
      obtain ⟨hJ, _⟩ := walk_near hall hn k (by omega)
      have h0 := (walk_near hall hn (k + 1) hk).2 k rfl
      obtain ⟨w1, w2, w3⟩ := walk_ok T k (by omega)
      have hw := walk_inv hall hn k (by omega)
      have hkl : k < T.length := by omega
      have hkp : k < p.length := by rw [hp.len]; exact hkl
      have hr := hp.rise k hkp
      rw [h0, h, List.take_succ_eq_append_getElem hkp, maxNext_app, show maxNext [p[k]] = p[k] + 1 by show max (p[k] + 1) 0 = _; omega]
      by_cases hm : k ∈ (walkTo T k).O
      · rw [if_pos hm]
        obtain ⟨j, hj, hjl, hcn⟩ := hJ k hm hkl
        have hjp : j < p.length := by rw [hp.len]; exact hjl
        have e1 : p[j] = p[k] := (hp.same j k hjp hkp).2 hcn
        have hj2 : j < k := hj
        have h3 : p[j] ∈ p.take k := by
          rw [List.mem_take_iff_getElem]
          exact ⟨j, by omega, rfl⟩
        have := maxNext_mem h3
        omega
      · rw [if_neg hm]
        have hno : p[k] ∉ p.take k := fun h3 => by
          rw [List.mem_take_iff_getElem] at h3
          obtain ⟨j, hj, e1⟩ := h3
          have hjp : j < p.length := by omega
          have hjl : j < T.length := by rw [← hp.len]; exact hjp
          exact hm (hw.closed (darts_nodup hn) w2 hjl (w3 j (by omega)) k hkl ((hp.same j k hjp hkp).1 e1))
        have := rise_all hp.rise k (by omega) p[k]
        rcases Nat.lt_or_ge p[k] (maxNext (p.take k)) with h4 | h4
        · exact absurd (this h4) hno
        · omega
  have h := key T.length (Nat.le_refl _)
  rw [← hp.len, List.take_length, hp.len] at h
  exact h
end Go.Proofs.YthjmojglcfmkmaaDoor

/- Layer 11: the canon's triangles have the triangles' edges, by new numbers: plain mathematics. -/
namespace Go.Proofs.YthjmojglcfmkmaaDoor

theorem vert_back {V : List Int} {x : Int} (h : x ∈ V) : ∃ k : Nat, findW V x = (k : Int) ∧ V[k]? = some x := by
  have h1 : V.idxOf x < V.length := List.idxOf_lt_length_of_mem h
  refine ⟨V.idxOf x, ?_, ?_⟩
  · unfold findW
    rw [if_pos h]
  · rw [List.getElem?_eq_getElem h1, List.getElem_idxOf h1]
/-- Of the j-th triangle met: the corners of the canon's are its corners' new numbers, and the edges are edges. -/
theorem canon_edges {P T : List P3} (hc : CheckIs P T 0) {j i : Nat} (hj : (walkF T).O[j]? = some i) : ∃ hi : i < T.length, ∃ a b c : Nat, ∃ x y z : Int, (walkF T).N[j]? = some ((a : Int), (b : Int), (c : Int)) ∧ (walkF T).V[a]? = some x ∧ (walkF T).V[b]? = some y ∧ (walkF T).V[c]? = some z ∧ (x, y) ∈ dirs T[i] ∧ (y, z) ∈ dirs T[i] := by
  obtain ⟨_, hp, hn, _⟩ := check_zero hc
  have hall : T.all (triM P.length) = true := by unfold plainM at hp; rw [Bool.and_eq_true] at hp; exact hp.2
  have hw := walk_inv hall hn T.length (Nat.le_refl _)
  have hm : i ∈ (walkF T).O := List.mem_of_getElem? hj
  have hi : i < T.length := hw.ok.lt i hm
  obtain ⟨k, e⟩ := hw.tri j i hj hi
  have hcor := hw.cor i hm hi
  rw [← map_rot] at e
  have hd : ∀ d, d ∈ dirs (rotT k T[i]) → d ∈ dirs T[i] := fun d h => (dirs_rot_mem k _ d).1 h
  have hh : ∀ v, hasV v (rotT k T[i]) → v ∈ (walkTo T T.length).V := fun v h => hcor v ((hasV_rot k _ v).1 h)
  generalize rotT k T[i] = t at *
  obtain ⟨x, y, z⟩ := t
  obtain ⟨a, ea, ha⟩ := vert_back (hh x (Or.inl rfl))
  obtain ⟨b, eb, hb⟩ := vert_back (hh y (Or.inr (Or.inl rfl)))
  obtain ⟨c, ec, hc2⟩ := vert_back (hh z (Or.inr (Or.inr rfl)))
  refine ⟨hi, a, b, c, x, y, z, ?_, ha, hb, hc2, hd _ (mem_dirs.2 (Or.inl rfl)), hd _ (mem_dirs.2 (Or.inr (Or.inl rfl)))⟩
  show (walkTo T T.length).N[j]? = _
  rw [e]
  unfold mapT
  show some (findW _ x, findW _ y, findW _ z) = _
  rw [ea, eb, ec]
end Go.Proofs.YthjmojglcfmkmaaDoor

/- Layer 11: vertices by other numbers, triangles behind the first one backwards: plain mathematics. -/
namespace Go.Proofs.YthjmojglcfmkmaaDoor

/-- Each number once. -/
structure NumOk (n : Nat) (l : List Nat) : Prop where
  len : l.length = n
  lt : ∀ i, i < n → l[i]?.getD 0 < n
  inj : ∀ i j, i < n → j < n → l[i]?.getD 0 = l[j]?.getD 0 → i = j
def swapL (l : List Nat) (a b : Nat) : List Nat := (l.set a (l[b]?.getD 0)).set b (l[a]?.getD 0)
theorem numOk_range (n : Nat) : NumOk n (List.range n) := by
  have e : ∀ i, i < n → (List.range n)[i]?.getD 0 = i := fun i hi => by rw [List.getElem?_range hi]; rfl
  exact ⟨List.length_range, fun i hi => by rw [e i hi]; exact hi, fun i j hi hj h => by rw [e i hi, e j hj] at h; exact h⟩
theorem swap_at {n : Nat} {l : List Nat} (hl : l.length = n) {a b : Nat} (ha : a < n) (hb : b < n) (i : Nat) : (swapL l a b)[i]?.getD 0 = if i = b then l[a]?.getD 0 else if i = a then l[b]?.getD 0 else l[i]?.getD 0 := by
  unfold swapL
  by_cases h1 : b = i
  · subst h1
    rw [List.getElem?_set_self (by rw [List.length_set]; omega), if_pos rfl]
    rfl
  · rw [List.getElem?_set_ne h1, if_neg (Ne.symm h1)]
    by_cases h2 : a = i
    · subst h2
      rw [List.getElem?_set_self (by omega), if_pos rfl]
      rfl
    · rw [List.getElem?_set_ne h2, if_neg (Ne.symm h2)]
theorem NumOk.swap {n : Nat} {l : List Nat} (h : NumOk n l) {a b : Nat} (ha : a < n) (hb : b < n) : NumOk n (swapL l a b) := by
  have e := swap_at h.len ha hb
  refine ⟨by unfold swapL; rw [List.length_set, List.length_set]; exact h.len, fun i hi => ?_, fun i j hi hj he => ?_⟩
  · rw [e]
    split
    · exact h.lt a ha
    · split
      · exact h.lt b hb
      · exact h.lt i hi
  · rw [e, e] at he
    by_cases i1 : i = b
    · rw [if_pos i1] at he
      by_cases j1 : j = b
      · omega
      · rw [if_neg j1] at he
        by_cases j2 : j = a
        · rw [if_pos j2] at he
          have := h.inj a b ha hb he
          omega
        · rw [if_neg j2] at he
          have := h.inj a j ha hj he
          omega
    · rw [if_neg i1] at he
      by_cases i2 : i = a
      · rw [if_pos i2] at he
        by_cases j1 : j = b
        · rw [if_pos j1] at he
          have := h.inj b a hb ha he
          omega
        · rw [if_neg j1] at he
          by_cases j2 : j = a
          · omega
          · rw [if_neg j2] at he
            have := h.inj b j hb hj he
            omega
      · rw [if_neg i2] at he
        by_cases j1 : j = b
        · rw [if_pos j1] at he
          have := h.inj i a hi ha he
          omega
        · rw [if_neg j1] at he
          by_cases j2 : j = a
          · rw [if_pos j2] at he
            have := h.inj i b hi hb he
            omega
          · rw [if_neg j2] at he
            exact h.inj i j hi hj he
/-- A vertex' other number. -/
def sigN (n : Nat) (l : List Nat) (x : Int) : Int := if 0 ≤ x ∧ x < n then ((l[x.toNat]?.getD 0 : Nat) : Int) else x
theorem sigN_range {n : Nat} {l : List Nat} (h : NumOk n l) (x : Int) (hx : 0 ≤ x ∧ x < n) : 0 ≤ sigN n l x ∧ sigN n l x < n := by
  unfold sigN
  rw [if_pos hx]
  have := h.lt x.toNat (by omega)
  omega
theorem sigN_inj {n : Nat} {l : List Nat} (h : NumOk n l) : ∀ x y, sigN n l x = sigN n l y → x = y := by
  intro x y e
  by_cases hx : 0 ≤ x ∧ x < n
  · by_cases hy : 0 ≤ y ∧ y < n
    · unfold sigN at e
      rw [if_pos hx, if_pos hy] at e
      have := h.inj x.toNat y.toNat (by omega) (by omega) (by omega)
      omega
    · have h1 := sigN_range h x hx
      rw [e] at h1
      unfold sigN at h1
      rw [if_neg hy] at h1
      exact absurd h1 hy
  · by_cases hy : 0 ≤ y ∧ y < n
    · have h1 := sigN_range h y hy
      rw [← e] at h1
      unfold sigN at h1
      rw [if_neg hx] at h1
      exact absurd h1 hx
    · unfold sigN at e
      rw [if_neg hx, if_neg hy] at e
      exact e
theorem NumOk.sur {n : Nat} {l : List Nat} (h : NumOk n l) {y : Nat} (hy : y < n) : ∃ i, i < n ∧ l[i]?.getD 0 = y := by
  have hlen := h.len
  by_cases hm : y ∈ l
  · obtain ⟨i, hi, e⟩ := List.getElem_of_mem hm
    exact ⟨i, by omega, by rw [List.getElem?_eq_getElem hi]; exact e⟩
  · exfalso
    have hnd : l.Nodup := by
      unfold List.Nodup
      rw [List.pairwise_iff_getElem]
      intro i j hi hj hij e
      have := h.inj i j (by omega) (by omega) (by rw [List.getElem?_eq_getElem hi, List.getElem?_eq_getElem hj]; exact e)
      omega
    have h1 := nodup_len n (y :: l) (List.nodup_cons.2 ⟨hm, hnd⟩) (fun x hx => by
      rcases List.mem_cons.1 hx with rfl | h2
      · exact hy
      · obtain ⟨i, hi, e⟩ := List.getElem_of_mem h2
        have := h.lt i (by omega)
        rw [List.getElem?_eq_getElem hi] at this
        rw [← e]
        exact this)
    rw [List.length_cons] at h1
    omega
theorem sigN_sur {n : Nat} {l : List Nat} (h : NumOk n l) (y : Int) (hy : 0 ≤ y ∧ y < n) : ∃ x : Int, (0 ≤ x ∧ x < n) ∧ sigN n l x = y := by
  obtain ⟨i, hi, e⟩ := h.sur (show y.toNat < n by omega)
  refine ⟨(i : Int), ⟨by omega, by omega⟩, ?_⟩
  unfold sigN
  rw [if_pos ⟨by omega, by omega⟩, Int.toNat_natCast, e]
  omega
/-- The place of a triangle, all behind the first one backwards. -/
def backI (m i : Nat) : Nat := if i = 0 then 0 else m - i
theorem backI_lt {m i : Nat} (h : i < m) : backI m i < m := by
  unfold backI
  split <;> omega
theorem backI_back {m i : Nat} (h : i < m) : backI m (backI m i) = i := by
  unfold backI
  by_cases e : i = 0
  · rw [if_pos e, if_pos rfl, e]
  · rw [if_neg e, if_neg (by omega)]
    omega
theorem numbers_same {n : Nat} {l : List Nat} (h : NumOk n l) {T T' : List P3} (hl : T'.length = T.length) (ht : ∀ i, ∀ hi : i < T.length, ∃ k, T'[backI T.length i]? = some (rotT k (mapT (sigN n l) T[i]))) : SameW T T' (sigN n l) (backI T.length) := by
  refine ⟨sigN_inj h, hl, fun i j hi hj e => ?_, fun j hj => ?_, ht⟩
  · rw [← backI_back hi, ← backI_back hj, e]
  · rw [hl] at hj
    exact ⟨backI T.length j, backI_lt hj, backI_back hj⟩
end Go.Proofs.YthjmojglcfmkmaaDoor
