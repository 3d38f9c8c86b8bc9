/- Layer 10: pieces by passes, and how they are numbered: plain mathematics. -/
import Derived.Test.YtckjmnbglbegmaaDoorMeshAlg
namespace Go.Proofs.YtckjmnbglbegmaaDoor
open Classical

theorem count_lt {α : Type} {p q : α → Bool} : ∀ {l : List α}, (∀ x ∈ l, p x = true → q x = true) → ∀ {v}, v ∈ l → q v = true → p v = false → l.countP p < l.countP q := by
  intro l
  induction l with
  | nil => intro _ v hv; cases hv
  | cons x l ih =>
    intro h v hv h1 h2
    have hx := h x (List.mem_cons_self ..)
    have hle : l.countP p ≤ l.countP q := List.countP_mono_left (fun y hy => h y (List.mem_cons_of_mem _ hy))
    rw [List.countP_cons, List.countP_cons]
    rcases List.mem_cons.1 hv with rfl | hv
    · rw [h1, h2]; simp; omega
    · have := ih (fun y hy => h y (List.mem_cons_of_mem _ hy)) hv h1 h2
      cases hp : p x with
      | false => cases hq : q x <;> simp <;> omega
      | true => rw [hx hp]; simp; omega
/-- Of each triangle one of its piece, no later one. -/
structure Low (T : List P3) (out : List Nat) : Prop where
  len : out.length = T.length
  le : ∀ (i : Nat) (hi : i < out.length), out[i] ≤ i
  conn : ∀ (i : Nat) (hi : i < out.length), ConnT T (T[out[i]]'(by have := le i hi; omega)) (T[i]'(by omega))
/-- Beside each other, over an edge. -/
def Beside (T : List P3) (i u : Nat) : Prop := ∃ t s, T[i]? = some t ∧ T[u]? = some s ∧ ∃ p q, (p, q) ∈ dirs t ∧ (q, p) ∈ dirs s
def Pass (T : List P3) (out out' : List Nat) : Prop := (∀ i, i < T.length → out'[i]?.getD 0 ≤ out[i]?.getD 0) ∧ ∀ i u, Beside T i u → out'[i]?.getD 0 ≤ out[u]?.getD 0
def First (T : List P3) (f : Nat) : Prop := ∀ j, ∀ hf : f < T.length, ∀ hj : j < T.length, ConnT T T[f] T[j] → f ≤ j
def Settled (T : List P3) (out : List Nat) (f : Nat) : Prop := ∀ i, ∀ hf : f < T.length, ∀ hi : i < T.length, ConnT T T[f] T[i] → out[i]?.getD 0 = f
def far (T : List P3) (out : List Nat) (f : Nat) : Nat := (List.range T.length).countP fun i => out[i]?.getD 0 == f
theorem Low.at_ {T : List P3} {out : List Nat} (h : Low T out) {i : Nat} (hi : i < T.length) : ∃ h2 : i < out.length, out[i]?.getD 0 = out[i] := by
  have h2 : i < out.length := by rw [h.len]; exact hi
  exact ⟨h2, by rw [List.getElem?_eq_getElem h2]; rfl⟩
theorem low_ge {T : List P3} {out : List Nat} (h : Low T out) {f i : Nat} (hf : f < T.length) (hi : i < T.length) (hF : First T f) (hc : ConnT T T[f] T[i]) : f ≤ out[i]?.getD 0 := by
  obtain ⟨h2, e⟩ := h.at_ hi
  rw [e]
  have h3 := h.conn i h2
  have h4 := h.le i h2
  have hlt : out[i] < T.length := by omega
  exact hF _ hf hlt (hc.trans (conn_symm (List.getElem_mem hlt) h3))
theorem tri_same {T : List P3} (hT : T.Nodup) {i j : Nat} (hi : i < T.length) (hj : j < T.length) (e : T[i] = T[j]) : i = j := by
  apply Classical.byContradiction
  intro hne
  rcases Nat.lt_or_gt_of_ne hne with hl | hl
  · exact List.pairwise_iff_getElem.1 hT i j hi hj hl e
  · exact List.pairwise_iff_getElem.1 hT j i hj hi hl e.symm
theorem settle_step {T : List P3} (hT : T.Nodup) {out out' : List Nat} (h : Low T out) (h' : Low T out') (hp : Pass T out out') {f n : Nat} (hf : f < T.length) (hF : First T f) (hs : Settled T out f ∨ n + 1 ≤ far T out f) : Settled T out' f ∨ n + 1 + 1 ≤ far T out' f := by
  have keep : ∀ i, ∀ hi : i < T.length, ConnT T T[f] T[i] → out[i]?.getD 0 = f → out'[i]?.getD 0 = f := fun i hi hc e => by
    have h1 := hp.1 i hi
    have h2 := low_ge h' hf hi hF hc
    omega
  by_cases hall : Settled T out f
  · left
    intro i hf2 hi hc
    exact keep i hi hc (hall i hf2 hi hc)
  · right
    have hn := hs.resolve_left hall
    -- the first one on a way that is not settled
    have hex : ∃ v u, ∃ hv : v < T.length, ∃ hu : u < T.length, ConnT T T[f] T[v] ∧ out[v]?.getD 0 ≠ f ∧ out[u]?.getD 0 = f ∧ Beside T v u := by
      apply Classical.byContradiction
      intro hno
      apply hall
      intro i hf2 hi hc
      have key : ∀ {x}, Reach (fun a b => b ∈ T ∧ ∃ p q, (p, q) ∈ dirs a ∧ (q, p) ∈ dirs b) T[f] x → x ∈ T ∧ ConnT T T[f] x ∧ ∀ j, ∀ hj : j < T.length, T[j] = x → out[j]?.getD 0 = f := by
        intro x hx
        have hbase : out[f]?.getD 0 = f := by
          have h1 := low_ge h hf hf hF Reach.refl
          obtain ⟨h2, e⟩ := h.at_ hf
          have h3 := h.le f h2
          omega
        induction hx with
        | refl =>
          refine ⟨List.getElem_mem hf, Reach.refl, fun j hj e => ?_⟩
          rw [tri_same hT hj hf e]
          exact hbase
        | step hy s ih =>
          rename_i y z
          obtain ⟨i1, i2, i3⟩ := ih
          refine ⟨s.1, i2.step s, fun j hj e => ?_⟩
          obtain ⟨u, hu, eu⟩ := List.mem_iff_getElem.1 i1
          have h1 := i3 u hu eu
          apply Classical.byContradiction
          intro hne
          obtain ⟨_, p, q, s2, s3⟩ := s
          refine hno ⟨j, u, hj, hu, ?_, hne, h1, ?_⟩
          · rw [e]; exact i2.step ⟨by rw [← e]; exact List.getElem_mem hj, p, q, s2, s3⟩
          · exact ⟨z, y, by rw [List.getElem?_eq_getElem hj, e], by rw [List.getElem?_eq_getElem hu, eu], q, p, s3, s2⟩
      exact (key hc).2.2 i hi rfl
    obtain ⟨v, u, hv, hu, hcv, hne, hfu, hb⟩ := hex
    have hv' : out'[v]?.getD 0 = f := by
      have h1 := hp.2 v u hb
      have h2 := low_ge h' hf hv hF hcv
      omega
    have hlt : far T out f < far T out' f := by
      unfold far
      refine count_lt ?_ (List.mem_range.2 hv) (beq_iff_eq.2 hv') (beq_eq_false_iff_ne.2 hne)
      intro i hi he
      rw [List.mem_range] at hi
      have he := beq_iff_eq.1 he
      obtain ⟨h2, e⟩ := h.at_ hi
      have hc : ConnT T T[f] T[i] := by
        have h3 := h.conn i h2
        rw [e] at he
        simp only [he] at h3
        exact h3
      exact beq_iff_eq.2 (keep i hi hc he)
    omega
theorem settle_zero {T : List P3} {out : List Nat} (h : Low T out) {f : Nat} (hf : f < T.length) (hF : First T f) : Settled T out f ∨ 0 + 1 ≤ far T out f := by
  right
  have hbase : out[f]?.getD 0 = f := by
    have h1 := low_ge h hf hf hF Reach.refl
    obtain ⟨h2, e⟩ := h.at_ hf
    have h3 := h.le f h2
    omega
  unfold far
  have : 0 < (List.range T.length).countP fun i => out[i]?.getD 0 == f := List.countP_pos_iff.2 ⟨f, List.mem_range.2 hf, beq_iff_eq.2 hbase⟩
  omega
/-- Of each triangle the first one of its piece. -/
structure Firsts (T : List P3) (O : List Nat) : Prop where
  len : O.length = T.length
  le : ∀ i, i < T.length → O[i]?.getD 0 ≤ i
  idem : ∀ i, i < T.length → O[O[i]?.getD 0]?.getD 0 = O[i]?.getD 0
  same : ∀ i j, ∀ hi : i < T.length, ∀ hj : j < T.length, O[i]?.getD 0 = O[j]?.getD 0 ↔ ConnT T T[i] T[j]
theorem first_of {T : List P3} {i : Nat} (hi : i < T.length) : ∃ f, ∃ hf : f < T.length, First T f ∧ ConnT T T[f] T[i] := by
  have key : ∀ m i, i ≤ m → ∀ hi : i < T.length, ∃ f, ∃ hf : f < T.length, First T f ∧ ConnT T T[f] T[i] := by
    intro m
    induction m with
    | zero =>
      intro i him hi
      refine ⟨i, hi, fun j _ _ _ => by omega, Reach.refl⟩
    | succ m ih =>
      intro i him hi
      by_cases hF : First T i
      · exact ⟨i, hi, hF, Reach.refl⟩
      · unfold First at hF
        have : ∃ j, ∃ hj : j < T.length, ConnT T T[i] T[j] ∧ j < i := by
          apply Classical.byContradiction
          intro hno
          apply hF
          intro j _ hj hc
          apply Classical.byContradiction
          intro hlt
          exact hno ⟨j, hj, hc, by omega⟩
        obtain ⟨j, hj, hc, hlt⟩ := this
        obtain ⟨f, hf, h1, h2⟩ := ih j (by omega) hj
        exact ⟨f, hf, h1, h2.trans (conn_symm (List.getElem_mem hi) hc)⟩
  exact key i i (Nat.le_refl _) hi
/-- After as many passes as there are triangles. -/
theorem firsts_of {T : List P3} {out : List Nat} (h : Low T out) (hs : ∀ f, f < T.length → First T f → Settled T out f ∨ T.length + 1 ≤ far T out f) : Firsts T out := by
  have hset : ∀ f, f < T.length → First T f → Settled T out f := fun f hf hF => by
    rcases hs f hf hF with h1 | h1
    · exact h1
    · exfalso
      have h2 : far T out f ≤ (List.range T.length).length := List.countP_le_length
      rw [List.length_range] at h2
      omega
  have hof : ∀ i, ∀ hi : i < T.length, ∃ f, ∃ hf : f < T.length, First T f ∧ ConnT T T[f] T[i] ∧ out[i]?.getD 0 = f := fun i hi => by
    obtain ⟨f, hf, hF, hc⟩ := first_of hi
    exact ⟨f, hf, hF, hc, hset f hf hF i hf hi hc⟩
  refine ⟨h.len, fun i hi => ?_, fun i hi => ?_, fun i j hi hj => ?_⟩
  · obtain ⟨h2, e⟩ := h.at_ hi
    rw [e]; exact h.le i h2
  · obtain ⟨f, hf, hF, hc, e⟩ := hof i hi
    rw [e]
    exact hset f hf hF f hf hf Reach.refl
  · obtain ⟨f, hf, hF, hc, e⟩ := hof i hi
    obtain ⟨g, hg, hG, hd, e2⟩ := hof j hj
    rw [e, e2]
    constructor
    · intro he
      subst he
      exact (conn_symm (List.getElem_mem hf) hc).trans hd
    · intro hij
      have h1 : ConnT T T[f] T[j] := hc.trans hij
      have := hset f hf hF j hf hj h1
      rw [e2] at this
      exact this.symm
/-- How many first ones lie ahead. -/
def numF (O : List Nat) (m : Nat) : Nat := (List.range m).countP fun j => O[j]?.getD 0 == j
theorem numF_next (O : List Nat) (m : Nat) : numF O (m + 1) = numF O m + if O[m]?.getD 0 == m then 1 else 0 := by
  unfold numF
  rw [List.range_succ, List.countP_append, List.countP_singleton]
theorem numF_lt {O : List Nat} {f g : Nat} (hf : O[f]?.getD 0 = f) (h : f < g) : numF O f < numF O g := by
  have key : ∀ d, numF O f < numF O (f + 1 + d) := by
    intro d
    induction d with
    | zero => rw [Nat.add_zero, numF_next, hf]; simp
    | succ d ih => rw [← Nat.add_assoc, numF_next]; omega
  have := key (g - (f + 1))
  rwa [show f + 1 + (g - (f + 1)) = g by omega] at this
def piecesOf (O : List Nat) : List Nat := (List.range O.length).map fun i => numF O (O[i]?.getD 0)
theorem pieces_of {T : List P3} {O : List Nat} (h : Firsts T O) : PiecesIs T (piecesOf O) := by
  have hlen : (piecesOf O).length = T.length := by unfold piecesOf; rw [List.length_map, List.length_range, h.len]
  have hat : ∀ (i : Nat) (hi : i < (piecesOf O).length), (piecesOf O)[i] = numF O (O[i]?.getD 0) := fun i hi => by
    simp only [piecesOf, List.getElem_map, List.getElem_range]
  refine ⟨hlen, fun i j hi hj => ?_, fun i hi => ?_⟩
  · rw [hat, hat, ← h.same i j (hlen ▸ hi) (hlen ▸ hj)]
    constructor
    · intro he
      apply Classical.byContradiction
      intro hne
      rcases Nat.lt_or_gt_of_ne hne with hl | hl
      · have := numF_lt (h.idem i (hlen ▸ hi)) hl; omega
      · have := numF_lt (h.idem j (hlen ▸ hj)) hl; omega
    · intro he; rw [he]
  · have hnum : ∀ m, m ≤ (piecesOf O).length → numF O m ≤ maxNext ((piecesOf O).take m) := by
      intro m
      induction m with
      | zero => intro _; exact Nat.zero_le _
      | succ m ih =>
        intro hm
        have ih := ih (by omega)
        rw [numF_next, List.take_succ_eq_append_getElem (by omega), maxNext_app, hat m (by omega)]
        have e : maxNext [numF O (O[m]?.getD 0)] = numF O (O[m]?.getD 0) + 1 := by show max _ 0 = _; omega
        rw [e]
        split
        · rename_i hb
          rw [beq_iff_eq.1 hb]
          omega
        · omega
    rw [hat]
    have hle := h.le i (hlen ▸ hi)
    by_cases hc : O[i]?.getD 0 = i
    · rw [hc]; exact hnum i (by omega)
    · have hm : numF O (O[i]?.getD 0) ∈ (piecesOf O).take i := by
        rw [List.mem_iff_getElem]
        refine ⟨O[i]?.getD 0, by rw [List.length_take]; omega, ?_⟩
        rw [List.getElem_take, hat, h.idem i (hlen ▸ hi)]
      have := maxNext_mem hm
      omega
theorem firsts_total (T : List P3) : ∃ O, Firsts T O := by
  have hg0 : ∀ i : Nat, ∃ f : Nat, ∀ hi : i < T.length, ∃ hf : f < T.length, First T f ∧ ConnT T T[f] T[i] := fun i => by
    by_cases hi : i < T.length
    · obtain ⟨f, hf, h1, h2⟩ := first_of hi
      exact ⟨f, fun _ => ⟨hf, h1, h2⟩⟩
    · exact ⟨0, fun h => absurd h hi⟩
  obtain ⟨g, hg⟩ := Classical.axiomOfChoice hg0
  have hat : ∀ i, i < T.length → ((List.range T.length).map g)[i]?.getD 0 = g i := fun i hi => by
    rw [List.getElem?_map, List.getElem?_range hi]; rfl
  have one : ∀ {f f' i : Nat} (hi : i < T.length) (hf : f < T.length) (hf' : f' < T.length), First T f → First T f' → ConnT T T[f] T[i] → ConnT T T[f'] T[i] → f = f' := fun {f f' i} hi hf hf' h1 h2 c1 c2 => by
    have a := h1 f' hf hf' (c1.trans (conn_symm (List.getElem_mem hf') c2))
    have b := h2 f hf' hf (c2.trans (conn_symm (List.getElem_mem hf) c1))
    omega
  refine ⟨(List.range T.length).map g, by rw [List.length_map, List.length_range], fun i hi => ?_, fun i hi => ?_, fun i j hi hj => ?_⟩
  · rw [hat i hi]
    obtain ⟨hf, h1, h2⟩ := hg i hi
    exact h1 i hf hi h2
  · rw [hat i hi]
    obtain ⟨hf, h1, h2⟩ := hg i hi
    rw [hat _ hf]
    obtain ⟨hf2, h3, h4⟩ := hg (g i) hf
    exact one hf hf2 hf h3 h1 h4 Reach.refl
  · rw [hat i hi, hat j hj]
    obtain ⟨hf, h1, h2⟩ := hg i hi
    obtain ⟨hf2, h3, h4⟩ := hg j hj
    constructor
    · intro he
      have h5 : ConnT T (T[g i]'hf) T[j] := by
        have e : T[g i]'hf = T[g j]'hf2 := by congr 1
        rw [e]; exact h4
      exact (conn_symm (List.getElem_mem hf) h2).trans h5
    · intro hc
      exact one hj hf hf2 h1 h3 (h2.trans hc) h4
theorem pieces_total (T : List P3) : ∃ p, PiecesIs T p := by
  obtain ⟨O, hO⟩ := firsts_total T
  exact ⟨_, pieces_of hO⟩
end Go.Proofs.YtckjmnbglbegmaaDoor
