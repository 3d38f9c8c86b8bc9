/- Layer 10: classes of a relation, orbits of what is one to one, and how many of either there are: plain mathematics. -/
import Derived.Test.YtckjmnbglbegmaaDoorWideMath
namespace Go.Proofs.YtckjmnbglbegmaaDoor
open Classical

/-- How many classes a relation makes of a row: those are counted that have nobody of theirs behind them. -/
def cls {α : Type} (r : α → α → Prop) [DecidableRel r] : List α → Nat
  | [] => 0
  | x :: l => if ∃ y ∈ l, r x y then cls r l else cls r l + 1

structure Eqv {α : Type} (r : α → α → Prop) : Prop where
  refl : ∀ x, r x x
  symm : ∀ {x y}, r x y → r y x
  trans : ∀ {x y z}, r x y → r y z → r x z

theorem cls_congr {α : Type} {r s : α → α → Prop} [DecidableRel r] [DecidableRel s] : ∀ (l : List α), (∀ x ∈ l, ∀ y ∈ l, r x y ↔ s x y) → cls r l = cls s l := by
  intro l
  induction l with
  | nil => intro _; rfl
  | cons x l ih =>
    intro h
    have ih := ih (fun a ha b hb => h a (List.mem_cons_of_mem _ ha) b (List.mem_cons_of_mem _ hb))
    unfold cls
    have e : (∃ y ∈ l, r x y) ↔ (∃ y ∈ l, s x y) := by
      constructor
      · rintro ⟨y, hy, h1⟩; exact ⟨y, hy, (h x (List.mem_cons_self ..) y (List.mem_cons_of_mem _ hy)).1 h1⟩
      · rintro ⟨y, hy, h1⟩; exact ⟨y, hy, (h x (List.mem_cons_self ..) y (List.mem_cons_of_mem _ hy)).2 h1⟩
    simp only [e, ih]
/-- Two classes become one. -/
def merge {α : Type} (r : α → α → Prop) (a b : α) (x y : α) : Prop := r x y ∨ (r x a ∧ r b y) ∨ (r x b ∧ r a y)
theorem merge_eqv {α : Type} {r : α → α → Prop} (h : Eqv r) (a b : α) : Eqv (merge r a b) := by
  refine ⟨fun x => Or.inl (h.refl x), ?_, ?_⟩
  · rintro x y (h1 | ⟨h1, h2⟩ | ⟨h1, h2⟩)
    · exact Or.inl (h.symm h1)
    · exact Or.inr (Or.inr ⟨h.symm h2, h.symm h1⟩)
    · exact Or.inr (Or.inl ⟨h.symm h2, h.symm h1⟩)
  · rintro x y z (h1 | ⟨h1, h2⟩ | ⟨h1, h2⟩) (h3 | ⟨h3, h4⟩ | ⟨h3, h4⟩)
    · exact Or.inl (h.trans h1 h3)
    · exact Or.inr (Or.inl ⟨h.trans h1 h3, h4⟩)
    · exact Or.inr (Or.inr ⟨h.trans h1 h3, h4⟩)
    · exact Or.inr (Or.inl ⟨h1, h.trans h2 h3⟩)
    · exact Or.inr (Or.inl ⟨h1, h4⟩)
    · exact Or.inl (h.trans h1 h4)
    · exact Or.inr (Or.inr ⟨h1, h.trans h2 h3⟩)
    · exact Or.inl (h.trans h1 h4)
    · exact Or.inr (Or.inr ⟨h1, h4⟩)
theorem cls_merge_gen {α : Type} {r : α → α → Prop} (h : Eqv r) {a b : α} (hab : ¬ r a b) : ∀ l : List α, cls r l = cls (merge r a b) l + if (∃ y ∈ l, r a y) ∧ (∃ y ∈ l, r b y) then 1 else 0 := by
  intro l
  induction l with
  | nil => simp [cls]
  | cons x l ih =>
    have hba : ¬ r b a := fun e => hab (h.symm e)
    have hE : ∀ c, (∃ y ∈ x :: l, r c y) ↔ (r c x ∨ ∃ y ∈ l, r c y) := by
      intro c
      simp only [List.mem_cons, exists_eq_or_imp]
    have hM : (∃ y ∈ l, merge r a b x y) ↔ ((∃ y ∈ l, r x y) ∨ (r x a ∧ ∃ y ∈ l, r b y) ∨ (r x b ∧ ∃ y ∈ l, r a y)) := by
      constructor
      · rintro ⟨y, hy, h1 | ⟨h1, h2⟩ | ⟨h1, h2⟩⟩
        · exact Or.inl ⟨y, hy, h1⟩
        · exact Or.inr (Or.inl ⟨h1, y, hy, h2⟩)
        · exact Or.inr (Or.inr ⟨h1, y, hy, h2⟩)
      · rintro (⟨y, hy, h1⟩ | ⟨h1, y, hy, h2⟩ | ⟨h1, y, hy, h2⟩)
        · exact ⟨y, hy, Or.inl h1⟩
        · exact ⟨y, hy, Or.inr (Or.inl ⟨h1, h2⟩)⟩
        · exact ⟨y, hy, Or.inr (Or.inr ⟨h1, h2⟩)⟩
    unfold cls
    simp only [hE, hM]
    rw [ih]
    by_cases xa : r x a
    · have xb : ¬ r x b := fun e => hab (h.trans (h.symm xa) e)
      have ax : r a x := h.symm xa
      have bx : ¬ r b x := fun e => xb (h.symm e)
      have e1 : (∃ y ∈ l, r x y) ↔ (∃ y ∈ l, r a y) := by
        constructor
        · rintro ⟨y, hy, h1⟩; exact ⟨y, hy, h.trans ax h1⟩
        · rintro ⟨y, hy, h1⟩; exact ⟨y, hy, h.trans xa h1⟩
      simp only [e1, xa, xb, ax, bx, true_and, false_and, or_false, true_or, false_or]
      by_cases A : ∃ y ∈ l, r a y <;> by_cases B : ∃ y ∈ l, r b y <;> simp [A, B]
    · by_cases xb : r x b
      · have bx : r b x := h.symm xb
        have ax : ¬ r a x := fun e => xa (h.symm e)
        have e1 : (∃ y ∈ l, r x y) ↔ (∃ y ∈ l, r b y) := by
          constructor
          · rintro ⟨y, hy, h1⟩; exact ⟨y, hy, h.trans bx h1⟩
          · rintro ⟨y, hy, h1⟩; exact ⟨y, hy, h.trans xb h1⟩
        simp only [e1, xa, xb, ax, bx, true_and, false_and, true_or, false_or]
        by_cases A : ∃ y ∈ l, r a y <;> by_cases B : ∃ y ∈ l, r b y <;> simp [A, B]
      · have bx : ¬ r b x := fun e => xb (h.symm e)
        have ax : ¬ r a x := fun e => xa (h.symm e)
        simp only [xa, xb, ax, bx, false_and, or_false, false_or]
        by_cases X : ∃ y ∈ l, r x y <;> by_cases A : ∃ y ∈ l, r a y <;> by_cases B : ∃ y ∈ l, r b y <;> simp [X, A, B]
theorem cls_merge {α : Type} {r : α → α → Prop} (h : Eqv r) {a b : α} (hab : ¬ r a b) {l : List α} (ha : a ∈ l) (hb : b ∈ l) : cls r l = cls (merge r a b) l + 1 := by
  rw [cls_merge_gen h hab l, if_pos ⟨⟨a, ha, h.refl a⟩, ⟨b, hb, h.refl b⟩⟩]
theorem merge_same {α : Type} {r : α → α → Prop} (h : Eqv r) {a b : α} (hab : r a b) (x y : α) : merge r a b x y ↔ r x y := by
  constructor
  · rintro (h1 | ⟨h1, h2⟩ | ⟨h1, h2⟩)
    · exact h1
    · exact h.trans (h.trans h1 hab) h2
    · exact h.trans (h.trans h1 (h.symm hab)) h2
  · exact Or.inl
theorem cls_merge_le {α : Type} {r : α → α → Prop} (h : Eqv r) (a b : α) (l : List α) : cls r l ≤ cls (merge r a b) l + 1 := by
  by_cases hab : r a b
  · rw [cls_congr l (fun x _ y _ => (merge_same h hab x y).symm)]; omega
  · rw [cls_merge_gen h hab l]; split <;> omega
/-- By a key: as many classes as keys. -/
theorem cls_key {α κ : Type} [DecidableEq κ] (k : α → κ) : ∀ (l : List α) (ks : List κ), ks.Nodup → (∀ x ∈ l, k x ∈ ks) → (∀ c ∈ ks, ∃ x ∈ l, k x = c) → cls (fun x y => k x = k y) l = ks.length := by
  intro l
  induction l with
  | nil =>
    intro ks _ _ h
    cases ks with
    | nil => rfl
    | cons c ks => obtain ⟨x, hx, _⟩ := h c (List.mem_cons_self ..); cases hx
  | cons x l ih =>
    intro ks hn h1 h2
    unfold cls
    have hx := h1 x (List.mem_cons_self ..)
    by_cases hc : ∃ y ∈ l, k x = k y
    · rw [if_pos hc]
      obtain ⟨y, hy, e⟩ := hc
      refine ih ks hn (fun z hz => h1 z (List.mem_cons_of_mem _ hz)) (fun c hc => ?_)
      obtain ⟨z, hz, e2⟩ := h2 c hc
      rcases List.mem_cons.1 hz with rfl | hz
      · exact ⟨y, hy, e ▸ e2⟩
      · exact ⟨z, hz, e2⟩
    · rw [if_neg hc]
      have hl : (ks.erase (k x)).length + 1 = ks.length := by
        rw [List.length_erase_of_mem hx]
        have := List.length_pos_of_mem hx
        omega
      rw [ih (ks.erase (k x)) (hn.erase _) (fun z hz => ?_) (fun c hc2 => ?_), hl]
      · have hz2 := h1 z (List.mem_cons_of_mem _ hz)
        exact (List.mem_erase_of_ne (fun e => hc ⟨z, hz, e.symm⟩)).2 hz2
      · have hm := List.mem_of_mem_erase hc2
        have hne : c ≠ k x := fun e => by rw [e] at hc2; exact (List.Nodup.not_mem_erase hn) hc2
        obtain ⟨z, hz, e2⟩ := h2 c hm
        rcases List.mem_cons.1 hz with rfl | hz
        · exact absurd e2.symm hne
        · exact ⟨z, hz, e2⟩
theorem cls_all {α : Type} {r : α → α → Prop} [DecidableRel r] : ∀ (l : List α), (∀ x ∈ l, ∀ y ∈ l, r x y) → cls r l ≤ 1 := by
  intro l
  induction l with
  | nil => intro _; simp [cls]
  | cons x l ih =>
    intro h
    unfold cls
    have ih := ih (fun a ha b hb => h a (List.mem_cons_of_mem _ ha) b (List.mem_cons_of_mem _ hb))
    cases l with
    | nil => simp [cls]
    | cons y l => rw [if_pos ⟨y, List.mem_cons_self .., h x (List.mem_cons_self ..) y (List.mem_cons_of_mem _ (List.mem_cons_self ..))⟩]; exact ih
theorem cls_eq {α : Type} {r : α → α → Prop} [DecidableRel r] (hr : ∀ x y, r x y → x = y) : ∀ (l : List α), l.Nodup → cls r l = l.length := by
  intro l
  induction l with
  | nil => intro _; rfl
  | cons x l ih =>
    intro h
    rw [List.nodup_cons] at h
    unfold cls
    rw [if_neg (fun ⟨y, hy, e⟩ => h.1 ((hr _ _ e) ▸ hy)), ih h.2]
    rfl
/-- All of a row of pairs made one, one by one. -/
def merges {α : Type} (r : α → α → Prop) : List (α × α) → (α → α → Prop)
  | [] => r
  | e :: l => merges (merge r e.1 e.2) l
theorem merges_eqv {α : Type} : ∀ (l : List (α × α)) {r : α → α → Prop}, Eqv r → Eqv (merges r l) := by
  intro l
  induction l with
  | nil => intro r h; exact h
  | cons e l ih => intro r h; exact ih (merge_eqv h _ _)
theorem merges_le {α : Type} : ∀ (l : List (α × α)) {r : α → α → Prop}, Eqv r → ∀ xs : List α, cls r xs ≤ cls (merges r l) xs + l.length := by
  intro l
  induction l with
  | nil => intro r h xs; exact Nat.le_refl _
  | cons e l ih =>
    intro r h xs
    have h1 := cls_merge_le h e.1 e.2 xs
    have h2 := ih (merge_eqv h e.1 e.2) xs
    show _ ≤ cls (merges (merge r e.1 e.2) l) xs + (l.length + 1)
    omega
theorem merges_mono {α : Type} : ∀ (l : List (α × α)) {r : α → α → Prop} {x y : α}, r x y → merges r l x y := by
  intro l
  induction l with
  | nil => intro r x y h; exact h
  | cons e l ih => intro r x y h; exact ih (Or.inl h)
theorem merges_mem {α : Type} : ∀ (l : List (α × α)) {r : α → α → Prop}, Eqv r → ∀ {e}, e ∈ l → merges r l e.1 e.2 := by
  intro l
  induction l with
  | nil => intro r _ e h; cases h
  | cons d l ih =>
    intro r h e he
    rcases List.mem_cons.1 he with rfl | he
    · exact merges_mono l (Or.inr (Or.inl ⟨h.refl _, h.refl _⟩))
    · exact ih (merge_eqv h _ _) he
theorem merges_least {α : Type} : ∀ (l : List (α × α)) {r s : α → α → Prop}, Eqv s → (∀ x y, r x y → s x y) → (∀ e ∈ l, s e.1 e.2) → ∀ x y, merges r l x y → s x y := by
  intro l
  induction l with
  | nil => intro r s _ h _ x y h1; exact h x y h1
  | cons e l ih =>
    intro r s hs h he x y h1
    refine ih hs (fun x y h2 => ?_) (fun e' h' => he e' (List.mem_cons_of_mem _ h')) x y h1
    have h0 := he e (List.mem_cons_self ..)
    rcases h2 with h3 | ⟨h3, h4⟩ | ⟨h3, h4⟩
    · exact h x y h3
    · exact hs.trans (h x _ h3) (hs.trans h0 (h _ y h4))
    · exact hs.trans (h x _ h3) (hs.trans (hs.symm h0) (h _ y h4))
theorem nodup_le {α : Type} : ∀ (l D : List α), l.Nodup → (∀ x ∈ l, x ∈ D) → l.length ≤ D.length := by
  intro l
  induction l with
  | nil => intro D _ _; exact Nat.zero_le _
  | cons x l ih =>
    intro D hn h
    rw [List.nodup_cons] at hn
    have hx := h x (List.mem_cons_self ..)
    have h1 := ih (D.erase x) hn.2 (fun y hy => (List.mem_erase_of_ne (fun e => hn.1 (by rw [← e]; exact hy))).2 (h y (List.mem_cons_of_mem _ hy)))
    rw [List.length_erase_of_mem hx] at h1
    have := List.length_pos_of_mem hx
    show l.length + 1 ≤ _
    omega
/-- One to one, within a row. -/
structure PermOn {α : Type} (D : List α) (p : α → α) : Prop where
  maps : ∀ x ∈ D, p x ∈ D
  inj : ∀ x ∈ D, ∀ y ∈ D, p x = p y → x = y
def it {α : Type} (p : α → α) : Nat → α → α
  | 0, x => x
  | n + 1, x => p (it p n x)
theorem it_add {α : Type} (p : α → α) (m : Nat) : ∀ (n : Nat) (x : α), it p (n + m) x = it p n (it p m x) := by
  intro n
  induction n with
  | zero => intro x; rw [Nat.zero_add]; rfl
  | succ n ih => intro x; rw [Nat.succ_add]; show p _ = p _; rw [ih]
theorem it_in {α : Type} {D : List α} {p : α → α} (h : PermOn D p) {x : α} (hx : x ∈ D) : ∀ n, it p n x ∈ D := by
  intro n
  induction n with
  | zero => exact hx
  | succ n ih => exact h.maps _ ih
theorem it_inj {α : Type} {D : List α} {p : α → α} (h : PermOn D p) {x y : α} (hx : x ∈ D) (hy : y ∈ D) : ∀ n, it p n x = it p n y → x = y := by
  intro n
  induction n with
  | zero => exact fun e => e
  | succ n ih => exact fun e => ih (h.inj _ (it_in h hx n) _ (it_in h hy n) e)
/-- All come back. -/
theorem it_back {α : Type} {D : List α} {p : α → α} (h : PermOn D p) {x : α} (hx : x ∈ D) : ∃ n, 0 < n ∧ it p n x = x := by
  by_cases hn : ((List.range (D.length + 1)).map (fun n => it p n x)).Nodup
  · exfalso
    have := nodup_le _ D hn (fun y hy => by
      obtain ⟨n, _, rfl⟩ := List.mem_map.1 hy
      exact it_in h hx n)
    rw [List.length_map, List.length_range] at this
    omega
  · have hp : ¬ (List.range (D.length + 1)).Pairwise (fun i j => it p i x ≠ it p j x) := fun hp => hn (List.pairwise_map.2 hp)
    apply Classical.byContradiction
    intro hc
    apply hp
    refine List.Pairwise.imp ?_ List.pairwise_lt_range
    intro i j hij e
    apply hc
    refine ⟨j - i, by omega, ?_⟩
    have e2 : it p j x = it p i (it p (j - i) x) := by rw [← it_add]; congr 1; omega
    rw [e2] at e
    exact (it_inj h hx (it_in h hx _) i e).symm
inductive Orb {α : Type} (D : List α) (p : α → α) : α → α → Prop
  | refl (x : α) : Orb D p x x
  | step (x : α) (h : x ∈ D) : Orb D p x (p x)
  | symm {x y : α} (h : Orb D p x y) : Orb D p y x
  | trans {x y z : α} (h : Orb D p x y) (h2 : Orb D p y z) : Orb D p x z
theorem Orb.eqv {α : Type} (D : List α) (p : α → α) : Eqv (Orb D p) := ⟨Orb.refl, Orb.symm, Orb.trans⟩
theorem Orb.least {α : Type} {D : List α} {p : α → α} {s : α → α → Prop} (hs : Eqv s) (h : ∀ x ∈ D, s x (p x)) : ∀ {x y}, Orb D p x y → s x y := by
  intro x y ho
  induction ho with
  | refl x => exact hs.refl x
  | step x hx => exact h x hx
  | symm _ ih => exact hs.symm ih
  | trans _ _ i1 i2 => exact hs.trans i1 i2
theorem Orb.it {α : Type} {D : List α} {p : α → α} (h : PermOn D p) {x : α} (hx : x ∈ D) : ∀ n, Orb D p x (it p n x) := by
  intro n
  induction n with
  | zero => exact Orb.refl _
  | succ n ih => exact Orb.trans ih (Orb.step _ (it_in h hx n))
/-- Who is in one orbit is come to by steps. -/
theorem Orb.steps {α : Type} {D : List α} {p : α → α} (h : PermOn D p) {x y : α} (ho : Orb D p x y) : x ∈ D → ∃ n, Go.Proofs.YtckjmnbglbegmaaDoor.it p n x = y := by
  have key : ∀ {x y}, Orb D p x y → (x ∈ D ↔ y ∈ D) ∧ (x ∈ D → (∃ n, Go.Proofs.YtckjmnbglbegmaaDoor.it p n x = y) ∧ ∃ n, Go.Proofs.YtckjmnbglbegmaaDoor.it p n y = x) := by
    intro x y ho

    induction ho with
    | refl x => exact ⟨Iff.rfl, fun _ => ⟨⟨0, rfl⟩, ⟨0, rfl⟩⟩⟩
    | step x hx =>
      refine ⟨⟨fun _ => h.maps x hx, fun _ => hx⟩, fun _ => ⟨⟨1, rfl⟩, ?_⟩⟩
      obtain ⟨n, hn, e⟩ := it_back h hx
      refine ⟨n - 1, ?_⟩
      have e2 : Go.Proofs.YtckjmnbglbegmaaDoor.it p ((n - 1) + 1) x = Go.Proofs.YtckjmnbglbegmaaDoor.it p (n - 1) (Go.Proofs.YtckjmnbglbegmaaDoor.it p 1 x) := it_add p 1 (n - 1) x
      rw [show n - 1 + 1 = n by omega, e] at e2
      exact e2.symm
    | symm _ ih => exact ⟨ih.1.symm, fun hy => ⟨(ih.2 (ih.1.2 hy)).2, (ih.2 (ih.1.2 hy)).1⟩⟩
    | trans _ _ i1 i2 =>
      refine ⟨i1.1.trans i2.1, fun hx => ?_⟩
      obtain ⟨⟨n1, e1⟩, ⟨m1, f1⟩⟩ := i1.2 hx
      obtain ⟨⟨n2, e2⟩, ⟨m2, f2⟩⟩ := i2.2 (i1.1.1 hx)
      exact ⟨⟨n2 + n1, by rw [it_add, e1, e2]⟩, ⟨m1 + m2, by rw [it_add, f2, f1]⟩⟩
  intro hx
  exact ((key ho).2 hx).1
/-- Two change their places first. -/
def swapped {α : Type} [DecidableEq α] (p : α → α) (a b x : α) : α := if x = a then p b else if x = b then p a else p x
theorem swapped_a {α : Type} [DecidableEq α] (p : α → α) (a b : α) : swapped p a b a = p b := if_pos rfl
theorem swapped_b {α : Type} [DecidableEq α] (p : α → α) {a b : α} (h : a ≠ b) : swapped p a b b = p a := by unfold swapped; rw [if_neg (Ne.symm h), if_pos rfl]
theorem swapped_o {α : Type} [DecidableEq α] (p : α → α) {a b x : α} (h1 : x ≠ a) (h2 : x ≠ b) : swapped p a b x = p x := by unfold swapped; rw [if_neg h1, if_neg h2]
theorem swapped_perm {α : Type} [DecidableEq α] {D : List α} {p : α → α} (h : PermOn D p) {a b : α} (ha : a ∈ D) (hb : b ∈ D) (hn : a ≠ b) : PermOn D (swapped p a b) := by
  refine ⟨fun x hx => ?_, fun x hx y hy e => ?_⟩
  · unfold swapped
    split
    · exact h.maps b hb
    · split
      · exact h.maps a ha
      · exact h.maps x hx
  · unfold swapped at e
    have hne : ∀ {u v}, u ∈ D → v ∈ D → p u = p v → u = v := fun hu hv e => h.inj _ hu _ hv e
    by_cases x1 : x = a <;> by_cases x2 : x = b <;> by_cases y1 : y = a <;> by_cases y2 : y = b <;> simp only [x1, x2, y1, y2, if_true, if_false] at e <;> grind
theorem swapped_twice {α : Type} [DecidableEq α] (p : α → α) {a b : α} (h : a ≠ b) : swapped (swapped p a b) a b = p := by
  funext x
  by_cases h1 : x = a
  · rw [h1, swapped_a, swapped_b p h]
  · by_cases h2 : x = b
    · rw [h2, swapped_b _ h, swapped_a]
    · rw [swapped_o _ h1 h2, swapped_o _ h1 h2]
theorem orb_merge {α : Type} [DecidableEq α] {D : List α} {p : α → α} {a b : α} (ha : a ∈ D) (hb : b ∈ D) (hn : a ≠ b) : ∀ {x y}, Orb D (swapped p a b) x y → merge (Orb D p) a b x y := by
  intro x y
  refine Orb.least (merge_eqv (Orb.eqv D p) a b) (fun x hx => ?_)
  by_cases h1 : x = a
  · rw [h1, swapped_a]
    exact Or.inr (Or.inl ⟨Orb.refl _, Orb.step b hb⟩)
  · by_cases h2 : x = b
    · rw [h2, swapped_b p hn]
      exact Or.inr (Or.inr ⟨Orb.refl _, Orb.step a ha⟩)
    · rw [swapped_o p h1 h2]
      exact Or.inl (Orb.step x hx)
/-- Of two orbits one. -/
theorem orb_join {α : Type} [DecidableEq α] {D : List α} {p : α → α} (h : PermOn D p) {a b : α} (ha : a ∈ D) (hb : b ∈ D) (hab : ¬ Orb D p a b) : ∀ x y, Orb D (swapped p a b) x y ↔ merge (Orb D p) a b x y := by
  have hn : a ≠ b := fun e => hab (e ▸ Orb.refl _)
  have hq := swapped_perm h ha hb hn
  have hba : Orb D (swapped p a b) b a := by
    obtain ⟨n, hn0, e⟩ := it_back h ha
    -- the least way back
    have hex : ∃ m, 0 < m ∧ it p m a = a ∧ ∀ i, 0 < i → i < m → it p i a ≠ a := by
      clear hab hq
      induction n using Nat.strongRecOn with
      | ind n ih =>
        by_cases hc : ∃ i, 0 < i ∧ i < n ∧ it p i a = a
        · obtain ⟨i, h1, h2, h3⟩ := hc
          exact ih i h2 h1 h3
        · exact ⟨n, hn0, e, fun i h1 h2 h3 => hc ⟨i, h1, h2, h3⟩⟩
    obtain ⟨m, hm, em, hmin⟩ := hex
    have hw : ∀ i, i < m → Orb D (swapped p a b) b (it p (i + 1) a) := by
      intro i
      induction i with
      | zero =>
        intro _
        have := Orb.step (p := swapped p a b) b hb
        rw [swapped_b p hn] at this
        exact this
      | succ i ih =>
        intro hi
        have h1 := ih (by omega)
        have h2 : it p (i + 1) a ≠ a := hmin _ (by omega) hi
        have h3 : it p (i + 1) a ≠ b := fun e => hab (e ▸ Orb.it h ha _)
        have h4 := Orb.step (p := swapped p a b) (it p (i + 1) a) (it_in h ha _)
        rw [swapped_o p h2 h3] at h4
        exact Orb.trans h1 h4
    have := hw (m - 1) (by omega)
    rw [show m - 1 + 1 = m by omega, em] at this
    exact this
  intro x y
  refine ⟨orb_merge ha hb hn, ?_⟩
  have hsub : ∀ {x y}, Orb D p x y → Orb D (swapped p a b) x y := by
    intro x y
    refine Orb.least (Orb.eqv _ _) (fun x hx => ?_)
    by_cases h1 : x = a
    · have h3 := Orb.step (p := swapped p a b) b hb
      rw [swapped_b p hn] at h3
      rw [h1]
      exact Orb.trans (Orb.symm hba) h3
    · by_cases h2 : x = b
      · have h3 := Orb.step (p := swapped p a b) a ha
        rw [swapped_a] at h3
        rw [h2]
        exact Orb.trans hba h3
      · have h3 := Orb.step (p := swapped p a b) x hx
        rw [swapped_o p h1 h2] at h3
        exact h3
  rintro (h1 | ⟨h1, h2⟩ | ⟨h1, h2⟩)
  · exact hsub h1
  · exact Orb.trans (hsub h1) (Orb.trans (Orb.symm hba) (hsub h2))
  · exact Orb.trans (hsub h1) (Orb.trans hba (hsub h2))
/-- Of one orbit two. -/
theorem orb_part {α : Type} [DecidableEq α] {D : List α} {p : α → α} (h : PermOn D p) {a b : α} (ha : a ∈ D) (hb : b ∈ D) (hn : a ≠ b) (hab : Orb D p a b) : ¬ Orb D (swapped p a b) a b := by
  have hq := swapped_perm h ha hb hn
  obtain ⟨n, e⟩ := Orb.steps h hab ha
  have hex : ∃ m, it p m a = b ∧ ∀ i, i < m → it p i a ≠ b := by
    clear hab hq
    induction n using Nat.strongRecOn with
    | ind n ih =>
      by_cases hc : ∃ i, i < n ∧ it p i a = b
      · obtain ⟨i, h2, h3⟩ := hc
        exact ih i h2 h3
      · exact ⟨n, e, fun i h2 h3 => hc ⟨i, h2, h3⟩⟩
  obtain ⟨m, em, hmin⟩ := hex
  have hm0 : 0 < m := by
    rcases Nat.eq_zero_or_pos m with rfl | h0
    · exact absurd em hn
    · exact h0
  have hna : ∀ i, 0 < i → i ≤ m → it p i a ≠ a := by
    intro i h1 h2 h3
    have e2 : it p m a = it p (m - i) (it p i a) := by rw [← it_add]; congr 1; omega
    rw [h3, em] at e2
    exact hmin (m - i) (by omega) e2.symm
  let S : α → Prop := fun x => ∃ i, 0 < i ∧ i ≤ m ∧ it p i a = x
  have hSb : S b := ⟨m, hm0, Nat.le_refl _, em⟩
  have hSa : ¬ S a := fun ⟨i, h1, h2, h3⟩ => hna i h1 h2 h3
  have hstep : ∀ x ∈ D, (S x ↔ S (swapped p a b x)) := by
    intro x hx
    constructor
    · rintro ⟨i, h1, h2, rfl⟩
      by_cases hi : i = m
      · rw [hi, em, swapped_b p hn]
        exact ⟨1, by omega, by omega, rfl⟩
      · rw [swapped_o p (hna i h1 h2) (hmin i (by omega))]
        exact ⟨i + 1, by omega, by omega, rfl⟩
    · rintro ⟨i, h1, h2, h3⟩
      by_cases hi : i = 1
      · rw [hi] at h3
        have h4 : swapped p a b x = swapped p a b b := by rw [swapped_b p hn]; exact h3.symm
        rw [hq.inj x hx b hb h4]
        exact hSb
      · have h5 : it p i a = p (it p (i - 1) a) := by
          have : i = (i - 1) + 1 := by omega
          conv => lhs; rw [this]
          rfl
        rw [h5] at h3
        have h6 : swapped p a b (it p (i - 1) a) = p (it p (i - 1) a) := swapped_o p (hna _ (by omega) (by omega)) (hmin _ (by omega))
        have h7 := hq.inj x hx _ (it_in h ha _) (h3.symm.trans h6.symm)
        exact ⟨i - 1, by omega, by omega, h7.symm⟩
  intro ho
  have : S a ↔ S b := Orb.least (s := fun x y => (S x ↔ S y)) ⟨fun _ => Iff.rfl, Iff.symm, Iff.trans⟩ hstep ho
  exact hSa (this.2 hSb)
theorem orb_split {α : Type} [DecidableEq α] {D : List α} {p : α → α} (h : PermOn D p) {a b : α} (ha : a ∈ D) (hb : b ∈ D) (hn : a ≠ b) (hab : Orb D p a b) : ∀ x y, Orb D p x y ↔ merge (Orb D (swapped p a b)) a b x y := by
  have := orb_join (swapped_perm h ha hb hn) ha hb (orb_part h ha hb hn hab)
  rw [swapped_twice p hn] at this
  exact this
def comps {α : Type} [DecidableEq α] (p : α → α) : List (α × α) → (α → α)
  | [] => p
  | e :: l => comps (swapped p e.1 e.2) l
/-- Of orbits and of what hangs together: how many there are. -/
theorem euler_bound {α : Type} [DecidableEq α] (D : List α) : ∀ (l : List (α × α)) (p : α → α) (k : α → α → Prop), PermOn D p → Eqv k → (∀ x y, Orb D p x y → k x y) → (∀ e ∈ l, e.1 ∈ D ∧ e.2 ∈ D ∧ e.1 ≠ e.2) →
    (cls (Orb D (comps p l)) D) % 2 = (cls (Orb D p) D + l.length) % 2 ∧ cls (Orb D (comps p l)) D + 2 * cls k D ≤ cls (Orb D p) D + l.length + 2 * cls (merges k l) D := by
  intro l
  induction l with
  | nil => intro p k _ _ _ _; exact ⟨rfl, Nat.le_refl _⟩
  | cons e l ih =>
    intro p k hp hk hs hl
    obtain ⟨ha, hb, hn⟩ := hl e (List.mem_cons_self ..)
    have hq := swapped_perm hp ha hb hn
    have hk2 := merge_eqv hk e.1 e.2
    have hs2 : ∀ x y, Orb D (swapped p e.1 e.2) x y → merge k e.1 e.2 x y := fun x y ho => by
      rcases orb_merge ha hb hn ho with h1 | ⟨h1, h2⟩ | ⟨h1, h2⟩
      · exact Or.inl (hs _ _ h1)
      · exact Or.inr (Or.inl ⟨hs _ _ h1, hs _ _ h2⟩)
      · exact Or.inr (Or.inr ⟨hs _ _ h1, hs _ _ h2⟩)
    obtain ⟨i1, i2⟩ := ih (swapped p e.1 e.2) (merge k e.1 e.2) hq hk2 hs2 (fun x hx => hl x (List.mem_cons_of_mem _ hx))
    show (cls (Orb D (comps (swapped p e.1 e.2) l)) D) % 2 = (cls (Orb D p) D + (l.length + 1)) % 2 ∧ cls (Orb D (comps (swapped p e.1 e.2) l)) D + 2 * cls k D ≤ cls (Orb D p) D + (l.length + 1) + 2 * cls (merges (merge k e.1 e.2) l) D
    generalize cls (Orb D (comps (swapped p e.1 e.2) l)) D = c at *
    generalize cls (merges (merge k e.1 e.2) l) D = m at *
    by_cases ho : Orb D p e.1 e.2
    · have h1 := cls_congr D (fun x _ y _ => orb_split hp ha hb hn ho x y)
      have h2 := cls_merge (Orb.eqv D (swapped p e.1 e.2)) (orb_part hp ha hb hn ho) ha hb
      have h3 := cls_congr D (fun x _ y _ => merge_same hk (hs _ _ ho) x y)
      rw [h1] at *
      rw [h3] at i2
      omega
    · have h1 := cls_congr D (fun x _ y _ => orb_join hp ha hb ho x y)
      have h2 := cls_merge (Orb.eqv D p) ho ha hb
      have h3 := cls_merge_le hk e.1 e.2 D
      rw [h1] at i1 i2
      by_cases hke : k e.1 e.2
      · have h4 := cls_congr D (fun x _ y _ => merge_same hk hke x y)
        rw [h4] at i2
        omega
      · have h4 := cls_merge hk hke ha hb
        omega
end Go.Proofs.YtckjmnbglbegmaaDoor
