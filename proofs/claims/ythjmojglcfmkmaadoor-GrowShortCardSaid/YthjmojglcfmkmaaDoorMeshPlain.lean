import Derived.Test.YthjmojglcfmkmaaDoorWideMath
import Derived.Test.YthjmojglcfmkmaaDoorGeomMath
/- Layer 10: classes of a relation, orbits of what is one to one, and how many of either there are: plain mathematics. -/
namespace Go.Proofs.YthjmojglcfmkmaaDoor
open Classical

/-- How many classes a relation makes of a row: those are counted that have nobody of theirs behind them. -/
def cls {α : Type} (r : α → α → Prop) [DecidableRel r] : List α → Nat
  | [] => 0
  | x :: l => if ∃ y ∈ l, r x y then cls r l else cls r l + 1

structure Eqv {α : Type} (r : α → α → Prop) : Prop where
  refl : ∀ x, r x x
  symm : ∀ {x y}, r x y → r y x
  trans : ∀ {x y z}, r x y → r y z → r x z

theorem cls_congr {α : Type} {r s : α → α → Prop} [DecidableRel r] [DecidableRel s] : ∀ (l : List α), (∀ x ∈ l, ∀ y ∈ l, r x y ↔ s x y) → cls r l = cls s l := by
  intro l
  induction l with
  | nil => intro _; rfl
  | cons x l ih =>
    intro h
    have ih := ih (fun a ha b hb => h a (List.mem_cons_of_mem _ ha) b (List.mem_cons_of_mem _ hb))
    unfold cls
    have e : (∃ y ∈ l, r x y) ↔ (∃ y ∈ l, s x y) := by
      constructor
      · rintro ⟨y, hy, h1⟩; exact ⟨y, hy, (h x (List.mem_cons_self ..) y (List.mem_cons_of_mem _ hy)).1 h1⟩
      · rintro ⟨y, hy, h1⟩; exact ⟨y, hy, (h x (List.mem_cons_self ..) y (List.mem_cons_of_mem _ hy)).2 h1⟩
    simp only [e, ih]
/-- Two classes become one. -/
def merge {α : Type} (r : α → α → Prop) (a b : α) (x y : α) : Prop := r x y ∨ (r x a ∧ r b y) ∨ (r x b ∧ r a y)
theorem merge_eqv {α : Type} {r : α → α → Prop} (h : Eqv r) (a b : α) : Eqv (merge r a b) := by
  refine ⟨fun x => Or.inl (h.refl x), ?_, ?_⟩
  · rintro x y (h1 | ⟨h1, h2⟩ | ⟨h1, h2⟩)
    · exact Or.inl (h.symm h1)
    · exact Or.inr (Or.inr ⟨h.symm h2, h.symm h1⟩)
    · exact Or.inr (Or.inl ⟨h.symm h2, h.symm h1⟩)
  · rintro x y z (h1 | ⟨h1, h2⟩ | ⟨h1, h2⟩) (h3 | ⟨h3, h4⟩ | ⟨h3, h4⟩)
    · exact Or.inl (h.trans h1 h3)
    · exact Or.inr (Or.inl ⟨h.trans h1 h3, h4⟩)
    · exact Or.inr (Or.inr ⟨h.trans h1 h3, h4⟩)
    · exact Or.inr (Or.inl ⟨h1, h.trans h2 h3⟩)
    · exact Or.inr (Or.inl ⟨h1, h4⟩)
    · exact Or.inl (h.trans h1 h4)
    · exact Or.inr (Or.inr ⟨h1, h.trans h2 h3⟩)
    · exact Or.inl (h.trans h1 h4)
    · exact Or.inr (Or.inr ⟨h1, h4⟩)
theorem cls_merge_gen {α : Type} {r : α → α → Prop} (h : Eqv r) {a b : α} (hab : ¬ r a b) : ∀ l : List α, cls r l = cls (merge r a b) l + if (∃ y ∈ l, r a y) ∧ (∃ y ∈ l, r b y) then 1 else 0 := by
  intro l
  induction l with
  | nil => simp [cls]
  | cons x l ih =>
    have hba : ¬ r b a := fun e => hab (h.symm e)
    have hE : ∀ c, (∃ y ∈ x :: l, r c y) ↔ (r c x ∨ ∃ y ∈ l, r c y) := by
      intro c
      simp only [List.mem_cons, exists_eq_or_imp]
    have hM : (∃ y ∈ l, merge r a b x y) ↔ ((∃ y ∈ l, r x y) ∨ (r x a ∧ ∃ y ∈ l, r b y) ∨ (r x b ∧ ∃ y ∈ l, r a y)) := by
      constructor
      · rintro ⟨y, hy, h1 | ⟨h1, h2⟩ | ⟨h1, h2⟩⟩
        · exact Or.inl ⟨y, hy, h1⟩
        · exact Or.inr (Or.inl ⟨h1, y, hy, h2⟩)
        · exact Or.inr (Or.inr ⟨h1, y, hy, h2⟩)
      · rintro (⟨y, hy, h1⟩ | ⟨h1, y, hy, h2⟩ | ⟨h1, y, hy, h2⟩)
        · exact ⟨y, hy, Or.inl h1⟩
        · exact ⟨y, hy, Or.inr (Or.inl ⟨h1, h2⟩)⟩
        · exact ⟨y, hy, Or.inr (Or.inr ⟨h1, h2⟩)⟩
    unfold cls
    simp only [hE, hM]
    rw [ih]
    by_cases xa : r x a
    · have xb : ¬ r x b := fun e => hab (h.trans (h.symm xa) e)
      have ax : r a x := h.symm xa
      have bx : ¬ r b x := fun e => xb (h.symm e)
      have e1 : (∃ y ∈ l, r x y) ↔ (∃ y ∈ l, r a y) := by
        constructor
        · rintro ⟨y, hy, h1⟩; exact ⟨y, hy, h.trans ax h1⟩
        · rintro ⟨y, hy, h1⟩; exact ⟨y, hy, h.trans xa h1⟩
      simp only [e1, xa, xb, ax, bx, true_and, false_and, or_false, true_or, false_or]
      by_cases A : ∃ y ∈ l, r a y <;> by_cases B : ∃ y ∈ l, r b y <;> simp [A, B]
    · by_cases xb : r x b
      · have bx : r b x := h.symm xb
        have ax : ¬ r a x := fun e => xa (h.symm e)
        have e1 : (∃ y ∈ l, r x y) ↔ (∃ y ∈ l, r b y) := by
          constructor
          · rintro ⟨y, hy, h1⟩; exact ⟨y, hy, h.trans bx h1⟩
          · rintro ⟨y, hy, h1⟩; exact ⟨y, hy, h.trans xb h1⟩
        simp only [e1, xa, xb, ax, bx, true_and, false_and, true_or, false_or]
        by_cases A : ∃ y ∈ l, r a y <;> by_cases B : ∃ y ∈ l, r b y <;> simp [A, B]
      · have bx : ¬ r b x := fun e => xb (h.symm e)
        have ax : ¬ r a x := fun e => xa (h.symm e)
        simp only [xa, xb, ax, bx, false_and, or_false, false_or]
        by_cases X : ∃ y ∈ l, r x y <;> by_cases A : ∃ y ∈ l, r a y <;> by_cases B : ∃ y ∈ l, r b y <;> simp [X, A, B]
theorem cls_merge {α : Type} {r : α → α → Prop} (h : Eqv r) {a b : α} (hab : ¬ r a b) {l : List α} (ha : a ∈ l) (hb : b ∈ l) : cls r l = cls (merge r a b) l + 1 := by
  rw [cls_merge_gen h hab l, if_pos ⟨⟨a, ha, h.refl a⟩, ⟨b, hb, h.refl b⟩⟩]
theorem merge_same {α : Type} {r : α → α → Prop} (h : Eqv r) {a b : α} (hab : r a b) (x y : α) : merge r a b x y ↔ r x y := by
  constructor
  · rintro (h1 | ⟨h1, h2⟩ | ⟨h1, h2⟩)
    · exact h1
    · exact h.trans (h.trans h1 hab) h2
    · exact h.trans (h.trans h1 (h.symm hab)) h2
  · exact Or.inl
theorem cls_merge_le {α : Type} {r : α → α → Prop} (h : Eqv r) (a b : α) (l : List α) : cls r l ≤ cls (merge r a b) l + 1 := by
  by_cases hab : r a b
  · rw [cls_congr l (fun x _ y _ => (merge_same h hab x y).symm)]; omega
  · rw [cls_merge_gen h hab l]; split <;> omega
/-- By a key: as many classes as keys. -/
theorem cls_key {α κ : Type} [DecidableEq κ] (k : α → κ) : ∀ (l : List α) (ks : List κ), ks.Nodup → (∀ x ∈ l, k x ∈ ks) → (∀ c ∈ ks, ∃ x ∈ l, k x = c) → cls (fun x y => k x = k y) l = ks.length := by
  intro l
  induction l with
  | nil =>
    intro ks _ _ h
    cases ks with
    | nil => rfl
    | cons c ks => obtain ⟨x, hx, _⟩ := h c (List.mem_cons_self ..); cases hx
  | cons x l ih =>
    intro ks hn h1 h2
    unfold cls
    have hx := h1 x (List.mem_cons_self ..)
    by_cases hc : ∃ y ∈ l, k x = k y
    · rw [if_pos hc]
      obtain ⟨y, hy, e⟩ := hc
      refine ih ks hn (fun z hz => h1 z (List.mem_cons_of_mem _ hz)) (fun c hc => ?_)
      obtain ⟨z, hz, e2⟩ := h2 c hc
      rcases List.mem_cons.1 hz with rfl | hz
      · exact ⟨y, hy, e ▸ e2⟩
      · exact ⟨z, hz, e2⟩
    · rw [if_neg hc]
      have hl : (ks.erase (k x)).length + 1 = ks.length := by
        rw [List.length_erase_of_mem hx]
        have := List.length_pos_of_mem hx
        omega
      rw [ih (ks.erase (k x)) (hn.erase _) (fun z hz => ?_) (fun c hc2 => ?_), hl]
      · have hz2 := h1 z (List.mem_cons_of_mem _ hz)
        exact (List.mem_erase_of_ne (fun e => hc ⟨z, hz, e.symm⟩)).2 hz2
      · have hm := List.mem_of_mem_erase hc2
        have hne : c ≠ k x := fun e => by rw [e] at hc2; exact (List.Nodup.not_mem_erase hn) hc2
        obtain ⟨z, hz, e2⟩ := h2 c hm
        rcases List.mem_cons.1 hz with rfl | hz
        · exact absurd e2.symm hne
        · exact ⟨z, hz, e2⟩
theorem cls_all {α : Type} {r : α → α → Prop} [DecidableRel r] : ∀ (l : List α), (∀ x ∈ l, ∀ y ∈ l, r x y) → cls r l ≤ 1 := by
  intro l
  induction l with
  | nil => intro _; simp [cls]
  | cons x l ih =>
    intro h
    unfold cls
    have ih := ih (fun a ha b hb => h a (List.mem_cons_of_mem _ ha) b (List.mem_cons_of_mem _ hb))
    cases l with
    | nil => simp [cls]
    | cons y l => rw [if_pos ⟨y, List.mem_cons_self .., h x (List.mem_cons_self ..) y (List.mem_cons_of_mem _ (List.mem_cons_self ..))⟩]; exact ih
theorem cls_eq {α : Type} {r : α → α → Prop} [DecidableRel r] (hr : ∀ x y, r x y → x = y) : ∀ (l : List α), l.Nodup → cls r l = l.length := by
  intro l
  induction l with
  | nil => intro _; rfl
  | cons x l ih =>
    intro h
    rw [List.nodup_cons] at h
    unfold cls
    rw [if_neg (fun ⟨y, hy, e⟩ => h.1 ((hr _ _ e) ▸ hy)), ih h.2]
    rfl
/-- All of a row of pairs made one, one by one. -/
def merges {α : Type} (r : α → α → Prop) : List (α × α) → (α → α → Prop)
  | [] => r
  | e :: l => merges (merge r e.1 e.2) l
theorem merges_eqv {α : Type} : ∀ (l : List (α × α)) {r : α → α → Prop}, Eqv r → Eqv (merges r l) := by
  intro l
  induction l with
  | nil => intro r h; exact h
  | cons e l ih => intro r h; exact ih (merge_eqv h _ _)
theorem merges_le {α : Type} : ∀ (l : List (α × α)) {r : α → α → Prop}, Eqv r → ∀ xs : List α, cls r xs ≤ cls (merges r l) xs + l.length := by
  intro l
  induction l with
  | nil => intro r h xs; exact Nat.le_refl _
  | cons e l ih =>
    intro r h xs
    have h1 := cls_merge_le h e.1 e.2 xs
    have h2 := ih (merge_eqv h e.1 e.2) xs
    show _ ≤ cls (merges (merge r e.1 e.2) l) xs + (l.length + 1)
    omega
theorem merges_mono {α : Type} : ∀ (l : List (α × α)) {r : α → α → Prop} {x y : α}, r x y → merges r l x y := by
  intro l
  induction l with
  | nil => intro r x y h; exact h
  | cons e l ih => intro r x y h; exact ih (Or.inl h)
theorem merges_mem {α : Type} : ∀ (l : List (α × α)) {r : α → α → Prop}, Eqv r → ∀ {e}, e ∈ l → merges r l e.1 e.2 := by
  intro l
  induction l with
  | nil => intro r _ e h; cases h
  | cons d l ih =>
    intro r h e he
    rcases List.mem_cons.1 he with rfl | he
    · exact merges_mono l (Or.inr (Or.inl ⟨h.refl _, h.refl _⟩))
    · exact ih (merge_eqv h _ _) he
theorem merges_least {α : Type} : ∀ (l : List (α × α)) {r s : α → α → Prop}, Eqv s → (∀ x y, r x y → s x y) → (∀ e ∈ l, s e.1 e.2) → ∀ x y, merges r l x y → s x y := by
  intro l
  induction l with
  | nil => intro r s _ h _ x y h1; exact h x y h1
  | cons e l ih =>
    intro r s hs h he x y h1
    refine ih hs (fun x y h2 => ?_) (fun e' h' => he e' (List.mem_cons_of_mem _ h')) x y h1
    have h0 := he e (List.mem_cons_self ..)
    rcases h2 with h3 | ⟨h3, h4⟩ | ⟨h3, h4⟩
    · exact h x y h3
    · exact hs.trans (h x _ h3) (hs.trans h0 (h _ y h4))
    · exact hs.trans (h x _ h3) (hs.trans (hs.symm h0) (h _ y h4))
theorem nodup_le {α : Type} : ∀ (l D : List α), l.Nodup → (∀ x ∈ l, x ∈ D) → l.length ≤ D.length := by
  intro l
  induction l with
  | nil => intro D _ _; exact Nat.zero_le _
  | cons x l ih =>
    intro D hn h
    rw [List.nodup_cons] at hn
    have hx := h x (List.mem_cons_self ..)
    have h1 := ih (D.erase x) hn.2 (fun y hy => (List.mem_erase_of_ne (fun e => hn.1 (by rw [← e]; exact hy))).2 (h y (List.mem_cons_of_mem _ hy)))
    rw [List.length_erase_of_mem hx] at h1
    have := List.length_pos_of_mem hx
    show l.length + 1 ≤ _
    omega
/-- One to one, within a row. -/
structure PermOn {α : Type} (D : List α) (p : α → α) : Prop where
  maps : ∀ x ∈ D, p x ∈ D
  inj : ∀ x ∈ D, ∀ y ∈ D, p x = p y → x = y
def it {α : Type} (p : α → α) : Nat → α → α
  | 0, x => x
  | n + 1, x => p (it p n x)
theorem it_add {α : Type} (p : α → α) (m : Nat) : ∀ (n : Nat) (x : α), it p (n + m) x = it p n (it p m x) := by
  intro n
  induction n with
  | zero => intro x; rw [Nat.zero_add]; rfl
  | succ n ih => intro x; rw [Nat.succ_add]; show p _ = p _; rw [ih]
theorem it_in {α : Type} {D : List α} {p : α → α} (h : PermOn D p) {x : α} (hx : x ∈ D) : ∀ n, it p n x ∈ D := by
  intro n
  induction n with
  | zero => exact hx
  | succ n ih => exact h.maps _ ih
theorem it_inj {α : Type} {D : List α} {p : α → α} (h : PermOn D p) {x y : α} (hx : x ∈ D) (hy : y ∈ D) : ∀ n, it p n x = it p n y → x = y := by
  intro n
  induction n with
  | zero => exact fun e => e
  | succ n ih => exact fun e => ih (h.inj _ (it_in h hx n) _ (it_in h hy n) e)
/-- All come back. -/
theorem it_back {α : Type} {D : List α} {p : α → α} (h : PermOn D p) {x : α} (hx : x ∈ D) : ∃ n, 0 < n ∧ it p n x = x := by
  by_cases hn : ((List.range (D.length + 1)).map (fun n => it p n x)).Nodup
  · exfalso
    have := nodup_le _ D hn (fun y hy => by
      obtain ⟨n, _, rfl⟩ := List.mem_map.1 hy
      exact it_in h hx n)
    rw [List.length_map, List.length_range] at this
    omega
  · have hp : ¬ (List.range (D.length + 1)).Pairwise (fun i j => it p i x ≠ it p j x) := fun hp => hn (List.pairwise_map.2 hp)
    apply Classical.byContradiction
    intro hc
    apply hp
    refine List.Pairwise.imp ?_ List.pairwise_lt_range
    intro i j hij e
    apply hc
    refine ⟨j - i, by omega, ?_⟩
    have e2 : it p j x = it p i (it p (j - i) x) := by rw [← it_add]; congr 1; omega
    rw [e2] at e
    exact (it_inj h hx (it_in h hx _) i e).symm
inductive Orb {α : Type} (D : List α) (p : α → α) : α → α → Prop
  | refl (x : α) : Orb D p x x
  | step (x : α) (h : x ∈ D) : Orb D p x (p x)
  | symm {x y : α} (h : Orb D p x y) : Orb D p y x
  | trans {x y z : α} (h : Orb D p x y) (h2 : Orb D p y z) : Orb D p x z
theorem Orb.eqv {α : Type} (D : List α) (p : α → α) : Eqv (Orb D p) := ⟨Orb.refl, Orb.symm, Orb.trans⟩
theorem Orb.least {α : Type} {D : List α} {p : α → α} {s : α → α → Prop} (hs : Eqv s) (h : ∀ x ∈ D, s x (p x)) : ∀ {x y}, Orb D p x y → s x y := by
  intro x y ho
  induction ho with
  | refl x => exact hs.refl x
  | step x hx => exact h x hx
  | symm _ ih => exact hs.symm ih
  | trans _ _ i1 i2 => exact hs.trans i1 i2
theorem Orb.it {α : Type} {D : List α} {p : α → α} (h : PermOn D p) {x : α} (hx : x ∈ D) : ∀ n, Orb D p x (it p n x) := by
  intro n
  induction n with
  | zero => exact Orb.refl _
  | succ n ih => exact Orb.trans ih (Orb.step _ (it_in h hx n))
/-- Who is in one orbit is come to by steps. -/
theorem Orb.steps {α : Type} {D : List α} {p : α → α} (h : PermOn D p) {x y : α} (ho : Orb D p x y) : x ∈ D → ∃ n, Go.Proofs.YthjmojglcfmkmaaDoor.it p n x = y := by
  have key : ∀ {x y}, Orb D p x y → (x ∈ D ↔ y ∈ D) ∧ (x ∈ D → (∃ n, Go.Proofs.YthjmojglcfmkmaaDoor.it p n x = y) ∧ ∃ n, Go.Proofs.YthjmojglcfmkmaaDoor.it p n y = x) := by
    intro x y ho

    induction ho with
    | refl x => exact ⟨Iff.rfl, fun _ => ⟨⟨0, rfl⟩, ⟨0, rfl⟩⟩⟩
    | step x hx =>
      refine ⟨⟨fun _ => h.maps x hx, fun _ => hx⟩, fun _ => ⟨⟨1, rfl⟩, ?_⟩⟩
      obtain ⟨n, hn, e⟩ := it_back h hx
      refine ⟨n - 1, ?_⟩
      have e2 : Go.Proofs.YthjmojglcfmkmaaDoor.it p ((n - 1) + 1) x = Go.Proofs.YthjmojglcfmkmaaDoor.it p (n - 1) (Go.Proofs.YthjmojglcfmkmaaDoor.it p 1 x) := it_add p 1 (n - 1) x
      rw [show n - 1 + 1 = n by omega, e] at e2
      exact e2.symm
    | symm _ ih => exact ⟨ih.1.symm, fun hy => ⟨(ih.2 (ih.1.2 hy)).2, (ih.2 (ih.1.2 hy)).1⟩⟩
    | trans _ _ i1 i2 =>
      refine ⟨i1.1.trans i2.1, fun hx => ?_⟩
      obtain ⟨⟨n1, e1⟩, ⟨m1, f1⟩⟩ := i1.2 hx
      obtain ⟨⟨n2, e2⟩, ⟨m2, f2⟩⟩ := i2.2 (i1.1.1 hx)
      exact ⟨⟨n2 + n1, by rw [it_add, e1, e2]⟩, ⟨m1 + m2, by rw [it_add, f2, f1]⟩⟩
  intro hx
  exact ((key ho).2 hx).1
/-- Two change their places first. -/
def swapped {α : Type} [DecidableEq α] (p : α → α) (a b x : α) : α := if x = a then p b else if x = b then p a else p x
theorem swapped_a {α : Type} [DecidableEq α] (p : α → α) (a b : α) : swapped p a b a = p b := if_pos rfl
theorem swapped_b {α : Type} [DecidableEq α] (p : α → α) {a b : α} (h : a ≠ b) : swapped p a b b = p a := by unfold swapped; rw [if_neg (Ne.symm h), if_pos rfl]
theorem swapped_o {α : Type} [DecidableEq α] (p : α → α) {a b x : α} (h1 : x ≠ a) (h2 : x ≠ b) : swapped p a b x = p x := by unfold swapped; rw [if_neg h1, if_neg h2]
theorem swapped_perm {α : Type} [DecidableEq α] {D : List α} {p : α → α} (h : PermOn D p) {a b : α} (ha : a ∈ D) (hb : b ∈ D) (hn : a ≠ b) : PermOn D (swapped p a b) := by
  refine ⟨fun x hx => ?_, fun x hx y hy e => ?_⟩
  · unfold swapped
    split
    · exact h.maps b hb
    · split
      · exact h.maps a ha
      · exact h.maps x hx
  · unfold swapped at e
    have hne : ∀ {u v}, u ∈ D → v ∈ D → p u = p v → u = v := fun hu hv e => h.inj _ hu _ hv e
    by_cases x1 : x = a <;> by_cases x2 : x = b <;> by_cases y1 : y = a <;> by_cases y2 : y = b <;> simp only [x1, x2, y1, y2, if_true, if_false] at e <;> grind
theorem swapped_twice {α : Type} [DecidableEq α] (p : α → α) {a b : α} (h : a ≠ b) : swapped (swapped p a b) a b = p := by
  funext x
  by_cases h1 : x = a
  · rw [h1, swapped_a, swapped_b p h]
  · by_cases h2 : x = b
    · rw [h2, swapped_b _ h, swapped_a]
    · rw [swapped_o _ h1 h2, swapped_o _ h1 h2]
theorem orb_merge {α : Type} [DecidableEq α] {D : List α} {p : α → α} {a b : α} (ha : a ∈ D) (hb : b ∈ D) (hn : a ≠ b) : ∀ {x y}, Orb D (swapped p a b) x y → merge (Orb D p) a b x y := by
  intro x y
  refine Orb.least (merge_eqv (Orb.eqv D p) a b) (fun x hx => ?_)
  by_cases h1 : x = a
  · rw [h1, swapped_a]
    exact Or.inr (Or.inl ⟨Orb.refl _, Orb.step b hb⟩)
  · by_cases h2 : x = b
    · rw [h2, swapped_b p hn]
      exact Or.inr (Or.inr ⟨Orb.refl _, Orb.step a ha⟩)
    · rw [swapped_o p h1 h2]
      exact Or.inl (Orb.step x hx)
/-- Of two orbits one. -/
theorem orb_join {α : Type} [DecidableEq α] {D : List α} {p : α → α} (h : PermOn D p) {a b : α} (ha : a ∈ D) (hb : b ∈ D) (hab : ¬ Orb D p a b) : ∀ x y, Orb D (swapped p a b) x y ↔ merge (Orb D p) a b x y := by
  have hn : a ≠ b := fun e => hab (e ▸ Orb.refl _)
  have hq := swapped_perm h ha hb hn
  have hba : Orb D (swapped p a b) b a := by
    obtain ⟨n, hn0, e⟩ := it_back h ha
    -- the least way back
    have hex : ∃ m, 0 < m ∧ it p m a = a ∧ ∀ i, 0 < i → i < m → it p i a ≠ a := by
      clear hab hq
      induction n using Nat.strongRecOn with
      | ind n ih =>
        by_cases hc : ∃ i, 0 < i ∧ i < n ∧ it p i a = a
        · obtain ⟨i, h1, h2, h3⟩ := hc
          exact ih i h2 h1 h3
        · exact ⟨n, hn0, e, fun i h1 h2 h3 => hc ⟨i, h1, h2, h3⟩⟩
    obtain ⟨m, hm, em, hmin⟩ := hex
    have hw : ∀ i, i < m → Orb D (swapped p a b) b (it p (i + 1) a) := by
      intro i
      induction i with
      | zero =>
        intro _
        have := Orb.step (p := swapped p a b) b hb
        rw [swapped_b p hn] at this
        exact this
      | succ i ih =>
        intro hi
        have h1 := ih (by omega)
        have h2 : it p (i + 1) a ≠ a := hmin _ (by omega) hi
        have h3 : it p (i + 1) a ≠ b := fun e => hab (e ▸ Orb.it h ha _)
        have h4 := Orb.step (p := swapped p a b) (it p (i + 1) a) (it_in h ha _)
        rw [swapped_o p h2 h3] at h4
        exact Orb.trans h1 h4
    have := hw (m - 1) (by omega)
    rw [show m - 1 + 1 = m by omega, em] at this
    exact this
  intro x y
  refine ⟨orb_merge ha hb hn, ?_⟩
  have hsub : ∀ {x y}, Orb D p x y → Orb D (swapped p a b) x y := by
    intro x y
    refine Orb.least (Orb.eqv _ _) (fun x hx => ?_)
    by_cases h1 : x = a
    · have h3 := Orb.step (p := swapped p a b) b hb
      rw [swapped_b p hn] at h3
      rw [h1]
      exact Orb.trans (Orb.symm hba) h3
    · by_cases h2 : x = b
      · have h3 := Orb.step (p := swapped p a b) a ha
        rw [swapped_a] at h3
        rw [h2]
        exact Orb.trans hba h3
      · have h3 := Orb.step (p := swapped p a b) x hx
        rw [swapped_o p h1 h2] at h3
        exact h3
  rintro (h1 | ⟨h1, h2⟩ | ⟨h1, h2⟩)
  · exact hsub h1
  · exact Orb.trans (hsub h1) (Orb.trans (Orb.symm hba) (hsub h2))
  · exact Orb.trans (hsub h1) (Orb.trans hba (hsub h2))
/-- Of one orbit two. -/
theorem orb_part {α : Type} [DecidableEq α] {D : List α} {p : α → α} (h : PermOn D p) {a b : α} (ha : a ∈ D) (hb : b ∈ D) (hn : a ≠ b) (hab : Orb D p a b) : ¬ Orb D (swapped p a b) a b := by
  have hq := swapped_perm h ha hb hn
  obtain ⟨n, e⟩ := Orb.steps h hab ha
  have hex : ∃ m, it p m a = b ∧ ∀ i, i < m → it p i a ≠ b := by
    clear hab hq
    induction n using Nat.strongRecOn with
    | ind n ih =>
      by_cases hc : ∃ i, i < n ∧ it p i a = b
      · obtain ⟨i, h2, h3⟩ := hc
        exact ih i h2 h3
      · exact ⟨n, e, fun i h2 h3 => hc ⟨i, h2, h3⟩⟩
  obtain ⟨m, em, hmin⟩ := hex
  have hm0 : 0 < m := by
    rcases Nat.eq_zero_or_pos m with rfl | h0
    · exact absurd em hn
    · exact h0
  have hna : ∀ i, 0 < i → i ≤ m → it p i a ≠ a := by
    intro i h1 h2 h3
    have e2 : it p m a = it p (m - i) (it p i a) := by rw [← it_add]; congr 1; omega
    rw [h3, em] at e2
    exact hmin (m - i) (by omega) e2.symm
  let S : α → Prop := fun x => ∃ i, 0 < i ∧ i ≤ m ∧ it p i a = x
  have hSb : S b := ⟨m, hm0, Nat.le_refl _, em⟩
  have hSa : ¬ S a := fun ⟨i, h1, h2, h3⟩ => hna i h1 h2 h3
  have hstep : ∀ x ∈ D, (S x ↔ S (swapped p a b x)) := by
    intro x hx
    constructor
    · rintro ⟨i, h1, h2, rfl⟩
      by_cases hi : i = m
      · rw [hi, em, swapped_b p hn]
        exact ⟨1, by omega, by omega, rfl⟩
      · rw [swapped_o p (hna i h1 h2) (hmin i (by omega))]
        exact ⟨i + 1, by omega, by omega, rfl⟩
    · rintro ⟨i, h1, h2, h3⟩
      by_cases hi : i = 1
      · rw [hi] at h3
        have h4 : swapped p a b x = swapped p a b b := by rw [swapped_b p hn]; exact h3.symm
        rw [hq.inj x hx b hb h4]
        exact hSb
      · have h5 : it p i a = p (it p (i - 1) a) := by
          have : i = (i - 1) + 1 := by omega
          conv => lhs; rw [this]
          rfl
        rw [h5] at h3
        have h6 : swapped p a b (it p (i - 1) a) = p (it p (i - 1) a) := swapped_o p (hna _ (by omega) (by omega)) (hmin _ (by omega))
        have h7 := hq.inj x hx _ (it_in h ha _) (h3.symm.trans h6.symm)
        exact ⟨i - 1, by omega, by omega, h7.symm⟩
  intro ho
  have : S a ↔ S b := Orb.least (s := fun x y => (S x ↔ S y)) ⟨fun _ => Iff.rfl, Iff.symm, Iff.trans⟩ hstep ho
  exact hSa (this.2 hSb)
theorem orb_split {α : Type} [DecidableEq α] {D : List α} {p : α → α} (h : PermOn D p) {a b : α} (ha : a ∈ D) (hb : b ∈ D) (hn : a ≠ b) (hab : Orb D p a b) : ∀ x y, Orb D p x y ↔ merge (Orb D (swapped p a b)) a b x y := by
  have := orb_join (swapped_perm h ha hb hn) ha hb (orb_part h ha hb hn hab)
  rw [swapped_twice p hn] at this
  exact this
def comps {α : Type} [DecidableEq α] (p : α → α) : List (α × α) → (α → α)
  | [] => p
  | e :: l => comps (swapped p e.1 e.2) l
/-- Of orbits and of what hangs together: how many there are. -/
theorem euler_bound {α : Type} [DecidableEq α] (D : List α) : ∀ (l : List (α × α)) (p : α → α) (k : α → α → Prop), PermOn D p → Eqv k → (∀ x y, Orb D p x y → k x y) → (∀ e ∈ l, e.1 ∈ D ∧ e.2 ∈ D ∧ e.1 ≠ e.2) →
    (cls (Orb D (comps p l)) D) % 2 = (cls (Orb D p) D + l.length) % 2 ∧ cls (Orb D (comps p l)) D + 2 * cls k D ≤ cls (Orb D p) D + l.length + 2 * cls (merges k l) D := by
  intro l
  induction l with
  | nil => intro p k _ _ _ _; exact ⟨rfl, Nat.le_refl _⟩
  | cons e l ih =>
    intro p k hp hk hs hl
    obtain ⟨ha, hb, hn⟩ := hl e (List.mem_cons_self ..)
    have hq := swapped_perm hp ha hb hn
    have hk2 := merge_eqv hk e.1 e.2
    have hs2 : ∀ x y, Orb D (swapped p e.1 e.2) x y → merge k e.1 e.2 x y := fun x y ho => by
      rcases orb_merge ha hb hn ho with h1 | ⟨h1, h2⟩ | ⟨h1, h2⟩
      · exact Or.inl (hs _ _ h1)
      · exact Or.inr (Or.inl ⟨hs _ _ h1, hs _ _ h2⟩)
      · exact Or.inr (Or.inr ⟨hs _ _ h1, hs _ _ h2⟩)
    obtain ⟨i1, i2⟩ := ih (swapped p e.1 e.2) (merge k e.1 e.2) hq hk2 hs2 (fun x hx => hl x (List.mem_cons_of_mem _ hx))
    show (cls (Orb D (comps (swapped p e.1 e.2) l)) D) % 2 = (cls (Orb D p) D + (l.length + 1)) % 2 ∧ cls (Orb D (comps (swapped p e.1 e.2) l)) D + 2 * cls k D ≤ cls (Orb D p) D + (l.length + 1) + 2 * cls (merges (merge k e.1 e.2) l) D
    generalize cls (Orb D (comps (swapped p e.1 e.2) l)) D = c at *
    generalize cls (merges (merge k e.1 e.2) l) D = m at *
    by_cases ho : Orb D p e.1 e.2
    · have h1 := cls_congr D (fun x _ y _ => orb_split hp ha hb hn ho x y)
      have h2 := cls_merge (Orb.eqv D (swapped p e.1 e.2)) (orb_part hp ha hb hn ho) ha hb
      have h3 := cls_congr D (fun x _ y _ => merge_same hk (hs _ _ ho) x y)
      rw [h1] at *
      rw [h3] at i2
      omega
    · have h1 := cls_congr D (fun x _ y _ => orb_join hp ha hb ho x y)
      have h2 := cls_merge (Orb.eqv D p) ho ha hb
      have h3 := cls_merge_le hk e.1 e.2 D
      rw [h1] at i1 i2
      by_cases hke : k e.1 e.2
      · have h4 := cls_congr D (fun x _ y _ => merge_same hk hke x y)
        rw [h4] at i2
        omega
      · have h4 := cls_merge hk hke ha hb
        omega
end Go.Proofs.YthjmojglcfmkmaaDoor

/- Layer 10: triangles that are a surface: plain mathematics. -/
namespace Go.Proofs.YthjmojglcfmkmaaDoor
open Classical

/-- The directed edges of a triangle. -/
def dirs (t : P3) : List (Int × Int) := [(t.1, t.2.1), (t.2.1, t.2.2), (t.2.2, t.1)]
def darts (T : List P3) : List (Int × Int) := T.flatMap dirs
theorem mem_darts {T : List P3} {d : Int × Int} : d ∈ darts T ↔ ∃ t ∈ T, d ∈ dirs t := List.mem_flatMap
def coordM (n : Int) : Bool := decide (-2147483648 ≤ n) && decide (n ≤ 2147483647)
def pointM (p : P3) : Bool := coordM p.1 && coordM p.2.1 && coordM p.2.2
/-- Three others, each of them one of so many. -/
def triM (n : Nat) (t : P3) : Bool := decide (t.1 ≠ t.2.1 ∧ t.2.1 ≠ t.2.2 ∧ t.2.2 ≠ t.1 ∧ (0 ≤ t.1 ∧ t.1 < n) ∧ (0 ≤ t.2.1 ∧ t.2.1 < n) ∧ (0 ≤ t.2.2 ∧ t.2.2 < n))
theorem triM_iff {n : Nat} {t : P3} : triM n t = true ↔ (t.1 ≠ t.2.1 ∧ t.2.1 ≠ t.2.2 ∧ t.2.2 ≠ t.1 ∧ (0 ≤ t.1 ∧ t.1 < n) ∧ (0 ≤ t.2.1 ∧ t.2.1 < n) ∧ (0 ≤ t.2.2 ∧ t.2.2 < n)) := decide_eq_true_iff
def plainM (P T : List P3) : Bool := P.all pointM && T.all (triM P.length)
inductive Reach {α : Type} (r : α → α → Prop) (x : α) : α → Prop
  | refl : Reach r x x
  | step {y z : α} (h : Reach r x y) (s : r y z) : Reach r x z
theorem Reach.trans {α : Type} {r : α → α → Prop} {x y z : α} (h : Reach r x y) (g : Reach r y z) : Reach r x z := by
  induction g with
  | refl => exact h
  | step _ s ih => exact ih.step s
theorem Reach.head {α : Type} {r : α → α → Prop} {x y z : α} (s : r x y) (g : Reach r y z) : Reach r x z := (Reach.refl.step s).trans g
theorem Reach.mono {α : Type} {r s : α → α → Prop} (h : ∀ x y, r x y → s x y) {x y : α} (g : Reach r x y) : Reach s x y := by
  induction g with
  | refl => exact Reach.refl
  | step _ e ih => exact ih.step (h _ _ e)
theorem Reach.least {α : Type} {r s : α → α → Prop} (h : Eqv s) (hr : ∀ x y, r x y → s x y) {x y : α} (g : Reach r x y) : s x y := by
  induction g with
  | refl => exact h.refl _
  | step _ e ih => exact h.trans ih (hr _ _ e)
/-- At a vertex. -/
def hasV (v : Int) (t : P3) : Prop := t.1 = v ∨ t.2.1 = v ∨ t.2.2 = v
/-- An edge at a vertex in common, in opposite directions. -/
def joinedV (v : Int) (a b : P3) : Prop := ∃ p q, (p, q) ∈ dirs a ∧ (p = v ∨ q = v) ∧ (q, p) ∈ dirs b
theorem joined_symm {v : Int} {a b : P3} (h : joinedV v a b) : joinedV v b a := by
  obtain ⟨p, q, h1, h2, h3⟩ := h
  exact ⟨q, p, h3, h2.symm, h1⟩
theorem mem_dirs {t : P3} {d : Int × Int} : d ∈ dirs t ↔ d = (t.1, t.2.1) ∨ d = (t.2.1, t.2.2) ∨ d = (t.2.2, t.1) := by
  unfold dirs
  simp only [List.mem_cons, List.not_mem_nil, or_false]
theorem hasV_out {v : Int} {t : P3} : hasV v t ↔ ∃ q, (v, q) ∈ dirs t := by
  obtain ⟨a, b, c⟩ := t
  simp only [mem_dirs, hasV, Prod.mk.injEq]
  constructor
  · rintro (rfl | rfl | rfl)
    · exact ⟨_, Or.inl ⟨rfl, rfl⟩⟩
    · exact ⟨_, Or.inr (Or.inl ⟨rfl, rfl⟩)⟩
    · exact ⟨_, Or.inr (Or.inr ⟨rfl, rfl⟩)⟩
  · rintro ⟨q, ⟨rfl, _⟩ | ⟨rfl, _⟩ | ⟨rfl, _⟩⟩
    · exact Or.inl rfl
    · exact Or.inr (Or.inl rfl)
    · exact Or.inr (Or.inr rfl)
theorem hasV_in {v : Int} {t : P3} : hasV v t ↔ ∃ p, (p, v) ∈ dirs t := by
  obtain ⟨a, b, c⟩ := t
  simp only [mem_dirs, hasV, Prod.mk.injEq]
  constructor
  · rintro (rfl | rfl | rfl)
    · exact ⟨_, Or.inr (Or.inr ⟨rfl, rfl⟩)⟩
    · exact ⟨_, Or.inl ⟨rfl, rfl⟩⟩
    · exact ⟨_, Or.inr (Or.inl ⟨rfl, rfl⟩)⟩
  · rintro ⟨q, ⟨_, rfl⟩ | ⟨_, rfl⟩ | ⟨_, rfl⟩⟩
    · exact Or.inr (Or.inl rfl)
    · exact Or.inr (Or.inr rfl)
    · exact Or.inl rfl
theorem joined_has {v : Int} {a b : P3} (h : joinedV v a b) : hasV v a ∧ hasV v b := by
  obtain ⟨p, q, h1, rfl | rfl, h3⟩ := h
  · exact ⟨hasV_out.2 ⟨_, h1⟩, hasV_in.2 ⟨_, h3⟩⟩
  · exact ⟨hasV_in.2 ⟨_, h1⟩, hasV_out.2 ⟨_, h3⟩⟩
/-- All at a vertex, and there is one, hang together by such edges. -/
def Fan (T : List P3) (v : Int) : Prop := (∃ t ∈ T, hasV v t) ∧ ∀ t ∈ T, ∀ u ∈ T, hasV v t → hasV v u → Reach (fun a b => b ∈ T ∧ joinedV v a b) t u
def longM (P T : List P3) : Prop := 4000 < P.length ∨ 8000 < T.length
def fansM (P T : List P3) : Prop := ∀ v : Nat, v < P.length → Fan T v
/-- What is wrong, or nothing. -/
def CheckIs (P T : List P3) (e : Int) : Prop :=
  (longM P T ∧ e = 3) ∨ (¬ longM P T ∧ plainM P T = false ∧ e = 2) ∨ (¬ longM P T ∧ plainM P T = true ∧ ¬ (darts T).Nodup ∧ e = 80) ∨
  (¬ longM P T ∧ plainM P T = true ∧ (darts T).Nodup ∧ ¬ fansM P T ∧ e = 81) ∨ (¬ longM P T ∧ plainM P T = true ∧ (darts T).Nodup ∧ fansM P T ∧ e = 0)
theorem check_total (P T : List P3) : ∃ e, CheckIs P T e := by
  by_cases h1 : longM P T
  · exact ⟨3, Or.inl ⟨h1, rfl⟩⟩
  · cases h2 : plainM P T with
    | false => exact ⟨2, Or.inr (Or.inl ⟨h1, h2, rfl⟩)⟩
    | true =>
      by_cases h3 : (darts T).Nodup
      · by_cases h4 : fansM P T
        · exact ⟨0, Or.inr (Or.inr (Or.inr (Or.inr ⟨h1, h2, h3, h4, rfl⟩)))⟩
        · exact ⟨81, Or.inr (Or.inr (Or.inr (Or.inl ⟨h1, h2, h3, h4, rfl⟩)))⟩
      · exact ⟨80, Or.inr (Or.inr (Or.inl ⟨h1, h2, h3, rfl⟩))⟩
theorem check_congr {P T P' T' : List P3} (h1 : longM P T ↔ longM P' T') (h2 : plainM P T = plainM P' T') (h3 : (darts T).Nodup ↔ (darts T').Nodup) (h4 : plainM P T = true → (darts T).Nodup → (fansM P T ↔ fansM P' T')) {e : Int} (h : CheckIs P T e) : CheckIs P' T' e := by
  unfold CheckIs at h ⊢
  rw [← h1, ← h2, ← h3]
  rcases h with h | h | h | h | h
  · exact Or.inl h
  · exact Or.inr (Or.inl h)
  · exact Or.inr (Or.inr (Or.inl h))
  · obtain ⟨a, b, c, d, rfl⟩ := h
    exact Or.inr (Or.inr (Or.inr (Or.inl ⟨a, b, c, fun q => d ((h4 b c).2 q), rfl⟩)))
  · obtain ⟨a, b, c, d, rfl⟩ := h
    exact Or.inr (Or.inr (Or.inr (Or.inr ⟨a, b, c, (h4 b c).1 d, rfl⟩)))
theorem check_one {P T : List P3} {e f : Int} (h : CheckIs P T e) (g : CheckIs P T f) : e = f := by
  unfold CheckIs at h g
  grind
theorem check_zero {P T : List P3} (h : CheckIs P T 0) : ¬ longM P T ∧ plainM P T = true ∧ (darts T).Nodup ∧ fansM P T := by
  unfold CheckIs at h
  rcases h with ⟨_, h⟩ | ⟨_, _, h⟩ | ⟨_, _, _, h⟩ | ⟨_, _, _, _, h⟩ | ⟨a, b, c, d, _⟩
  · cases h
  · cases h
  · cases h
  · cases h
  · exact ⟨a, b, c, d⟩
/-- Who has a directed edge in common is one. -/
theorem dart_one {T : List P3} (hn : (darts T).Nodup) {t u : P3} (ht : t ∈ T) (hu : u ∈ T) {d : Int × Int} (h1 : d ∈ dirs t) (h2 : d ∈ dirs u) : t = u := by
  induction T with
  | nil => cases ht
  | cons x T ih =>
    unfold darts at hn
    rw [List.flatMap_cons, List.nodup_append] at hn
    obtain ⟨_, n2, n3⟩ := hn
    rcases List.mem_cons.1 ht with rfl | ht2 <;> rcases List.mem_cons.1 hu with rfl | hu2
    · rfl
    · exact absurd rfl (n3 d h1 d (mem_darts.2 ⟨u, hu2, h2⟩))
    · exact absurd rfl (n3 d h2 d (mem_darts.2 ⟨t, ht2, h1⟩))
    · exact ih n2 ht2 hu2
theorem darts_nodup {T : List P3} (hn : (darts T).Nodup) : T.Nodup := by
  induction T with
  | nil => exact List.nodup_nil
  | cons x T ih =>
    unfold darts at hn
    rw [List.flatMap_cons, List.nodup_append] at hn
    obtain ⟨_, n2, n3⟩ := hn
    rw [List.nodup_cons]
    refine ⟨fun hx => ?_, ih n2⟩
    have hd : (x.1, x.2.1) ∈ dirs x := by simp [dirs]
    exact n3 _ hd _ (mem_darts.2 ⟨x, hx, hd⟩) rfl
/-- Fans are carried over. -/
theorem fan_over {T T' : List P3} {v v' : Int} (R : P3 → P3 → Prop) (h1 : ∀ t ∈ T, ∃ t' ∈ T', R t t') (h2 : ∀ t' ∈ T', hasV v' t' → ∃ t ∈ T, R t t') (h3 : ∀ t t', R t t' → (hasV v t ↔ hasV v' t')) (h4 : ∀ a a' b b', R a a' → R b b' → joinedV v a b → joinedV v' a' b') (h5 : ∀ t t' t'', t' ∈ T' → t'' ∈ T' → R t t' → R t t'' → t' = t'') (h : Fan T v) : Fan T' v' := by
  obtain ⟨⟨t, ht, hv⟩, hc⟩ := h
  constructor
  · obtain ⟨t', ht', hr⟩ := h1 t ht
    exact ⟨t', ht', (h3 _ _ hr).1 hv⟩
  · intro t' ht' u' hu' hvt hvu
    obtain ⟨t, ht, hr⟩ := h2 t' ht' hvt
    obtain ⟨u, hu, hru⟩ := h2 u' hu' hvu
    have hp := hc t ht u hu ((h3 _ _ hr).2 hvt) ((h3 _ _ hru).2 hvu)
    have key : ∀ {x}, Reach (fun a b => b ∈ T ∧ joinedV v a b) t x → ∀ x', x' ∈ T' → R x x' → Reach (fun a b => b ∈ T' ∧ joinedV v' a b) t' x' := by
      intro x hx
      induction hx with
      | refl => intro x' hx' hr2; rw [h5 t t' x' ht' hx' hr hr2]; exact Reach.refl
      | step hy s ih =>
        intro x' hx' hr2
        rename_i y z
        have hyT : y ∈ T := by
          cases hy with
          | refl => exact ht
          | step _ s2 => exact s2.1
        obtain ⟨y', hy', hry⟩ := h1 _ hyT
        exact (ih y' hy' hry).step ⟨hx', h4 _ _ _ _ hry hr2 s.2⟩
    exact key hp u' hu' hru
theorem fan_mem {T T' : List P3} (h : ∀ t, t ∈ T ↔ t ∈ T') (v : Int) : Fan T v ↔ Fan T' v := by
  unfold Fan
  simp only [h]
theorem darts_perm {T T' : List P3} (h : T.Perm T') : (darts T).Perm (darts T') := h.flatMap_right _
theorem check_perm {P T T' : List P3} (h : T.Perm T') {e : Int} (hc : CheckIs P T e) : CheckIs P T' e := by
  refine check_congr ?_ ?_ (darts_perm h).nodup_iff ?_ hc
  · unfold longM; rw [h.length_eq]
  · unfold plainM; rw [h.all_eq]
  · intro _ _
    unfold fansM
    have := fun v : Nat => fan_mem (fun t => h.mem_iff (a := t)) (v : Int)
    simp only [this]
/-- The other way round. -/
def flipT (t : P3) : P3 := (t.1, t.2.2, t.2.1)
def swapD (d : Int × Int) : Int × Int := (d.2, d.1)
theorem flip_flip (t : P3) : flipT (flipT t) = t := rfl
theorem dirs_flip {t : P3} {p q : Int} : (p, q) ∈ dirs (flipT t) ↔ (q, p) ∈ dirs t := by
  obtain ⟨a, b, c⟩ := t
  simp only [mem_dirs, flipT, Prod.mk.injEq]
  grind
theorem hasV_flip {t : P3} {v : Int} : hasV v (flipT t) ↔ hasV v t := by
  obtain ⟨a, b, c⟩ := t
  simp only [hasV, flipT]
  grind
theorem joined_flip {a b : P3} {v : Int} : joinedV v (flipT a) (flipT b) ↔ joinedV v a b := by
  constructor
  · rintro ⟨p, q, h1, h2, h3⟩; exact ⟨q, p, dirs_flip.1 h1, h2.symm, dirs_flip.1 h3⟩
  · rintro ⟨p, q, h1, h2, h3⟩; exact ⟨q, p, dirs_flip.2 h1, h2.symm, dirs_flip.2 h3⟩
theorem fan_flip {T : List P3} {v : Int} (h : Fan T v) : Fan (T.map flipT) v := by
  refine fan_over (fun t t' => t' = flipT t) (fun t ht => ⟨_, List.mem_map_of_mem ht, rfl⟩) (fun t' ht' _ => ?_) ?_ ?_ ?_ h
  · obtain ⟨t, ht, rfl⟩ := List.mem_map.1 ht'; exact ⟨t, ht, rfl⟩
  · rintro t _ rfl; exact hasV_flip.symm
  · rintro a _ b _ rfl rfl hj; exact joined_flip.2 hj
  · rintro t _ _ _ _ rfl rfl; rfl
theorem map_flip (T : List P3) : (T.map flipT).map flipT = T := by
  rw [List.map_map]
  conv => rhs; rw [← List.map_id T]
  rfl
theorem darts_flip (T : List P3) : (darts (T.map flipT)).Perm ((darts T).map swapD) := by
  induction T with
  | nil => exact List.Perm.nil
  | cons t T ih =>
    show (dirs (flipT t) ++ darts (T.map flipT)).Perm ((dirs t ++ darts T).map swapD)
    rw [List.map_append]
    refine List.Perm.append ?_ ih
    obtain ⟨a, b, c⟩ := t
    show [(a, c), (c, b), (b, a)].Perm [(b, a), (c, b), (a, c)]
    exact List.reverse_perm [(b, a), (c, b), (a, c)]
theorem swap_nodup {D : List (Int × Int)} : (D.map swapD).Nodup ↔ D.Nodup := by
  unfold List.Nodup
  rw [List.pairwise_map]
  constructor
  · intro h; exact h.imp (fun h1 e => h1 (by rw [e]))
  · intro h; exact h.imp (fun h1 e => h1 (by
      have e1 := congrArg Prod.fst e
      have e2 := congrArg Prod.snd e
      exact Prod.ext e2 e1))
theorem check_flip {P T : List P3} {e : Int} (hc : CheckIs P T e) : CheckIs P (T.map flipT) e := by
  refine check_congr ?_ ?_ ?_ ?_ hc
  · unfold longM; rw [List.length_map]
  · unfold plainM
    rw [List.all_map]
    congr 1
    apply List.all_congr rfl
    intro t
    show triM _ t = triM _ (flipT t)
    unfold triM flipT
    apply decide_eq_decide.2
    simp only
    grind
  · rw [(darts_flip T).nodup_iff, swap_nodup]
  · intro _ _
    constructor
    · intro h v hv; exact fan_flip (h v hv)
    · intro h v hv
      have := fan_flip (h v hv)
      rw [map_flip] at this
      exact this
end Go.Proofs.YthjmojglcfmkmaaDoor

/- Layer 10: triangles that begin elsewhere; edges, and the border: plain mathematics. -/
namespace Go.Proofs.YthjmojglcfmkmaaDoor
open Classical

/-- A triangle that begins elsewhere. -/
def rotT (k : Nat) (t : P3) : P3 := if k = 0 then t else if k = 1 then (t.2.1, t.2.2, t.1) else (t.2.2, t.1, t.2.1)
theorem rot_ways (k : Nat) (t : P3) : rotT k t = t ∨ rotT k t = (t.2.1, t.2.2, t.1) ∨ rotT k t = (t.2.2, t.1, t.2.1) := by
  unfold rotT
  split
  · exact Or.inl rfl
  · split
    · exact Or.inr (Or.inl rfl)
    · exact Or.inr (Or.inr rfl)
theorem dirs_rot (k : Nat) (t : P3) : (dirs (rotT k t)).Perm (dirs t) := by
  obtain ⟨a, b, c⟩ := t
  rcases rot_ways k (a, b, c) with h | h | h
  · rw [h]
  · rw [h]
    show [(b, c), (c, a), (a, b)].Perm [(a, b), (b, c), (c, a)]
    exact List.perm_append_comm (l₁ := [(b, c), (c, a)]) (l₂ := [(a, b)])
  · rw [h]
    show [(c, a), (a, b), (b, c)].Perm [(a, b), (b, c), (c, a)]
    exact List.perm_append_comm (l₁ := [(c, a)]) (l₂ := [(a, b), (b, c)])
theorem hasV_rot (k : Nat) (t : P3) (v : Int) : hasV v (rotT k t) ↔ hasV v t := by
  rw [hasV_out, hasV_out]
  simp only [(dirs_rot k t).mem_iff]
theorem joined_rot (k m : Nat) (a b : P3) (v : Int) : joinedV v (rotT k a) (rotT m b) ↔ joinedV v a b := by
  unfold joinedV
  simp only [(dirs_rot k a).mem_iff, (dirs_rot m b).mem_iff]
theorem triM_rot (n k : Nat) (t : P3) : triM n (rotT k t) = triM n t := by
  obtain ⟨a, b, c⟩ := t
  rcases rot_ways k (a, b, c) with h | h | h <;> rw [h] <;> unfold triM <;> apply decide_eq_decide.2 <;> simp only <;> grind
/-- Each of them begins elsewhere. -/
def turnsT (T : List P3) (by_ : List Nat) : List P3 := List.zipWith (fun t k => rotT k t) T by_
theorem darts_turns : ∀ (T : List P3) (by_ : List Nat), by_.length = T.length → (darts (turnsT T by_)).Perm (darts T) := by
  intro T
  induction T with
  | nil => intro by_ _; cases by_ <;> exact List.Perm.refl _
  | cons t T ih =>
    intro by_ h
    cases by_ with
    | nil => cases h
    | cons k by_ => exact List.Perm.append (dirs_rot k t) (ih by_ (by simpa using h))
theorem turns_mem : ∀ (T : List P3) (by_ : List Nat), by_.length = T.length → (∀ t ∈ T, ∃ k, rotT k t ∈ turnsT T by_) ∧ ∀ u ∈ turnsT T by_, ∃ t ∈ T, ∃ k, u = rotT k t := by
  intro T
  induction T with
  | nil =>
    intro by_ h
    refine ⟨fun t ht => (by cases ht), fun u hu => ?_⟩
    cases by_ with
    | nil => cases hu
    | cons k by_ => cases h
  | cons t T ih =>
    intro by_ h
    cases by_ with
    | nil => cases h
    | cons k by_ =>
      obtain ⟨i1, i2⟩ := ih by_ (by simpa using h)
      constructor
      · intro u hu
        rcases List.mem_cons.1 hu with rfl | hu
        · exact ⟨k, List.mem_cons_self ..⟩
        · obtain ⟨m, hm⟩ := i1 u hu
          exact ⟨m, List.mem_cons_of_mem _ hm⟩
      · intro u hu
        rcases List.mem_cons.1 hu with rfl | hu
        · exact ⟨t, List.mem_cons_self .., k, rfl⟩
        · obtain ⟨v, hv, m, e⟩ := i2 u hu
          exact ⟨v, List.mem_cons_of_mem _ hv, m, e⟩
theorem turns_all (n : Nat) : ∀ (T : List P3) (by_ : List Nat), by_.length = T.length → (turnsT T by_).all (triM n) = T.all (triM n) := by
  intro T
  induction T with
  | nil => intro by_ _; cases by_ <;> rfl
  | cons t T ih =>
    intro by_ h
    cases by_ with
    | nil => cases h
    | cons k by_ =>
      show (triM n (rotT k t) && (turnsT T by_).all (triM n)) = (triM n t && T.all (triM n))
      rw [triM_rot, ih by_ (by simpa using h)]
theorem fan_turns {T : List P3} {by_ : List Nat} (h : by_.length = T.length) (hn : (darts T).Nodup) (v : Int) : Fan (turnsT T by_) v ↔ Fan T v := by
  obtain ⟨h1, h2⟩ := turns_mem T by_ h
  have hn2 : (darts (turnsT T by_)).Nodup := (darts_turns T by_ h).nodup_iff.2 hn
  have hd : ∀ t : P3, (t.1, t.2.1) ∈ dirs t := fun t => List.mem_cons_self ..
  constructor
  · refine fan_over (fun t t' => ∃ k, t = rotT k t') (fun u hu => ?_) (fun t ht _ => ?_) ?_ ?_ ?_
    · obtain ⟨t, ht, k, e⟩ := h2 u hu; exact ⟨t, ht, k, e⟩
    · obtain ⟨k, hk⟩ := h1 t ht; exact ⟨_, hk, k, rfl⟩
    · rintro _ t ⟨k, rfl⟩; exact hasV_rot k t v
    · rintro _ a _ b ⟨k, rfl⟩ ⟨m, rfl⟩; exact (joined_rot k m a b v).1
    · rintro t a b ha hb ⟨k, e1⟩ ⟨m, e2⟩
      have d1 := hd t
      refine dart_one hn ha hb (d := (t.1, t.2.1)) ?_ ?_
      · rw [e1] at d1 ⊢; exact (dirs_rot k a).mem_iff.1 d1
      · rw [e2] at d1 ⊢; exact (dirs_rot m b).mem_iff.1 d1
  · refine fan_over (fun t t' => ∃ k, t' = rotT k t) (fun t ht => ?_) (fun u hu _ => ?_) ?_ ?_ ?_
    · obtain ⟨k, hk⟩ := h1 t ht; exact ⟨_, hk, k, rfl⟩
    · obtain ⟨t, ht, k, e⟩ := h2 u hu; exact ⟨t, ht, k, e⟩
    · rintro t _ ⟨k, rfl⟩; exact (hasV_rot k t v).symm
    · rintro a _ b _ ⟨k, rfl⟩ ⟨m, rfl⟩; exact (joined_rot k m a b v).2
    · rintro t _ _ ha hb ⟨k, rfl⟩ ⟨m, rfl⟩
      refine dart_one hn2 ha hb (d := (t.1, t.2.1)) ?_ ?_
      · exact (dirs_rot k t).mem_iff.2 (hd t)
      · exact (dirs_rot m t).mem_iff.2 (hd t)
theorem turns_len {T : List P3} {by_ : List Nat} (h : by_.length = T.length) : (turnsT T by_).length = T.length := by
  unfold turnsT
  rw [List.length_zipWith, h, Nat.min_self]
theorem check_turns {P T : List P3} {by_ : List Nat} (h : by_.length = T.length) {e : Int} (hc : CheckIs P T e) : CheckIs P (turnsT T by_) e := by
  refine check_congr ?_ ?_ ?_ ?_ hc
  · unfold longM; rw [turns_len h]
  · unfold plainM; rw [turns_all _ T by_ h]
  · exact (darts_turns T by_ h).nodup_iff.symm
  · intro _ hn
    unfold fansM
    simp only [fan_turns h hn]
/-- All pairs, rising. -/
def pairsN (n : Nat) : List (Int × Int) := (List.range n).flatMap fun (a : Nat) => (List.range n).map fun (b : Nat) => ((a : Int), (b : Int))
theorem mem_pairs {n : Nat} {d : Int × Int} : d ∈ pairsN n ↔ (0 ≤ d.1 ∧ d.1 < n) ∧ (0 ≤ d.2 ∧ d.2 < n) := by
  unfold pairsN
  rw [List.mem_flatMap]
  constructor
  · rintro ⟨a, ha, h⟩
    obtain ⟨b, hb, rfl⟩ := List.mem_map.1 h
    rw [List.mem_range] at ha hb
    simp only
    omega
  · rintro ⟨⟨h1, h2⟩, ⟨h3, h4⟩⟩
    refine ⟨d.1.toNat, List.mem_range.2 (by omega), List.mem_map.2 ⟨d.2.toNat, List.mem_range.2 (by omega), ?_⟩⟩
    exact Prod.ext (by simp only; omega) (by simp only; omega)
theorem pairs_nodup (n : Nat) : (pairsN n).Nodup := by
  unfold pairsN List.Nodup
  rw [List.pairwise_flatMap]
  constructor
  · intro a _
    refine List.pairwise_map.2 ((List.nodup_range (n := n)).imp ?_)
    intro x y h e
    have := congrArg Prod.snd e
    simp only at this
    exact h (by omega)
  · refine List.Pairwise.imp ?_ (List.nodup_range (n := n))
    intro a b hab d h1 e2 h2 e
    obtain ⟨x, _, rfl⟩ := List.mem_map.1 h1
    obtain ⟨y, _, rfl⟩ := List.mem_map.1 h2
    have := congrArg Prod.fst e
    simp only at this
    exact hab (by omega)
/-- Edges each once; or those that have no opposite. -/
def edgeB (D : List (Int × Int)) (border : Bool) (d : Int × Int) : Bool := if border then D.contains d && !D.contains (swapD d) else decide (d.1 < d.2) && (D.contains d || D.contains (swapD d))
def edgesF (n : Nat) (T : List P3) (border : Bool) : List (Int × Int) := (pairsN n).filter (edgeB (darts T) border)
theorem edges_same {n : Nat} {T T' : List P3} (h : ∀ d, d ∈ darts T ↔ d ∈ darts T') (border : Bool) : edgesF n T border = edgesF n T' border := by
  unfold edgesF
  congr 1
  funext d
  unfold edgeB
  have e : ∀ d, (darts T).contains d = (darts T').contains d := fun d => by
    rw [Bool.eq_iff_iff, List.contains_iff_mem, List.contains_iff_mem]; exact h d
  rw [e, e]
theorem edges_nodup (n : Nat) (T : List P3) (border : Bool) : (edgesF n T border).Nodup := (pairs_nodup n).filter _
theorem darts_in {P T : List P3} (h : plainM P T = true) {d : Int × Int} (hd : d ∈ darts T) : d ∈ pairsN P.length ∧ d.1 ≠ d.2 := by
  unfold plainM at h
  rw [Bool.and_eq_true] at h
  obtain ⟨t, ht, h1⟩ := mem_darts.1 hd
  have h2 := triM_iff.1 (List.all_eq_true.1 h.2 t ht)
  rw [mem_pairs]
  rcases mem_dirs.1 h1 with rfl | rfl | rfl <;> simp only <;> omega
theorem mem_border {P T : List P3} (h : plainM P T = true) {d : Int × Int} : d ∈ edgesF P.length T true ↔ d ∈ darts T ∧ swapD d ∉ darts T := by
  unfold edgesF edgeB
  rw [List.mem_filter, if_pos rfl, Bool.and_eq_true, Bool.not_eq_true', List.contains_iff_mem]
  constructor
  · rintro ⟨_, h1, h2⟩
    refine ⟨h1, fun h3 => ?_⟩
    rw [List.contains_iff_mem.2 h3] at h2; cases h2
  · rintro ⟨h1, h2⟩
    refine ⟨(darts_in h h1).1, h1, ?_⟩
    cases hc : (darts T).contains (swapD d) with
    | false => rfl
    | true => exact absurd (List.contains_iff_mem.1 hc) h2
theorem mem_edges {P T : List P3} (h : plainM P T = true) {d : Int × Int} : d ∈ edgesF P.length T false ↔ d.1 < d.2 ∧ (d ∈ darts T ∨ swapD d ∈ darts T) := by
  unfold edgesF edgeB
  rw [List.mem_filter, if_neg (by decide), Bool.and_eq_true, Bool.or_eq_true, decide_eq_true_eq, List.contains_iff_mem, List.contains_iff_mem]
  constructor
  · rintro ⟨_, h1⟩; exact h1
  · rintro ⟨h1, h2⟩
    refine ⟨?_, h1, h2⟩
    rcases h2 with h2 | h2
    · exact (darts_in h h2).1
    · have := (darts_in h h2).1
      rw [mem_pairs] at this ⊢
      unfold swapD at this
      exact ⟨this.2, this.1⟩
theorem perm_of_mem {α : Type} {l m : List α} (hl : l.Nodup) (hm : m.Nodup) (h : ∀ x, x ∈ l ↔ x ∈ m) : l.Perm m := (List.perm_ext_iff_of_nodup hl hm).2 h
theorem border_perm {P T : List P3} (h : plainM P T = true) (hn : (darts T).Nodup) : (edgesF P.length T true).Perm ((darts T).filter fun d => !(darts T).contains (swapD d)) := by
  refine perm_of_mem (edges_nodup _ _ _) (hn.filter _) (fun d => ?_)
  rw [mem_border h, List.mem_filter]
  simp
theorem darts_len (T : List P3) : (darts T).length = 3 * T.length := by
  induction T with
  | nil => rfl
  | cons t T ih =>
    show (dirs t ++ darts T).length = 3 * (T.length + 1)
    rw [List.length_append, ih]
    show 3 + _ = _
    omega
theorem len_filter {α : Type} (f : α → Bool) (l : List α) : (l.filter f).length + (l.filter fun x => !f x).length = l.length := by
  induction l with
  | nil => rfl
  | cons x l ih =>
    cases h : f x <;> simp [h] <;> omega
theorem swap_inj {D : List (Int × Int)} (h : D.Nodup) : (D.map swapD).Nodup := swap_nodup.2 h
theorem mem_swap {D : List (Int × Int)} {d : Int × Int} : d ∈ D.map swapD ↔ swapD d ∈ D := by
  constructor
  · intro h; obtain ⟨e, he, rfl⟩ := List.mem_map.1 h; exact he
  · intro h; exact List.mem_map.2 ⟨_, h, rfl⟩
/-- Twice the edges are three times the triangles, and the border. -/
theorem edges_count {P T : List P3} (h : plainM P T = true) (hn : (darts T).Nodup) : 2 * (edgesF P.length T false).length = 3 * T.length + (edgesF P.length T true).length := by
  rw [(border_perm h hn).length_eq]
  have hD := darts_len T
  have hin : ∀ d ∈ darts T, d.1 ≠ d.2 := fun d hd => (darts_in h hd).2
  have hE : (edgesF P.length T false).Perm ((darts T).filter (fun d => decide (d.1 < d.2)) ++ (((darts T).filter (fun d => decide (d.2 < d.1))).filter (fun d => !(darts T).contains (swapD d))).map swapD) := by
    refine perm_of_mem (edges_nodup _ _ _) ?_ (fun d => ?_)
    · rw [List.nodup_append]
      refine ⟨hn.filter _, swap_inj ((hn.filter _).filter _), ?_⟩
      rintro a h1 b h2 rfl
      rw [mem_swap, List.mem_filter] at h2
      rw [List.mem_filter] at h1
      have := h2.2
      rw [Bool.not_eq_true'] at this
      have e : swapD (swapD a) = a := rfl
      rw [e, List.contains_iff_mem.2 h1.1] at this
      cases this
    · rw [mem_edges h, List.mem_append, mem_swap, List.mem_filter, List.mem_filter, List.mem_filter]
      have e : swapD (swapD d) = d := rfl
      rw [e, Bool.not_eq_true', decide_eq_true_eq, decide_eq_true_eq]
      have e2 : (swapD d).2 < (swapD d).1 ↔ d.1 < d.2 := Iff.rfl
      rw [e2]
      by_cases hd : d ∈ darts T
      · simp only [hd, true_or, and_true, true_and]
        constructor
        · exact Or.inl
        · rintro (h1 | ⟨⟨_, h1⟩, _⟩)
          · exact h1
          · exact h1
      · have : (darts T).contains d = false := by
          cases hc : (darts T).contains d with
          | false => rfl
          | true => exact absurd (List.contains_iff_mem.1 hc) hd
        simp only [hd, false_or, false_and, this, and_true]
        exact And.comm
  rw [hE.length_eq, List.length_append, List.length_map]
  have c1 := len_filter (fun d : Int × Int => decide (d.1 < d.2)) (darts T)
  have c2 : (darts T).filter (fun d => !decide (d.1 < d.2)) = (darts T).filter (fun d => decide (d.2 < d.1)) := by
    refine List.filter_congr (fun d hd => ?_)
    have := hin d hd
    rw [Bool.eq_iff_iff]
    simp only [Bool.not_eq_true', decide_eq_false_iff_not, decide_eq_true_eq]
    omega
  rw [c2] at c1
  have c3 := len_filter (fun d : Int × Int => (darts T).contains (swapD d)) ((darts T).filter (fun d => decide (d.2 < d.1)))
  have c4 := len_filter (fun d : Int × Int => (darts T).contains (swapD d)) (darts T)
  -- those with an opposite are half of them rising
  have c5 := len_filter (fun d : Int × Int => decide (d.1 < d.2)) ((darts T).filter fun d => (darts T).contains (swapD d))
  have c6 : (((darts T).filter fun d => (darts T).contains (swapD d)).filter fun d => !decide (d.1 < d.2)) = (((darts T).filter (fun d => decide (d.2 < d.1))).filter fun d => (darts T).contains (swapD d)) := by
    rw [List.filter_filter, List.filter_filter]
    refine List.filter_congr (fun d hd => ?_)
    have := hin d hd
    have e : (!decide (d.1 < d.2)) = decide (d.2 < d.1) := by
      rw [Bool.eq_iff_iff]
      simp only [Bool.not_eq_true', decide_eq_false_iff_not, decide_eq_true_eq]
      omega
    rw [e]
    exact Bool.and_comm _ _
  rw [c6] at c5
  have c7 : (((darts T).filter fun d => (darts T).contains (swapD d)).filter fun d => decide (d.1 < d.2)).Perm ((((darts T).filter (fun d => decide (d.2 < d.1))).filter fun d => (darts T).contains (swapD d)).map swapD) := by
    refine perm_of_mem ((hn.filter _).filter _) (swap_inj ((hn.filter _).filter _)) (fun d => ?_)
    rw [mem_swap, List.mem_filter, List.mem_filter, List.mem_filter, List.mem_filter]
    have e : swapD (swapD d) = d := rfl
    rw [e, List.contains_iff_mem, List.contains_iff_mem, decide_eq_true_eq, decide_eq_true_eq]
    have e2 : (swapD d).2 < (swapD d).1 ↔ d.1 < d.2 := Iff.rfl
    rw [e2]
    constructor
    · rintro ⟨⟨h1, h2⟩, h3⟩; exact ⟨⟨h2, h3⟩, h1⟩
    · rintro ⟨⟨h1, h2⟩, h3⟩; exact ⟨⟨h3, h1⟩, h2⟩
  have c8 := c7.length_eq
  rw [List.length_map] at c8
  omega
end Go.Proofs.YthjmojglcfmkmaaDoor

/- Layer 10: the border at a vertex; orbits; pieces: plain mathematics. -/
namespace Go.Proofs.YthjmojglcfmkmaaDoor
open Classical

instance (v : Int) (t : P3) : Decidable (hasV v t) := by unfold hasV; infer_instance
theorem dirs_count {n : Nat} {t : P3} (h : triM n t = true) (v : Int) : (dirs t).countP (fun d => decide (d.1 = v)) = (if hasV v t then 1 else 0) ∧ (dirs t).countP (fun d => decide (d.2 = v)) = (if hasV v t then 1 else 0) := by
  have h := triM_iff.1 h
  obtain ⟨a, b, c⟩ := t
  unfold dirs hasV
  simp only [List.countP_cons, List.countP_nil, decide_eq_true_eq] at h ⊢
  obtain ⟨h1, h2, h3, _⟩ := h
  by_cases e1 : a = v
  · subst e1
    simp [Ne.symm h1, h3]
  · by_cases e2 : b = v
    · subst e2
      simp [h1, Ne.symm h2]
    · by_cases e3 : c = v
      · subst e3
        simp [Ne.symm h3, h2]
      · simp [e1, e2, e3]
theorem darts_count {n : Nat} {T : List P3} (h : T.all (triM n) = true) (v : Int) : (darts T).countP (fun d => decide (d.1 = v)) = (T.filter fun t => decide (hasV v t)).length ∧ (darts T).countP (fun d => decide (d.2 = v)) = (T.filter fun t => decide (hasV v t)).length := by
  induction T with
  | nil => exact ⟨rfl, rfl⟩
  | cons t T ih =>
    rw [List.all_cons, Bool.and_eq_true] at h
    obtain ⟨i1, i2⟩ := ih h.2
    obtain ⟨d1, d2⟩ := dirs_count h.1 v
    show (dirs t ++ darts T).countP _ = _ ∧ (dirs t ++ darts T).countP _ = _
    rw [List.countP_append, List.countP_append, i1, i2, d1, d2, List.filter_cons]
    by_cases hv : hasV v t
    · simp only [hv, if_true, decide_true, List.length_cons]; omega
    · simp only [hv, if_false, decide_false, Bool.false_eq_true]; omega
/-- The triangle of a directed edge. -/
def triOf (T : List P3) (d : Int × Int) : P3 := (T.find? fun t => (dirs t).contains d).getD (0, 0, 0)
theorem triOf_is {T : List P3} (hn : (darts T).Nodup) {t : P3} {d : Int × Int} (ht : t ∈ T) (hd : d ∈ dirs t) : triOf T d = t := by
  unfold triOf
  cases hf : T.find? fun t => (dirs t).contains d with
  | none =>
    have := List.find?_eq_none.1 hf t ht
    exact absurd (List.contains_iff_mem.2 hd) this
  | some u =>
    have hu := List.mem_of_find?_eq_some hf
    have hp := List.find?_some hf
    exact dart_one hn hu ht (List.contains_iff_mem.1 hp) hd
theorem triOf_in {T : List P3} (hn : (darts T).Nodup) {d : Int × Int} (hd : d ∈ darts T) : triOf T d ∈ T ∧ d ∈ dirs (triOf T d) := by
  obtain ⟨t, ht, h⟩ := mem_darts.1 hd
  rw [triOf_is hn ht h]
  exact ⟨ht, h⟩
def bothAt (T : List P3) (v : Int) : List (Int × Int) := (darts T).filter fun d => decide (d.1 = v) && (darts T).contains (swapD d)
/-- At a vertex there is one triangle more than edges between them, at most. -/
theorem fan_count {T : List P3} {v : Int} (hn : (darts T).Nodup) (hf : Fan T v) : (T.filter fun t => decide (hasV v t)).length ≤ (bothAt T v).length + 1 := by
  have hL : (T.filter fun t => decide (hasV v t)).Nodup := (darts_nodup hn).filter _
  have hq : Eqv (fun x y : P3 => x = y) := ⟨fun _ => rfl, fun e => e.symm, fun e f => e.trans f⟩
  have h1 := merges_le ((bothAt T v).map fun d => (triOf T d, triOf T (swapD d))) hq (T.filter fun t => decide (hasV v t))
  have he := merges_eqv ((bothAt T v).map fun d => (triOf T d, triOf T (swapD d))) hq
  have h1 := Nat.le_trans (Nat.le_of_eq (@cls_eq P3 (fun x y => x = y) (fun a b => propDecidable (a = b)) (fun _ _ e => e) _ hL).symm) h1
  rw [List.length_map] at h1
  refine Nat.le_trans h1 (Nat.add_comm _ _ ▸ Nat.add_le_add_left ?_ _)
  refine cls_all _ (fun x hx y hy => ?_)
  rw [List.mem_filter, decide_eq_true_eq] at hx hy
  have hr := hf.2 x hx.1 y hy.1 hx.2 hy.2
  have key : ∀ {z}, Reach (fun a b => b ∈ T ∧ joinedV v a b) x z → z ∈ T ∧ merges (fun x y : P3 => x = y) ((bothAt T v).map fun d => (triOf T d, triOf T (swapD d))) x z := by
    intro z hz
    induction hz with
    | refl => exact ⟨hx.1, he.refl x⟩
    | step _ s ih =>
      obtain ⟨i1, i2⟩ := ih
      obtain ⟨s1, p, q, s2, s3, s4⟩ := s
      refine ⟨s1, he.trans i2 ?_⟩
      rename_i y z _
      have m1 : (p, q) ∈ darts T := mem_darts.2 ⟨y, i1, s2⟩
      have m2 : (q, p) ∈ darts T := mem_darts.2 ⟨z, s1, s4⟩
      have t1 := triOf_is hn i1 s2
      have t2 := triOf_is hn s1 s4
      rcases s3 with rfl | rfl
      · have hm : (p, q) ∈ bothAt T p := by
          unfold bothAt
          rw [List.mem_filter, Bool.and_eq_true, List.contains_iff_mem]
          exact ⟨m1, decide_eq_true rfl, m2⟩
        have := merges_mem _ hq (List.mem_map_of_mem (f := fun d => (triOf T d, triOf T (swapD d))) hm)
        simp only [swapD, t1, t2] at this
        exact this
      · have hm : (q, p) ∈ bothAt T q := by
          unfold bothAt
          rw [List.mem_filter, Bool.and_eq_true, List.contains_iff_mem]
          exact ⟨m2, decide_eq_true rfl, m1⟩
        have := merges_mem _ hq (List.mem_map_of_mem (f := fun d => (triOf T d, triOf T (swapD d))) hm)
        simp only [swapD, t1, t2] at this
        exact he.symm this
  exact (key hr).2
/-- Of the border as many begin at a vertex as end there, one at most. -/
theorem border_vertex {P T : List P3} (h : plainM P T = true) (hn : (darts T).Nodup) {v : Int} (hf : Fan T v) : (edgesF P.length T true).countP (fun d => decide (d.1 = v)) = (edgesF P.length T true).countP (fun d => decide (d.2 = v)) ∧ (edgesF P.length T true).countP (fun d => decide (d.1 = v)) ≤ 1 := by
  rw [(border_perm h hn).countP_eq, (border_perm h hn).countP_eq]
  have hall : T.all (triM P.length) = true := by unfold plainM at h; rw [Bool.and_eq_true] at h; exact h.2
  obtain ⟨c1, c2⟩ := darts_count hall v
  have hc := fan_count hn hf
  have k1 := len_filter (fun d : Int × Int => (darts T).contains (swapD d)) ((darts T).filter fun d => decide (d.1 = v))
  have k2 := len_filter (fun d : Int × Int => (darts T).contains (swapD d)) ((darts T).filter fun d => decide (d.2 = v))
  have c3 : ((darts T).filter fun d => decide (d.1 = v)).length = (T.filter fun t => decide (hasV v t)).length := List.countP_eq_length_filter.symm.trans c1
  have c4 : ((darts T).filter fun d => decide (d.2 = v)).length = (T.filter fun t => decide (hasV v t)).length := List.countP_eq_length_filter.symm.trans c2
  have b1 : (((darts T).filter fun d => decide (d.1 = v)).filter fun d => (darts T).contains (swapD d)) = bothAt T v := by
    unfold bothAt
    rw [List.filter_filter]
    exact List.filter_congr (fun d _ => Bool.and_comm _ _)
  have b2 : (((darts T).filter fun d => decide (d.2 = v)).filter fun d => (darts T).contains (swapD d)).Perm ((bothAt T v).map swapD) := by
    refine perm_of_mem ((hn.filter _).filter _) (swap_inj (hn.filter _)) (fun d => ?_)
    unfold bothAt
    rw [mem_swap, List.mem_filter, List.mem_filter, List.mem_filter, Bool.and_eq_true, List.contains_iff_mem, List.contains_iff_mem, decide_eq_true_eq, decide_eq_true_eq]
    have e : swapD (swapD d) = d := rfl
    rw [e]
    constructor
    · rintro ⟨⟨x1, x2⟩, x3⟩; exact ⟨x3, x2, x1⟩
    · rintro ⟨x3, x2, x1⟩; exact ⟨⟨x1, x2⟩, x3⟩
  have b3 := b2.length_eq
  rw [List.length_map] at b3
  have f1 : ((darts T).filter fun d => !(darts T).contains (swapD d)).countP (fun d => decide (d.1 = v)) = (((darts T).filter fun d => decide (d.1 = v)).filter fun d => !(darts T).contains (swapD d)).length := by
    rw [List.countP_eq_length_filter, List.filter_filter, List.filter_filter]
    exact congrArg List.length (List.filter_congr (fun d _ => Bool.and_comm _ _))
  have f2 : ((darts T).filter fun d => !(darts T).contains (swapD d)).countP (fun d => decide (d.2 = v)) = (((darts T).filter fun d => decide (d.2 = v)).filter fun d => !(darts T).contains (swapD d)).length := by
    rw [List.countP_eq_length_filter, List.filter_filter, List.filter_filter]
    exact congrArg List.length (List.filter_congr (fun d _ => Bool.and_comm _ _))
  rw [f1, f2]
  rw [b1] at k1
  rw [b3] at k2
  omega
/-- The next directed edge in a triangle. -/
def nextIn (t : P3) (d : Int × Int) : Int × Int := if d.1 = t.1 then (t.2.1, t.2.2) else if d.1 = t.2.1 then (t.2.2, t.1) else (t.1, t.2.1)
theorem next_ways {n : Nat} {t : P3} (h : triM n t = true) : nextIn t (t.1, t.2.1) = (t.2.1, t.2.2) ∧ nextIn t (t.2.1, t.2.2) = (t.2.2, t.1) ∧ nextIn t (t.2.2, t.1) = (t.1, t.2.1) := by
  obtain ⟨h1, h2, h3, _⟩ := triM_iff.1 h
  unfold nextIn
  refine ⟨if_pos rfl, ?_, ?_⟩
  · rw [if_neg (Ne.symm h1), if_pos rfl]
  · rw [if_neg h3, if_neg (Ne.symm h2)]
theorem next_in {n : Nat} {t : P3} (h : triM n t = true) {d : Int × Int} (hd : d ∈ dirs t) : nextIn t d ∈ dirs t ∧ (nextIn t d).1 = d.2 := by
  obtain ⟨n1, n2, n3⟩ := next_ways h
  rcases mem_dirs.1 hd with rfl | rfl | rfl
  · rw [n1]; exact ⟨mem_dirs.2 (Or.inr (Or.inl rfl)), rfl⟩
  · rw [n2]; exact ⟨mem_dirs.2 (Or.inr (Or.inr rfl)), rfl⟩
  · rw [n3]; exact ⟨mem_dirs.2 (Or.inl rfl), rfl⟩
theorem out_one {n : Nat} {t : P3} (h : triM n t = true) {d e : Int × Int} (hd : d ∈ dirs t) (he : e ∈ dirs t) (h1 : d.1 = e.1) : d = e := by
  obtain ⟨h2, h3, h4, _⟩ := triM_iff.1 h
  rcases mem_dirs.1 hd with rfl | rfl | rfl <;> rcases mem_dirs.1 he with rfl | rfl | rfl <;> first | rfl | (exfalso; simp only at h1; first | exact h2 h1 | exact h3 h1 | exact h4 h1 | exact h2 h1.symm | exact h3 h1.symm | exact h4 h1.symm)
theorem in_one {n : Nat} {t : P3} (h : triM n t = true) {d e : Int × Int} (hd : d ∈ dirs t) (he : e ∈ dirs t) (h1 : d.2 = e.2) : d = e := by
  obtain ⟨h2, h3, h4, _⟩ := triM_iff.1 h
  rcases mem_dirs.1 hd with rfl | rfl | rfl <;> rcases mem_dirs.1 he with rfl | rfl | rfl <;> first | rfl | (exfalso; simp only at h1; first | exact h2 h1 | exact h3 h1 | exact h4 h1 | exact h2 h1.symm | exact h3 h1.symm | exact h4 h1.symm)
def nextD (T : List P3) (d : Int × Int) : Int × Int := nextIn (triOf T d) d
theorem nextD_in {n : Nat} {T : List P3} (h : T.all (triM n) = true) (hn : (darts T).Nodup) {d : Int × Int} (hd : d ∈ darts T) : nextD T d ∈ darts T ∧ (nextD T d).1 = d.2 ∧ triOf T (nextD T d) = triOf T d := by
  obtain ⟨h1, h2⟩ := triOf_in hn hd
  have ht := List.all_eq_true.1 h _ h1
  obtain ⟨h3, h4⟩ := next_in ht h2
  exact ⟨mem_darts.2 ⟨_, h1, h3⟩, h4, triOf_is hn h1 h3⟩
theorem nextD_perm {n : Nat} {T : List P3} (h : T.all (triM n) = true) (hn : (darts T).Nodup) : PermOn (darts T) (nextD T) := by
  refine ⟨fun d hd => (nextD_in h hn hd).1, fun d hd e he heq => ?_⟩
  obtain ⟨_, d2, d3⟩ := nextD_in h hn hd
  obtain ⟨_, e2, e3⟩ := nextD_in h hn he
  rw [heq] at d2 d3
  have ht : triOf T d = triOf T e := d3.symm.trans e3
  obtain ⟨h1, h2⟩ := triOf_in hn hd
  obtain ⟨h3, h4⟩ := triOf_in hn he
  rw [← ht] at h4
  exact in_one (List.all_eq_true.1 h _ h1) h2 h4 (d2.symm.trans e2)
theorem orb_tri {n : Nat} {T : List P3} (h : T.all (triM n) = true) (hn : (darts T).Nodup) : ∀ d ∈ darts T, ∀ e ∈ darts T, (Orb (darts T) (nextD T) d e ↔ triOf T d = triOf T e) := by
  intro d hd e he
  constructor
  · intro ho
    exact Orb.least (s := fun x y => triOf T x = triOf T y) ⟨fun _ => rfl, fun e => e.symm, fun e f => e.trans f⟩ (fun x hx => (nextD_in h hn hx).2.2.symm) ho
  · intro heq
    obtain ⟨h1, h2⟩ := triOf_in hn hd
    obtain ⟨h3, h4⟩ := triOf_in hn he
    rw [← heq] at h4
    generalize triOf T d = t at *
    have htr := List.all_eq_true.1 h _ h1
    obtain ⟨n1, n2, n3⟩ := next_ways htr
    have m1 : (t.1, t.2.1) ∈ dirs t := mem_dirs.2 (Or.inl rfl)
    have m2 : (t.2.1, t.2.2) ∈ dirs t := mem_dirs.2 (Or.inr (Or.inl rfl))
    have s1 := Orb.step (p := nextD T) (t.1, t.2.1) (mem_darts.2 ⟨t, h1, m1⟩)
    have s2 := Orb.step (p := nextD T) (t.2.1, t.2.2) (mem_darts.2 ⟨t, h1, m2⟩)
    unfold nextD at s1 s2
    rw [triOf_is hn h1 m1, n1] at s1
    rw [triOf_is hn h1 m2, n2] at s2
    have hfirst : ∀ x ∈ dirs t, Orb (darts T) (nextD T) (t.1, t.2.1) x := by
      intro x hx
      rcases mem_dirs.1 hx with rfl | rfl | rfl
      · exact Orb.refl _
      · exact s1
      · exact Orb.trans s1 s2
    exact Orb.trans (Orb.symm (hfirst d h2)) (hfirst e h4)
theorem orb_tris {n : Nat} {T : List P3} (h : T.all (triM n) = true) (hn : (darts T).Nodup) : cls (Orb (darts T) (nextD T)) (darts T) = T.length := by
  rw [cls_congr (s := fun x y => triOf T x = triOf T y) _ (orb_tri h hn)]
  refine cls_key (triOf T) _ T (darts_nodup hn) (fun x hx => (triOf_in hn hx).1) (fun t ht => ?_)
  have m1 : (t.1, t.2.1) ∈ dirs t := mem_dirs.2 (Or.inl rfl)
  exact ⟨(t.1, t.2.1), mem_darts.2 ⟨t, ht, m1⟩, triOf_is hn ht m1⟩
def Apart {α : Type} (e f : α × α) : Prop := e.1 ≠ f.1 ∧ e.1 ≠ f.2 ∧ e.2 ≠ f.1 ∧ e.2 ≠ f.2
theorem comps_out {α : Type} [DecidableEq α] : ∀ (l : List (α × α)) (p : α → α) (x : α), (∀ e ∈ l, x ≠ e.1 ∧ x ≠ e.2) → comps p l x = p x := by
  intro l
  induction l with
  | nil => intro p x _; rfl
  | cons e l ih =>
    intro p x h
    show comps (swapped p e.1 e.2) l x = _
    rw [ih _ x (fun f hf => h f (List.mem_cons_of_mem _ hf))]
    have := h e (List.mem_cons_self ..)
    exact swapped_o p this.1 this.2
theorem comps_at {α : Type} [DecidableEq α] : ∀ (l : List (α × α)) (p : α → α), l.Pairwise Apart → (∀ e ∈ l, e.1 ≠ e.2) → ∀ e ∈ l, comps p l e.1 = p e.2 ∧ comps p l e.2 = p e.1 := by
  intro l
  induction l with
  | nil => intro p _ _ e he; cases he
  | cons d l ih =>
    intro p hp hne e he
    rw [List.pairwise_cons] at hp
    show comps (swapped p d.1 d.2) l e.1 = _ ∧ comps (swapped p d.1 d.2) l e.2 = _
    rcases List.mem_cons.1 he with rfl | he
    · have hd := hne e (List.mem_cons_self ..)
      rw [comps_out l _ e.1 (fun f hf => ⟨(hp.1 f hf).1, (hp.1 f hf).2.1⟩), comps_out l _ e.2 (fun f hf => ⟨(hp.1 f hf).2.2.1, (hp.1 f hf).2.2.2⟩)]
      exact ⟨swapped_a p _ _, swapped_b p hd⟩
    · obtain ⟨i1, i2⟩ := ih (swapped p d.1 d.2) hp.2 (fun f hf => hne f (List.mem_cons_of_mem _ hf)) e he
      obtain ⟨a1, a2, a3, a4⟩ := hp.1 e he
      rw [i1, i2, swapped_o p (Ne.symm a2) (Ne.symm a4), swapped_o p (Ne.symm a1) (Ne.symm a3)]
      exact ⟨rfl, rfl⟩
/-- Triangles one comes to over edges. -/
def ConnT (T : List P3) (t u : P3) : Prop := Reach (fun a b => b ∈ T ∧ ∃ p q, (p, q) ∈ dirs a ∧ (q, p) ∈ dirs b) t u
def maxNext : List Nat → Nat
  | [] => 0
  | x :: l => max (x + 1) (maxNext l)
theorem maxNext_app (l r : List Nat) : maxNext (l ++ r) = max (maxNext l) (maxNext r) := by
  induction l with
  | nil => simp [maxNext]
  | cons x l ih => show max (x + 1) (maxNext (l ++ r)) = max (max (x + 1) (maxNext l)) (maxNext r); rw [ih]; omega
theorem maxNext_mem {l : List Nat} {x : Nat} (h : x ∈ l) : x < maxNext l := by
  induction l with
  | nil => cases h
  | cons y l ih =>
    show x < max (y + 1) (maxNext l)
    rcases List.mem_cons.1 h with rfl | h
    · omega
    · have := ih h; omega
/-- Pieces, numbered by their first triangles. -/
structure PiecesIs (T : List P3) (p : List Nat) : Prop where
  len : p.length = T.length
  same : ∀ (i j : Nat) (hi : i < p.length) (hj : j < p.length), p[i] = p[j] ↔ ConnT T (T[i]'(len ▸ hi)) (T[j]'(len ▸ hj))
  rise : ∀ (i : Nat) (hi : i < p.length), p[i] ≤ maxNext (p.take i)
theorem rise_all {p : List Nat} (h : ∀ (i : Nat) (hi : i < p.length), p[i] ≤ maxNext (p.take i)) : ∀ m, m ≤ p.length → ∀ c, c < maxNext (p.take m) → c ∈ p.take m := by
  intro m
  induction m with
  | zero => intro _ c hc; simp [maxNext] at hc
  | succ m ih =>
    intro hm c hc
    have hs : p.take (m + 1) = p.take m ++ [p[m]] := List.take_succ_eq_append_getElem (by omega)
    rw [hs, maxNext_app] at hc
    rw [hs, List.mem_append, List.mem_singleton]
    have hr := h m (by omega)
    have e : maxNext [p[m]] = p[m] + 1 := by show max (p[m] + 1) 0 = _; omega
    rw [e] at hc
    by_cases h1 : c < maxNext (p.take m)
    · exact Or.inl (ih (by omega) c h1)
    · right; omega
theorem pieces_one {T : List P3} {p q : List Nat} (hp : PiecesIs T p) (hq : PiecesIs T q) : p = q := by
  have hl : p.length = q.length := hp.len.trans hq.len.symm
  have key : ∀ m, m ≤ p.length → p.take m = q.take m := by
    intro m
    induction m with
    | zero => intro _; rfl
    | succ m ih =>
      intro hm
      have ih := ih (by omega)
      have h1 : m < p.length := by omega
      have h2 : m < q.length := by omega
      rw [List.take_succ_eq_append_getElem h1, List.take_succ_eq_append_getElem h2, ih]
      congr 2
      by_cases hc : ∃ k, ∃ hk : k < m, ConnT T (T[k]'(by have := hp.len; omega)) (T[m]'(by have := hp.len; omega))
      · obtain ⟨k, hk, hconn⟩ := hc
        have e1 := (hp.same k m (by omega) h1).2 hconn
        have e2 := (hq.same k m (by omega) h2).2 hconn
        rw [← e1, ← e2]
        have f1 : (p.take m)[k]? = some (p[k]'(by omega)) := by rw [List.getElem?_take_of_lt hk]; exact List.getElem?_eq_getElem _
        have f2 : (q.take m)[k]? = some (q[k]'(by omega)) := by rw [List.getElem?_take_of_lt hk]; exact List.getElem?_eq_getElem _
        rw [ih] at f1
        exact Option.some.inj (f1.symm.trans f2)
      · have new : ∀ {r : List Nat} (hr : PiecesIs T r) (h : m < r.length), r[m] = maxNext (r.take m) := by
          intro r hr h
          have h3 := hr.rise m h
          apply Classical.byContradiction
          intro h4
          have h5 := rise_all hr.rise m (by omega) (r[m]) (by omega)
          obtain ⟨k, hk, e⟩ := List.mem_iff_getElem.1 h5
          rw [List.length_take] at hk
          rw [List.getElem_take] at e
          exact hc ⟨k, by omega, (hr.same k m (by omega) h).1 e⟩
        rw [new hp h1, new hq h2, ih]
  have := key p.length (Nat.le_refl _)
  rw [List.take_length, hl, List.take_length] at this
  exact this
end Go.Proofs.YthjmojglcfmkmaaDoor

/- Layer 10: Euler's number without a border; one turned by itself: plain mathematics. -/
namespace Go.Proofs.YthjmojglcfmkmaaDoor
open Classical

theorem plain_all {P T : List P3} (h : plainM P T = true) : T.all (triM P.length) = true := by unfold plainM at h; rw [Bool.and_eq_true] at h; exact h.2
def sewn (n : Nat) (T : List P3) : List ((Int × Int) × (Int × Int)) := (edgesF n T false).map fun d => (d, swapD d)
/-- Without a border: to go round a vertex. -/
theorem sewn_at {P T : List P3} (h : plainM P T = true) (_ : (darts T).Nodup) (hb : edgesF P.length T true = []) : (∀ d ∈ darts T, swapD d ∈ darts T) ∧ (sewn P.length T).Pairwise Apart ∧ (∀ e ∈ sewn P.length T, e.1 ∈ darts T ∧ e.2 ∈ darts T ∧ e.1 ≠ e.2) ∧ (∀ d ∈ darts T, (d, swapD d) ∈ sewn P.length T ∨ (swapD d, d) ∈ sewn P.length T) ∧ ∀ e ∈ sewn P.length T, e.2 = swapD e.1 := by
  have hcl : ∀ d ∈ darts T, swapD d ∈ darts T := by
    intro d hd
    apply Classical.byContradiction
    intro hc
    have := (mem_border h).2 ⟨hd, hc⟩
    rw [hb] at this
    cases this
  have hin : ∀ d ∈ edgesF P.length T false, d ∈ darts T ∧ swapD d ∈ darts T ∧ d.1 < d.2 := by
    intro d hd
    obtain ⟨h1, h2 | h2⟩ := (mem_edges h).1 hd
    · exact ⟨h2, hcl d h2, h1⟩
    · exact ⟨hcl _ h2, h2, h1⟩
  refine ⟨hcl, ?_, ?_, ?_, ?_⟩
  · unfold sewn
    rw [List.pairwise_map]
    refine List.Pairwise.imp_of_mem ?_ (edges_nodup P.length T false)
    intro d e hd he hne
    have h1 := (hin d hd).2.2
    have h2 := (hin e he).2.2
    refine ⟨hne, fun heq => ?_, fun heq => ?_, fun heq => hne ?_⟩
    · have a1 := congrArg Prod.fst heq
      have a2 := congrArg Prod.snd heq
      simp only [swapD] at a1 a2
      omega
    · have a1 := congrArg Prod.fst heq
      have a2 := congrArg Prod.snd heq
      simp only [swapD] at a1 a2
      omega
    · have := congrArg swapD heq
      exact this
  · intro e he
    obtain ⟨d, hd, rfl⟩ := List.mem_map.1 he
    obtain ⟨h1, h2, h3⟩ := hin d hd
    refine ⟨h1, h2, fun heq => ?_⟩
    have a1 := congrArg Prod.fst heq
    simp only [swapD] at a1
    omega
  · intro d hd
    have hne := (darts_in h hd).2
    by_cases hlt : d.1 < d.2
    · exact Or.inl (List.mem_map.2 ⟨d, (mem_edges h).2 ⟨hlt, Or.inl hd⟩, rfl⟩)
    · refine Or.inr (List.mem_map.2 ⟨swapD d, (mem_edges h).2 ⟨?_, Or.inr hd⟩, rfl⟩)
      show d.2 < d.1
      omega
  · intro e he
    obtain ⟨d, hd, rfl⟩ := List.mem_map.1 he
    rfl
theorem conn_eqv_in {T : List P3} {t u : P3} (ht : t ∈ T) (h : ConnT T t u) : u ∈ T := by
  cases h with
  | refl => exact ht
  | step _ s => exact s.1
theorem conn_symm {T : List P3} {t u : P3} (ht : t ∈ T) (h : ConnT T t u) : ConnT T u t := by
  unfold ConnT at h
  have key : u ∈ T ∧ ConnT T u t := by
    induction h with
    | refl => exact ⟨ht, Reach.refl⟩
    | step _ s ih =>
      obtain ⟨i1, i2⟩ := ih
      obtain ⟨s1, p, q, s2, s3⟩ := s
      exact ⟨s1, Reach.head ⟨i1, q, p, s3, s2⟩ i2⟩
  exact key.2
theorem conn_trans {T : List P3} {t u w : P3} (h : ConnT T t u) (g : ConnT T u w) : ConnT T t w := Reach.trans h g
/-- How many pieces, by what hangs together. -/
theorem cls_pieces {T : List P3} {p : List Nat} (hn : (darts T).Nodup) (hp : PiecesIs T p) (k : Int × Int → Int × Int → Prop) (hk : ∀ d ∈ darts T, ∀ e ∈ darts T, (k d e ↔ ConnT T (triOf T d) (triOf T e))) : cls k (darts T) = maxNext p := by
  have hidx : ∀ t ∈ T, ∃ h : T.idxOf t < p.length, T[T.idxOf t]'(hp.len ▸ h) = t := fun t ht => by
    have h1 : T.idxOf t < T.length := List.idxOf_lt_length_of_mem ht
    exact ⟨hp.len ▸ h1, List.getElem_idxOf h1⟩
  have hkey : ∀ d ∈ darts T, ∀ e ∈ darts T, (k d e ↔ (p[T.idxOf (triOf T d)]?.getD 0 = p[T.idxOf (triOf T e)]?.getD 0)) := by
    intro d hd e he
    obtain ⟨h1, e1⟩ := hidx _ (triOf_in hn hd).1
    obtain ⟨h2, e2⟩ := hidx _ (triOf_in hn he).1
    rw [hk d hd e he, List.getElem?_eq_getElem h1, List.getElem?_eq_getElem h2]
    have := hp.same _ _ h1 h2
    rw [e1, e2] at this
    exact this.symm
  rw [cls_congr (s := fun d e => p[T.idxOf (triOf T d)]?.getD 0 = p[T.idxOf (triOf T e)]?.getD 0) _ hkey]
  rw [cls_key (fun d => p[T.idxOf (triOf T d)]?.getD 0) _ (List.range (maxNext p)) List.nodup_range ?_ ?_, List.length_range]
  · intro d hd
    obtain ⟨h1, _⟩ := hidx _ (triOf_in hn hd).1
    rw [List.mem_range, List.getElem?_eq_getElem h1]
    exact maxNext_mem (List.getElem_mem h1)
  · intro c hc
    rw [List.mem_range] at hc
    have h1 := rise_all hp.rise p.length (Nat.le_refl _) c (by rw [List.take_length]; exact hc)
    rw [List.take_length] at h1
    obtain ⟨i, hi, e⟩ := List.mem_iff_getElem.1 h1
    have hiT : i < T.length := hp.len ▸ hi
    have hm : (T[i].1, T[i].2.1) ∈ dirs T[i] := mem_dirs.2 (Or.inl rfl)
    refine ⟨(T[i].1, T[i].2.1), mem_darts.2 ⟨_, List.getElem_mem hiT, hm⟩, ?_⟩
    rw [triOf_is hn (List.getElem_mem hiT) hm]
    have : T.idxOf T[i] = i := (darts_nodup hn).idxOf_getElem i hiT
    rw [this, List.getElem?_eq_getElem hi]
    exact e
/-- Without a border: Euler's number is even, and two a piece at the most. -/
theorem closed_euler {P T : List P3} {p : List Nat} (hc : CheckIs P T 0) (hb : edgesF P.length T true = []) (hp : PiecesIs T p) : P.length % 2 = (T.length + (edgesF P.length T false).length) % 2 ∧ P.length + T.length ≤ (edgesF P.length T false).length + 2 * maxNext p := by
  obtain ⟨_, h, hn, hf⟩ := check_zero hc
  have hall := plain_all h
  obtain ⟨hcl, hap, hin, hhas, hsw⟩ := sewn_at h hn hb
  have hlen : (sewn P.length T).length = (edgesF P.length T false).length := List.length_map ..
  have hperm := nextD_perm hall hn
  have heqv := Orb.eqv (darts T) (nextD T)
  have hs : ∀ d ∈ darts T, comps (nextD T) (sewn P.length T) d = nextD T (swapD d) := by
    intro d hd
    rcases hhas d hd with he | he
    · exact (comps_at _ _ hap (fun e he => (hin e he).2.2) _ he).1
    · exact (comps_at _ _ hap (fun e he => (hin e he).2.2) _ he).2
  have hF := orb_tris hall hn
  obtain ⟨b1, b2⟩ := euler_bound (darts T) (sewn P.length T) (nextD T) (Orb (darts T) (nextD T)) hperm heqv (fun _ _ h => h) hin
  -- orbits round vertices
  have hVk : ∀ d ∈ darts T, ∀ e ∈ darts T, (Orb (darts T) (comps (nextD T) (sewn P.length T)) d e ↔ d.1 = e.1) := by
    intro d hd e he
    constructor
    · intro ho
      exact Orb.least (s := fun x y : Int × Int => x.1 = y.1) ⟨fun _ => rfl, fun e => e.symm, fun e f => e.trans f⟩ (fun x hx => by
        rw [hs x hx, (nextD_in hall hn (hcl x hx)).2.1]; rfl) ho
    · intro heq
      obtain ⟨td, dd⟩ := triOf_in hn hd
      obtain ⟨te, de⟩ := triOf_in hn he
      obtain ⟨hdi, _⟩ := darts_in h hd
      rw [mem_pairs] at hdi
      have hfan := hf d.1.toNat (by omega)
      have hcast : ((d.1.toNat : Nat) : Int) = d.1 := by omega
      rw [hcast] at hfan
      have hr := hfan.2 _ td _ te (hasV_out.2 ⟨d.2, dd⟩) (hasV_out.2 ⟨e.2, heq ▸ de⟩)
      have key : ∀ {w}, Reach (fun a b => b ∈ T ∧ joinedV d.1 a b) (triOf T d) w → w ∈ T ∧ ∀ f ∈ dirs w, f.1 = d.1 → Orb (darts T) (comps (nextD T) (sewn P.length T)) d f := by
        intro w hw
        induction hw with
        | refl =>
          refine ⟨td, fun f hf2 h1 => ?_⟩
          rw [out_one (List.all_eq_true.1 hall _ td) hf2 dd h1]
          exact Orb.refl _
        | step _ s ih =>
          rename_i y z _
          obtain ⟨i1, i2⟩ := ih
          obtain ⟨s1, p', q', s2, s3, s4⟩ := s
          have hz := List.all_eq_true.1 hall _ s1
          have hy := List.all_eq_true.1 hall _ i1
          have m1 : (p', q') ∈ darts T := mem_darts.2 ⟨y, i1, s2⟩
          have m2 : (q', p') ∈ darts T := mem_darts.2 ⟨z, s1, s4⟩
          refine ⟨s1, fun f hf2 h1 => ?_⟩
          rcases s3 with h3 | h3
          · have g1 := i2 (p', q') s2 h3
            have g2 := Orb.step (p := comps (nextD T) (sewn P.length T)) (p', q') m1
            rw [hs _ m1] at g2
            unfold nextD at g2
            have e1 : triOf T (swapD (p', q')) = z := triOf_is hn s1 s4
            rw [e1] at g2
            obtain ⟨n1, n2⟩ := next_in hz s4
            have e2 : nextIn z (swapD (p', q')) = f := out_one hz n1 hf2 (n2.trans (h3.trans h1.symm))
            rw [e2] at g2
            exact Orb.trans g1 g2
          · have e0 : (q', p') = f := out_one hz s4 hf2 (h3.trans h1.symm)
            rw [← e0]
            have g2 := Orb.step (p := comps (nextD T) (sewn P.length T)) (q', p') m2
            rw [hs _ m2] at g2
            unfold nextD at g2
            have e1 : triOf T (swapD (q', p')) = y := triOf_is hn i1 s2
            rw [e1] at g2
            obtain ⟨n1, n2⟩ := next_in hy s2
            have g1 := i2 _ n1 (n2.trans h3)
            exact Orb.trans g1 (Orb.symm g2)
      exact (key hr).2 e de heq.symm
  have hV : cls (Orb (darts T) (comps (nextD T) (sewn P.length T))) (darts T) = P.length := by
    rw [cls_congr (s := fun x y : Int × Int => x.1 = y.1) _ hVk]
    rw [cls_key (fun d : Int × Int => d.1) _ ((List.range P.length).map fun v : Nat => (v : Int)) ?_ ?_ ?_, List.length_map, List.length_range]
    · unfold List.Nodup
      rw [List.pairwise_map]
      exact (List.nodup_range (n := P.length)).imp (fun hne e => hne (by omega))
    · intro d hd
      obtain ⟨hdi, _⟩ := darts_in h hd
      rw [mem_pairs] at hdi
      exact List.mem_map.2 ⟨d.1.toNat, List.mem_range.2 (by omega), by omega⟩
    · intro c hc
      obtain ⟨v, hv, rfl⟩ := List.mem_map.1 hc
      obtain ⟨⟨t, ht, hv2⟩, _⟩ := hf v (List.mem_range.1 hv)
      obtain ⟨q, hq⟩ := hasV_out.1 hv2
      exact ⟨((v : Int), q), mem_darts.2 ⟨t, ht, hq⟩, rfl⟩
  have hK : cls (merges (Orb (darts T) (nextD T)) (sewn P.length T)) (darts T) = maxNext p := by
    refine cls_pieces hn hp _ (fun d hd e he => ?_)
    obtain ⟨td, dd⟩ := triOf_in hn hd
    obtain ⟨te, de⟩ := triOf_in hn he
    have hm := merges_eqv (sewn P.length T) heqv
    constructor
    · intro hmr
      have := merges_least (sewn P.length T) (r := Orb (darts T) (nextD T)) (s := fun x y => (triOf T x ∈ T → triOf T y ∈ T ∧ ConnT T (triOf T x) (triOf T y)) ∧ (triOf T y ∈ T → triOf T x ∈ T ∧ ConnT T (triOf T y) (triOf T x)))
        ⟨fun x => ⟨fun hx => ⟨hx, Reach.refl⟩, fun hx => ⟨hx, Reach.refl⟩⟩, fun ⟨a, b⟩ => ⟨b, a⟩, fun ⟨a, b⟩ ⟨a2, b2⟩ => ⟨fun hx => ⟨(a2 (a hx).1).1, (a hx).2.trans (a2 (a hx).1).2⟩, fun hz => ⟨(b (b2 hz).1).1, (b2 hz).2.trans (b (b2 hz).1).2⟩⟩⟩
        (fun x y ho => by
          have e1 : triOf T x = triOf T y := Orb.least (s := fun x y => triOf T x = triOf T y) ⟨fun _ => rfl, fun e => e.symm, fun e f => e.trans f⟩ (fun x hx => (nextD_in hall hn hx).2.2.symm) ho
          rw [e1]
          exact ⟨fun hx => ⟨hx, Reach.refl⟩, fun hx => ⟨hx, Reach.refl⟩⟩)
        (fun f hf2 => by
          obtain ⟨f1, f2, _⟩ := hin f hf2
          have f3 := hsw f hf2
          obtain ⟨t1, d1⟩ := triOf_in hn f1
          obtain ⟨t2, d2⟩ := triOf_in hn f2
          rw [f3] at t2 d2 ⊢
          exact ⟨fun _ => ⟨t2, Reach.refl.step ⟨t2, f.1.1, f.1.2, d1, d2⟩⟩, fun _ => ⟨t1, Reach.refl.step ⟨t1, f.1.2, f.1.1, d2, d1⟩⟩⟩)
        d e hmr
      exact (this.1 td).2
    · intro hcn
      have key : ∀ {w}, Reach (fun a b => b ∈ T ∧ ∃ p q, (p, q) ∈ dirs a ∧ (q, p) ∈ dirs b) (triOf T d) w → w ∈ T ∧ ∀ f ∈ dirs w, merges (Orb (darts T) (nextD T)) (sewn P.length T) d f := by
        intro w hw
        induction hw with
        | refl =>
          refine ⟨td, fun f hf2 => merges_mono _ ((orb_tri hall hn d hd f (mem_darts.2 ⟨_, td, hf2⟩)).2 (triOf_is hn td hf2).symm)⟩
        | step _ s ih =>
          rename_i y z _
          obtain ⟨i1, i2⟩ := ih
          obtain ⟨s1, p', q', s2, s4⟩ := s
          refine ⟨s1, fun f hf2 => ?_⟩
          have m1 : (p', q') ∈ darts T := mem_darts.2 ⟨y, i1, s2⟩
          have m2 : (q', p') ∈ darts T := mem_darts.2 ⟨z, s1, s4⟩
          have g1 := i2 _ s2
          have g2 : merges (Orb (darts T) (nextD T)) (sewn P.length T) (p', q') (q', p') := by
            rcases hhas _ m1 with hx | hx
            · exact merges_mem _ heqv hx
            · exact hm.symm (merges_mem _ heqv hx)
          have g3 : merges (Orb (darts T) (nextD T)) (sewn P.length T) (q', p') f := merges_mono _ ((orb_tri hall hn _ m2 f (mem_darts.2 ⟨_, s1, hf2⟩)).2 ((triOf_is hn s1 s4).trans (triOf_is hn s1 hf2).symm))
          exact hm.trans g1 (hm.trans g2 g3)
      exact (key hcn).2 e de
  rw [hV, hF, hlen] at b1 b2
  rw [hK] at b2
  exact ⟨b1, by omega⟩
/-- One turned by itself: what is beside it has an edge in one direction. -/
theorem nodup_flip_one {T : List P3} (hn : (darts T).Nodup) {k : Nat} (hk : k < T.length) {n : Nat} (h : T.all (triM n) = true) : (darts (T.set k (flipT T[k]))).Nodup ↔ ∀ d ∈ dirs T[k], swapD d ∉ darts T := by
  have hs : T = T.take k ++ T[k] :: T.drop (k + 1) := by rw [← List.drop_eq_getElem_cons hk, List.take_append_drop]
  have hset : T.set k (flipT T[k]) = T.take k ++ flipT T[k] :: T.drop (k + 1) := by rw [List.set_eq_take_append_cons_drop, if_pos hk]
  have hp1 : (darts T).Perm (dirs T[k] ++ darts (T.take k ++ T.drop (k + 1))) := by
    have : T.Perm (T[k] :: (T.take k ++ T.drop (k + 1))) := by
      conv => lhs; rw [hs]
      exact List.perm_middle
    exact darts_perm this
  have hp2 : (darts (T.set k (flipT T[k]))).Perm ((dirs T[k]).map swapD ++ darts (T.take k ++ T.drop (k + 1))) := by
    rw [hset]
    refine (darts_perm List.perm_middle).trans ?_
    show (dirs (flipT T[k]) ++ darts (T.take k ++ T.drop (k + 1))).Perm _
    refine List.Perm.append_right _ ?_
    have := darts_flip [T[k]]
    simpa [darts] using this
  have ht := triM_iff.1 (List.all_eq_true.1 h _ (List.getElem_mem hk))
  rw [hp2.nodup_iff]
  rw [hp1.nodup_iff, List.nodup_append] at hn
  obtain ⟨n1, n2, n3⟩ := hn
  have own : ∀ d ∈ dirs T[k], swapD d ∉ dirs T[k] := by
    intro d hd hd2
    obtain ⟨h1, h2, h3, _⟩ := ht
    rcases mem_dirs.1 hd with rfl | rfl | rfl <;> rcases mem_dirs.1 hd2 with e | e | e <;> simp only [swapD, Prod.mk.injEq] at e <;> grind
  rw [List.nodup_append]
  constructor
  · rintro ⟨_, _, m3⟩ d hd hd2
    rcases List.mem_append.1 (hp1.mem_iff.1 hd2) with h1 | h1
    · exact own d hd h1
    · exact m3 (swapD d) (List.mem_map_of_mem hd) (swapD d) h1 rfl
  · intro hno
    refine ⟨swap_inj n1, n2, ?_⟩
    rintro a ha b hb rfl
    obtain ⟨d, hd, rfl⟩ := List.mem_map.1 ha
    exact hno d hd (hp1.mem_iff.2 (List.mem_append_right _ hb))
theorem check_edge {P T : List P3} {e : Int} (hc : CheckIs P T e) (hl : ¬ longM P T) (h : plainM P T = true) : e = 80 ↔ ¬ (darts T).Nodup := by
  unfold CheckIs at hc
  rcases hc with ⟨x, _⟩ | ⟨_, x, _⟩ | ⟨_, _, x, rfl⟩ | ⟨_, _, x, _, rfl⟩ | ⟨_, _, x, _, rfl⟩
  · exact absurd x hl
  · rw [h] at x; cases x
  · exact ⟨fun _ => x, fun _ => rfl⟩
  · exact ⟨fun e => (by cases e), fun e => absurd x e⟩
  · exact ⟨fun e => (by cases e), fun e => absurd x e⟩
end Go.Proofs.YthjmojglcfmkmaaDoor

/- Layer 10: two side by side: plain mathematics. -/
namespace Go.Proofs.YthjmojglcfmkmaaDoor
open Classical

/-- All vertices so many further. -/
def shiftT (n : Int) (t : P3) : P3 := (t.1 + n, t.2.1 + n, t.2.2 + n)
def shiftD (n : Int) (d : Int × Int) : Int × Int := (d.1 + n, d.2 + n)
theorem dirs_shift (n : Int) (t : P3) : dirs (shiftT n t) = (dirs t).map (shiftD n) := rfl
theorem darts_shift (n : Int) (T : List P3) : darts (T.map (shiftT n)) = (darts T).map (shiftD n) := by
  unfold darts
  rw [List.flatMap_map, List.map_flatMap]
  rfl
theorem shift_inj {n : Int} {d e : Int × Int} (h : shiftD n d = shiftD n e) : d = e := by
  have e1 := congrArg Prod.fst h
  have e2 := congrArg Prod.snd h
  simp only [shiftD] at e1 e2
  exact Prod.ext (by omega) (by omega)
theorem shift_dart {n : Int} {t : P3} {p q : Int} : (p, q) ∈ dirs (shiftT n t) ↔ (p - n, q - n) ∈ dirs t := by
  rw [dirs_shift]
  constructor
  · intro h
    obtain ⟨d, hd, e⟩ := List.mem_map.1 h
    have e1 := congrArg Prod.fst e
    have e2 := congrArg Prod.snd e
    simp only [shiftD] at e1 e2
    have : (p - n, q - n) = d := Prod.ext (by simp only; omega) (by simp only; omega)
    rw [this]; exact hd
  · intro h
    refine List.mem_map.2 ⟨_, h, ?_⟩
    exact Prod.ext (by simp only [shiftD]; omega) (by simp only [shiftD]; omega)
/-- Of two side by side each triangle is one of the first's, or a further one. -/
def both (n : Int) (T U : List P3) : List P3 := T ++ U.map (shiftT n)
theorem both_low {n v : Int} {t : P3} {m : Nat} (hu : triM m t = true) (hv : v < n) : ¬ hasV v (shiftT n t) := by
  have h := triM_iff.1 hu
  unfold hasV shiftT
  simp only
  omega
theorem both_high {v : Int} {t : P3} {n : Nat} (ht : triM n t = true) (hv : (n : Int) ≤ v) : ¬ hasV v t := by
  have h := triM_iff.1 ht
  unfold hasV
  omega
theorem fan_both {P Q T U : List P3} (hT : T.all (triM P.length) = true) (hU : U.all (triM Q.length) = true) (hf : fansM P T) (hg : fansM Q U) : ∀ v : Nat, v < P.length + Q.length → Fan (both P.length T U) v := by
  intro v hv
  have hlow : ∀ u ∈ U.map (shiftT P.length), ∀ w : Int, w < P.length → ¬ hasV w u := by
    intro u hu w hw
    obtain ⟨t, ht, rfl⟩ := List.mem_map.1 hu
    exact both_low (List.all_eq_true.1 hU t ht) hw
  by_cases hc : v < P.length
  · obtain ⟨⟨t, ht, hvt⟩, hr⟩ := hf v hc
    refine ⟨⟨t, List.mem_append_left _ ht, hvt⟩, ?_⟩
    intro a ha b hb hva hvb
    have h1 : a ∈ T := (List.mem_append.1 ha).resolve_right fun h => hlow a h v (by omega) hva
    have h2 : b ∈ T := (List.mem_append.1 hb).resolve_right fun h => hlow b h v (by omega) hvb
    exact (hr a h1 b h2 hva hvb).mono (fun x y ⟨h3, h4⟩ => ⟨List.mem_append_left _ h3, h4⟩)
  · have hf2 := hg (v - P.length) (by omega)
    have hcast : (((v - P.length : Nat) : Nat) : Int) = (v : Int) - P.length := by omega
    rw [hcast] at hf2
    have hfu : Fan (U.map (shiftT P.length)) v := by
      refine fan_over (fun t t' => t' = shiftT P.length t) (fun t ht => ⟨_, List.mem_map_of_mem ht, rfl⟩) (fun t' ht' _ => ?_) ?_ ?_ ?_ hf2
      · obtain ⟨t, ht, rfl⟩ := List.mem_map.1 ht'; exact ⟨t, ht, rfl⟩
      · rintro t _ rfl
        unfold hasV shiftT
        simp only
        omega
      · rintro a _ b _ rfl rfl ⟨p, q, h1, h2, h3⟩
        refine ⟨p + P.length, q + P.length, ?_, by omega, ?_⟩
        · rw [shift_dart]
          rw [Int.add_sub_cancel, Int.add_sub_cancel]; exact h1
        · rw [shift_dart]
          rw [Int.add_sub_cancel, Int.add_sub_cancel]; exact h3
      · rintro t _ _ _ _ rfl rfl; rfl
    obtain ⟨⟨t, ht, hvt⟩, hr⟩ := hfu
    have hup : ∀ a ∈ both P.length T U, hasV v a → a ∈ U.map (shiftT P.length) := fun a ha hva => (List.mem_append.1 ha).resolve_left fun h => both_high (List.all_eq_true.1 hT a h) (by omega) hva
    refine ⟨⟨t, List.mem_append_right _ ht, hvt⟩, ?_⟩
    intro a ha b hb hva hvb
    exact (hr a (hup a ha hva) b (hup b hb hvb) hva hvb).mono (fun x y ⟨h3, h4⟩ => ⟨List.mem_append_right _ h3, h4⟩)
theorem both_darts (n : Int) (T U : List P3) : darts (both n T U) = darts T ++ (darts U).map (shiftD n) := by
  unfold both
  rw [← darts_shift]
  exact List.flatMap_append
theorem check_both {P Q T U : List P3} (hc : CheckIs P T 0) (hd : CheckIs Q U 0) (hl : P.length + Q.length ≤ 4000) (hl2 : T.length + U.length ≤ 8000) : CheckIs (P ++ Q) (both P.length T U) 0 ∧ ((edgesF (P ++ Q).length (both P.length T U) false).length = (edgesF P.length T false).length + (edgesF Q.length U false).length) := by
  obtain ⟨_, h, hn, hf⟩ := check_zero hc
  obtain ⟨_, g, hm, hg⟩ := check_zero hd
  have hT := plain_all h
  have hU := plain_all g
  have hplain : plainM (P ++ Q) (both P.length T U) = true := by
    unfold plainM at h g ⊢
    rw [Bool.and_eq_true] at h g ⊢
    refine ⟨by rw [List.all_append, h.1, g.1]; rfl, ?_⟩
    unfold both
    rw [List.all_append, Bool.and_eq_true]
    constructor
    · refine List.all_eq_true.2 (fun t ht => ?_)
      have := triM_iff.1 (List.all_eq_true.1 hT t ht)
      rw [triM_iff, List.length_append]
      omega
    · rw [List.all_map]
      refine List.all_eq_true.2 (fun t ht => ?_)
      have := triM_iff.1 (List.all_eq_true.1 hU t ht)
      show triM _ (shiftT P.length t) = true
      rw [triM_iff, List.length_append]
      unfold shiftT
      simp only
      omega
  have hsep : ∀ a ∈ darts T, ∀ b ∈ (darts U).map (shiftD P.length), a ≠ b := by
    rintro a ha b hb rfl
    obtain ⟨d, hd2, rfl⟩ := List.mem_map.1 hb
    have h1 := (darts_in h ha).1
    have h2 := (darts_in g hd2).1
    rw [mem_pairs] at h1 h2
    simp only [shiftD] at h1
    omega
  have hnod : (darts (both P.length T U)).Nodup := by
    rw [both_darts, List.nodup_append]
    refine ⟨hn, ?_, hsep⟩
    unfold List.Nodup
    rw [List.pairwise_map]
    exact List.Pairwise.imp (fun hne e => hne (shift_inj e)) hm
  constructor
  · refine Or.inr (Or.inr (Or.inr (Or.inr ⟨?_, hplain, hnod, ?_, rfl⟩)))
    · unfold longM both
      rw [List.length_append, List.length_append, List.length_map]
      omega
    · intro v hv
      rw [List.length_append] at hv
      exact fan_both hT hU hf hg v hv
  · have hp : (edgesF (P ++ Q).length (both P.length T U) false).Perm (edgesF P.length T false ++ (edgesF Q.length U false).map (shiftD P.length)) := by
      refine perm_of_mem (edges_nodup _ _ _) ?_ (fun d => ?_)
      · rw [List.nodup_append]
        refine ⟨edges_nodup _ _ _, ?_, ?_⟩
        · unfold List.Nodup
          rw [List.pairwise_map]
          exact List.Pairwise.imp (fun hne e => hne (shift_inj e)) (edges_nodup _ _ _)
        · rintro a ha b hb rfl
          obtain ⟨d, hd2, rfl⟩ := List.mem_map.1 hb
          unfold edgesF at ha hd2
          have h1 := mem_pairs.1 (List.mem_filter.1 ha).1
          have h2 := mem_pairs.1 (List.mem_filter.1 hd2).1
          simp only [shiftD] at h1
          omega
      · rw [mem_edges hplain, List.mem_append, mem_edges h, both_darts, List.mem_append, List.mem_append]
        have hs : d ∈ (edgesF Q.length U false).map (shiftD P.length) ↔ d.1 < d.2 ∧ (d ∈ (darts U).map (shiftD P.length) ∨ swapD d ∈ (darts U).map (shiftD P.length)) := by
          constructor
          · intro hx
            obtain ⟨e, he, rfl⟩ := List.mem_map.1 hx
            obtain ⟨h1, h2⟩ := (mem_edges g).1 he
            refine ⟨by simp only [shiftD]; omega, ?_⟩
            rcases h2 with h2 | h2
            · exact Or.inl (List.mem_map_of_mem h2)
            · exact Or.inr (List.mem_map.2 ⟨swapD e, h2, rfl⟩)
          · rintro ⟨h1, h2 | h2⟩
            · obtain ⟨e, he, rfl⟩ := List.mem_map.1 h2
              refine List.mem_map_of_mem ((mem_edges g).2 ⟨?_, Or.inl he⟩)
              simp only [shiftD] at h1
              omega
            · obtain ⟨e, he, hx⟩ := List.mem_map.1 h2
              have e1 := congrArg Prod.fst hx
              have e2 := congrArg Prod.snd hx
              simp only [shiftD, swapD] at e1 e2
              refine List.mem_map.2 ⟨swapD e, (mem_edges g).2 ⟨?_, Or.inr he⟩, ?_⟩
              · show e.2 < e.1
                omega
              · exact Prod.ext e2 e1
        rw [hs]
        constructor
        · rintro ⟨h1, (h2 | h2) | (h2 | h2)⟩
          · exact Or.inl ⟨h1, Or.inl h2⟩
          · exact Or.inr ⟨h1, Or.inl h2⟩
          · exact Or.inl ⟨h1, Or.inr h2⟩
          · exact Or.inr ⟨h1, Or.inr h2⟩
        · rintro (⟨h1, h2 | h2⟩ | ⟨h1, h2 | h2⟩)
          · exact ⟨h1, Or.inl (Or.inl h2)⟩
          · exact ⟨h1, Or.inr (Or.inl h2)⟩
          · exact ⟨h1, Or.inl (Or.inr h2)⟩
          · exact ⟨h1, Or.inr (Or.inr h2)⟩
    rw [hp.length_eq, List.length_append, List.length_map]
theorem triM_flip {n : Nat} {t : P3} : triM n (flipT t) = triM n t := by
  obtain ⟨a, b, c⟩ := t
  unfold triM flipT
  apply decide_eq_decide.2
  simp only
  grind
theorem set_plain {P T : List P3} {k : Nat} (hk : k < T.length) (h : plainM P T = true) : plainM P (T.set k (flipT T[k])) = true := by
  unfold plainM at h ⊢
  rw [Bool.and_eq_true] at h ⊢
  refine ⟨h.1, List.all_eq_true.2 (fun t ht => ?_)⟩
  rcases List.mem_or_eq_of_mem_set ht with h1 | rfl
  · exact List.all_eq_true.1 h.2 t h1
  · rw [triM_flip]; exact List.all_eq_true.1 h.2 _ (List.getElem_mem hk)
/-- One turned by itself is told by an edge in one direction, if another one is at its side. -/
theorem one_flipped {P T : List P3} {k : Nat} (hk : k < T.length) (hc : CheckIs P T 0) {e : Int} (he : CheckIs P (T.set k (flipT T[k])) e) : e = 80 ↔ ∃ d ∈ dirs T[k], swapD d ∈ darts T := by
  obtain ⟨h1, h2, h3, _⟩ := check_zero hc
  have hl : ¬ longM P (T.set k (flipT T[k])) := by unfold longM at h1 ⊢; rw [List.length_set]; exact h1
  rw [check_edge he hl (set_plain hk h2), nodup_flip_one h3 hk (plain_all h2)]
  constructor
  · intro h
    apply Classical.byContradiction
    intro hno
    exact h (fun d hd hs => hno ⟨d, hd, hs⟩)
  · rintro ⟨d, hd, hs⟩ h
    exact h d hd hs
end Go.Proofs.YthjmojglcfmkmaaDoor

/- Layer 10: the first triangle of a directed edge; those at a vertex that one comes to: plain mathematics. -/
namespace Go.Proofs.YthjmojglcfmkmaaDoor
open Classical

/-- The first triangle that has a directed edge; below 0: none. -/
def hasF (T : List P3) (a b : Int) : Int := match T.findIdx? fun t => (dirs t).contains (a, b) with
  | some i => (i : Int)
  | none => -1
theorem hasF_at {T : List P3} {a b : Int} {i : Nat} (hi : i < T.length) (h : (a, b) ∈ dirs T[i]) (hno : ∀ j, ∀ hj : j < i, (a, b) ∉ dirs (T[j]'(by omega))) : hasF T a b = i := by
  have : T.findIdx? (fun t => (dirs t).contains (a, b)) = some i := by
    rw [List.findIdx?_eq_some_iff_getElem]
    refine ⟨hi, List.contains_iff_mem.2 h, fun j hj hc => hno j hj (List.contains_iff_mem.1 hc)⟩
  unfold hasF
  rw [this]
theorem hasF_none {T : List P3} {a b : Int} (h : (a, b) ∉ darts T) : hasF T a b = -1 := by
  have : T.findIdx? (fun t => (dirs t).contains (a, b)) = none := by
    rw [List.findIdx?_eq_none_iff]
    intro t ht
    cases hc : (dirs t).contains (a, b) with
    | false => rfl
    | true => exact absurd (mem_darts.2 ⟨t, ht, List.contains_iff_mem.1 hc⟩) h
  unfold hasF
  rw [this]
theorem hasF_ways (T : List P3) (a b : Int) : (hasF T a b = -1 ∧ (a, b) ∉ darts T) ∨ ∃ i, ∃ hi : i < T.length, hasF T a b = i ∧ (a, b) ∈ dirs T[i] ∧ ∀ j, ∀ hj : j < i, (a, b) ∉ dirs (T[j]'(by omega)) := by
  cases hf : T.findIdx? (fun t => (dirs t).contains (a, b)) with
  | none =>
    left
    have h1 := List.findIdx?_eq_none_iff.1 hf
    have h2 : (a, b) ∉ darts T := fun hc => by
      obtain ⟨t, ht, hd⟩ := mem_darts.1 hc
      have := h1 t ht
      rw [List.contains_iff_mem.2 hd] at this
      cases this
    exact ⟨hasF_none h2, h2⟩
  | some i =>
    right
    obtain ⟨hi, h1, h2⟩ := List.findIdx?_eq_some_iff_getElem.1 hf
    have h3 := List.contains_iff_mem.1 h1
    have h4 : ∀ j, ∀ hj : j < i, (a, b) ∉ dirs (T[j]'(by omega)) := fun j hj hc => h2 j hj (List.contains_iff_mem.2 hc)
    exact ⟨i, hi, hasF_at hi h3 h4, h3, h4⟩
theorem hasF_nonneg {T : List P3} {a b : Int} : 0 ≤ hasF T a b ↔ (a, b) ∈ darts T := by
  rcases hasF_ways T a b with ⟨h1, h2⟩ | ⟨i, hi, h1, h2, _⟩
  · rw [h1]
    exact ⟨fun h => absurd h (by decide), fun h => absurd h h2⟩
  · rw [h1]
    exact ⟨fun _ => mem_darts.2 ⟨_, List.getElem_mem hi, h2⟩, fun _ => Int.natCast_nonneg i⟩
theorem hasF_is {T : List P3} (hn : (darts T).Nodup) {a b : Int} {i : Nat} (hi : i < T.length) (h : (a, b) ∈ dirs T[i]) : hasF T a b = i := by
  refine hasF_at hi h (fun j hj hc => ?_)
  have e := dart_one hn (List.getElem_mem hi) (List.getElem_mem (show j < T.length by omega)) h hc
  exact List.pairwise_iff_getElem.1 (darts_nodup hn) j i (by omega) hi hj e.symm
theorem dirs_nodup {n : Nat} {t : P3} (h : triM n t = true) : (dirs t).Nodup := by
  obtain ⟨h1, h2, h3, _⟩ := triM_iff.1 h
  obtain ⟨a, b, c⟩ := t
  simp only at h1 h2 h3
  unfold dirs
  simp only [List.nodup_cons, List.mem_cons, List.not_mem_nil, or_false, Prod.mk.injEq, List.nodup_nil, and_true, not_false_eq_true]
  grind
/-- Each directed edge once: told triangle by triangle. -/
theorem nodup_has {n : Nat} {T : List P3} (h : T.all (triM n) = true) : (darts T).Nodup ↔ ∀ i, ∀ hi : i < T.length, ∀ d ∈ dirs T[i], hasF T d.1 d.2 = i := by
  constructor
  · intro hn i hi d hd
    exact hasF_is hn hi hd
  · intro hh
    unfold darts List.Nodup
    rw [List.pairwise_flatMap]
    constructor
    · intro t ht
      exact dirs_nodup (List.all_eq_true.1 h t ht)
    · rw [List.pairwise_iff_getElem]
      intro i j hi hj hij d hd e he heq
      subst heq
      have h1 := hh i hi d hd
      have h2 := hh j hj d he
      rw [h1] at h2
      omega
/-- A corner, by its place. -/
def at3 (t : P3) (k : Nat) : Int := if k = 0 then t.1 else if k = 1 then t.2.1 else t.2.2
theorem dirs_at {t : P3} {k : Nat} (h : k < 3) : (dirs t)[k]? = some (at3 t k, at3 t ((k + 1) % 3)) := by
  rcases (show k = 0 ∨ k = 1 ∨ k = 2 by omega) with rfl | rfl | rfl <;> rfl
theorem dirs_len (t : P3) : (dirs t).length = 3 := rfl
theorem dirs_mem_at {t : P3} {d : Int × Int} : d ∈ dirs t ↔ ∃ k, k < 3 ∧ d = (at3 t k, at3 t ((k + 1) % 3)) := by
  constructor
  · intro h
    rcases mem_dirs.1 h with rfl | rfl | rfl
    · exact ⟨0, by decide, rfl⟩
    · exact ⟨1, by decide, rfl⟩
    · exact ⟨2, by decide, rfl⟩
  · rintro ⟨k, hk, rfl⟩
    exact List.mem_of_getElem? (dirs_at hk)
def joinedB (v : Int) (a b : P3) : Bool := (dirs a).any fun d => (decide (d.1 = v) || decide (d.2 = v)) && (dirs b).contains (swapD d)
theorem joinedB_iff {v : Int} {a b : P3} : joinedB v a b = true ↔ joinedV v a b := by
  unfold joinedB joinedV
  rw [List.any_eq_true]
  constructor
  · rintro ⟨d, hd, h⟩
    rw [Bool.and_eq_true, Bool.or_eq_true, decide_eq_true_eq, decide_eq_true_eq, List.contains_iff_mem] at h
    exact ⟨d.1, d.2, hd, h.1, h.2⟩
  · rintro ⟨p, q, h1, h2, h3⟩
    refine ⟨(p, q), h1, ?_⟩
    rw [Bool.and_eq_true, Bool.or_eq_true, decide_eq_true_eq, decide_eq_true_eq, List.contains_iff_mem]
    exact ⟨h2, h3⟩
/-- The triangles at a vertex, by their places. -/
structure AtIs (T : List P3) (v : Int) (at_ : List Nat) : Prop where
  nodup : at_.Nodup
  has : ∀ (j : Nat) (hj : j < at_.length), ∃ h : at_[j] < T.length, hasV v (T[at_[j]]'h)
  all : ∀ (i : Nat) (hi : i < T.length), hasV v T[i] → i ∈ at_
/-- By the places of their corners. -/
def joinAt (v : Int) (a b : P3) (i k : Nat) : Bool := (at3 a i == v || at3 a ((i + 1) % 3) == v) && at3 b k == at3 a ((i + 1) % 3) && at3 b ((k + 1) % 3) == at3 a i
theorem joinAt_iff {v : Int} {a b : P3} : joinedB v a b = true ↔ ∃ i k, i < 3 ∧ k < 3 ∧ joinAt v a b i k = true := by
  rw [joinedB_iff]
  unfold joinedV joinAt
  constructor
  · rintro ⟨p, q, h1, h2, h3⟩
    obtain ⟨i, hi, e1⟩ := dirs_mem_at.1 h1
    obtain ⟨k, hk, e2⟩ := dirs_mem_at.1 h3
    cases e1
    rw [Prod.mk.injEq] at e2
    refine ⟨i, k, hi, hk, ?_⟩
    rw [Bool.and_eq_true, Bool.and_eq_true, Bool.or_eq_true, beq_iff_eq, beq_iff_eq, beq_iff_eq, beq_iff_eq]
    exact ⟨⟨h2, e2.1.symm⟩, e2.2.symm⟩
  · rintro ⟨i, k, hi, hk, h⟩
    rw [Bool.and_eq_true, Bool.and_eq_true, Bool.or_eq_true, beq_iff_eq, beq_iff_eq, beq_iff_eq, beq_iff_eq] at h
    obtain ⟨⟨h1, h2⟩, h3⟩ := h
    exact ⟨_, _, dirs_mem_at.2 ⟨i, hi, rfl⟩, h1, dirs_mem_at.2 ⟨k, hk, by rw [h2, h3]⟩⟩
/-- Those of the first so many. -/
structure AtTo (T : List P3) (v : Int) (m : Nat) (at_ : List Nat) : Prop where
  rise : at_.Pairwise (· < ·)
  has : ∀ i ∈ at_, i < m ∧ ∃ h : i < T.length, hasV v (T[i]'h)
  all : ∀ (i : Nat) (hi : i < T.length), i < m → hasV v T[i] → i ∈ at_
theorem AtTo.nil (T : List P3) (v : Int) : AtTo T v 0 [] := ⟨List.Pairwise.nil, fun i h => (by cases h), fun i _ h => (by omega)⟩
theorem AtTo.skip {T : List P3} {v : Int} {m : Nat} {at_ : List Nat} (h : AtTo T v m at_) (hm : m < T.length) (hv : ¬ hasV v T[m]) : AtTo T v (m + 1) at_ := by
  refine ⟨h.rise, fun i hi => ⟨by have := (h.has i hi).1; omega, (h.has i hi).2⟩, fun i hi hl hvi => ?_⟩
  by_cases e : i = m
  · subst e; exact absurd hvi hv
  · exact h.all i hi (by omega) hvi
theorem AtTo.take {T : List P3} {v : Int} {m : Nat} {at_ : List Nat} (h : AtTo T v m at_) (hm : m < T.length) (hv : hasV v T[m]) : AtTo T v (m + 1) (at_ ++ [m]) := by
  refine ⟨?_, fun i hi => ?_, fun i hi hl hvi => ?_⟩
  · rw [List.pairwise_append]
    refine ⟨h.rise, List.pairwise_singleton _ _, fun a ha b hb => ?_⟩
    rw [List.mem_singleton] at hb
    subst hb
    exact (h.has a ha).1
  · rcases List.mem_append.1 hi with hi | hi
    · exact ⟨by have := (h.has i hi).1; omega, (h.has i hi).2⟩
    · rw [List.mem_singleton] at hi
      subst hi
      exact ⟨by omega, hm, hv⟩
  · by_cases e : i = m
    · subst e; exact List.mem_append_right _ (List.mem_singleton.2 rfl)
    · exact List.mem_append_left _ (h.all i hi (by omega) hvi)
theorem AtTo.is {T : List P3} {v : Int} {at_ : List Nat} (h : AtTo T v T.length at_) : AtIs T v at_ :=
  ⟨h.rise.imp (fun hl => Nat.ne_of_lt hl), fun _ hj => (h.has _ (List.getElem_mem hj)).2, fun i hi hv => h.all i hi hi hv⟩
theorem fan_none {T : List P3} {v : Int} (h : AtIs T v []) : ¬ Fan T v := by
  rintro ⟨⟨t, ht, hv⟩, _⟩
  obtain ⟨i, hi, rfl⟩ := List.mem_iff_getElem.1 ht
  have := h.all i hi hv
  cases this
/-- Those one has come to: closed, and all of them come to. -/
theorem fan_closed {T : List P3} (hT : T.Nodup) {v : Int} {at_ : List Nat} (ha : AtIs T v at_) {seen : List Bool} (hlen : seen.length = at_.length) (h0 : seen[0]? = some true)
    (hr : ∀ j, ∀ hj : j < at_.length, seen[j]? = some true → Reach (fun a b => b ∈ T ∧ joinedV v a b) (T[at_[0]'(by omega)]'(ha.has 0 (by omega)).1) (T[at_[j]]'(ha.has j hj).1))
    (hc : ∀ i k, ∀ hi : i < at_.length, ∀ hk : k < at_.length, seen[k]? = some true → joinedV v (T[at_[i]]'(ha.has i hi).1) (T[at_[k]]'(ha.has k hk).1) → seen[i]? = some true) :
    seen.countP id = at_.length ↔ Fan T v := by
  have hpos : 0 < at_.length := by
    have := (List.getElem?_eq_some_iff.1 h0).1
    omega
  have hall : seen.countP id = at_.length ↔ ∀ j, j < at_.length → seen[j]? = some true := by
    rw [← hlen, List.countP_eq_length]
    constructor
    · intro h j hj
      have := h seen[j] (List.getElem_mem hj)
      rw [List.getElem?_eq_getElem hj]
      exact congrArg some this
    · intro h b hb
      obtain ⟨j, hj, e⟩ := List.mem_iff_getElem.1 hb
      have := h j hj
      rw [List.getElem?_eq_getElem hj, e] at this
      exact Option.some.inj this
  rw [hall]
  obtain ⟨q0, v0⟩ := ha.has 0 hpos
  have hsymm : ∀ {x y : P3}, x ∈ T → Reach (fun a b => b ∈ T ∧ joinedV v a b) x y → y ∈ T ∧ Reach (fun a b => b ∈ T ∧ joinedV v a b) y x := by
    intro x y hx h
    induction h with
    | refl => exact ⟨hx, Reach.refl⟩
    | step _ s ih =>
      obtain ⟨i1, i2⟩ := ih
      exact ⟨s.1, Reach.head ⟨i1, joined_symm s.2⟩ i2⟩
  constructor
  · intro h
    refine ⟨⟨_, List.getElem_mem q0, v0⟩, ?_⟩
    intro t ht u hu hvt hvu
    obtain ⟨i, hi, rfl⟩ := List.mem_iff_getElem.1 ht
    obtain ⟨k, hk, rfl⟩ := List.mem_iff_getElem.1 hu
    obtain ⟨ji, hji, ei⟩ := List.mem_iff_getElem.1 (ha.all i hi hvt)
    obtain ⟨jk, hjk, ek⟩ := List.mem_iff_getElem.1 (ha.all k hk hvu)
    have r1 := hr ji hji (h ji hji)
    have r2 := hr jk hjk (h jk hjk)
    simp only [ei] at r1
    simp only [ek] at r2
    exact (hsymm (List.getElem_mem q0) r1).2.trans r2
  · intro hf j hj
    obtain ⟨qj, vj⟩ := ha.has j hj
    have hp := hf.2 _ (List.getElem_mem q0) _ (List.getElem_mem qj) v0 vj
    have key : ∀ {x}, Reach (fun a b => b ∈ T ∧ joinedV v a b) (T[at_[0]]'q0) x → x ∈ T ∧ hasV v x ∧ ∀ i, ∀ hi : i < at_.length, T[at_[i]]'(ha.has i hi).1 = x → seen[i]? = some true := by
      intro x hx
      have same : ∀ (i k : Nat) (hi : i < at_.length) (hk : k < at_.length), T[at_[i]]'(ha.has i hi).1 = T[at_[k]]'(ha.has k hk).1 → i = k := by
        intro i k hi hk e
        have e2 : at_[i] = at_[k] := by
          apply Classical.byContradiction
          intro hne
          rcases Nat.lt_or_gt_of_ne hne with hl | hl
          · exact List.pairwise_iff_getElem.1 hT _ _ (ha.has i hi).1 (ha.has k hk).1 hl e
          · exact List.pairwise_iff_getElem.1 hT _ _ (ha.has k hk).1 (ha.has i hi).1 hl e.symm
        apply Classical.byContradiction
        intro hne
        rcases Nat.lt_or_gt_of_ne hne with hl | hl
        · exact List.pairwise_iff_getElem.1 ha.nodup _ _ hi hk hl e2
        · exact List.pairwise_iff_getElem.1 ha.nodup _ _ hk hi hl e2.symm
      induction hx with
      | refl =>
        refine ⟨List.getElem_mem q0, v0, fun i hi e => ?_⟩
        rw [same i 0 hi hpos e]
        exact h0
      | step _ s ih =>
        rename_i y z _
        obtain ⟨i1, i2, i3⟩ := ih
        have hz := (joined_has s.2).2
        refine ⟨s.1, hz, fun i hi e => ?_⟩
        obtain ⟨m, hm, em⟩ := List.mem_iff_getElem.1 i1
        have hym : hasV v T[m] := by rw [em]; exact i2
        obtain ⟨k, hk, ek⟩ := List.mem_iff_getElem.1 (ha.all m hm hym)
        have ey : T[at_[k]]'(ha.has k hk).1 = y := by simp only [ek]; exact em
        have hs := i3 k hk ey
        refine hc i k hi hk hs ?_
        rw [e, ey]
        exact joined_symm s.2
    exact (key hp).2.2 j hj rfl
/-- Those one has come to, at some time. -/
structure OneInv (T : List P3) (v : Int) (at_ : List Nat) (ha : AtIs T v at_) (sn : List Bool) (n : Nat) : Prop where
  len : sn.length = at_.length
  first : sn[0]? = some true
  cnt : sn.countP id = n
  reach : ∀ j, ∀ hj : j < at_.length, sn[j]? = some true → Reach (fun a b => b ∈ T ∧ joinedV v a b) (T[at_[0]'(by omega)]'(ha.has 0 (by omega)).1) (T[at_[j]]'(ha.has j hj).1)
theorem OneInv.le {T : List P3} {v : Int} {at_ : List Nat} {ha : AtIs T v at_} {sn : List Bool} {n : Nat} (h : OneInv T v at_ ha sn n) : n ≤ at_.length := by
  rw [← h.cnt, ← h.len]; exact List.countP_le_length
theorem OneInv.put {T : List P3} {v : Int} {at_ : List Nat} {ha : AtIs T v at_} {sn : List Bool} {n : Nat} (h : OneInv T v at_ ha sn n) {i k : Nat} (hi : i < at_.length) (hk : k < at_.length) (h1 : sn[i]? = some false) (h2 : sn[k]? = some true) (hj : joinedV v (T[at_[i]]'(ha.has i hi).1) (T[at_[k]]'(ha.has k hk).1)) : OneInv T v at_ ha (sn.set i true) (n + 1) := by
  have hil : i < sn.length := by rw [h.len]; exact hi
  refine ⟨by rw [List.length_set]; exact h.len, ?_, ?_, ?_⟩
  · by_cases e : i = 0
    · subst e; rw [h.first] at h1; cases h1
    · rw [List.getElem?_set_ne e]; exact h.first
  · rw [List.countP_set hil, h.cnt]
    have : sn[i] = false := by rw [List.getElem?_eq_getElem hil] at h1; exact Option.some.inj h1
    simp [this]
  · intro j hj2 hs
    by_cases e : i = j
    · subst e
      exact (h.reach k hk h2).step ⟨List.getElem_mem _, joined_symm hj⟩
    · rw [List.getElem?_set_ne e] at hs
      exact h.reach j hj2 hs
theorem OneInv.start {T : List P3} {v : Int} {at_ : List Nat} (ha : AtIs T v at_) (hp : 0 < at_.length) : OneInv T v at_ ha ((List.replicate at_.length false).set 0 true) 1 := by
  refine ⟨by rw [List.length_set, List.length_replicate], ?_, ?_, ?_⟩
  · rw [List.getElem?_set_self (by rw [List.length_replicate]; exact hp)]
  · rw [List.countP_set (by rw [List.length_replicate]; exact hp)]
    simp
  · intro j hj hs
    by_cases e : 0 = j
    · subst e; exact Reach.refl
    · rw [List.getElem?_set_ne e, List.getElem?_replicate] at hs
      split at hs <;> cases hs
/-- Of one to whom none that one has come to is joined. -/
def Shy (T : List P3) (v : Int) (at_ : List Nat) (ha : AtIs T v at_) (sn : List Bool) (i K : Nat) : Prop := ∀ k, ∀ hi : i < at_.length, ∀ hk : k < at_.length, k < K → sn[k]? = some true → ¬ joinedV v (T[at_[i]]'(ha.has i hi).1) (T[at_[k]]'(ha.has k hk).1)
theorem OneInv.done {T : List P3} (hT : T.Nodup) {v : Int} {at_ : List Nat} {ha : AtIs T v at_} {sn : List Bool} {n : Nat} (h : OneInv T v at_ ha sn n) (hc : ∀ i, i < at_.length → sn[i]? = some true ∨ Shy T v at_ ha sn i at_.length) : n = at_.length ↔ Fan T v := by
  rw [← fan_closed hT ha h.len h.first h.reach (fun i k hi hk hs hj => by
    rcases hc i hi with h1 | h1
    · exact h1
    · exact absurd hj (h1 k hi hk hk hs)), h.cnt]
end Go.Proofs.YthjmojglcfmkmaaDoor

/- Layer 10: pieces by passes, and how they are numbered: plain mathematics. -/
namespace Go.Proofs.YthjmojglcfmkmaaDoor
open Classical

theorem count_lt {α : Type} {p q : α → Bool} : ∀ {l : List α}, (∀ x ∈ l, p x = true → q x = true) → ∀ {v}, v ∈ l → q v = true → p v = false → l.countP p < l.countP q := by
  intro l
  induction l with
  | nil => intro _ v hv; cases hv
  | cons x l ih =>
    intro h v hv h1 h2
    have hx := h x (List.mem_cons_self ..)
    have hle : l.countP p ≤ l.countP q := List.countP_mono_left (fun y hy => h y (List.mem_cons_of_mem _ hy))
    rw [List.countP_cons, List.countP_cons]
    rcases List.mem_cons.1 hv with rfl | hv
    · rw [h1, h2]; simp; omega
    · have := ih (fun y hy => h y (List.mem_cons_of_mem _ hy)) hv h1 h2
      cases hp : p x with
      | false => cases hq : q x <;> simp <;> omega
      | true => rw [hx hp]; simp; omega
/-- Of each triangle one of its piece, no later one. -/
structure Low (T : List P3) (out : List Nat) : Prop where
  len : out.length = T.length
  le : ∀ (i : Nat) (hi : i < out.length), out[i] ≤ i
  conn : ∀ (i : Nat) (hi : i < out.length), ConnT T (T[out[i]]'(by have := le i hi; omega)) (T[i]'(by omega))
/-- Beside each other, over an edge. -/
def Beside (T : List P3) (i u : Nat) : Prop := ∃ t s, T[i]? = some t ∧ T[u]? = some s ∧ ∃ p q, (p, q) ∈ dirs t ∧ (q, p) ∈ dirs s
def Pass (T : List P3) (out out' : List Nat) : Prop := (∀ i, i < T.length → out'[i]?.getD 0 ≤ out[i]?.getD 0) ∧ ∀ i u, Beside T i u → out'[i]?.getD 0 ≤ out[u]?.getD 0
def First (T : List P3) (f : Nat) : Prop := ∀ j, ∀ hf : f < T.length, ∀ hj : j < T.length, ConnT T T[f] T[j] → f ≤ j
def Settled (T : List P3) (out : List Nat) (f : Nat) : Prop := ∀ i, ∀ hf : f < T.length, ∀ hi : i < T.length, ConnT T T[f] T[i] → out[i]?.getD 0 = f
def far (T : List P3) (out : List Nat) (f : Nat) : Nat := (List.range T.length).countP fun i => out[i]?.getD 0 == f
theorem Low.at_ {T : List P3} {out : List Nat} (h : Low T out) {i : Nat} (hi : i < T.length) : ∃ h2 : i < out.length, out[i]?.getD 0 = out[i] := by
  have h2 : i < out.length := by rw [h.len]; exact hi
  exact ⟨h2, by rw [List.getElem?_eq_getElem h2]; rfl⟩
theorem low_ge {T : List P3} {out : List Nat} (h : Low T out) {f i : Nat} (hf : f < T.length) (hi : i < T.length) (hF : First T f) (hc : ConnT T T[f] T[i]) : f ≤ out[i]?.getD 0 := by
  obtain ⟨h2, e⟩ := h.at_ hi
  rw [e]
  have h3 := h.conn i h2
  have h4 := h.le i h2
  have hlt : out[i] < T.length := by omega
  exact hF _ hf hlt (hc.trans (conn_symm (List.getElem_mem hlt) h3))
theorem tri_same {T : List P3} (hT : T.Nodup) {i j : Nat} (hi : i < T.length) (hj : j < T.length) (e : T[i] = T[j]) : i = j := by
  apply Classical.byContradiction
  intro hne
  rcases Nat.lt_or_gt_of_ne hne with hl | hl
  · exact List.pairwise_iff_getElem.1 hT i j hi hj hl e
  · exact List.pairwise_iff_getElem.1 hT j i hj hi hl e.symm
theorem settle_step {T : List P3} (hT : T.Nodup) {out out' : List Nat} (h : Low T out) (h' : Low T out') (hp : Pass T out out') {f n : Nat} (hf : f < T.length) (hF : First T f) (hs : Settled T out f ∨ n + 1 ≤ far T out f) : Settled T out' f ∨ n + 1 + 1 ≤ far T out' f := by
  have keep : ∀ i, ∀ hi : i < T.length, ConnT T T[f] T[i] → out[i]?.getD 0 = f → out'[i]?.getD 0 = f := fun i hi hc e => by
    have h1 := hp.1 i hi
    have h2 := low_ge h' hf hi hF hc
    omega
  by_cases hall : Settled T out f
  · left
    intro i hf2 hi hc
    exact keep i hi hc (hall i hf2 hi hc)
  · right
    have hn := hs.resolve_left hall
    -- the first one on a way that is not settled
    have hex : ∃ v u, ∃ hv : v < T.length, ∃ hu : u < T.length, ConnT T T[f] T[v] ∧ out[v]?.getD 0 ≠ f ∧ out[u]?.getD 0 = f ∧ Beside T v u := by
      apply Classical.byContradiction
      intro hno
      apply hall
      intro i hf2 hi hc
      have key : ∀ {x}, Reach (fun a b => b ∈ T ∧ ∃ p q, (p, q) ∈ dirs a ∧ (q, p) ∈ dirs b) T[f] x → x ∈ T ∧ ConnT T T[f] x ∧ ∀ j, ∀ hj : j < T.length, T[j] = x → out[j]?.getD 0 = f := by
        intro x hx
        have hbase : out[f]?.getD 0 = f := by
          have h1 := low_ge h hf hf hF Reach.refl
          obtain ⟨h2, e⟩ := h.at_ hf
          have h3 := h.le f h2
          omega
        induction hx with
        | refl =>
          refine ⟨List.getElem_mem hf, Reach.refl, fun j hj e => ?_⟩
          rw [tri_same hT hj hf e]
          exact hbase
        | step hy s ih =>
          rename_i y z
          obtain ⟨i1, i2, i3⟩ := ih
          refine ⟨s.1, i2.step s, fun j hj e => ?_⟩
          obtain ⟨u, hu, eu⟩ := List.mem_iff_getElem.1 i1
          have h1 := i3 u hu eu
          apply Classical.byContradiction
          intro hne
          obtain ⟨_, p, q, s2, s3⟩ := s
          refine hno ⟨j, u, hj, hu, ?_, hne, h1, ?_⟩
          · rw [e]; exact i2.step ⟨by rw [← e]; exact List.getElem_mem hj, p, q, s2, s3⟩
          · exact ⟨z, y, by rw [List.getElem?_eq_getElem hj, e], by rw [List.getElem?_eq_getElem hu, eu], q, p, s3, s2⟩
      exact (key hc).2.2 i hi rfl
    obtain ⟨v, u, hv, hu, hcv, hne, hfu, hb⟩ := hex
    have hv' : out'[v]?.getD 0 = f := by
      have h1 := hp.2 v u hb
      have h2 := low_ge h' hf hv hF hcv
      omega
    have hlt : far T out f < far T out' f := by
      unfold far
      refine count_lt ?_ (List.mem_range.2 hv) (beq_iff_eq.2 hv') (beq_eq_false_iff_ne.2 hne)
      intro i hi he
      rw [List.mem_range] at hi
      have he := beq_iff_eq.1 he
      obtain ⟨h2, e⟩ := h.at_ hi
      have hc : ConnT T T[f] T[i] := by
        have h3 := h.conn i h2
        rw [e] at he
        simp only [he] at h3
        exact h3
      exact beq_iff_eq.2 (keep i hi hc he)
    omega
theorem settle_zero {T : List P3} {out : List Nat} (h : Low T out) {f : Nat} (hf : f < T.length) (hF : First T f) : Settled T out f ∨ 0 + 1 ≤ far T out f := by
  right
  have hbase : out[f]?.getD 0 = f := by
    have h1 := low_ge h hf hf hF Reach.refl
    obtain ⟨h2, e⟩ := h.at_ hf
    have h3 := h.le f h2
    omega
  unfold far
  have : 0 < (List.range T.length).countP fun i => out[i]?.getD 0 == f := List.countP_pos_iff.2 ⟨f, List.mem_range.2 hf, beq_iff_eq.2 hbase⟩
  omega
/-- Of each triangle the first one of its piece. -/
structure Firsts (T : List P3) (O : List Nat) : Prop where
  len : O.length = T.length
  le : ∀ i, i < T.length → O[i]?.getD 0 ≤ i
  idem : ∀ i, i < T.length → O[O[i]?.getD 0]?.getD 0 = O[i]?.getD 0
  same : ∀ i j, ∀ hi : i < T.length, ∀ hj : j < T.length, O[i]?.getD 0 = O[j]?.getD 0 ↔ ConnT T T[i] T[j]
theorem first_of {T : List P3} {i : Nat} (hi : i < T.length) : ∃ f, ∃ hf : f < T.length, First T f ∧ ConnT T T[f] T[i] := by
  have key : ∀ m i, i ≤ m → ∀ hi : i < T.length, ∃ f, ∃ hf : f < T.length, First T f ∧ ConnT T T[f] T[i] := by
    intro m
    induction m with
    | zero =>
      intro i him hi
      refine ⟨i, hi, fun j _ _ _ => by omega, Reach.refl⟩
    | succ m ih =>
      intro i him hi
      by_cases hF : First T i
      · exact ⟨i, hi, hF, Reach.refl⟩
      · unfold First at hF
        have : ∃ j, ∃ hj : j < T.length, ConnT T T[i] T[j] ∧ j < i := by
          apply Classical.byContradiction
          intro hno
          apply hF
          intro j _ hj hc
          apply Classical.byContradiction
          intro hlt
          exact hno ⟨j, hj, hc, by omega⟩
        obtain ⟨j, hj, hc, hlt⟩ := this
        obtain ⟨f, hf, h1, h2⟩ := ih j (by omega) hj
        exact ⟨f, hf, h1, h2.trans (conn_symm (List.getElem_mem hi) hc)⟩
  exact key i i (Nat.le_refl _) hi
/-- After as many passes as there are triangles. -/
theorem firsts_of {T : List P3} {out : List Nat} (h : Low T out) (hs : ∀ f, f < T.length → First T f → Settled T out f ∨ T.length + 1 ≤ far T out f) : Firsts T out := by
  have hset : ∀ f, f < T.length → First T f → Settled T out f := fun f hf hF => by
    rcases hs f hf hF with h1 | h1
    · exact h1
    · exfalso
      have h2 : far T out f ≤ (List.range T.length).length := List.countP_le_length
      rw [List.length_range] at h2
      omega
  have hof : ∀ i, ∀ hi : i < T.length, ∃ f, ∃ hf : f < T.length, First T f ∧ ConnT T T[f] T[i] ∧ out[i]?.getD 0 = f := fun i hi => by
    obtain ⟨f, hf, hF, hc⟩ := first_of hi
    exact ⟨f, hf, hF, hc, hset f hf hF i hf hi hc⟩
  refine ⟨h.len, fun i hi => ?_, fun i hi => ?_, fun i j hi hj => ?_⟩
  · obtain ⟨h2, e⟩ := h.at_ hi
    rw [e]; exact h.le i h2
  · obtain ⟨f, hf, hF, hc, e⟩ := hof i hi
    rw [e]
    exact hset f hf hF f hf hf Reach.refl
  · obtain ⟨f, hf, hF, hc, e⟩ := hof i hi
    obtain ⟨g, hg, hG, hd, e2⟩ := hof j hj
    rw [e, e2]
    constructor
    · intro he
      subst he
      exact (conn_symm (List.getElem_mem hf) hc).trans hd
    · intro hij
      have h1 : ConnT T T[f] T[j] := hc.trans hij
      have := hset f hf hF j hf hj h1
      rw [e2] at this
      exact this.symm
/-- How many first ones lie ahead. -/
def numF (O : List Nat) (m : Nat) : Nat := (List.range m).countP fun j => O[j]?.getD 0 == j
theorem numF_next (O : List Nat) (m : Nat) : numF O (m + 1) = numF O m + if O[m]?.getD 0 == m then 1 else 0 := by
  unfold numF
  rw [List.range_succ, List.countP_append, List.countP_singleton]
theorem numF_lt {O : List Nat} {f g : Nat} (hf : O[f]?.getD 0 = f) (h : f < g) : numF O f < numF O g := by
  have key : ∀ d, numF O f < numF O (f + 1 + d) := by
    intro d
    induction d with
    | zero => rw [Nat.add_zero, numF_next, hf]; simp
    | succ d ih => rw [← Nat.add_assoc, numF_next]; omega
  have := key (g - (f + 1))
  rwa [show f + 1 + (g - (f + 1)) = g by omega] at this
def piecesOf (O : List Nat) : List Nat := (List.range O.length).map fun i => numF O (O[i]?.getD 0)
theorem pieces_of {T : List P3} {O : List Nat} (h : Firsts T O) : PiecesIs T (piecesOf O) := by
  have hlen : (piecesOf O).length = T.length := by unfold piecesOf; rw [List.length_map, List.length_range, h.len]
  have hat : ∀ (i : Nat) (hi : i < (piecesOf O).length), (piecesOf O)[i] = numF O (O[i]?.getD 0) := fun i hi => by
    simp only [piecesOf, List.getElem_map, List.getElem_range]
  refine ⟨hlen, fun i j hi hj => ?_, fun i hi => ?_⟩
  · rw [hat, hat, ← h.same i j (hlen ▸ hi) (hlen ▸ hj)]
    constructor
    · intro he
      apply Classical.byContradiction
      intro hne
      rcases Nat.lt_or_gt_of_ne hne with hl | hl
      · have := numF_lt (h.idem i (hlen ▸ hi)) hl; omega
      · have := numF_lt (h.idem j (hlen ▸ hj)) hl; omega
    · intro he; rw [he]
  · have hnum : ∀ m, m ≤ (piecesOf O).length → numF O m ≤ maxNext ((piecesOf O).take m) := by
      intro m
      induction m with
      | zero => intro _; exact Nat.zero_le _
      | succ m ih =>
        intro hm
        have ih := ih (by omega)
        rw [numF_next, List.take_succ_eq_append_getElem (by omega), maxNext_app, hat m (by omega)]
        have e : maxNext [numF O (O[m]?.getD 0)] = numF O (O[m]?.getD 0) + 1 := by show max _ 0 = _; omega
        rw [e]
        split
        · rename_i hb
          rw [beq_iff_eq.1 hb]
          omega
        · omega
    rw [hat]
    have hle := h.le i (hlen ▸ hi)
    by_cases hc : O[i]?.getD 0 = i
    · rw [hc]; exact hnum i (by omega)
    · have hm : numF O (O[i]?.getD 0) ∈ (piecesOf O).take i := by
        rw [List.mem_iff_getElem]
        refine ⟨O[i]?.getD 0, by rw [List.length_take]; omega, ?_⟩
        rw [List.getElem_take, hat, h.idem i (hlen ▸ hi)]
      have := maxNext_mem hm
      omega
theorem firsts_total (T : List P3) : ∃ O, Firsts T O := by
  have hg0 : ∀ i : Nat, ∃ f : Nat, ∀ hi : i < T.length, ∃ hf : f < T.length, First T f ∧ ConnT T T[f] T[i] := fun i => by
    by_cases hi : i < T.length
    · obtain ⟨f, hf, h1, h2⟩ := first_of hi
      exact ⟨f, fun _ => ⟨hf, h1, h2⟩⟩
    · exact ⟨0, fun h => absurd h hi⟩
  obtain ⟨g, hg⟩ := Classical.axiomOfChoice hg0
  have hat : ∀ i, i < T.length → ((List.range T.length).map g)[i]?.getD 0 = g i := fun i hi => by
    rw [List.getElem?_map, List.getElem?_range hi]; rfl
  have one : ∀ {f f' i : Nat} (hi : i < T.length) (hf : f < T.length) (hf' : f' < T.length), First T f → First T f' → ConnT T T[f] T[i] → ConnT T T[f'] T[i] → f = f' := fun {f f' i} hi hf hf' h1 h2 c1 c2 => by
    have a := h1 f' hf hf' (c1.trans (conn_symm (List.getElem_mem hf') c2))
    have b := h2 f hf' hf (c2.trans (conn_symm (List.getElem_mem hf) c1))
    omega
  refine ⟨(List.range T.length).map g, by rw [List.length_map, List.length_range], fun i hi => ?_, fun i hi => ?_, fun i j hi hj => ?_⟩
  · rw [hat i hi]
    obtain ⟨hf, h1, h2⟩ := hg i hi
    exact h1 i hf hi h2
  · rw [hat i hi]
    obtain ⟨hf, h1, h2⟩ := hg i hi
    rw [hat _ hf]
    obtain ⟨hf2, h3, h4⟩ := hg (g i) hf
    exact one hf hf2 hf h3 h1 h4 Reach.refl
  · rw [hat i hi, hat j hj]
    obtain ⟨hf, h1, h2⟩ := hg i hi
    obtain ⟨hf2, h3, h4⟩ := hg j hj
    constructor
    · intro he
      have h5 : ConnT T (T[g i]'hf) T[j] := by
        have e : T[g i]'hf = T[g j]'hf2 := by congr 1
        rw [e]; exact h4
      exact (conn_symm (List.getElem_mem hf) h2).trans h5
    · intro hc
      exact one hj hf hf2 h1 h3 (h2.trans hc) h4
theorem pieces_total (T : List P3) : ∃ p, PiecesIs T p := by
  obtain ⟨O, hO⟩ := firsts_total T
  exact ⟨_, pieces_of hO⟩
end Go.Proofs.YthjmojglcfmkmaaDoor

/- Layer 10: a pass, and the numbers of the pieces, place by place: plain mathematics. -/
namespace Go.Proofs.YthjmojglcfmkmaaDoor
open Classical

theorem getD_set {l : List Nat} {i : Nat} (h : i < l.length) (x j : Nat) : (l.set i x)[j]?.getD 0 = if j = i then x else l[j]?.getD 0 := by
  by_cases e : i = j
  · subst e
    rw [List.getElem?_set_self h, if_pos rfl]; rfl
  · rw [List.getElem?_set_ne e, if_neg (fun e2 => e e2.symm)]
theorem low_range (T : List P3) {out : List Nat} (hl : out.length = T.length) (h : ∀ j, j < out.length → out[j]? = some j) : Low T out := by
  have e : ∀ (i : Nat) (hi : i < out.length), out[i] = i := fun i hi => by
    have := h i hi
    rw [List.getElem?_eq_getElem hi] at this
    exact Option.some.inj this
  refine ⟨hl, fun i hi => by rw [e i hi]; exact Nat.le_refl _, fun i hi => ?_⟩
  have : T[out[i]]'(by rw [e i hi]; omega) = T[i]'(by omega) := by congr 1; exact e i hi
  rw [this]
  exact Reach.refl
theorem Low.put {T : List P3} {out : List Nat} (h : Low T out) {i u : Nat} (hi : i < T.length) (hu : u < T.length) (hb : Beside T i u) : Low T (out.set i (min (out[i]?.getD 0) (out[u]?.getD 0))) := by
  obtain ⟨hi2, ei⟩ := h.at_ hi
  obtain ⟨hu2, eu⟩ := h.at_ hu
  rw [ei, eu]
  have hle : ∀ (j : Nat) (hj : j < (out.set i (min out[i] out[u])).length), (out.set i (min out[i] out[u]))[j] ≤ j := fun j hj => by
    rw [List.getElem_set]
    split
    · rename_i e
      subst e
      have := h.le i hi2
      omega
    · exact h.le j (by rw [List.length_set] at hj; exact hj)
  refine ⟨by rw [List.length_set]; exact h.len, hle, fun j hj => ?_⟩
  have hj2 : j < out.length := by rw [List.length_set] at hj; exact hj
  by_cases e : i = j
  · subst e
    have hv : (out.set i (min out[i] out[u]))[i] = min out[i] out[u] := List.getElem_set_self ..
    have h1 := h.le i hi2
    have h2 := h.le u hu2
    obtain ⟨t, s, et, es, p, q, hp, hq⟩ := hb
    rw [List.getElem?_eq_getElem hi] at et
    rw [List.getElem?_eq_getElem hu] at es
    cases et
    cases es
    rcases Nat.le_total out[i] out[u] with hl | hl
    · have e2 : (out.set i (min out[i] out[u]))[i] = out[i] := by rw [hv]; exact Nat.min_eq_left hl
      simp only [e2]
      exact h.conn i hi2
    · have e2 : (out.set i (min out[i] out[u]))[i] = out[u] := by rw [hv]; exact Nat.min_eq_right hl
      simp only [e2]
      exact (h.conn u hu2).step ⟨List.getElem_mem hi, q, p, hq, hp⟩
  · have e2 : (out.set i (min out[i] out[u]))[j] = out[j] := List.getElem_set_ne e _
    simp only [e2]
    exact h.conn j hj2
/-- A pass, so far: all of the first so many, and of the next one so many sides. -/
structure PassTo (T : List P3) (out0 cur : List Nat) (i k : Nat) : Prop where
  lo : Low T cur
  le : ∀ j, j < T.length → cur[j]?.getD 0 ≤ out0[j]?.getD 0
  done : ∀ j, j < i → ∀ u, Beside T j u → cur[j]?.getD 0 ≤ out0[u]?.getD 0
  part : ∀ (t : P3), T[i]? = some t → ∀ m, m < k → ∀ (u : Nat) (s : P3), T[u]? = some s → (at3 t ((m + 1) % 3), at3 t m) ∈ dirs s → cur[i]?.getD 0 ≤ out0[u]?.getD 0
theorem PassTo.start {T : List P3} {out : List Nat} (h : Low T out) : PassTo T out out 0 0 := ⟨h, fun _ _ => Nat.le_refl _, fun j hj => absurd hj (by omega), fun _ _ m hm => absurd hm (by omega)⟩
theorem PassTo.none {T : List P3} {out0 cur : List Nat} {i k : Nat} (h : PassTo T out0 cur i k) {t : P3} (ht : T[i]? = some t) (hno : (at3 t ((k + 1) % 3), at3 t k) ∉ darts T) : PassTo T out0 cur i (k + 1) := by
  refine ⟨h.lo, h.le, h.done, fun t' ht' m hm u s hs hd => ?_⟩
  rw [ht] at ht'
  cases ht'
  by_cases e : m = k
  · subst e
    exact absurd (mem_darts.2 ⟨s, List.mem_of_getElem? hs, hd⟩) hno
  · exact h.part t ht m (by omega) u s hs hd
theorem PassTo.put {T : List P3} (hT : (darts T).Nodup) {out0 cur : List Nat} {i k u : Nat} (h : PassTo T out0 cur i k) (hk : k < 3) {t : P3} (ht : T[i]? = some t) (hu : u < T.length) (hd : (at3 t ((k + 1) % 3), at3 t k) ∈ dirs T[u]) : PassTo T out0 (cur.set i (min (cur[i]?.getD 0) (cur[u]?.getD 0))) i (k + 1) := by
  have hi : i < T.length := (List.getElem?_eq_some_iff.1 ht).1
  have hil : i < cur.length := by rw [h.lo.len]; exact hi
  have hb : Beside T i u := ⟨t, T[u], ht, List.getElem?_eq_getElem hu, at3 t k, at3 t ((k + 1) % 3), dirs_mem_at.2 ⟨k, hk, rfl⟩, hd⟩
  refine ⟨h.lo.put hi hu hb, fun j hj => ?_, fun j hj v hv => ?_, fun t' ht' m hm v s hs hd2 => ?_⟩
  · rw [getD_set hil]
    split
    · rename_i e
      subst e
      have := h.le j hj
      omega
    · exact h.le j hj
  · rw [getD_set hil, if_neg (by omega)]
    exact h.done j hj v hv
  · rw [ht] at ht'
    cases ht'
    rw [getD_set hil, if_pos rfl]
    by_cases e : m = k
    · subst e
      have h1 := h.le u hu
      have : v = u := by
        have hv : v < T.length := (List.getElem?_eq_some_iff.1 hs).1
        rw [List.getElem?_eq_getElem hv] at hs
        cases hs
        exact tri_same (darts_nodup hT) hv hu (dart_one hT (List.getElem_mem hv) (List.getElem_mem hu) hd2 hd)
      subst this
      omega
    · have := h.part t ht m (by omega) v s hs hd2
      omega
theorem PassTo.row {T : List P3} {out0 cur : List Nat} {i : Nat} (h : PassTo T out0 cur i 3) (hi : i < T.length) : PassTo T out0 cur (i + 1) 0 := by
  refine ⟨h.lo, h.le, fun j hj u hb => ?_, fun _ _ m hm => absurd hm (by omega)⟩
  by_cases e : j = i
  · subst e
    obtain ⟨t, s, et, es, p, q, hp, hq⟩ := hb
    obtain ⟨m, hm, e2⟩ := dirs_mem_at.1 hp
    cases e2
    exact h.part t et m hm u s es hq
  · exact h.done j (by omega) u hb
theorem PassTo.pass {T : List P3} {out0 cur : List Nat} (h : PassTo T out0 cur T.length 0) : Pass T out0 cur :=
  ⟨h.le, fun i u hb => h.done i (by obtain ⟨t, _, et, _⟩ := hb; exact (List.getElem?_eq_some_iff.1 et).1) u hb⟩
/-- While the pieces are numbered: what stands at a place. -/
def zF (O : List Nat) (i j : Nat) : Int := if O[j]?.getD 0 < i then -1 - (numF O (O[j]?.getD 0) : Int) else ((O[j]?.getD 0 : Nat) : Int)
def zG (O : List Nat) (i k j : Nat) : Int := if O[j]?.getD 0 = i ∧ i < j ∧ j < k then -1 - (numF O i : Int) else zF O i j
def zH (O : List Nat) (n i j : Nat) : Int := if j < i then (numF O (O[j]?.getD 0) : Int) else zF O n j
def rowZ (f : Nat → Int) (n : Nat) : List Int := (List.range n).map f
theorem rowZ_len (f : Nat → Int) (n : Nat) : (rowZ f n).length = n := by unfold rowZ; rw [List.length_map, List.length_range]
theorem rowZ_at (f : Nat → Int) {n j : Nat} (h : j < n) : (rowZ f n)[j]? = some (f j) := by unfold rowZ; rw [List.getElem?_map, List.getElem?_range h]; rfl
theorem rowZ_congr {f g : Nat → Int} {n : Nat} (h : ∀ j, j < n → f j = g j) : rowZ f n = rowZ g n := List.map_congr_left (fun j hj => h j (List.mem_range.1 hj))
theorem rowZ_set {f g : Nat → Int} {n i : Nat} {x : Int} (hi : i < n) (hx : x = g i) (h : ∀ j, j < n → j ≠ i → f j = g j) : (rowZ f n).set i x = rowZ g n := by
  apply List.ext_getElem?
  intro j
  by_cases e : i = j
  · subst e
    rw [List.getElem?_set_self (by rw [rowZ_len]; exact hi), rowZ_at g hi, hx]
  · rw [List.getElem?_set_ne e]
    by_cases hj : j < n
    · rw [rowZ_at f hj, rowZ_at g hj, h j hj (fun e2 => e e2.symm)]
    · rw [List.getElem?_eq_none (by rw [rowZ_len]; omega), List.getElem?_eq_none (by rw [rowZ_len]; omega)]
theorem zF_start (O : List Nat) (j : Nat) : zF O 0 j = ((O[j]?.getD 0 : Nat) : Int) := by unfold zF; rw [if_neg (by omega)]
theorem zG_start (O : List Nat) (i j : Nat) : zG O i (i + 1) j = zF O i j := by unfold zG; rw [if_neg (by omega)]
theorem zH_start (O : List Nat) (n j : Nat) : zH O n 0 j = zF O n j := by unfold zH; rw [if_neg (by omega)]
theorem z_first {T : List P3} {O : List Nat} (h : Firsts T O) {i : Nat} (hi : i < T.length) : (zF O i i = (i : Int) ↔ O[i]?.getD 0 = i) := by
  have := h.le i hi
  unfold zF
  split <;> omega
theorem z_mine (O : List Nat) (i k : Nat) : (zG O i k k = (i : Int) ↔ O[k]?.getD 0 = i) := by
  unfold zG zF
  by_cases h1 : O[k]?.getD 0 = i
  · simp only [h1, true_and]
    rw [if_neg (by omega), if_neg (by omega)]
    simp
  · simp only [h1, false_and, if_false, iff_false]
    split <;> omega
theorem zG_put {O : List Nat} {i k : Nat} (h : i < k) (hk : O[k]?.getD 0 = i) : -1 - (numF O i : Int) = zG O i (k + 1) k := by unfold zG; rw [if_pos ⟨hk, h, by omega⟩]
theorem zG_same {O : List Nat} {i k j : Nat} (h : j ≠ k ∨ O[k]?.getD 0 ≠ i) : zG O i k j = zG O i (k + 1) j := by
  unfold zG
  by_cases e : j = k
  · subst e
    have h2 := h.resolve_left (fun h => h rfl)
    rw [if_neg (fun hh => h2 hh.1), if_neg (fun hh => h2 hh.1)]
  · have e2 : (O[j]?.getD 0 = i ∧ i < j ∧ j < k) ↔ (O[j]?.getD 0 = i ∧ i < j ∧ j < k + 1) := by
      constructor
      · rintro ⟨a, b, c⟩; exact ⟨a, b, by omega⟩
      · rintro ⟨a, b, c⟩; exact ⟨a, b, by omega⟩
    simp only [e2]
theorem zF_put {O : List Nat} {i : Nat} (h : O[i]?.getD 0 = i) : -1 - (numF O i : Int) = zF O (i + 1) i := by unfold zF; rw [h, if_pos (by omega)]
theorem zG_next {T : List P3} {O : List Nat} (h : Firsts T O) {i j : Nat} (hj : j < T.length) (hne : j ≠ i) : zG O i T.length j = zF O (i + 1) j := by
  have hle := h.le j hj
  unfold zG zF
  by_cases e : O[j]?.getD 0 = i
  · rw [if_pos ⟨e, by omega, hj⟩, if_pos (by omega), e]
  · rw [if_neg (fun hh => e hh.1)]
    by_cases e2 : O[j]?.getD 0 < i
    · rw [if_pos e2, if_pos (by omega)]
    · rw [if_neg e2, if_neg (by omega)]
theorem zF_same {T : List P3} {O : List Nat} (h : Firsts T O) {i : Nat} (hno : O[i]?.getD 0 ≠ i) {j : Nat} (hj : j < T.length) : zF O i j = zF O (i + 1) j := by
  have hid := h.idem j hj
  unfold zF
  by_cases e : O[j]?.getD 0 = i
  · rw [e] at hid; exact absurd hid hno
  · by_cases e2 : O[j]?.getD 0 < i
    · rw [if_pos e2, if_pos (by omega)]
    · rw [if_neg e2, if_neg (by omega)]
theorem zH_put {T : List P3} {O : List Nat} (h : Firsts T O) {i : Nat} (hi : i < T.length) : -1 - zH O T.length i i = zH O T.length (i + 1) i := by
  have hle := h.le i hi
  unfold zH zF
  rw [if_neg (by omega), if_pos (by omega), if_pos (by omega)]
  omega
theorem zH_same (O : List Nat) {n i j : Nat} (h : j ≠ i) : zH O n i j = zH O n (i + 1) j := by
  unfold zH
  by_cases e : j < i
  · rw [if_pos e, if_pos (by omega)]
  · rw [if_neg e, if_neg (by omega)]
theorem zH_end {T : List P3} {O : List Nat} (h : Firsts T O) : rowZ (zH O T.length T.length) T.length = (piecesOf O).map fun (k : Nat) => (k : Int) := by
  unfold rowZ piecesOf
  rw [List.map_map, h.len]
  refine List.map_congr_left (fun j hj => ?_)
  rw [List.mem_range] at hj
  unfold zH
  rw [if_pos hj]
  rfl
theorem numF_le (O : List Nat) (m : Nat) : numF O m ≤ m := by
  unfold numF
  have := List.countP_le_length (p := fun j => O[j]?.getD 0 == j) (l := List.range m)
  rw [List.length_range] at this
  exact this
theorem zF_bound {T : List P3} {O : List Nat} (h : Firsts T O) {i j : Nat} (hj : j < T.length) : -1 - (T.length : Int) ≤ zF O i j ∧ zF O i j ≤ T.length := by
  have h1 := h.le j hj
  have h2 := numF_le O (O[j]?.getD 0)
  unfold zF
  split <;> omega
end Go.Proofs.YthjmojglcfmkmaaDoor
