/- Layer 6 in plain numbers: a row of symbols narrows a range; the number that is left tells them. -/
import Derived.Test.YtfkmcjlapigapaaModelMath
namespace Go.Proofs.Ytfkmcjlapigapaa
open Go.RowKit

/-- A symbol of a model: (model, symbol). -/
abbrev Cod := Int × Int
/-- How much there is of a model's shares; 0: there is no such model. -/
def wholeC (C : List (List Nat)) (k : Int) : Nat := if -16 ≤ k ∧ k < 0 then 2 ^ (-k).toNat else if 0 ≤ k ∧ k < (C.length : Int) then (C.getD k.toNat []).sum else 0
/-- A symbol's share: where it begins, how much it is; nothing: it is none. -/
def shareC (C : List (List Nat)) (x : Cod) : Nat × Nat :=
  if -16 ≤ x.1 ∧ x.1 < 0 then (if 0 ≤ x.2 ∧ x.2 < ((2 ^ (-x.1).toNat : Nat) : Int) then (x.2.toNat, 1) else (0, 0))
  else if 0 ≤ x.1 ∧ x.1 < (C.length : Int) then (if (shareN (C.getD x.1.toNat []) x.2).2.2 = 0 then ((shareN (C.getD x.1.toNat []) x.2).1, (shareN (C.getD x.1.toNat []) x.2).2.1) else (0, 0))
  else (0, 0)
/-- Counts behind a symbol. -/
def seenC (C : List (List Nat)) (x : Cod) : List (List Nat) := if 0 ≤ x.1 then C.set x.1.toNat (countN (C.getD x.1.toNat []) x.2.toNat) else C
/-- How far one has come: counts, the number, its digits, the range. -/
structure Cdr where
  C : List (List Nat)
  N : Nat
  D : Nat
  R : Nat
/-- As long as the range is small: one digit more. -/
def norm : Nat → Cdr → Cdr
  | 0, t => t
  | f + 1, t => if t.R < 16777216 then norm f { t with N := t.N * 256, D := t.D + 1, R := t.R * 256 } else t
def stepC (t : Cdr) (x : Cod) : Option Cdr :=
  if (shareC t.C x).2 = 0 then none
  else some { norm 3 { t with N := t.N + t.R / wholeC t.C x.1 * (shareC t.C x).1, R := t.R / wholeC t.C x.1 * (shareC t.C x).2 } with C := seenC t.C x }
def runC : Cdr → List Cod → Option Cdr
  | t, [] => some t
  | t, x :: l => (stepC t x).bind fun u => runC u l
/-- What holds of it always. -/
structure COk (t : Cdr) : Prop where
  cnt : ∀ c ∈ t.C, Cnts c
  big : 16777216 ≤ t.R
  small : t.R < 4294967296
  top : t.N + t.R ≤ 256 ^ (t.D - 1)
  dig : 5 ≤ t.D

theorem norm_is (f : Nat) : ∀ t : Cdr, ∃ j, j ≤ f ∧ norm f t = { t with N := t.N * 256 ^ j, D := t.D + j, R := t.R * 256 ^ j } ∧ (j = 0 ∨ t.R * 256 ^ (j - 1) < 16777216) ∧ (j = f ∨ 16777216 ≤ t.R * 256 ^ j) := by
  induction f with
  | zero => intro t; exact ⟨0, Nat.le_refl _, by simp [norm], Or.inl rfl, Or.inl rfl⟩
  | succ f ih =>
    intro t
    by_cases h : t.R < 16777216
    · obtain ⟨j, h0, h1, h2, h3⟩ := ih { t with N := t.N * 256, D := t.D + 1, R := t.R * 256 }
      refine ⟨j + 1, by omega, ?_, Or.inr ?_, ?_⟩
      · rw [norm, if_pos h, h1]
        simp only [Nat.pow_succ, Nat.mul_comm (256 ^ j) 256, ← Nat.mul_assoc, Nat.add_assoc, Nat.add_comm 1 j]
      · rw [Nat.add_sub_cancel]
        rcases h2 with h2 | h2
        · subst h2; simpa using h
        · simp only at h2
          cases j with
          | zero => simpa using h
          | succ j => rw [Nat.add_sub_cancel] at h2; rw [Nat.pow_succ, Nat.mul_comm (256 ^ j) 256, ← Nat.mul_assoc]; exact h2
      · rcases h3 with h3 | h3
        · exact Or.inl (by omega)
        · right
          simp only at h3
          rw [Nat.pow_succ, Nat.mul_comm (256 ^ j) 256, ← Nat.mul_assoc]; exact h3
    · exact ⟨0, Nat.zero_le _, by rw [norm, if_neg h]; simp, Or.inl rfl, Or.inr (by simp; omega)⟩

theorem whole_le {C : List (List Nat)} (hC : ∀ c ∈ C, Cnts c) (k : Int) : wholeC C k ≤ 65536 := by
  unfold wholeC
  split
  · rename_i h
    have : (-k).toNat ≤ 16 := by omega
    exact Nat.pow_le_pow_right (by decide) this
  · split
    · rename_i h
      have hl : k.toNat < C.length := by omega
      have e : C.getD k.toNat [] = C[k.toNat] := by simp [List.getElem?_eq_getElem hl]
      rw [e]
      have := (hC _ (List.getElem_mem hl)).sum
      omega
    · omega
/-- A share lies in the whole. -/
theorem share_le {C : List (List Nat)} (x : Cod) (h : (shareC C x).2 ≠ 0) : (shareC C x).1 + (shareC C x).2 ≤ wholeC C x.1 := by
  unfold shareC at h ⊢
  unfold wholeC
  split
  · rename_i h1
    rw [if_pos h1] at h
    split
    · rename_i h2; simp only; omega
    · rename_i h2; rw [if_neg h2] at h; simp at h
  · rename_i h1
    rw [if_neg h1] at h
    split
    · rename_i h2
      rw [if_pos h2] at h
      split
      · rename_i h3
        simp only
        have hs : ¬ (x.2 < 0 ∨ ((C.getD x.1.toNat []).length : Int) ≤ x.2) := fun h' => by unfold shareN at h3; rw [if_pos h'] at h3; simp at h3
        have hl : x.2.toNat < (C.getD x.1.toNat []).length := by omega
        have e : shareN (C.getD x.1.toNat []) x.2 = (((C.getD x.1.toNat []).take x.2.toNat).sum, (C.getD x.1.toNat [])[x.2.toNat], 0) := by
          have := share_in hl
          rw [show ((x.2.toNat : Nat) : Int) = x.2 by omega] at this
          exact this
        rw [e]
        have := sum_snoc5 hl
        have := sum_take5 (C.getD x.1.toNat []) (x.2.toNat + 1)
        simp only
        omega
      · rename_i h3; rw [if_neg h3] at h; simp at h
    · rename_i h2; rw [if_neg h2] at h; simp at h
/-- The step as numbers. -/
theorem stepC_is {t u : Cdr} {x : Cod} (ht : COk t) (h : stepC t x = some u) : ∃ j q lo n, q = t.R / wholeC t.C x.1 ∧ (lo, n) = shareC t.C x ∧ 256 ≤ q ∧ 1 ≤ n ∧ lo + n ≤ wholeC t.C x.1 ∧ q * wholeC t.C x.1 ≤ t.R ∧ u.N = (t.N + q * lo) * 256 ^ j ∧ u.R = q * n * 256 ^ j ∧ u.D = t.D + j ∧ u.C = seenC t.C x ∧ COk { u with C := t.C } := by
  unfold stepC at h
  split at h
  · cases h
  · rename_i hn
    simp only [Option.some.injEq] at h
    have hW := whole_le ht.cnt x.1
    have hs := share_le x hn
    have hb := ht.big
    have hsm := ht.small
    have htop := ht.top
    have hdig := ht.dig
    generalize hW' : wholeC t.C x.1 = W at *
    generalize hS : shareC t.C x = s at *
    obtain ⟨lo, n⟩ := s
    simp only at *
    have hq : 256 ≤ t.R / W := (Nat.le_div_iff_mul_le (by omega)).2 (by omega)
    have hqW : t.R / W * W ≤ t.R := Nat.div_mul_le_self _ _
    generalize t.R / W = q at *
    obtain ⟨j, hj, he, hl, hg⟩ := norm_is 3 { t with N := t.N + q * lo, R := q * n }
    rw [he] at h
    subst h
    simp only at hl hg
    have hqn : q * lo + q * n ≤ t.R := by
      have := Nat.mul_le_mul_left q hs
      rw [Nat.mul_add] at this
      omega
    have hqn1 : 256 ≤ q * n := Nat.le_trans hq (Nat.le_mul_of_pos_right q (by omega))
    refine ⟨j, q, lo, n, by first | rfl | trivial, by first | rfl | trivial, hq, by omega, hs, hqW, rfl, rfl, rfl, rfl, ⟨ht.cnt, ?_, ?_, ?_, by simp only; omega⟩⟩
    · rcases hg with rfl | hg
      · simp only; omega
      · exact hg
    · rcases hl with rfl | hl
      · simp only [Nat.pow_zero, Nat.mul_one]; omega
      · simp only
        cases j with
        | zero => simp only [Nat.pow_zero, Nat.mul_one]; omega
        | succ j =>
          rw [Nat.add_sub_cancel] at hl
          rw [Nat.pow_succ, ← Nat.mul_assoc]; omega
    · simp only
      have e : t.D + j - 1 = (t.D - 1) + j := by omega
      rw [e, Nat.pow_add, ← Nat.add_mul]
      exact Nat.mul_le_mul_right _ (by omega)
/-- A symbol of a model that is there. -/
theorem share_model {C : List (List Nat)} {x : Cod} (h : (shareC C x).2 ≠ 0) : (-16 ≤ x.1 ∧ x.1 < 0 ∧ 0 ≤ x.2 ∧ x.2 < ((2 ^ (-x.1).toNat : Nat) : Int) ∧ shareC C x = (x.2.toNat, 1)) ∨
    (∃ hm : x.1.toNat < C.length, 0 ≤ x.1 ∧ 0 ≤ x.2 ∧ ∃ hs : x.2.toNat < C[x.1.toNat].length, shareC C x = ((C[x.1.toNat].take x.2.toNat).sum, C[x.1.toNat][x.2.toNat])) := by
  unfold shareC at h ⊢
  by_cases h1 : -16 ≤ x.1 ∧ x.1 < 0
  · rw [if_pos h1] at h ⊢
    by_cases h2 : 0 ≤ x.2 ∧ x.2 < ((2 ^ (-x.1).toNat : Nat) : Int)
    · left; rw [if_pos h2]; exact ⟨h1.1, h1.2, h2.1, h2.2, rfl⟩
    · rw [if_neg h2] at h; simp at h
  · rw [if_neg h1] at h ⊢
    by_cases h2 : 0 ≤ x.1 ∧ x.1 < (C.length : Int)
    · rw [if_pos h2] at h ⊢
      have hm : x.1.toNat < C.length := by omega
      have e : C.getD x.1.toNat [] = C[x.1.toNat] := by simp [List.getElem?_eq_getElem hm]
      rw [e] at h ⊢
      by_cases h3 : (shareN C[x.1.toNat] x.2).2.2 = 0
      · right
        have hs : ¬ (x.2 < 0 ∨ (C[x.1.toNat].length : Int) ≤ x.2) := fun h' => by unfold shareN at h3; rw [if_pos h'] at h3; simp at h3
        have hl : x.2.toNat < C[x.1.toNat].length := by omega
        have e2 := share_in hl
        rw [show ((x.2.toNat : Nat) : Int) = x.2 by omega] at e2
        refine ⟨hm, h2.1, by omega, hl, ?_⟩
        rw [if_pos h3, e2]
      · rw [if_neg h3] at h; simp at h
    · rw [if_neg h2] at h; simp at h
theorem seen_ok {C : List (List Nat)} {x : Cod} (hC : ∀ c ∈ C, Cnts c) (h : (shareC C x).2 ≠ 0) : ∀ c ∈ seenC C x, Cnts c := by
  intro c hc
  unfold seenC at hc
  split at hc
  · rename_i h0
    rcases share_model h with ⟨_, h1, _⟩ | ⟨hm, _, _, hs, _⟩
    · omega
    · rcases List.mem_or_eq_of_mem_set hc with hc | hc
      · exact hC c hc
      · subst hc
        have e : C.getD x.1.toNat [] = C[x.1.toNat] := by simp [List.getElem?_eq_getElem hm]
        rw [e]
        exact (hC _ (List.getElem_mem hm)).count hs
  · exact hC c hc
theorem stepC_ok {t u : Cdr} {x : Cod} (ht : COk t) (h : stepC t x = some u) : COk u := by
  obtain ⟨j, q, lo, n, _, _, _, _, _, _, _, _, _, hC, hk⟩ := stepC_is ht h
  have hn : (shareC t.C x).2 ≠ 0 := fun h0 => by unfold stepC at h; rw [if_pos h0] at h; cases h
  exact ⟨by rw [hC]; exact seen_ok ht.cnt hn, hk.big, hk.small, hk.top, hk.dig⟩
/-- All that comes lies within. -/
theorem run_lies (l : List Cod) : ∀ {t u : Cdr}, COk t → runC t l = some u → COk u ∧ ∃ j, u.D = t.D + j ∧ t.N * 256 ^ j ≤ u.N ∧ u.N + u.R ≤ (t.N + t.R) * 256 ^ j := by
  induction l with
  | nil =>
    intro t u ht h
    cases h
    exact ⟨ht, 0, rfl, by simp, by simp⟩
  | cons x l ih =>
    intro t u ht h
    cases hs : stepC t x with
    | none => rw [runC, hs] at h; cases h
    | some v =>
      rw [runC, hs] at h
      obtain ⟨hu, j, hD, h1, h2⟩ := ih (stepC_ok ht hs) h
      obtain ⟨i, q, lo, n, _, _, _, _, hln, hqW, hN, hR, hD1, _, _⟩ := stepC_is ht hs
      refine ⟨hu, i + j, by rw [hD, hD1]; omega, ?_, ?_⟩
      · rw [Nat.pow_add, ← Nat.mul_assoc]
        refine Nat.le_trans (Nat.mul_le_mul_right _ ?_) h1
        rw [hN]; exact Nat.mul_le_mul_right _ (by omega)
      · rw [Nat.pow_add, ← Nat.mul_assoc]
        refine Nat.le_trans h2 (Nat.mul_le_mul_right _ ?_)
        rw [hN, hR, ← Nat.add_mul]
        refine Nat.mul_le_mul_right _ ?_
        have := Nat.mul_le_mul_left q hln
        rw [Nat.mul_add] at this
        omega
/-- The symbol in whose share d lies. -/
def symC (t : Cdr) (k : Int) (d : Nat) : Cod :=
  if k < 0 then (k, ((min (d / (t.R / wholeC t.C k)) (wholeC t.C k - 1) : Nat) : Int)) else (k, ((findN (t.C.getD k.toNat []) ((min (d / (t.R / wholeC t.C k)) (wholeC t.C k - 1) : Nat) : Int)).1 : Int))
theorem sym_back {t u : Cdr} {x : Cod} {F i : Nat} (ht : COk t) (h : stepC t x = some u) (h1 : u.N * 256 ^ i ≤ F) (h2 : F < (u.N + u.R) * 256 ^ i) :
    t.N ≤ F / 256 ^ (u.D - t.D + i) ∧ symC t x.1 (F / 256 ^ (u.D - t.D + i) - t.N) = x := by
  obtain ⟨j, q, lo, n, hq, hs, hq1, hn1, hln, hqW, hN, hR, hD, _, _⟩ := stepC_is ht h
  have hn : (shareC t.C x).2 ≠ 0 := by rw [← hs]; simp only; omega
  have e : u.D - t.D + i = j + i := by omega
  rw [e]
  have hp : 0 < 256 ^ (j + i) := Nat.pow_pos (by decide)
  have ha : t.N + q * lo ≤ F / 256 ^ (j + i) := by
    rw [Nat.le_div_iff_mul_le hp, Nat.pow_add, ← Nat.mul_assoc, ← hN]; exact h1
  have hb : F / 256 ^ (j + i) < t.N + q * lo + q * n := by
    rw [Nat.div_lt_iff_lt_mul hp, Nat.pow_add, ← Nat.mul_assoc, Nat.add_mul (t.N + q * lo), ← hN, ← hR]; exact h2
  generalize F / 256 ^ (j + i) = f at *
  refine ⟨by omega, ?_⟩
  have hd1 : lo ≤ (f - t.N) / q := by rw [Nat.le_div_iff_mul_le (by omega), Nat.mul_comm]; omega
  have hd2 : (f - t.N) / q < lo + n := by rw [Nat.div_lt_iff_lt_mul (by omega), Nat.mul_comm, Nat.mul_add]; omega
  have hmin : min ((f - t.N) / (t.R / wholeC t.C x.1)) (wholeC t.C x.1 - 1) = (f - t.N) / q := by rw [← hq]; omega
  unfold symC
  rw [hmin]
  generalize (f - t.N) / q = v at *
  rcases share_model hn with ⟨_, hk, h3, h4, h5⟩ | ⟨hm, hk, h3, hl, h5⟩
  · rw [h5] at hs
    simp only [Prod.mk.injEq] at hs
    rw [if_pos hk]
    refine Prod.ext rfl ?_
    simp only
    omega
  · rw [h5] at hs
    simp only [Prod.mk.injEq] at hs
    rw [if_neg (by omega)]
    have eC : t.C.getD x.1.toNat [] = t.C[x.1.toNat] := by simp [List.getElem?_eq_getElem hm]
    have hf := find_is (v := (v : Int)) hl (by omega) (by rw [sum_snoc5 hl]; omega)
    rw [eC, hf]
    refine Prod.ext rfl ?_
    simp only
    omega
/-- The symbols with these models that a number of so many digits tells. -/
def decC (F Df : Nat) : Cdr → List Int → Option (List Cod × Cdr)
  | t, [] => some ([], t)
  | t, k :: ks => if F / 256 ^ (Df - t.D) < t.N then none else (stepC t (symC t k (F / 256 ^ (Df - t.D) - t.N))).bind fun u => (decC F Df u ks).map fun r => (symC t k (F / 256 ^ (Df - t.D) - t.N) :: r.1, r.2)
/-- There and back. -/
theorem dec_run (l : List Cod) : ∀ {t u : Cdr}, COk t → runC t l = some u → decC u.N u.D t (l.map (·.1)) = some (l, u) := by
  induction l with
  | nil => intro t u ht h; cases h; rfl
  | cons x l ih =>
    intro t u ht h
    cases hs : stepC t x with
    | none => rw [runC, hs] at h; cases h
    | some v =>
      rw [runC, hs] at h
      have h : runC v l = some u := h
      have hv := stepC_ok ht hs
      obtain ⟨hu, j, hD, h1, h2⟩ := run_lies l hv h
      obtain ⟨i, q, lo, n, _, _, _, _, _, _, _, _, hD1, _, _⟩ := stepC_is ht hs
      have hb := sym_back (F := u.N) (i := j) ht hs h1 (by have := hu.big; omega)
      rw [show v.D - t.D + j = u.D - t.D by omega] at hb
      rw [List.map_cons, decC, if_neg (by omega), hb.2, hs]
      show (decC u.N u.D v (l.map (·.1))).map _ = _
      rw [ih hv h]
      rfl
/-- A number's digits to the base 256, the highest first. -/
def digC : Nat → Nat → List Nat
  | 0, _ => []
  | D + 1, N => digC D (N / 256) ++ [N % 256]
def valC (b : List Nat) : Nat := b.foldl (fun a x => a * 256 + x) 0
theorem digC_len (D : Nat) : ∀ N, (digC D N).length = D := by
  induction D with
  | zero => intro N; rfl
  | succ D ih => intro N; rw [digC, List.length_append, ih]; rfl
theorem digC_byte (D : Nat) : ∀ N, ∀ x ∈ digC D N, x < 256 := by
  induction D with
  | zero => intro N x hx; cases hx
  | succ D ih =>
    intro N x hx
    rcases List.mem_append.1 hx with hx | hx
    · exact ih _ x hx
    · simp at hx; omega
theorem valC_snoc (b : List Nat) (x : Nat) : valC (b ++ [x]) = valC b * 256 + x := by unfold valC; rw [List.foldl_append]; rfl
theorem val_dig (D : Nat) : ∀ {N}, N < 256 ^ D → valC (digC D N) = N := by
  induction D with
  | zero => intro N h; simp at h; subst h; rfl
  | succ D ih =>
    intro N h
    rw [digC, valC_snoc, ih (by rw [Nat.pow_succ] at h; omega)]
    omega
theorem list_snoc {α : Type} {b : List α} (h : b ≠ []) : ∃ c x, b = c ++ [x] := ⟨b.dropLast, b.getLast h, (List.dropLast_concat_getLast h).symm⟩
theorem valC_lt : ∀ (n : Nat) {b : List Nat}, b.length = n → (∀ x ∈ b, x < 256) → valC b < 256 ^ n := by
  intro n
  induction n with
  | zero => intro b hl _; rw [List.eq_nil_of_length_eq_zero hl]; simp [valC]
  | succ n ih =>
    intro b hl hb
    obtain ⟨c, x, rfl⟩ := list_snoc (b := b) (by intro h; rw [h] at hl; simp at hl)
    have h1 := ih (b := c) (by simpa using hl) (fun y hy => hb y (List.mem_append_left _ hy))
    have h2 := hb x (by simp)
    rw [valC_snoc, Nat.pow_succ]; omega
theorem dig_val : ∀ (n : Nat) {b : List Nat}, b.length = n → (∀ x ∈ b, x < 256) → digC n (valC b) = b := by
  intro n
  induction n with
  | zero => intro b hl _; rw [List.eq_nil_of_length_eq_zero hl]; rfl
  | succ n ih =>
    intro b hl hb
    obtain ⟨c, x, rfl⟩ := list_snoc (b := b) (by intro h; rw [h] at hl; simp at hl)
    have h1 := ih (b := c) (by simpa using hl) (fun y hy => hb y (List.mem_append_left _ hy))
    have h2 := hb x (by simp)
    rw [digC, valC_snoc, show (valC c * 256 + x) / 256 = valC c by omega, show (valC c * 256 + x) % 256 = x by omega, h1]
/-- The first digits. -/
theorem val_take (e : Nat) : ∀ {b : List Nat} {n : Nat}, b.length = n + e → (∀ x ∈ b, x < 256) → valC (b.take n) = valC b / 256 ^ e := by
  induction e with
  | zero => intro b n hl _; rw [List.take_of_length_le (by omega)]; simp
  | succ e ih =>
    intro b n hl hb
    obtain ⟨c, x, rfl⟩ := list_snoc (b := b) (by intro h; rw [h] at hl; simp at hl)
    have hc : c.length = n + e := by simp at hl; omega
    have h2 := hb x (by simp)
    rw [List.take_append_of_le_length (by omega), ih hc (fun y hy => hb y (List.mem_append_left _ hy)), valC_snoc, Nat.pow_succ, Nat.mul_comm (256 ^ e) 256, ← Nat.div_div_eq_div_mul, show (valC c * 256 + x) / 256 = valC c by omega]
/-- What Encode writes of symbols from t on. -/
def bytesC (t : Cdr) (l : List Cod) : Option (List Nat) := (runC t l).map fun u => digC u.D u.N
/-- A row of bytes is that of one row of symbols with these models, or of none. -/
theorem one_row {t : Cdr} (ht : COk t) {l m : List Cod} {b : List Nat} (h1 : bytesC t l = some b) (h2 : bytesC t m = some b) (hm : l.map (·.1) = m.map (·.1)) : l = m := by
  unfold bytesC at h1 h2
  cases hl : runC t l with
  | none => rw [hl] at h1; cases h1
  | some u =>
    cases hr : runC t m with
    | none => rw [hr] at h2; cases h2
    | some v =>
      rw [hl] at h1
      rw [hr] at h2
      simp only [Option.map_some, Option.some.injEq] at h1 h2
      have hu := (run_lies l ht hl).1
      have hv := (run_lies m ht hr).1
      have eD : u.D = v.D := by have := digC_len u.D u.N; have := digC_len v.D v.N; rw [h1] at *; rw [h2] at *; omega
      have lt : ∀ w : Cdr, COk w → w.N < 256 ^ w.D := fun w hw => by
        have h3 := hw.top
        have h4 := hw.big
        have h5 : 256 ^ (w.D - 1) ≤ 256 ^ w.D := Nat.pow_le_pow_right (by decide) (by omega)
        omega
      have eN : u.N = v.N := by rw [← val_dig u.D (lt u hu), ← val_dig v.D (lt v hv), h1, h2]
      have d1 := dec_run l ht hl
      have d2 := dec_run m ht hr
      rw [eN, eD, hm, d2] at d1
      simp only [Option.some.injEq, Prod.mk.injEq] at d1
      exact d1.1.symm
/-- The first byte is nought. -/
theorem head_zero {t : Cdr} (ht : COk t) : (digC t.D t.N).headD 0 = 0 := by
  have h5 := ht.dig
  have hN : t.N < 256 ^ (t.D - 1) := by have := ht.top; have := ht.big; omega
  obtain ⟨D, hD⟩ : ∃ D, t.D = D + 1 := ⟨t.D - 1, by omega⟩
  rw [hD] at hN ⊢
  rw [Nat.add_sub_cancel] at hN
  have key : ∀ D N, N < 256 ^ D → (digC (D + 1) N).headD 0 = 0 := by
    intro D
    induction D with
    | zero => intro N h; simp at h; subst h; rfl
    | succ D ih =>
      intro N h
      have h1 := ih (N / 256) (by rw [Nat.pow_succ] at h; omega)
      rw [digC]
      cases hd : digC (D + 1) (N / 256) with
      | nil => have := digC_len (D + 1) (N / 256); rw [hd] at this; simp at this
      | cons a r => rw [hd] at h1; exact h1
  exact key D t.N hN
theorem symC_model (t : Cdr) (k : Int) (d : Nat) : (symC t k d).1 = k := by unfold symC; split <;> rfl
theorem ok_lt {w : Cdr} (hw : COk w) : w.N < 256 ^ w.D := by
  have h3 := hw.top
  have h4 := hw.big
  have h5 : 256 ^ (w.D - 1) ≤ 256 ^ w.D := Nat.pow_le_pow_right (by decide) (by omega)
  omega
/-- The document's way through any bytes: each symbol is the last one whose share begins no further than the bytes are beyond. -/
def rdecC (b : List Nat) : Cdr → List Int → Option (List Cod × Cdr)
  | t, [] => some ([], t)
  | t, k :: ks => if b.length < t.D ∨ valC (b.take t.D) < t.N then none else (stepC t (symC t k (valC (b.take t.D) - t.N))).bind fun u => (rdecC b u ks).map fun r => (symC t k (valC (b.take t.D) - t.N) :: r.1, r.2)
theorem rdec_sound (b : List Nat) (ks : List Int) : ∀ {t u : Cdr} {l : List Cod}, rdecC b t ks = some (l, u) → runC t l = some u ∧ l.map (·.1) = ks := by
  induction ks with
  | nil => intro t u l h; cases h; exact ⟨rfl, rfl⟩
  | cons k ks ih =>
    intro t u l h
    rw [rdecC] at h
    split at h
    · cases h
    · generalize hx : symC t k (valC (b.take t.D) - t.N) = x at h
      cases hs : stepC t x with
      | none => rw [hs] at h; cases h
      | some v =>
        rw [hs] at h
        have h : (rdecC b v ks).map (fun r => (x :: r.1, r.2)) = some (l, u) := h
        cases hr : rdecC b v ks with
        | none => rw [hr] at h; cases h
        | some r =>
          rw [hr] at h
          simp only [Option.map_some, Option.some.injEq, Prod.mk.injEq] at h
          obtain ⟨rfl, rfl⟩ := h
          obtain ⟨h1, h2⟩ := ih (t := v) (u := r.2) (l := r.1) hr
          refine ⟨?_, ?_⟩
          · rw [runC, hs]; exact h1
          · rw [List.map_cons, h2, ← hx, symC_model]
theorem rdec_run (l : List Cod) {b : List Nat} (hb : ∀ x ∈ b, x < 256) : ∀ {t u : Cdr}, COk t → runC t l = some u → b = digC u.D u.N → rdecC b t (l.map (·.1)) = some (l, u) := by
  induction l with
  | nil => intro t u _ h _; cases h; rfl
  | cons x l ih =>
    intro t u ht h hbu
    cases hs : stepC t x with
    | none => rw [runC, hs] at h; cases h
    | some v =>
      rw [runC, hs] at h
      have h : runC v l = some u := h
      have hv := stepC_ok ht hs
      obtain ⟨hu, j, hD, h1, h2⟩ := run_lies l hv h
      obtain ⟨i, q, lo, n, _, _, _, _, _, _, _, _, hD1, _, _⟩ := stepC_is ht hs
      have hsb := sym_back (F := u.N) (i := j) ht hs h1 (by have := hu.big; omega)
      have hlen : b.length = u.D := by rw [hbu, digC_len]
      have hvt : valC (b.take t.D) = u.N / 256 ^ (v.D - t.D + j) := by
        rw [val_take (v.D - t.D + j) (b := b) (n := t.D) (by omega) hb, hbu, val_dig _ (ok_lt hu)]
      rw [List.map_cons, rdecC, hvt, if_neg (by omega), hsb.2, hs]
      show (rdecC b v (l.map (·.1))).map _ = _
      rw [ih hv h hbu]
      rfl
/-- Decode: the symbols with these models of which these are the bytes; or that there are none. -/
def decodeC (t : Cdr) (ks : List Int) (b : List Nat) : List Cod × Nat := match rdecC b t ks with
  | some r => if digC r.2.D r.2.N = b then (r.1, 0) else ([], 11)
  | none => ([], 11)
theorem decode_hit {t : Cdr} (ht : COk t) {l : List Cod} {b : List Nat} (h : bytesC t l = some b) : decodeC t (l.map (·.1)) b = (l, 0) := by
  unfold bytesC at h
  cases hl : runC t l with
  | none => rw [hl] at h; cases h
  | some u =>
    rw [hl] at h
    simp only [Option.map_some, Option.some.injEq] at h
    have hb : ∀ x ∈ b, x < 256 := by rw [← h]; exact digC_byte _ _
    unfold decodeC
    rw [rdec_run l hb ht hl h.symm]
    simp only [h, if_true]
theorem decode_miss {t : Cdr} {ks : List Int} {b : List Nat} (h : ∀ l, l.map (·.1) = ks → bytesC t l ≠ some b) : decodeC t ks b = ([], 11) := by
  unfold decodeC
  cases hr : rdecC b t ks with
  | none => rfl
  | some r =>
    obtain ⟨h1, h2⟩ := rdec_sound b ks (l := r.1) (u := r.2) hr
    simp only
    rw [if_neg fun e => h r.1 h2 (by unfold bytesC; rw [h1]; simp [e])]
theorem decode_back {t : Cdr} {ks : List Int} {b : List Nat} {l : List Cod} (h : decodeC t ks b = (l, 0)) : bytesC t l = some b ∧ l.map (·.1) = ks := by
  unfold decodeC at h
  cases hr : rdecC b t ks with
  | none => rw [hr] at h; simp at h
  | some r =>
    rw [hr] at h
    simp only at h
    split at h
    · rename_i e
      simp only [Prod.mk.injEq, and_true] at h
      subst h
      obtain ⟨h1, h2⟩ := rdec_sound b ks (l := r.1) (u := r.2) hr
      exact ⟨by unfold bytesC; rw [h1]; simp [e], h2⟩
    · simp at h
/-- Of two rows of symbols with the same models neither one's bytes begin the other's. -/
theorem run_prefix (l : List Cod) : ∀ {m : List Cod} {t u v : Cdr}, COk t → runC t l = some u → runC t m = some v → l.map (·.1) = m.map (·.1) → v.D ≤ u.D → v.N = u.N / 256 ^ (u.D - v.D) → l = m := by
  induction l with
  | nil =>
    intro m t u v _ _ _ hm _ _
    cases m with
    | nil => rfl
    | cons y m => simp at hm
  | cons x l ih =>
    intro m t u v ht h1 h2 hm hD hN
    cases m with
    | nil => simp at hm
    | cons y m =>
      simp only [List.map_cons, List.cons.injEq] at hm
      cases hs : stepC t x with
      | none => rw [runC, hs] at h1; cases h1
      | some a =>
        cases hs2 : stepC t y with
        | none => rw [runC, hs2] at h2; cases h2
        | some c =>
          rw [runC, hs] at h1
          rw [runC, hs2] at h2
          have h1 : runC a l = some u := h1
          have h2 : runC c m = some v := h2
          have ha := stepC_ok ht hs
          have hc := stepC_ok ht hs2
          obtain ⟨hu, j, hDu, q1, q2⟩ := run_lies l ha h1
          obtain ⟨hv, i, hDv, r1, r2⟩ := run_lies m hc h2
          obtain ⟨_, _, _, _, _, _, _, _, _, _, _, _, e1, _, _⟩ := stepC_is ht hs
          obtain ⟨_, _, _, _, _, _, _, _, _, _, _, _, e2, _, _⟩ := stepC_is ht hs2
          have b1 := (sym_back (F := u.N) (i := j) ht hs q1 (by have := hu.big; omega)).2
          have b2 := (sym_back (F := v.N) (i := i) ht hs2 r1 (by have := hv.big; omega)).2
          rw [show a.D - t.D + j = u.D - t.D by omega] at b1
          rw [show c.D - t.D + i = v.D - t.D by omega, hN, Nat.div_div_eq_div_mul, ← Nat.pow_add, show u.D - v.D + (v.D - t.D) = u.D - t.D by omega, ← hm.1, b1] at b2
          subst b2
          rw [hs] at hs2
          cases hs2
          rw [ih ha h1 h2 hm.2 hD hN]
theorem decode_cut {t : Cdr} (ht : COk t) {l : List Cod} {b : List Nat} (h : bytesC t l = some b) {p : Nat} (hp : p < b.length) : decodeC t (l.map (·.1)) (b.take p) = ([], 11) := by
  refine decode_miss fun m hm hb => ?_
  unfold bytesC at h hb
  cases hl : runC t l with
  | none => rw [hl] at h; cases h
  | some u =>
    cases hr : runC t m with
    | none => rw [hr] at hb; cases hb
    | some v =>
      rw [hl] at h
      rw [hr] at hb
      simp only [Option.map_some, Option.some.injEq] at h hb
      have hu := (run_lies l ht hl).1
      have hv := (run_lies m ht hr).1
      have hby : ∀ x ∈ b, x < 256 := by rw [← h]; exact digC_byte _ _
      have hlb : b.length = u.D := by rw [← h, digC_len]
      have hlp : v.D = p := by have := digC_len v.D v.N; rw [hb, List.length_take] at this; omega
      have hN : v.N = u.N / 256 ^ (u.D - v.D) := by
        rw [← val_dig v.D (ok_lt hv), hb, val_take (u.D - v.D) (b := b) (n := p) (by omega) hby, ← h, val_dig _ (ok_lt hu)]
      have e := run_prefix l ht hl hr hm.symm (by omega) hN
      subst e
      rw [hl] at hr
      cases hr
      omega
theorem decode_more {t : Cdr} (ht : COk t) {l : List Cod} {b : List Nat} (h : bytesC t l = some b) {y : Nat} (hy : y < 256) : decodeC t (l.map (·.1)) (b ++ [y]) = ([], 11) := by
  refine decode_miss fun m hm hb => ?_
  unfold bytesC at h hb
  cases hl : runC t l with
  | none => rw [hl] at h; cases h
  | some u =>
    cases hr : runC t m with
    | none => rw [hr] at hb; cases hb
    | some v =>
      rw [hl] at h
      rw [hr] at hb
      simp only [Option.map_some, Option.some.injEq] at h hb
      have hu := (run_lies l ht hl).1
      have hv := (run_lies m ht hr).1
      have hlb : b.length = u.D := by rw [← h, digC_len]
      have hlp : v.D = u.D + 1 := by have := digC_len v.D v.N; rw [hb, List.length_append, hlb] at this; exact this.symm
      have hN : u.N = v.N / 256 ^ (v.D - u.D) := by
        rw [← val_dig v.D (ok_lt hv), hb, valC_snoc, ← h, val_dig _ (ok_lt hu), show v.D - u.D = 1 by omega]
        omega
      have e := run_prefix m ht hr hl hm (by omega) hN
      subst e
      rw [hl] at hr
      cases hr
      omega
/-- Bytes that are not the same are not read as the same. -/
theorem decode_other {t : Cdr} {ks : List Int} {l : List Cod} {b d : List Nat} (h : bytesC t l = some b) (hd : d ≠ b) : decodeC t ks d ≠ (l, 0) := fun h' => by
  have := (decode_back h').1
  rw [h] at this
  simp only [Option.some.injEq] at this
  exact hd this.symm
end Go.Proofs.Ytfkmcjlapigapaa
