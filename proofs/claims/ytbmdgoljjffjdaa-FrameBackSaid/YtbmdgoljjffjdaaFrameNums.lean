/- Layer 3 in plain lists: the bytes of sections. -/
import Derived.Test.YtbmdgoljjffjdaaSecs
import Derived.Test.YtbmdgoljjffjdaaRefCheck
import Derived.Test.YtbmdgoljjffjdaaRefPut
namespace Go.Proofs.Ytbmdgoljjffjdaa
open Go.RowKit

def headN : List Nat := [76, 80, 68, 89, 1]
def oneBody (s : Sec) : List Nat := s.1.toNat :: (putN s.2.length ++ s.2)
/-- What One answers. -/
def oneN (s : Sec) : List Nat × Nat := if s.1 < 1 ∨ 9 < s.1 then ([], 2) else if 1048576 < s.2.length then ([], 3) else (sealN (oneBody s), 0)
theorem oneN_arg {s : Sec} (h : s.1 < 1 ∨ 9 < s.1) : oneN s = ([], 2) := if_pos h
theorem oneN_long {s : Sec} (h : ¬ (s.1 < 1 ∨ 9 < s.1)) (h2 : 1048576 < s.2.length) : oneN s = ([], 3) := by unfold oneN; rw [if_neg h, if_pos h2]
theorem oneN_ok {s : Sec} (h : ¬ (s.1 < 1 ∨ 9 < s.1)) (h2 : ¬ 1048576 < s.2.length) : oneN s = (sealN (oneBody s), 0) := by unfold oneN; rw [if_neg h, if_neg h2]
theorem oneBody_byte {s : Sec} (h : ¬ (s.1 < 1 ∨ 9 < s.1)) (hb : ∀ x ∈ s.2, x < 256) : ∀ x ∈ oneBody s, x < 256 := by
  intro x hx
  rcases List.mem_cons.1 hx with rfl | hx
  · omega
  · rcases List.mem_append.1 hx with hx | hx
    · exact putN_byte _ x hx
    · exact hb x hx
theorem oneBody_len {s : Sec} (h2 : ¬ 1048576 < s.2.length) : (oneBody s).length ≤ s.2.length + 11 := by
  have := putN_len (n := s.2.length) (by omega)
  simp only [oneBody, List.length_cons, List.length_append]; omega
theorem oneN_byte {s : Sec} (hb : ∀ x ∈ s.2, x < 256) : ∀ x ∈ (oneN s).1, x < 256 := by
  unfold oneN
  split
  · simp
  · split
    · simp
    · rename_i h _; exact sealN_byte (oneBody_byte h hb)
theorem oneN_len (s : Sec) : (oneN s).1.length ≤ s.2.length + 15 := by
  unfold oneN
  split
  · simp
  · split
    · simp
    · rename_i h; rw [sealN_len]; have := oneBody_len h; omega
/-- All of them, one behind the other; the first error. -/
def onesN : List Sec → List Nat × Nat
  | [] => ([], 0)
  | s :: l => if (oneN s).2 ≠ 0 then ([], (oneN s).2) else if (onesN l).2 ≠ 0 then ([], (onesN l).2) else ((oneN s).1 ++ (onesN l).1, 0)
theorem onesN_app (a b : List Sec) : onesN (a ++ b) = if (onesN a).2 ≠ 0 then ([], (onesN a).2) else if (onesN b).2 ≠ 0 then ([], (onesN b).2) else ((onesN a).1 ++ (onesN b).1, 0) := by
  induction a with
  | nil =>
    simp only [List.nil_append, onesN]
    by_cases h : (onesN b).2 = 0
    · simp [h]; rw [← h]
    · simp [h]
      cases b with
      | nil => simp [onesN] at h
      | cons s l =>
        simp only [onesN] at h ⊢
        split
        · rfl
        · split
          · rfl
          · rename_i h1 h2; simp only [if_neg h1, if_neg h2] at h; exact absurd trivial h
  | cons s a ih =>
    simp only [List.cons_append, onesN, ih]
    by_cases h1 : (oneN s).2 = 0 <;> by_cases h2 : (onesN a).2 = 0 <;> by_cases h3 : (onesN b).2 = 0 <;> simp [h1, h2, h3]
theorem onesN_one (s : Sec) : onesN [s] = if (oneN s).2 ≠ 0 then ([], (oneN s).2) else ((oneN s).1, 0) := by simp [onesN]
theorem onesN_err {l : List Sec} (h : (onesN l).2 ≠ 0) : onesN l = ([], (onesN l).2) := by
  have := onesN_app l []
  rw [List.append_nil] at this
  rw [if_pos h] at this
  exact this
theorem onesN_step {l : List Sec} {i : Nat} (hi : i < l.length) (h : (onesN (l.take i)).2 = 0) :
    onesN (l.take (i + 1)) = if (oneN l[i]).2 ≠ 0 then ([], (oneN l[i]).2) else ((onesN (l.take i)).1 ++ (oneN l[i]).1, 0) := by
  rw [List.take_succ_eq_append_getElem hi, onesN_app, onesN_one, if_neg (by simp [h])]
  by_cases h1 : (oneN l[i]).2 = 0 <;> simp [h1]
theorem onesN_stop {l : List Sec} {i : Nat} (h : (onesN (l.take i)).2 ≠ 0) : onesN l = ([], (onesN (l.take i)).2) := by
  have := onesN_app (l.take i) (l.drop i)
  rw [List.take_append_drop, if_pos h] at this
  exact this
/-- Do the kinds rise? -/
def risesB (l : List Sec) : Bool := (List.range (l.length - 1)).all fun i => decide ((l.getD i (0, [])).1 < (l.getD (i + 1) (0, [])).1)
theorem risesB_iff (l : List Sec) : risesB l = true ↔ ∀ i (h : i + 1 < l.length), l[i].1 < l[i + 1].1 := by
  unfold risesB
  rw [List.all_eq_true]
  constructor
  · intro H i hi
    have := H i (List.mem_range.2 (by omega))
    simpa [List.getD, List.getElem?_eq_getElem hi, List.getElem?_eq_getElem (show i < l.length by omega)] using this
  · intro H i hi
    have hi' := List.mem_range.1 hi
    have := H i (by omega)
    simpa [List.getD, List.getElem?_eq_getElem (show i + 1 < l.length by omega), List.getElem?_eq_getElem (show i < l.length by omega)] using this
/-- What Encode answers. -/
def encN (l : List Sec) : List Nat × Nat :=
  if (onesN l).2 ≠ 0 then ([], (onesN l).2)
  else if risesB l = false then ([], 2)
  else if 1048576 < (headN ++ (onesN l).1 ++ [0]).length then ([], 3)
  else (headN ++ (onesN l).1 ++ [0], 0)
theorem onesN_byte {l : List Sec} (h : ∀ s ∈ l, ∀ x ∈ s.2, x < 256) : ∀ x ∈ (onesN l).1, x < 256 := by
  induction l with
  | nil => simp [onesN]
  | cons s l ih =>
    simp only [onesN]
    split
    · simp
    · split
      · simp
      · intro x hx
        rcases List.mem_append.1 hx with hx | hx
        · exact oneN_byte (h s (List.mem_cons_self ..)) x hx
        · exact ih (fun t ht => h t (List.mem_cons_of_mem _ ht)) x hx
theorem encN_byte {l : List Sec} (h : ∀ s ∈ l, ∀ x ∈ s.2, x < 256) : ∀ x ∈ (encN l).1, x < 256 := by
  unfold encN
  split
  · simp
  · split
    · simp
    · split
      · simp
      · intro x hx
        simp only [List.mem_append] at hx
        rcases hx with (hx | hx) | hx
        · simp [headN] at hx; omega
        · exact onesN_byte h x hx
        · simp at hx; omega
end Go.Proofs.Ytbmdgoljjffjdaa
