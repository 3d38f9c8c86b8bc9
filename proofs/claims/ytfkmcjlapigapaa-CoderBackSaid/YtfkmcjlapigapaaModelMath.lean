/- Layer 5 in plain lists: what holds of counts. -/
import Derived.Test.YtfkmcjlapigapaaModelRef
namespace Go.Proofs.Ytfkmcjlapigapaa
open Go.RowKit

def intVs (l : List Int) : List Value := l.map (Value.int .i64)
theorem intVs_len (l : List Int) : (intVs l).length = l.length := by simp [intVs]
theorem intVs_app (l r : List Int) : intVs (l ++ r) = intVs l ++ intVs r := by simp [intVs]
theorem intVs_at {l : List Int} {j : Nat} (h : j < l.length) : (intVs l)[j]? = some (.int .i64 l[j]) := by simp [intVs, h]
theorem intVs_one (l : List Int) : ∀ u ∈ intVs l, u.oneCell' = true := by
  intro u hu
  obtain ⟨x, _, rfl⟩ := List.mem_map.1 hu
  rfl
/-- Counts as they are behind symbols that came. -/
structure Cnts (cs : List Nat) : Prop where
  some_ : 1 ≤ cs.length
  few : cs.length ≤ 256
  pos : ∀ x ∈ cs, 1 ≤ x
  sum : cs.sum ≤ 8192
theorem Cnts.new {n : Nat} (h1 : 1 ≤ n) (h2 : n ≤ 256) : Cnts (List.replicate n 1) :=
  ⟨by simpa using h1, by simpa using h2, fun x hx => Nat.le_of_eq (List.eq_of_mem_replicate hx).symm, by simp; omega⟩
theorem halve_sum (c : List Nat) : 2 * (halveN c).sum ≤ c.sum + c.length := by
  induction c with
  | nil => simp [halveN]
  | cons x c ih => simp only [halveN, List.map_cons, List.sum_cons, List.length_cons] at *; omega
theorem mem_set {c : List Nat} {s v x : Nat} (h : x ∈ c.set s v) : x ∈ c ∨ x = v := List.mem_or_eq_of_mem_set h
theorem Cnts.count {cs : List Nat} {s : Nat} (h : Cnts cs) (hs : s < cs.length) : Cnts (countN cs s) := by
  have hsum := set_sum (v := cs.getD s 0 + 32) hs
  have hg : cs.getD s 0 = cs[s] := by simp [List.getElem?_eq_getElem hs]
  have hp : ∀ x ∈ cs.set s (cs.getD s 0 + 32), 1 ≤ x := fun x hx => by
    rcases mem_set hx with h' | h'
    · exact h.pos x h'
    · omega
  have h3 := h.sum
  have h4 := h.few
  refine ⟨by rw [countN_len]; exact h.some_, by rw [countN_len]; exact h.few, ?_, ?_⟩
  · unfold countN
    split
    · intro x hx
      obtain ⟨y, hy, rfl⟩ := List.mem_map.1 hx
      have := hp y hy
      omega
    · exact hp
  · unfold countN
    split
    · have := halve_sum (cs.set s (cs.getD s 0 + 32))
      rw [List.length_set] at this
      omega
    · omega
/-- All of them, or nothing. -/
def countAll (cs : List Nat) (l : List Int) : List Nat × Nat := if ∀ x ∈ l, 0 ≤ x ∧ x < (cs.length : Int) then ((l.map Int.toNat).foldl countN cs, 0) else (cs, 2)
theorem countAll_ok {cs : List Nat} {l : List Int} (h : ∀ x ∈ l, 0 ≤ x ∧ x < (cs.length : Int)) : countAll cs l = ((l.map Int.toNat).foldl countN cs, 0) := if_pos h
theorem countAll_one {cs : List Nat} {s : Nat} (h : s < cs.length) : countAll cs [(s : Int)] = (countN cs s, 0) := by
  rw [countAll_ok (by simp; omega)]; rfl
theorem fold_len5 (l : List Nat) : ∀ cs, (l.foldl countN cs).length = cs.length := by
  induction l with
  | nil => intro cs; rfl
  | cons x l ih => intro cs; rw [List.foldl_cons, ih, countN_len]
theorem Cnts.fold (l : List Nat) : ∀ {cs : List Nat}, Cnts cs → (∀ x ∈ l, x < cs.length) → Cnts (l.foldl countN cs) := by
  induction l with
  | nil => intro cs h _; exact h
  | cons x l ih =>
    intro cs h hl
    exact ih (h.count (hl x (List.mem_cons_self ..))) fun y hy => by rw [countN_len]; exact hl y (List.mem_cons_of_mem _ hy)
theorem sum_mono5 (c : List Nat) {i j : Nat} (h : i ≤ j) : (c.take i).sum ≤ (c.take j).sum := by
  have e : (c.take j).take i = c.take i := by rw [List.take_take, Nat.min_eq_left h]
  rw [← e]; exact sum_take5 _ _
theorem share_in {c : List Nat} {s : Nat} (h : s < c.length) : shareN c (s : Int) = ((c.take s).sum, c[s], 0) := by
  unfold shareN
  rw [if_neg (by omega)]
  simp [List.getElem?_eq_getElem h]
theorem findFrom_is {c : List Nat} {v : Int} {s : Nat} (h1 : ((c.take s).sum : Int) ≤ v) (h2 : v < ((c.take (s + 1)).sum : Int)) : ∀ d i f, i + d = s → d < f → findFrom c v f i = (s, 0) := by
  intro d
  induction d with
  | zero =>
    intro i f hi hf
    obtain ⟨g, rfl⟩ : ∃ g, f = g + 1 := ⟨f - 1, by omega⟩
    obtain rfl : i = s := by omega
    exact findFrom_hit ⟨h1, h2⟩
  | succ d ih =>
    intro i f hi hf
    obtain ⟨g, rfl⟩ : ∃ g, f = g + 1 := ⟨f - 1, by omega⟩
    rw [findFrom_on fun h => by have := sum_mono5 c (show i + 1 ≤ s by omega); omega]
    exact ih (i + 1) g (by omega) (by omega)
theorem find_is {c : List Nat} {v : Int} {s : Nat} (hs : s < c.length) (h1 : ((c.take s).sum : Int) ≤ v) (h2 : v < ((c.take (s + 1)).sum : Int)) : findN c v = (s, 0) :=
  findFrom_is h1 h2 s 0 c.length (by omega) (by omega)
theorem findFrom_none {c : List Nat} {v : Int} (h : (c.sum : Int) ≤ v) : ∀ f i, findFrom c v f i = (0, 2) := by
  intro f
  induction f with
  | zero => intro i; rfl
  | succ f ih => intro i; rw [findFrom_on fun h' => by have := sum_take5 c (i + 1); omega]; exact ih _
theorem find_none {c : List Nat} {v : Int} (h : (c.sum : Int) ≤ v) : findN c v = (0, 2) := findFrom_none h _ _
end Go.Proofs.Ytfkmcjlapigapaa
