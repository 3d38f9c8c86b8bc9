/- Plain lists: what the document's way tells byte by byte is what is told section by section. -/
import Derived.Test.YtbmdgoljjffjdaaFrameSt
namespace Go.Proofs.Ytbmdgoljjffjdaa
open Go.RowKit

theorem scan_take : ∀ (l : List Nat) (j i acc : Nat), scan i acc (l.take j) = (0, 0, 10) ∨ scan i acc (l.take j) = scan i acc l
  | [], j, i, acc => by simp
  | c :: cs, 0, i, acc => by simp [scan]
  | c :: cs, j + 1, i, acc => by
    rw [List.take_succ_cons]
    unfold scan
    by_cases h1 : i = 9 ∧ 1 < c
    · simp [h1]
    · by_cases h2 : 0 < i ∧ c = 0
      · simp only [if_neg h1, if_pos h2]; simp
      · by_cases h3 : c < 128
        · simp only [if_neg h1, if_neg h2, if_pos h3]; simp
        · simp only [if_neg h1, if_neg h2, if_neg h3]
          exact scan_take cs j (i + 1) _
theorem scan_enough : ∀ (l : List Nat) (j i acc : Nat), (scan i acc l).2.2 = 0 → (scan i acc l).2.1 ≤ i + j → scan i acc (l.take j) = scan i acc l
  | [], j, i, acc, _, _ => by simp
  | c :: cs, 0, i, acc, h, h2 => by
    have := scan_size (c :: cs) i acc h
    omega
  | c :: cs, j + 1, i, acc, h, h2 => by
    rw [List.take_succ_cons]
    unfold scan at h h2 ⊢
    by_cases q1 : i = 9 ∧ 1 < c
    · simp [q1]
    · by_cases q2 : 0 < i ∧ c = 0
      · simp only [if_neg q1, if_pos q2]
      · by_cases q3 : c < 128
        · simp only [if_neg q1, if_neg q2, if_pos q3]
        · simp only [if_neg q1, if_neg q2, if_neg q3] at h h2 ⊢
          exact scan_enough cs j (i + 1) _ h (by omega)
theorem get_one {r : List Nat} (h : 1 ≤ r.length) : get r 1 = getAt r 1 := by
  unfold get
  rw [if_neg (by omega)]
  rfl
theorem get_take {r : List Nat} {j : Nat} (hj : 1 ≤ j) (hr : 1 ≤ r.length) : get (r.take j) 1 = (0, 0, 10) ∨ get (r.take j) 1 = get r 1 := by
  rw [get_one hr, get_one (by rw [List.length_take]; omega)]
  have e : (r.take j).drop 1 = (r.drop 1).take (j - 1) := by rw [List.drop_take]
  unfold getAt
  simp only [e]
  rcases scan_take (r.drop 1) (j - 1) 0 0 with h | h
  · left; rw [h]; rfl
  · right; rw [h]
theorem get_enough {r : List Nat} {j : Nat} (hj : 1 ≤ j) (hr : 1 ≤ r.length) (h0 : (get r 1).2.2 = 0) (h1 : (get r 1).2.1 ≤ j) : get (r.take j) 1 = get r 1 := by
  rw [get_one hr] at h0 h1
  rw [get_one hr, get_one (by rw [List.length_take]; omega)]
  have e : (r.take j).drop 1 = (r.drop 1).take (j - 1) := by rw [List.drop_take]
  unfold getAt at h0 h1 ⊢
  simp only [e] at h0 h1 ⊢
  have hs : (scan 0 0 (r.drop 1)).2.2 = 0 := by
    rcases Nat.eq_zero_or_pos (scan 0 0 (r.drop 1)).2.2 with q | q
    · exact q
    · rw [if_neg (by omega)] at h0; exact h0
  rw [if_pos hs] at h1
  simp only at h1
  rw [scan_enough (r.drop 1) (j - 1) 0 0 hs (by omega)]

/-- With an error nothing more comes. -/
theorem fold_err (bs : List Nat) {s : St} (h : s.e ≠ 0) : bs.foldl stepN s = s := by
  induction bs with
  | nil => rfl
  | cons c bs ih => rw [List.foldl_cons, show stepN s c = s by unfold stepN; rw [if_pos h]]; exact ih
theorem close_err {s : St} (h : s.e ≠ 0) (bs : List Nat) : closeN (bs.foldl stepN s) = ([], s.e) := by
  rw [fold_err bs h]; unfold closeN; rw [if_pos h]

/-- Behind the kind: the length, the bytes, the checksum; and on. -/
def restN (r : List Nat) (all : Nat) (l : List Sec) : List Sec × Nat :=
  if (get r 1).2.2 ≠ 0 then ([], (get r 1).2.2)
  else if 1048576 < (get r 1).1 then ([], 3)
  else if r.length < (get r 1).2.1 + (get r 1).1 + 4 then ([], 10)
  else if (checkN (r.take ((get r 1).2.1 + (get r 1).1 + 4))).2 ≠ 0 then ([], (checkN (r.take ((get r 1).2.1 + (get r 1).1 + 4))).2)
  else closeN ((r.drop ((get r 1).2.1 + (get r 1).1 + 4)).foldl stepN ⟨[], r.headD 0, false, all + ((get r 1).2.1 + (get r 1).1 + 4), l ++ [((r.headD 0 : Int), (checkN (r.take ((get r 1).2.1 + (get r 1).1 + 4))).1.drop (get r 1).2.1)], 0⟩)
theorem head_take {r : List Nat} {j : Nat} (hj : 1 ≤ j) : (r.take j).headD 0 = r.headD 0 := by
  cases r with
  | nil => simp
  | cons x xs =>
    obtain ⟨i, rfl⟩ : ∃ i, j = i + 1 := ⟨j - 1, by omega⟩
    rfl
theorem wait_close (r : List Nat) (last all : Nat) (l : List Sec) (h5 : 5 ≤ all) : ∀ (f j : Nat), j + f = r.length → 1 ≤ j →
    ((get (r.take j) 1).2.2 = 10 ∨ ((get r 1).2.2 = 0 ∧ (get r 1).1 ≤ 1048576 ∧ j < (get r 1).2.1 + (get r 1).1 + 4)) →
    closeN ((r.drop j).foldl stepN ⟨r.take j, last, false, all + j, l, 0⟩) = restN r all l
  | 0, j, hf, hj, hw => by
    have hd : r.drop j = [] := List.drop_eq_nil_of_le (by omega)
    have ht : r.take j = r := List.take_of_length_le (by omega)
    rw [hd, List.foldl_nil]
    have hc : closeN ⟨r.take j, last, false, all + j, l, 0⟩ = ([], 10) := by simp [closeN]
    rw [hc]
    unfold restN
    rcases hw with hw | ⟨h0, h1, h2⟩
    · rw [ht] at hw; rw [if_pos (by omega), hw]
    · rw [if_neg (by omega), if_neg (by omega), if_pos (by omega)]
  | f + 1, j, hf, hj, hw => by
    have hlt : j < r.length := by omega
    rw [List.drop_eq_getElem_cons hlt, List.foldl_cons]
    have hts : r.take j ++ [r[j]] = r.take (j + 1) := (List.take_succ_eq_append_getElem hlt).symm
    have htl : (r.take (j + 1)).length = j + 1 := by rw [List.length_take]; omega
    have hstep : stepN ⟨r.take j, last, false, all + j, l, 0⟩ r[j] = takeN ⟨r.take (j + 1), last, false, all + (j + 1), l, 0⟩ r[j] := by
      unfold stepN
      simp only [ne_eq, not_true_eq_false, if_false, Bool.false_eq_true, hts]
      rw [if_neg (by omega)]
      rfl
    rw [hstep]
    unfold takeN
    simp only [htl]
    rw [if_neg (show ¬ j + 1 = 1 by omega)]
    have ih := wait_close r last all l h5 f (j + 1) (by omega) (by omega)
    rcases get_take (r := r) (j := j + 1) (by omega) (by omega) with hg | hg
    · have h10 : (get (r.take (j + 1)) 1).2.2 = 10 := by rw [hg]
      rw [if_pos h10]
      exact ih (Or.inl h10)
    · by_cases h10 : (get (r.take (j + 1)) 1).2.2 = 10
      · rw [if_pos h10]; exact ih (Or.inl h10)
      · rw [if_neg h10, hg]
        rw [hg] at h10
        by_cases h0 : (get r 1).2.2 = 0
        · rw [if_neg (by simp [h0])]
          by_cases hb : 1048576 < (get r 1).1
          · rw [if_pos hb]
            rw [close_err (s := ⟨r.take (j + 1), last, false, all + (j + 1), l, 3⟩) (by simp)]
            unfold restN; rw [if_neg (by simp [h0]), if_pos hb]
          · rw [if_neg hb]
            by_cases hE : j + 1 < (get r 1).2.1 + (get r 1).1 + 4
            · rw [if_pos hE]
              exact ih (Or.inr ⟨h0, by omega, hE⟩)
            · rw [if_neg hE]
              have hj1 : (get r 1).2.1 + (get r 1).1 + 4 = j + 1 := by
                rcases hw with hw | ⟨_, _, h2⟩
                · exfalso
                  have := get_enough (r := r) (j := j) hj (by omega) h0 (by omega)
                  rw [this] at hw
                  omega
                · omega
              by_cases hk : (checkN (r.take (j + 1))).2 = 0
              · rw [if_neg (by simp [hk])]
                unfold restN
                rw [if_neg (by simp [h0]), if_neg hb, if_neg (by omega), hj1, if_neg (by simp [hk]), head_take (by omega)]
              · rw [if_pos hk]
                rw [close_err (s := ⟨r.take (j + 1), last, false, all + (j + 1), l, (checkN (r.take (j + 1))).2⟩) hk]
                unfold restN
                rw [if_neg (by simp [h0]), if_neg hb, if_neg (by omega), hj1, if_pos hk]
        · rw [if_pos h0]
          rw [close_err (s := ⟨r.take (j + 1), last, false, all + (j + 1), l, (get r 1).2.2⟩) h0]
          unfold restN; rw [if_pos h0]

/-- From a kind on. -/
theorem sec_close (r : List Nat) (last all : Nat) (l : List Sec) (h5 : 5 ≤ all) : closeN (r.foldl stepN ⟨[], last, false, all, l, 0⟩) =
    match r with
    | [] => ([], 10)
    | k :: t => if k = 0 then (if t ≠ [] then ([], 11) else if 1048576 < all + 1 then ([], 3) else (l, 0)) else if k ≤ last ∨ 9 < k then ([], 11) else restN r all l := by
  cases r with
  | nil => simp [closeN]
  | cons k t =>
    rw [List.foldl_cons]
    have hstep : stepN ⟨[], last, false, all, l, 0⟩ k = takeN ⟨[k], last, false, all + 1, l, 0⟩ k := by
      unfold stepN
      simp only [ne_eq, not_true_eq_false, if_false, Bool.false_eq_true]
      rw [if_neg (by omega)]
      rfl
    rw [hstep]
    unfold takeN
    simp only [List.length_cons, List.length_nil, Nat.zero_add, if_true]
    by_cases h0 : k = 0
    · simp only [if_pos h0]
      cases t with
      | nil => simp [closeN]; rfl
      | cons c t =>
        rw [List.foldl_cons, show stepN ⟨[k], last, true, all + 1, l, 0⟩ c = ⟨[k], last, true, all + 1 + 1, l, 11⟩ by simp [stepN], close_err (by simp)]
        simp
    · simp only [if_neg h0]
      by_cases hk : k ≤ last ∨ 9 < k
      · simp only [if_pos hk]
        rw [close_err (s := ⟨[k], last, false, all + 1, l, 11⟩) (by simp)]
      · simp only [if_neg hk]
        have := wait_close (k :: t) last all l h5 t.length 1 (by simp; omega) (by omega) (Or.inl (by
          have : get ((k :: t).take 1) 1 = (0, 0, 10) := by
            rw [get_one (by simp)]
            simp [getAt, scan]
          rw [this]))
        simpa using this
end Go.Proofs.Ytbmdgoljjffjdaa
