/- Plain lists: sections there and back. -/
import Derived.Test.YtbmdgoljjffjdaaFrameParse
import Derived.Test.YtbmdgoljjffjdaaOnce
namespace Go.Proofs.Ytbmdgoljjffjdaa
open Go.RowKit

theorem check_sealed (bs : List Nat) : checkN (sealN bs) = (bs, 0) := by
  have e : (sealN bs).take ((sealN bs).length - 4) = bs := by rw [sealN_len, Nat.add_sub_cancel]; simp [sealN]
  rw [checkN_ok (by rw [sealN_len]; omega) (by rw [e]), e]
/-- The head, byte by byte. -/
theorem head_step (bs : List Nat) {i : Nat} (hi : i < 5) : closeN ((bs.drop i).foldl stepN ⟨[], 0, false, i, [], 0⟩) =
    if bs.length ≤ i then ([], 10) else if bs.getD i 0 ≠ headN.getD i 0 then ([], 11) else closeN ((bs.drop (i + 1)).foldl stepN ⟨[], 0, false, i + 1, [], 0⟩) := by
  by_cases hl : bs.length ≤ i
  · rw [if_pos hl, List.drop_eq_nil_of_le hl]; simp [closeN]
  · rw [if_neg hl, List.drop_eq_getElem_cons (by omega), List.foldl_cons]
    have hg : bs.getD i 0 = bs[i]'(by omega) := by simp [List.getD, List.getElem?_eq_getElem (show i < bs.length by omega)]
    rw [hg]
    unfold stepN
    simp only [ne_eq, not_true_eq_false, if_false, Bool.false_eq_true, if_pos hi]
    by_cases hc : bs[i]'(by omega) = headN.getD i 0
    · rw [if_neg (by simpa using hc), if_neg (by simpa using hc)]
    · rw [if_pos (by simpa using hc), if_pos (by simpa using hc)]
      exact close_err (s := ⟨[], 0, false, i + 1, [], 11⟩) (by simp) _
theorem dec_head (r : List Nat) : decN (headN ++ r) = closeN (r.foldl stepN ⟨[], 0, false, 5, [], 0⟩) := by
  unfold decN
  rw [List.foldl_append]
  rfl

/-- Sections that may be written, from a kind on. -/
def Good (last : Nat) : List Sec → Prop
  | [] => True
  | s :: l => (last : Int) < s.1 ∧ s.1 ≤ 9 ∧ s.2.length ≤ 1048576 ∧ Good s.1.toNat l
theorem good_ones {last : Nat} {l : List Sec} (h : Good last l) : (onesN l).2 = 0 := by
  induction l generalizing last with
  | nil => rfl
  | cons s l ih =>
    obtain ⟨h1, h2, h3, h4⟩ := h
    have e := oneN_ok (s := s) (by omega) (by omega)
    simp only [onesN, e, ih h4]; simp
theorem ones_cons {last : Nat} {s : Sec} {l : List Sec} (h : Good last (s :: l)) : (onesN (s :: l)).1 = sealN (oneBody s) ++ (onesN l).1 := by
  obtain ⟨h1, h2, h3, h4⟩ := h
  have e := oneN_ok (s := s) (by omega) (by omega)
  simp only [onesN, e, good_ones h4]; simp
/-- One section is read. -/
theorem one_read {s : Sec} {last all : Nat} {l0 : List Sec} (rest : List Nat) (h1 : (last : Int) < s.1) (h2 : s.1 ≤ 9) (h3 : s.2.length ≤ 1048576) (h5 : 5 ≤ all) :
    closeN ((sealN (oneBody s) ++ rest).foldl stepN ⟨[], last, false, all, l0, 0⟩) = closeN (rest.foldl stepN ⟨[], s.1.toNat, false, all + (sealN (oneBody s)).length, l0 ++ [s], 0⟩) := by
  obtain ⟨k, bs⟩ := s
  simp only at h1 h2 h3
  obtain ⟨K, rfl⟩ := Int.eq_ofNat_of_zero_le (show 0 ≤ k by omega)
  have hr : sealN (oneBody ((K : Int), bs)) ++ rest = [K] ++ (putN bs.length ++ (bs ++ fixedN (crcOf (oneBody ((K : Int), bs))) 4 ++ rest)) := by simp [sealN, oneBody]
  have hg : get (sealN (oneBody ((K : Int), bs)) ++ rest) 1 = (bs.length, 1 + (putN bs.length).length, 0) := by
    rw [hr]
    have := get_put bs.length [K] (bs ++ fixedN (crcOf (oneBody ((K : Int), bs))) 4 ++ rest) (by omega)
    simpa using this
  have hE : (sealN (oneBody ((K : Int), bs))).length = 1 + (putN bs.length).length + bs.length + 4 := by rw [sealN_len]; simp [oneBody]; omega
  rw [sec_close _ _ _ _ h5]
  have hrest : restN (sealN (oneBody ((K : Int), bs)) ++ rest) all l0 = closeN (rest.foldl stepN ⟨[], K, false, all + (sealN (oneBody ((K : Int), bs))).length, l0 ++ [((K : Int), bs)], 0⟩) := by
    unfold restN
    rw [hg]
    simp only [ne_eq, not_true_eq_false, if_false]
    rw [← hE, if_neg (by omega), if_neg (by rw [List.length_append]; omega), List.take_left, List.drop_left, check_sealed]
    simp only [not_true_eq_false, if_false]
    have hd : (oneBody ((K : Int), bs)).drop (1 + (putN bs.length).length) = bs := by
      have : oneBody ((K : Int), bs) = ([K] ++ putN bs.length) ++ bs := by simp [oneBody]
      rw [this]
      have hl : ([K] ++ putN bs.length).length = 1 + (putN bs.length).length := by simp; omega
      rw [← hl, List.drop_left]
    have hh : (sealN (oneBody ((K : Int), bs)) ++ rest).headD 0 = K := by simp [sealN, oneBody]
    rw [hd, hh]
  refine Eq.trans ?_ hrest
  have hc : sealN (oneBody ((K : Int), bs)) ++ rest = K :: (putN bs.length ++ (bs ++ fixedN (crcOf (oneBody ((K : Int), bs))) 4 ++ rest)) := by rw [hr]; rfl
  generalize sealN (oneBody ((K : Int), bs)) ++ rest = r at *
  subst hc
  simp only
  rw [if_neg (by omega), if_neg (by omega)]
theorem all_read (l : List Sec) (rest : List Nat) : ∀ (last all : Nat) (l0 : List Sec), Good last l → 5 ≤ all →
    ∃ last', closeN (((onesN l).1 ++ rest).foldl stepN ⟨[], last, false, all, l0, 0⟩) = closeN (rest.foldl stepN ⟨[], last', false, all + (onesN l).1.length, l0 ++ l, 0⟩) := by
  induction l with
  | nil => intro last all l0 _ _; exact ⟨last, by simp [onesN]⟩
  | cons s l ih =>
    intro last all l0 h h5
    rw [ones_cons h, List.append_assoc]
    obtain ⟨h1, h2, h3, h4⟩ := h
    rw [one_read _ h1 h2 h3 h5]
    obtain ⟨last', e⟩ := ih s.1.toNat (all + (sealN (oneBody s)).length) (l0 ++ [s]) h4 (by omega)
    refine ⟨last', e.trans ?_⟩
    rw [List.length_append, Nat.add_assoc, List.append_assoc]; rfl
/-- What is written is good. -/
theorem enc_good {l : List Sec} (h : (encN l).2 = 0) : Good 0 l ∧ (encN l).1 = headN ++ (onesN l).1 ++ [0] ∧ (headN ++ (onesN l).1 ++ [0]).length ≤ 1048576 := by
  unfold encN at h ⊢
  by_cases h1 : (onesN l).2 = 0
  · rw [if_neg (by simp [h1])] at h ⊢
    by_cases h2 : risesB l = false
    · rw [if_pos h2] at h; simp at h
    · rw [if_neg h2] at h ⊢
      by_cases h3 : 1048576 < (headN ++ (onesN l).1 ++ [0]).length
      · rw [if_pos h3] at h; simp at h
      · rw [if_neg h3]
        refine ⟨?_, rfl, by omega⟩
        have hr := (risesB_iff l).1 (by simpa using h2)
        clear h h2 h3
        have key : ∀ (l : List Sec) (last : Nat), (onesN l).2 = 0 → (∀ i (h : i + 1 < l.length), l[i].1 < l[i + 1].1) → (∀ s, l.head? = some s → (last : Int) < s.1) → Good last l := by
          intro l
          induction l with
          | nil => intros; trivial
          | cons s l ih =>
            intro last h1 hr hl
            have hone : (oneN s).2 = 0 := by
              rcases Nat.eq_zero_or_pos (oneN s).2 with q | q
              · exact q
              · simp only [onesN] at h1; rw [if_pos (by omega)] at h1; exact h1
            have hrest : (onesN l).2 = 0 := by
              rcases Nat.eq_zero_or_pos (onesN l).2 with q | q
              · exact q
              · simp only [onesN] at h1; rw [if_neg (by simp [hone]), if_pos (by omega)] at h1; exact h1
            have hk : ¬ (s.1 < 1 ∨ 9 < s.1) := fun q => by rw [oneN_arg q] at hone; simp at hone
            have hb : ¬ 1048576 < s.2.length := fun q => by rw [oneN_long hk q] at hone; simp at hone
            refine ⟨hl s rfl, by omega, by omega, ih _ hrest (fun i hi => ?_) (fun t ht => ?_)⟩
            · have := hr (i + 1) (by simpa using hi)
              simpa using this
            · cases l with
              | nil => simp at ht
              | cons u l =>
                simp at ht
                subst ht
                have := hr 0 (by simp)
                simp at this
                omega
        refine key l 0 h1 hr (fun s hs => ?_)
        cases l with
        | nil => simp at hs
        | cons u l =>
          simp at hs
          subst hs
          have hone : (oneN u).2 = 0 := by
            rcases Nat.eq_zero_or_pos (oneN u).2 with q | q
            · exact q
            · simp only [onesN] at h1; rw [if_pos (by omega)] at h1; exact h1
          rcases Int.lt_or_le u.1 1 with q | q
          · rw [oneN_arg (Or.inl q)] at hone; simp at hone
          · omega
  · rw [if_pos h1] at h; exact absurd h h1
/-- Sections are read as they were. -/
theorem dec_enc {l : List Sec} (h : (encN l).2 = 0) : decN (encN l).1 = (l, 0) := by
  obtain ⟨hg, he, hl⟩ := enc_good h
  rw [he, List.append_assoc, dec_head]
  obtain ⟨last', e⟩ := all_read l [0] 0 5 [] hg (by omega)
  rw [e, sec_close _ _ _ _ (by omega)]
  simp only [List.nil_append, if_true, ne_eq, not_true_eq_false, if_false]
  rw [if_neg]
  simp only [List.length_append, headN, List.length_cons, List.length_nil] at hl
  omega
/-- With any behind they are none. -/
theorem dec_more {l : List Sec} (h : (encN l).2 = 0) (m : Nat) : decN ((encN l).1 ++ [m]) = ([], 11) := by
  obtain ⟨hg, he, _⟩ := enc_good h
  rw [he, List.append_assoc, List.append_assoc, dec_head]
  obtain ⟨last', e⟩ := all_read l ([0] ++ [m]) 0 5 [] hg (by omega)
  rw [e, sec_close _ _ _ _ (by omega)]
  simp
end Go.Proofs.Ytbmdgoljjffjdaa
