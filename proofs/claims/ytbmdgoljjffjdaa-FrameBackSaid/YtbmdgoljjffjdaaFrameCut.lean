/- Plain lists: sections cut short are missing some; bytes that are some are their bytes. -/
import Derived.Test.YtbmdgoljjffjdaaBackNums
namespace Go.Proofs.Ytbmdgoljjffjdaa
open Go.RowKit

/-- A section cut short. -/
theorem one_cut {s : Sec} {last all : Nat} {l0 : List Sec} {q : Nat} (h1 : (last : Int) < s.1) (h2 : s.1 ≤ 9) (h3 : s.2.length ≤ 1048576) (h5 : 5 ≤ all) (hq : q < (sealN (oneBody s)).length) :
    closeN (((sealN (oneBody s)).take q).foldl stepN ⟨[], last, false, all, l0, 0⟩) = ([], 10) := by
  obtain ⟨k, bs⟩ := s
  simp only at h1 h2 h3
  obtain ⟨K, rfl⟩ := Int.eq_ofNat_of_zero_le (show 0 ≤ k by omega)
  rw [sec_close _ _ _ _ h5]
  have hr : sealN (oneBody ((K : Int), bs)) = [K] ++ (putN bs.length ++ (bs ++ fixedN (crcOf (oneBody ((K : Int), bs))) 4)) := by simp [sealN, oneBody]
  have hg : get (sealN (oneBody ((K : Int), bs))) 1 = (bs.length, 1 + (putN bs.length).length, 0) := by
    rw [hr]
    have := get_put bs.length [K] (bs ++ fixedN (crcOf (oneBody ((K : Int), bs))) 4) (by omega)
    simpa using this
  have hE : (sealN (oneBody ((K : Int), bs))).length = 1 + (putN bs.length).length + bs.length + 4 := by rw [sealN_len]; simp [oneBody]; omega
  have hl : ((sealN (oneBody ((K : Int), bs))).take q).length = q := by rw [List.length_take]; omega
  cases q with
  | zero => simp
  | succ q =>
    have hrest : restN ((sealN (oneBody ((K : Int), bs))).take (q + 1)) all l0 = ([], 10) := by
      unfold restN
      rcases get_take (r := sealN (oneBody ((K : Int), bs))) (j := q + 1) (by omega) (by omega) with e | e
      · rw [e]; simp
      · rw [e, hg]
        simp only [ne_eq, not_true_eq_false, if_false]
        rw [if_neg (by omega), if_pos (by rw [hl]; omega)]
    have hc : ∃ t, (sealN (oneBody ((K : Int), bs))).take (q + 1) = K :: t := by rw [hr]; exact ⟨_, rfl⟩
    obtain ⟨t, hc⟩ := hc
    rw [hc] at hrest ⊢
    simp only
    rw [if_neg (by omega), if_neg (by omega)]
    exact hrest
theorem all_cut (l : List Sec) : ∀ (last all : Nat) (l0 : List Sec) (q : Nat), Good last l → 5 ≤ all → q ≤ (onesN l).1.length →
    closeN ((((onesN l).1 ++ [0]).take q).foldl stepN ⟨[], last, false, all, l0, 0⟩) = ([], 10) := by
  induction l with
  | nil =>
    intro last all l0 q _ h5 hq
    simp [onesN] at hq
    subst hq
    simp [closeN]
  | cons s l ih =>
    intro last all l0 q h h5 hq
    rw [ones_cons h] at hq ⊢
    obtain ⟨h1, h2, h3, h4⟩ := h
    rw [List.append_assoc]
    by_cases hs : q < (sealN (oneBody s)).length
    · rw [List.take_append_of_le_length (by omega)]
      exact one_cut h1 h2 h3 h5 hs
    · rw [List.take_append, List.take_of_length_le (by omega), one_read _ h1 h2 h3 h5]
      refine ih _ _ _ _ h4 (by omega) ?_
      rw [List.length_append] at hq
      omega
/-- Cut short they are missing some. -/
theorem dec_cut {l : List Sec} (h : (encN l).2 = 0) {q : Nat} (hq : q < (encN l).1.length) : decN ((encN l).1.take q) = ([], 10) := by
  obtain ⟨hg, he, _⟩ := enc_good h
  rw [he] at hq ⊢
  rw [List.append_assoc] at hq ⊢
  have hl : (headN ++ ((onesN l).1 ++ [0])).length = 5 + (onesN l).1.length + 1 := by simp [headN]; omega
  by_cases h5 : q < 5
  · rw [List.take_append_of_le_length (by simp [headN]; omega)]
    have : q = 0 ∨ q = 1 ∨ q = 2 ∨ q = 3 ∨ q = 4 := by omega
    rcases this with rfl | rfl | rfl | rfl | rfl <;> rfl
  · rw [List.take_append, List.take_of_length_le (by simp [headN]; omega), dec_head]
    refine all_cut l 0 5 [] _ hg (by omega) ?_
    have : headN.length = 5 := rfl
    omega

theorem get_shift {r : List Nat} (h : 1 ≤ r.length) (h0 : (get r 1).2.2 = 0) : (get (r.drop 1) 0).2.2 = 0 ∧ (get (r.drop 1) 0).1 = (get r 1).1 ∧ (get (r.drop 1) 0).2.1 + 1 = (get r 1).2.1 := by
  rw [get_one h] at h0 ⊢
  have e : get (r.drop 1) 0 = getAt (r.drop 1) 0 := by
    unfold get
    rw [if_neg (by omega)]
    rfl
  rw [e]
  unfold getAt at h0 ⊢
  simp only [List.drop_zero] at h0 ⊢
  have hs : (scan 0 0 (r.drop 1)).2.2 = 0 := by
    rcases Nat.eq_zero_or_pos (scan 0 0 (r.drop 1)).2.2 with q | q
    · exact q
    · rw [if_neg (by omega)] at h0; exact h0
  rw [if_pos hs, if_pos hs]
  simp only
  refine ⟨trivial, trivial, by omega⟩
theorem checkN_back {bs : List Nat} (h : (checkN bs).2 = 0) : sealN (checkN bs).1 = bs ∧ (checkN bs).1 = bs.take (bs.length - 4) ∧ 4 ≤ bs.length := by
  unfold checkN at h ⊢
  by_cases h1 : bs.length < 4
  · rw [if_pos h1] at h; simp at h
  · rw [if_neg h1] at h ⊢
    by_cases h2 : sealN (bs.take (bs.length - 4)) = bs
    · rw [if_pos h2]; exact ⟨h2, rfl, by omega⟩
    · rw [if_neg h2] at h; simp at h
/-- Bytes that are sections are their bytes. -/
theorem all_back : ∀ (f : Nat) (r : List Nat) (last all : Nat) (l0 res : List Sec), r.length ≤ f → (∀ x ∈ r, x < 256) → 5 ≤ all → closeN (r.foldl stepN ⟨[], last, false, all, l0, 0⟩) = (res, 0) →
    ∃ l, res = l0 ++ l ∧ Good last l ∧ r = (onesN l).1 ++ [0] ∧ all + r.length ≤ 1048576 ∧ ∀ s ∈ l, ∀ x ∈ s.2, x < 256 := by
  intro f
  induction f with
  | zero =>
    intro r last all l0 res hf _ h5 h
    have hr := List.eq_nil_of_length_eq_zero (show r.length = 0 by omega)
    subst hr
    simp [closeN] at h
  | succ f ih =>
    intro r last all l0 res hf hb h5 h
    rw [sec_close _ _ _ _ h5] at h
    cases r with
    | nil => simp at h
    | cons k t =>
      simp only at h
      by_cases hk0 : k = 0
      · rw [if_pos hk0] at h
        by_cases ht : t = []
        · subst ht hk0
          simp only [ne_eq, not_true_eq_false, if_false] at h
          by_cases hm : 1048576 < all + 1
          · rw [if_pos hm] at h; simp at h
          · rw [if_neg hm] at h
            simp at h
            subst h
            exact ⟨[], by simp, trivial, by simp [onesN], by simp; omega, by simp⟩
        · rw [if_pos ht] at h; simp at h
      · rw [if_neg hk0] at h
        by_cases hkk : k ≤ last ∨ 9 < k
        · rw [if_pos hkk] at h; simp at h
        · rw [if_neg hkk] at h
          unfold restN at h
          by_cases h0 : (get (k :: t) 1).2.2 = 0
          · rw [if_neg (by simp [h0])] at h
            by_cases hbig : 1048576 < (get (k :: t) 1).1
            · rw [if_pos hbig] at h; simp at h
            · rw [if_neg hbig] at h
              by_cases hE : (k :: t).length < (get (k :: t) 1).2.1 + (get (k :: t) 1).1 + 4
              · rw [if_pos hE] at h; simp at h
              · rw [if_neg hE] at h
                obtain ⟨s0, s1, s2⟩ := get_shift (r := k :: t) (by simp) h0
                have hput := get_back ((k :: t).drop 1) (fun x hx => hb x (List.mem_of_mem_drop hx)) s0
                have hmv := get_moves (bs := k :: t) (k := 1) h0
                rw [s1] at hput
                generalize get (k :: t) 1 = g at *
                obtain ⟨n, to, ge⟩ := g
                simp only at *
                by_cases hck : (checkN ((k :: t).take (to + n + 4))).2 = 0
                · rw [if_neg (fun q => q hck)] at h
                  obtain ⟨c1, c2, c3⟩ := checkN_back hck
                  have htl : ((k :: t).take (to + n + 4)).length = to + n + 4 := by rw [List.length_take]; omega
                  rw [htl, show to + n + 4 - 4 = to + n by omega, List.take_take, show min (to + n) (to + n + 4) = to + n by omega] at c2
                  rw [c2] at h c1
                  have hbody : (k :: t).take (to + n) = oneBody ((k : Int), ((k :: t).take (to + n)).drop to) := by
                    have hdl : (((k :: t).take (to + n)).drop to).length = n := by rw [List.length_drop, List.length_take]; omega
                    unfold oneBody
                    simp only [hdl, Int.toNat_natCast]
                    rw [hput]
                    have e1 : (k :: t).take (to + n) = ((k :: t).take (to + n)).take to ++ ((k :: t).take (to + n)).drop to := (List.take_append_drop _ _).symm
                    rw [List.take_take, show min to (to + n) = to by omega] at e1
                    have e2 : (k :: t).take to = k :: (((k :: t).drop 1).take (get ((k :: t).drop 1) 0).2.1) := by
                      rw [← s2, List.take_succ_cons]; rfl
                    rw [e2] at e1
                    exact e1
                  have hlen : ((k :: t).take (to + n)).drop to = ((k :: t).take (to + n)).drop to := rfl
                  have hdl : (((k :: t).take (to + n)).drop to).length = n := by rw [List.length_drop, List.length_take]; omega
                  have hby2 : ∀ x ∈ ((k :: t).take (to + n)).drop to, x < 256 := fun x hx => hb x (List.mem_of_mem_take (List.mem_of_mem_drop hx))
                  generalize hbs : ((k :: t).take (to + n)).drop to = bs at *
                  obtain ⟨l, r1, r2, r3, r4, r5⟩ := ih ((k :: t).drop (to + n + 4)) k (all + (to + n + 4)) (l0 ++ [((k : Int), bs)]) res (by rw [List.length_drop]; omega) (fun x hx => hb x (List.mem_of_mem_drop hx)) (by omega) h
                  have hgood : Good last (((k : Int), bs) :: l) := ⟨by simp; omega, by simp; omega, by simp; omega, by simpa using r2⟩
                  refine ⟨((k : Int), bs) :: l, by rw [r1]; simp, hgood, ?_, ?_, ?_⟩
                  · rw [ones_cons hgood, ← hbody, c1, List.append_assoc, ← r3, List.take_append_drop]
                  · rw [List.length_drop] at r4; omega
                  · intro s hs
                    rcases List.mem_cons.1 hs with rfl | hs
                    · exact hby2
                    · exact r5 s hs
                · rw [if_pos hck] at h
                  simp only [Prod.mk.injEq] at h
                  exact absurd h.2 hck
          · rw [if_pos h0] at h
            simp only [Prod.mk.injEq] at h
            exact absurd h.2 h0
theorem good_rises {last : Nat} {l : List Sec} (h : Good last l) : ∀ i (hi : i + 1 < l.length), l[i].1 < l[i + 1].1 := by
  induction l generalizing last with
  | nil => intro i hi; simp at hi
  | cons s l ih =>
    obtain ⟨h1, h2, h3, h4⟩ := h
    intro i hi
    cases i with
    | zero =>
      cases l with
      | nil => simp at hi
      | cons u l =>
        obtain ⟨g1, _⟩ := h4
        simp
        omega
    | succ i =>
      have := ih h4 i (by simpa using hi)
      simpa using this
theorem head_same {bs : List Nat} {res : List Sec} (h : decN bs = (res, 0)) : ∃ r, bs = headN ++ r := by
  unfold decN st0 at h
  have h0 := head_step bs (i := 0) (by omega)
  have h1 := head_step bs (i := 1) (by omega)
  have h2 := head_step bs (i := 2) (by omega)
  have h3 := head_step bs (i := 3) (by omega)
  have h4 := head_step bs (i := 4) (by omega)
  rw [List.drop_zero] at h0
  rw [h0] at h
  simp only [headN] at *
  match bs with
  | [] => simp at h
  | [a] => simp at h h1; split at h <;> simp_all
  | [a, b] => simp at h h1 h2; split at h <;> simp_all; split at h <;> simp_all
  | [a, b, c] => simp at h h1 h2 h3; split at h <;> simp_all; split at h <;> simp_all; split at h <;> simp_all
  | [a, b, c, d] => simp at h h1 h2 h3 h4; split at h <;> simp_all; split at h <;> simp_all; split at h <;> simp_all; split at h <;> simp_all
  | a :: b :: c :: d :: e :: r =>
    simp at h h1 h2 h3 h4
    by_cases q0 : a = 76
    · by_cases q1 : b = 80
      · by_cases q2 : c = 68
        · by_cases q3 : d = 89
          · by_cases q4 : e = 1
            · exact ⟨r, by rw [q0, q1, q2, q3, q4]; rfl⟩
            · simp_all
          · simp_all
        · simp_all
      · simp_all
    · simp_all
theorem dec_back {bs : List Nat} {res : List Sec} (hb : ∀ x ∈ bs, x < 256) (h : decN bs = (res, 0)) : encN res = (bs, 0) ∧ ∀ s ∈ res, ∀ x ∈ s.2, x < 256 := by
  obtain ⟨r, rfl⟩ := head_same h
  rw [dec_head] at h
  obtain ⟨l, e1, e2, e3, e4, e5⟩ := all_back r.length r 0 5 [] res (Nat.le_refl _) (fun x hx => hb x (List.mem_append_right _ hx)) (by omega) h
  simp only [List.nil_append] at e1
  subst e1
  refine ⟨?_, e5⟩
  unfold encN
  have hr : risesB res = true := (risesB_iff res).2 (good_rises e2)
  rw [if_neg (by simp [good_ones e2]), if_neg (by rw [hr]; simp), List.append_assoc, ← e3, if_neg (by simp [headN]; omega)]
theorem dec_none {bs : List Nat} (h : (decN bs).2 ≠ 0) : (decN bs).1 = [] := by
  unfold decN closeN at h ⊢
  split
  · rfl
  · split
    · rfl
    · split
      · rfl
      · rename_i h1 h2 h3; rw [if_neg h1, if_neg h2, if_neg h3] at h; exact absurd rfl h
end Go.Proofs.Ytbmdgoljjffjdaa
