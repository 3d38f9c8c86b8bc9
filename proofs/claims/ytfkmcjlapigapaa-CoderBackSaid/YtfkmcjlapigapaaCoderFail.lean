/- What the landed coder's reader follows, in plain numbers. -/
import Derived.Test.YtfkmcjlapigapaaCoderOf
namespace Go.Proofs.Ytfkmcjlapigapaa
open Go.RowKit

/-- What holds of the reader beside N, D and R. -/
structure RI (bs : List Nat) (N D R lo last : Nat) : Prop where
  len : D ≤ bs.length
  low : lo % 4294967296 = N % 4294967296
  sum : lo + R ≤ 8589934592
  at_ : last % 4294967296 = valC (bs.take D) % 4294967296
  word : last < 18446744073709551616
  le : N ≤ valC (bs.take D)
  near : valC (bs.take D) - N < 4294967296
theorem RI.rest {bs : List Nat} {N D R lo last : Nat} (h : RI bs N D R lo last) : (last + 18446744073709551616 - lo) % 4294967296 = valC (bs.take D) - N := by
  have h1 := h.low
  have h2 := h.at_
  have h3 := h.le
  have h4 := h.near
  have h5 := h.sum
  generalize valC (bs.take D) = V at *
  omega
theorem RI.take {bs : List Nat} {N D R lo last q fr ct W : Nat} (h : RI bs N D R lo last) (hq : q * W ≤ R) (hw : fr + ct ≤ W) (h1 : q * fr ≤ valC (bs.take D) - N) : RI bs (N + q * fr) D (q * ct) (lo + q * fr) last := by
  have h2 : q * fr + q * ct ≤ R := Nat.le_trans (by rw [← Nat.mul_add]; exact Nat.mul_le_mul_left _ hw) hq
  have h3 := h.le
  have h4 := h.near
  have h5 := h.sum
  have h6 := h.low
  generalize hV : valC (bs.take D) = V at *
  exact ⟨h.len, by omega, by omega, by rw [hV]; exact hV ▸ h.at_, h.word, by rw [hV]; omega, by rw [hV]; omega⟩
theorem RI.shift {bs : List Nat} {N D R lo last : Nat} (h : RI bs N D R lo last) (hb : ∀ x ∈ bs, x < 256) (hD : D < bs.length) (hR : R < 16777216) (hn : valC (bs.take D) - N < R) :
    RI bs (N * 256) (D + 1) (R * 256) (lo * 256 % 4294967296) ((last * 256 + bs[D]) % 18446744073709551616) ∧ valC (bs.take (D + 1)) - N * 256 < R * 256 := by
  have e : valC (bs.take (D + 1)) = valC (bs.take D) * 256 + bs[D] := by rw [List.take_succ_eq_append_getElem hD, valC_snoc]
  have hx := hb _ (List.getElem_mem hD)
  have h3 := h.le
  have h6 := h.low
  have h7 := h.at_
  generalize bs[D] = x at *
  generalize valC (bs.take D) = V at *
  refine ⟨⟨by omega, by omega, by omega, by rw [e]; omega, Nat.mod_lt _ (by decide), by rw [e]; omega, by rw [e]; omega⟩, by rw [e]; omega⟩
/-- No symbols with these models have these bytes. -/
def Fail (bs : List Nat) (t : Cdr) (ks : List Int) : Prop := ∀ l : List Cod, l.map (·.1) = ks → bytesC t l ≠ some bs
/-- The bytes of symbols lie in the first one's share. -/
theorem in_share {t u z : Cdr} {y : Cod} {l : List Cod} (ht : COk t) (hs : stepC t y = some u) (hr : runC u l = some z) : t.D ≤ z.D ∧ u.D ≤ z.D ∧ t.N + t.R / wholeC t.C y.1 * (shareC t.C y).1 ≤ valC ((digC z.D z.N).take t.D) ∧
    valC ((digC z.D z.N).take t.D) < t.N + t.R / wholeC t.C y.1 * wholeC t.C y.1 ∧ symC t y.1 (valC ((digC z.D z.N).take t.D) - t.N) = y := by
  have hu := stepC_ok ht hs
  obtain ⟨hz, i, hDi, h1, h2⟩ := run_lies l hu hr
  have hsb := sym_back (F := z.N) (i := i) ht hs h1 (by have := hz.big; omega)
  obtain ⟨j, q, lo, n, rfl, hsh, hq1, hn1, hln, hqW, hN, hR, hD, _, _⟩ := stepC_is ht hs
  have e1 : (shareC t.C y).1 = lo := by rw [← hsh]
  have hV : valC ((digC z.D z.N).take t.D) = z.N / 256 ^ (u.D - t.D + i) := by
    rw [val_take (u.D - t.D + i) (b := digC z.D z.N) (n := t.D) (by rw [digC_len]; omega) (digC_byte _ _), val_dig _ (ok_lt hz)]
  rw [hV, e1]
  rw [show u.D - t.D + i = j + i by omega] at *
  have hp : 0 < 256 ^ (j + i) := Nat.pow_pos (by decide)
  refine ⟨by omega, by omega, ?_, ?_, hsb.2⟩
  · rw [Nat.le_div_iff_mul_le hp, Nat.pow_add, ← Nat.mul_assoc, ← hN]
    exact h1
  · rw [Nat.div_lt_iff_lt_mul hp]
    have h3 : z.N < (u.N + u.R) * 256 ^ i := by have := hz.big; omega
    refine Nat.lt_of_lt_of_le h3 ?_
    rw [hN, hR, ← Nat.add_mul, Nat.pow_add, ← Nat.mul_assoc, Nat.add_assoc, ← Nat.mul_add]
    exact Nat.mul_le_mul_right _ (Nat.mul_le_mul_right _ (Nat.add_le_add_left (Nat.mul_le_mul_left _ hln) _))
theorem fail_cases {bs : List Nat} {t : Cdr} {k : Int} {ks : List Int} (h : ∀ y l u z, y.1 = k → l.map (·.1) = ks → stepC t y = some u → runC u l = some z → bs ≠ digC z.D z.N) : Fail bs t (k :: ks) := by
  intro l hl hb
  cases l with
  | nil => simp at hl
  | cons y l =>
    simp only [List.map_cons, List.cons.injEq] at hl
    unfold bytesC at hb
    rw [runC] at hb
    cases hs : stepC t y with
    | none => rw [hs] at hb; cases hb
    | some u =>
      rw [hs] at hb
      have hb : (runC u l).map (fun u => digC u.D u.N) = some bs := hb
      cases hr : runC u l with
      | none => rw [hr] at hb; cases hb
      | some z =>
        rw [hr] at hb
        exact h y l u z hl.1 hl.2 hs hr (Option.some.inj hb).symm
theorem fail_far {bs : List Nat} {t : Cdr} {k : Int} {ks : List Int} (ht : COk t) (hq : 0 < t.R / wholeC t.C k) (h : wholeC t.C k ≤ (valC (bs.take t.D) - t.N) / (t.R / wholeC t.C k)) : Fail bs t (k :: ks) :=
  fail_cases fun y l u z hy hl hs hr e => by
    obtain ⟨_, _, h1, h2, _⟩ := in_share ht hs hr
    rw [hy, ← e] at h2
    have h3 : t.R / wholeC t.C k * wholeC t.C k ≤ valC (bs.take t.D) - t.N := by rw [Nat.mul_comm]; exact (Nat.le_div_iff_mul_le hq).1 h
    rw [← e] at h1
    generalize t.R / wholeC t.C k * wholeC t.C k = P at *
    have h4 : t.N ≤ valC (bs.take t.D) := Nat.le_trans (Nat.le_add_right _ _) h1
    omega
/-- A place in the whole lies in the share of what find tells. -/
theorem find_sym {t : Cdr} {k : Int} {d : Nat} (h : d / (t.R / wholeC t.C k) < wholeC t.C k) : symC t k d = (k, (findC t.C k (d / (t.R / wholeC t.C k))).1) := by
  have e : min (d / (t.R / wholeC t.C k)) (wholeC t.C k - 1) = d / (t.R / wholeC t.C k) := by omega
  unfold symC findC
  rw [e]
  split <;> rfl
theorem fail_next {bs : List Nat} {t u : Cdr} {k s : Int} {ks : List Int} (ht : COk t) (hx : symC t k (valC (bs.take t.D) - t.N) = (k, s)) (hu : stepC t (k, s) = some u) (h : Fail bs u ks) : Fail bs t (k :: ks) :=
  fail_cases fun y l u' z hy hl hs hr e => by
    obtain ⟨_, _, _, _, h3⟩ := in_share ht hs hr
    rw [← e, hy, hx] at h3
    subst h3
    rw [hu] at hs
    cases hs
    exact h l hl (by unfold bytesC; rw [hr, e]; rfl)
theorem fail_short {bs : List Nat} {t u : Cdr} {k s : Int} {ks : List Int} (ht : COk t) (hx : symC t k (valC (bs.take t.D) - t.N) = (k, s)) (hu : stepC t (k, s) = some u) (h : bs.length < u.D) : Fail bs t (k :: ks) :=
  fail_cases fun y l u' z hy hl hs hr e => by
    obtain ⟨_, h2, _, _, h3⟩ := in_share ht hs hr
    rw [← e, hy, hx] at h3
    subst h3
    rw [hu] at hs
    cases hs
    have := digC_len z.D z.N
    rw [← e] at this
    omega
theorem fail_end {bs : List Nat} {t : Cdr} (ht : COk t) (h : t.D < bs.length ∨ valC (bs.take t.D) ≠ t.N) : Fail bs t [] := by
  intro l hl hb
  cases l with
  | cons y l => simp at hl
  | nil =>
    have hb : some (digC t.D t.N) = some bs := hb
    have hb := Option.some.inj hb
    have hl2 := digC_len t.D t.N
    rw [hb] at hl2
    rcases h with h | h
    · omega
    · apply h
      rw [List.take_of_length_le (by omega), ← hb, val_dig _ (ok_lt ht)]
theorem sum_spot {c : List Nat} {v : Nat} : ∀ j, v < (c.take j).sum → ∃ s, ∃ _ : s < c.length, (c.take s).sum ≤ v ∧ v < (c.take (s + 1)).sum := by
  intro j
  induction j with
  | zero => intro h; simp at h
  | succ j ih =>
    intro h
    by_cases h1 : v < (c.take j).sum
    · exact ih h1
    · have hj : j < c.length := by
        rcases Nat.lt_or_ge j c.length with h2 | h2
        · exact h2
        · rw [List.take_of_length_le (by omega)] at h h1; exact absurd h h1
      exact ⟨j, hj, by omega, h⟩
/-- What find tells is a symbol, and the place lies in its share; or the place lies beyond all. -/
theorem find_in {C : List (List Nat)} {k : Int} {v : Nat} (hk : -16 ≤ k ∧ k < (C.length : Int)) :
    ((findC C k v).2 = true ∧ v < wholeC C k ∧ okC C (k, (findC C k v).1) ∧ (shareC C (k, (findC C k v).1)).1 ≤ v ∧ v < (shareC C (k, (findC C k v).1)).1 + (shareC C (k, (findC C k v).1)).2) ∨ ((findC C k v).2 = false ∧ wholeC C k ≤ v) := by
  by_cases h0 : k < 0
  · obtain ⟨m, rfl⟩ : ∃ m : Nat, k = -(m : Int) := ⟨(-k).toNat, by omega⟩
    have e : findC C (-(m : Int)) v = ((v : Int), decide (v < wholeC C (-(m : Int)))) := if_pos h0
    rw [e, whole_neg (by omega) (by omega)]
    by_cases hv : v < 2 ^ m
    · left
      have hok : okC C (-(m : Int), (v : Int)) := ⟨by simp, by simp only; rw [size_neg (by omega) (by omega)]; omega⟩
      refine ⟨by simp [hv], hv, hok, ?_⟩
      simp only
      rw [share_plain (by omega) (by omega), if_pos ⟨by omega, by omega⟩]
      simp
    · right
      exact ⟨by simp [hv], by omega⟩
  · obtain ⟨m, rfl⟩ := Int.eq_ofNat_of_zero_le (show 0 ≤ k by omega)
    have hm : m < C.length := by omega
    have hg : C.getD (m : Int).toNat [] = C[m] := by rw [List.getD_eq_getElem?_getD, Int.toNat_natCast, List.getElem?_eq_getElem hm]; rfl
    have e : findC C (m : Int) v = (((findN C[m] (v : Int)).1 : Int), decide ((findN C[m] (v : Int)).2 = 0)) := by
      have : findC C (m : Int) v = (((findN (C.getD (m : Int).toNat []) (v : Int)).1 : Int), decide ((findN (C.getD (m : Int).toNat []) (v : Int)).2 = 0)) := if_neg h0
      rw [hg] at this
      exact this
    rw [whole_at hm]
    by_cases hv : v < C[m].sum
    · left
      obtain ⟨s, hs, h1, h2⟩ : ∃ s, ∃ _ : s < C[m].length, (C[m].take s).sum ≤ v ∧ v < (C[m].take (s + 1)).sum := by
        exact sum_spot C[m].length (by rw [List.take_length]; exact hv)
      have hf : findN C[m] (v : Int) = (s, 0) := find_is hs (by omega) (by omega)
      rw [e, hf]
      have hok : okC C ((m : Int), (s : Int)) := ⟨by simp, by simp only; rw [size_at hm]; omega⟩
      refine ⟨by simp, hv, hok, ?_⟩
      simp only
      rw [share_at hm, share_in hs, if_pos rfl]
      simp only
      rw [sum_snoc5 hs] at h2
      exact ⟨h1, h2⟩
    · right
      rw [e, find_none (by omega)]
      exact ⟨by simp, by omega⟩
end Go.Proofs.Ytfkmcjlapigapaa
