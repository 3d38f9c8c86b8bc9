/- Plain numbers: a number's bytes are read as it; bytes that are one are its bytes; cut short they are missing some. -/
import Derived.Test.YtbmdgoljjffjdaaGetNums
namespace Go.Proofs.Ytbmdgoljjffjdaa
open Go.RowKit

theorem pow_fits {i n : Nat} (h : n * 128 ^ i < 18446744073709551616) (hn : 0 < n) : i ≤ 9 ∧ (i = 9 → n ≤ 1) := by
  have h9 : i ≤ 9 := by
    rcases Nat.lt_or_ge i 10 with h1 | h1
    · omega
    · have h2 := Nat.pow_le_pow_right (n := 128) (by decide) h1
      have e : (128 : Nat) ^ 10 = 1180591620717411303424 := by decide
      have h3 : 1 * 128 ^ i ≤ n * 128 ^ i := Nat.mul_le_mul_right _ hn
      omega
  refine ⟨h9, fun e => ?_⟩
  subst e
  have e : (128 : Nat) ^ 9 = 9223372036854775808 := by decide
  rw [e] at h
  omega

/-- A number's bytes are read as it, whatever stands behind. -/
theorem scan_put : ∀ (f n i acc : Nat) (rest : List Nat), n ≤ f → (0 < i → 0 < n) → n * 128 ^ i < 18446744073709551616 →
    scan i acc (putN n ++ rest) = (acc + n * 128 ^ i, i + (putN n).length, 0)
  | f, n, i, acc, rest, hf, h0, hn => by
    by_cases hs : n < 128
    · rw [putN_small hs]
      have h9 : ¬ (i = 9 ∧ 1 < n) := by
        rintro ⟨rfl, h1⟩
        have := (pow_fits hn (by omega)).2 rfl
        omega
      simp only [List.cons_append, List.nil_append, scan]
      rw [if_neg h9, if_neg (by omega), if_pos hs]
      rfl
    · cases f with
      | zero => omega
      | succ f =>
        have hp := pow_fits hn (by omega)
        have h9 : i ≠ 9 := fun e => by have := hp.2 e; omega
        rw [putN_big (n := n) (by omega)]
        simp only [List.cons_append, scan]
        rw [if_neg (by omega), if_neg (by omega), if_neg (by omega)]
        have hsum : n % 128 * 128 ^ i + n / 128 * 128 ^ (i + 1) = n * 128 ^ i := by
          have e : n = n % 128 + 128 * (n / 128) := by omega
          rw [Nat.pow_succ]
          generalize n % 128 = a at *
          generalize n / 128 = b at *
          subst e
          rw [Nat.add_mul, Nat.mul_comm 128 b, Nat.mul_assoc, Nat.mul_comm 128]
        rw [scan_put f (n / 128) (i + 1) _ rest (by omega) (fun _ => by omega) (by omega)]
        have hm : (n % 128 + 128) % 128 = n % 128 := by omega
        rw [hm]
        refine Prod.ext ?_ (Prod.ext ?_ rfl)
        · show _ = acc + n * 128 ^ i
          omega
        · show i + 1 + (putN (n / 128)).length = i + ((n % 128 + 128) :: putN (n / 128)).length
          rw [List.length_cons]; omega

theorem get_put (n : Nat) (ahead behind : List Nat) (h : n < 18446744073709551616) : get (ahead ++ (putN n ++ behind)) (ahead.length : Int) = (n, ahead.length + (putN n).length, 0) := by
  unfold get
  rw [if_neg (by rw [List.length_append]; omega), Int.toNat_natCast]
  have hs := scan_put n n 0 0 behind (Nat.le_refl _) (by omega) (by simpa using h)
  have := getAt_ok (bs := ahead ++ (putN n ++ behind)) (k := ahead.length) (by rw [List.drop_left]; exact hs)
  rw [this]
  simp

/-- Cut short, some are missing. -/
theorem scan_short : ∀ (f n i acc r : Nat), n ≤ f → n * 128 ^ i < 18446744073709551616 → r < (putN n).length → scan i acc ((putN n).take r) = (0, 0, 10)
  | f, n, i, acc, r, hf, hn, hr => by
    by_cases hs : n < 128
    · rw [putN_small hs] at hr ⊢
      obtain rfl : r = 0 := by simpa using hr
      rfl
    · cases f with
      | zero => omega
      | succ f =>
        have hp := pow_fits hn (by omega)
        have h9 : i ≠ 9 := fun e => by have := hp.2 e; omega
        rw [putN_big (n := n) (by omega)] at hr ⊢
        cases r with
        | zero => rfl
        | succ r =>
          rw [List.length_cons] at hr
          simp only [List.take_succ_cons, scan]
          rw [if_neg (by omega), if_neg (by omega), if_neg (by omega)]
          have hle : n / 128 * 128 ^ (i + 1) ≤ n * 128 ^ i := by
            rw [Nat.pow_succ, Nat.mul_comm (128 ^ i), ← Nat.mul_assoc]
            exact Nat.mul_le_mul_right _ (by omega)
          exact scan_short f (n / 128) (i + 1) _ r (by omega) (by omega) (by omega)
theorem get_cut (n r : Nat) (h : n < 18446744073709551616) (hr : r < (putN n).length) : get ((putN n).take r) 0 = (0, 0, 10) := by
  unfold get
  rw [if_neg (by omega)]
  exact getAt_err (by simpa using scan_short n n 0 0 r (Nat.le_refl _) (by simpa using h) hr) (by decide)

/-- Bytes that are a number are its bytes. -/
theorem scan_back : ∀ (bs : List Nat) (i acc : Nat), (∀ x ∈ bs, x < 256) → (scan i acc bs).2.2 = 0 →
    ∃ n, (scan i acc bs).1 = acc + n * 128 ^ i ∧ i < (scan i acc bs).2.1 ∧ putN n = bs.take ((scan i acc bs).2.1 - i) ∧ (0 < i → 0 < n)
  | [], _, _, _, h => by simp [scan] at h
  | c :: cs, i, acc, hb, h => by
    by_cases h1 : i = 9 ∧ 1 < c
    · rw [scan, if_pos h1] at h; simp at h
    · by_cases h2 : 0 < i ∧ c = 0
      · rw [scan, if_neg h1, if_pos h2] at h; simp at h
      · by_cases h3 : c < 128
        · rw [scan, if_neg h1, if_neg h2, if_pos h3]
          refine ⟨c, rfl, by simp, ?_, fun _ => by omega⟩
          rw [putN_small h3]
          simp
        · rw [scan, if_neg h1, if_neg h2, if_neg h3] at h ⊢
          obtain ⟨n, e1, e2, e3, e4⟩ := scan_back cs (i + 1) _ (fun x hx => hb x (List.mem_cons_of_mem _ hx)) h
          have hn := e4 (by omega)
          have hc := hb c (List.mem_cons_self ..)
          refine ⟨c % 128 + 128 * n, ?_, by omega, ?_, fun _ => by omega⟩
          · rw [e1, Nat.pow_succ, Nat.add_mul, Nat.mul_comm 128 n, Nat.mul_assoc, Nat.mul_comm 128 (128 ^ i), Nat.add_assoc]
          · rw [putN_big (by omega)]
            have f1 : (c % 128 + 128 * n) % 128 + 128 = c := by omega
            have f2 : (c % 128 + 128 * n) / 128 = n := by omega
            rw [f1, f2, e3]
            generalize (scan (i + 1) (acc + c % 128 * 128 ^ i) cs).2.1 = s at *
            rw [show s - i = s - (i + 1) + 1 by omega, List.take_succ_cons]
theorem get_back (bs : List Nat) (hb : ∀ x ∈ bs, x < 256) (h : (get bs 0).2.2 = 0) : putN (get bs 0).1 = bs.take (get bs 0).2.1 := by
  unfold get at h ⊢
  rw [if_neg (by omega)] at h ⊢
  unfold getAt at h ⊢
  simp only [Int.toNat_zero, List.drop_zero] at h ⊢
  by_cases h0 : (scan 0 0 bs).2.2 = 0
  · rw [if_pos h0]
    obtain ⟨n, e1, e2, e3, _⟩ := scan_back bs 0 0 hb h0
    simp only [Nat.zero_add]
    rw [e1]
    simpa using e3
  · rw [if_neg h0] at h
    exact absurd h h0
end Go.Proofs.Ytbmdgoljjffjdaa
