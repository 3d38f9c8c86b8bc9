/- The landed grid: what it reckons, in plain numbers. -/
import Derived.Test.YtilekfappdlooaaGridBits
namespace Go.Proofs.Ytilekfappdlooaa
open Go.RowKit

theorem pow_exact {x D k : Nat} (hx : x < 18446744073709551616) (fx : expF x ≠ 2047) (hD : Ieee.double.read D = .number false 4503599627370496 (-1074 + ((1022 + k : Nat) : Int))) {X : Nat} (h2 : magF x * 2 ^ upF x = 2 ^ k * X) (hf : X ≠ 0 → FitF X) :
    ∃ r, Ieee.double.div x D = some r ∧ r < 18446744073709551616 ∧ expF r ≠ 2047 ∧ negF r = negF x ∧ valF r = sgn (negF x) X := by
  unfold Ieee.Format.div
  rw [read_fin hx fx, hD]
  have hm := magF_lt x
  have hpk := Nat.two_pow_pos k
  generalize upF x = a at *
  generalize magF x = m at *
  generalize negF x = s at *
  simp only [Ieee.Datum.quotient, show Ieee.double.fractionBits = 52 from rfl, log_52, Nat.shiftLeft_eq, Bool.xor_false]
  rw [if_neg (by decide)]
  refine ⟨_, rfl, ?_⟩
  by_cases hm0 : m = 0
  · subst hm0
    have hX : X = 0 := by
      rw [Nat.zero_mul] at h2
      rcases Nat.mul_eq_zero.1 h2.symm with h | h
      · omega
      · exact h
    subst hX
    rw [sgn_zero]
    simp only [Nat.zero_mul, Nat.zero_div, Nat.zero_mod, Nat.mul_zero, Nat.zero_add, bne_self_eq_false, Bool.toNat_false]
    have e : ∀ q, Ieee.double.write (.number s 0 q) = Ieee.double.word s 0 := fun q => by show Ieee.double.nearest s 0 q = _; unfold Ieee.Format.nearest; rw [if_pos rfl]
    rw [e]
    obtain ⟨h1, h2, _, h4, h5⟩ := val_word0 s
    exact ⟨h1, by show expF _ ≠ 2047; omega, h4, h5⟩
  · have hl : m.log2 ≤ 52 := by
      have := (Nat.log2_lt (k := 53) hm0).2 (by rw [show (2 : Nat) ^ 53 = 9007199254740992 from rfl]; exact hm)
      omega
    generalize ht : 52 + 2 + 52 - m.log2 = t
    have e1 : m * 2 ^ t = m * 2 ^ (t - 52) * 4503599627370496 := by
      rw [show (4503599627370496 : Nat) = 2 ^ 52 from rfl, Nat.mul_assoc, ← Nat.pow_add, Nat.sub_add_cancel (by omega)]
    rw [e1, Nat.mul_div_cancel _ (by decide), Nat.mul_mod_left]
    have e2 : 2 * (m * 2 ^ (t - 52)) + ((0 : Nat) != 0).toNat = m * 2 ^ (t - 51) := by
      rw [show t - 51 = (t - 52) + 1 by omega, Nat.pow_succ]
      show 2 * (m * 2 ^ (t - 52)) + 0 = _
      rw [Nat.add_zero, Nat.mul_comm 2, Nat.mul_assoc]
    rw [e2]
    have hX0 : X ≠ 0 := fun e => by
      rw [e, Nat.mul_zero] at h2
      rcases Nat.mul_eq_zero.1 h2 with h | h
      · exact hm0 h
      · have := Nat.two_pow_pos a; omega
    show (Ieee.double.nearest s (m * 2 ^ (t - 51)) _ < _) ∧ _
    by_cases hat : t + k ≤ a + 51
    · have e3 : (-1074 + (a : Int) - (-1074 + ((1022 + k : Nat) : Int)) - (t : Int) - 1) = -1074 + ((a + 51 - (t + k) : Nat) : Int) := by omega
      have e4 : m * 2 ^ (t - 51) * 2 ^ (a + 51 - (t + k)) = X := by
        refine Nat.eq_of_mul_eq_mul_left hpk ?_
        rw [← h2, Nat.mul_assoc, ← Nat.pow_add, Nat.mul_comm (2 ^ k), Nat.mul_assoc, ← Nat.pow_add, show t - 51 + (a + 51 - (t + k)) + k = a by omega]
      have e5 := nearest_exact s e4 hX0 (hf hX0)
      have e6 : Ieee.double.write (.number s (m * 2 ^ (t - 51)) (-1074 + (a : Int) - (-1074 + ((1022 + k : Nat) : Int)) - (t : Int) - 1)) = Ieee.double.word s (rungF X) := by
        rw [e3]; exact e5
      rw [e6]
      rw [e3, e5]
      exact word_val s hX0 (hf hX0)
    · obtain ⟨p, hp⟩ : ∃ p, t + k = a + 51 + p := ⟨t + k - (a + 51), by omega⟩
      have e3 : (-1074 + (a : Int) - (-1074 + ((1022 + k : Nat) : Int)) - (t : Int) - 1) = -1074 - (p : Int) := by omega
      have e4 : m * 2 ^ (t - 51) = X * 2 ^ p := by
        refine Nat.eq_of_mul_eq_mul_left hpk ?_
        rw [← Nat.mul_assoc (2 ^ k) X, ← h2, Nat.mul_assoc, ← Nat.pow_add, Nat.mul_comm (2 ^ k), Nat.mul_assoc, ← Nat.pow_add, show t - 51 + k = a + p by omega]
      have e5 := nearest_below s (p := p) hX0 (hf hX0)
      have e6 : Ieee.double.write (.number s (m * 2 ^ (t - 51)) (-1074 + (a : Int) - (-1074 + ((1022 + k : Nat) : Int)) - (t : Int) - 1)) = Ieee.double.word s (rungF X) := by
        rw [e3, e4]; exact e5
      rw [e6]
      rw [e3, e4, e5]
      exact word_val s hX0 (hf hX0)
theorem pow_word {k : Nat} (hk : k ≤ 30) : fbits ((2 ^ k : Nat) : Int) 0 = (1023 + k) * 4503599627370496 ∧ Ieee.double.read ((1023 + k) * 4503599627370496) = .number false 4503599627370496 (-1074 + ((1022 + k : Nat) : Int)) := by
  have hp : 2 ^ k ≤ 2 ^ 30 := Nat.pow_le_pow_right (by decide) hk
  rw [show (2 : Nat) ^ 30 = 1073741824 from rfl] at hp
  have hpos := Nat.two_pow_pos k
  obtain ⟨a1, a2, a3, a4⟩ := fbits_is (n := ((2 ^ k : Nat) : Int)) (k := 0) (by omega)
  have b1 : expF ((1023 + k) * 4503599627370496) = 1023 + k := by unfold expF; omega
  have b2 : fracF ((1023 + k) * 4503599627370496) = 0 := by unfold fracF; omega
  have b3 : negF ((1023 + k) * 4503599627370496) = false := by unfold negF; rw [beq_eq_false_iff_ne]; omega
  have b4 : magF ((1023 + k) * 4503599627370496) = 4503599627370496 := by unfold magF; rw [b1, b2, if_neg (by omega)]
  have b5 : upF ((1023 + k) * 4503599627370496) = 1022 + k := by unfold upF; rw [b1]; omega
  have hl := lowF_nat
  have b6 : valF ((1023 + k) * 4503599627370496) = ((2 ^ k : Nat) : Int) * ((2 ^ lowF : Nat) : Int) := by
    unfold valF
    rw [b3, b4, b5, show (4503599627370496 : Nat) = 2 ^ 52 from rfl, ← Nat.pow_add, show 52 + (1022 + k) = k + lowF by omega, Nat.pow_add]
    rw [← Int.natCast_mul]
    rfl
  constructor
  · refine val_same a1 (by omega) a2 (by omega) ?_ ?_
    · rw [a4]
      exact Int.mul_ne_zero (by omega) (by have := Nat.two_pow_pos (lowF - 0); omega)
    · rw [a4, b6, Nat.sub_zero]
  · rw [read_fin (by omega) (by omega), b3, b4, b5]
theorem fbits_pow {n : Int} {k : Nat} (hn : n.natAbs < 9007199254740992) (hk : k ≤ 30) : Ieee.double.div (fbits n 0) (fbits ((2 ^ k : Nat) : Int) 0) = some (fbits n k) := by
  obtain ⟨a1, a2, a3, a4⟩ := fbits_is (k := 0) hn
  obtain ⟨b1, b2, b3, b4⟩ := fbits_is (k := k) hn
  have hl := lowF_nat
  obtain ⟨d1, d2⟩ := pow_word hk
  rw [d1]
  have hX : magF (fbits n 0) * 2 ^ upF (fbits n 0) = 2 ^ k * (n.natAbs * 2 ^ (lowF - k)) := by
    rw [← val_abs, a4, Int.natAbs_mul, Int.natAbs_natCast, Nat.mul_comm (2 ^ k), Nat.mul_assoc, ← Nat.pow_add, Nat.sub_add_cancel (by omega), Nat.sub_zero]
  obtain ⟨r, c1, c2, c3, c4, c5⟩ := pow_exact a1 a2 d2 hX (fun h => fit_of (fun e => h (by rw [e, Nat.zero_mul])) hn (by omega))
  have e : valF r = valF (fbits n k) := by rw [c5, a3, sgn_mul, sgn_natAbs, b4]
  rw [c1]
  congr 1
  by_cases h : n = 0
  · subst h
    have z1 := pos_zero c2 (by rw [c4, a3]; rfl) (by rw [e, b4, Int.zero_mul])
    rw [z1]
    rfl
  · refine val_same c2 b1 c3 b2 ?_ e
    rw [e, b4]
    exact Int.mul_ne_zero h (by have := Nat.two_pow_pos (lowF - k); omega)
theorem coord_big (s : Bool) {n : Nat} (h : 4294967296 ≤ n) : coordF (sgn s n) = false := by
  refine decide_eq_false ?_
  unfold sgn
  split <;> omega
/-- What Scaled tells, by the pieces. -/
theorem scaled_by {b : Nat} {up : Int} (hu : 0 ≤ up ∧ up ≤ 30) (k0 : kindF b ≠ 0) : scaledF b up =
    if (magF b = 0 ∧ negF b = true) ∨ (splitF (upF b + 1) (magF b) up).2.1 ≠ 0 ∨ coordF (sgn (negF b) (splitF (upF b + 1) (magF b) up).1) = false then (0, 71) else (sgn (negF b) (splitF (upF b + 1) (magF b) up).1, 0) := by
  have hf := fracF_lt b
  have he := expF_lt b
  have hm : magF b = if expF b = 0 then fracF b else 4503599627370496 + fracF b := rfl
  have hup : upF b = expF b - 1 := rfl
  unfold scaledF
  rw [if_neg (by omega), if_neg k0]
  by_cases h47 : expF b = 2047
  · have hk : kindF b = 1 ∨ kindF b = 2 := by
      revert k0
      unfold kindF
      rw [if_pos h47]
      (repeat' split) <;> simp
    rw [if_neg (by omega), if_pos (by omega), if_pos]
    right; right
    rw [show splitF (upF b + 1) (magF b) up = (4503599627370496, 0, 1) from if_pos (by omega)]
    exact coord_big _ (by decide)
  by_cases h0 : expF b = 0
  · rw [if_pos h0] at hm
    have hsp : splitF (upF b + 1) (magF b) up = (0, magF b, 9007199254740992) := by
      unfold splitF
      rw [if_neg (by omega), show (min (1075 - ((upF b + 1 : Nat) : Int) - up) 54).toNat = 54 by omega, show (2 : Nat) ^ 54 = 18014398509481984 from rfl, Nat.div_eq_of_lt (by omega), Nat.mod_eq_of_lt (by omega)]
    rw [hsp]
    by_cases hz : fracF b = 0
    · have hk : kindF b = if negF b then 4 else 3 := by unfold kindF; rw [if_neg h47, if_pos h0, if_pos hz]
      cases hs : negF b with
      | true =>
        rw [hs] at hk
        rw [if_neg (by rw [hk]; decide), if_pos (by rw [hk]; decide), if_pos]
        exact Or.inl ⟨by omega, rfl⟩
      | false =>
        rw [hs] at hk
        rw [if_pos (by rw [hk]; rfl), if_neg]
        · rfl
        · rintro (h | h | h)
          · exact absurd h.2 (by decide)
          · exact h (by show magF b = 0; omega)
          · exact absurd (show coordF (sgn false 0) = false from h) (by decide)
    · have hk : kindF b = 5 := by unfold kindF; rw [if_neg h47, if_pos h0, if_neg hz]
      rw [if_neg (by omega), if_pos (by omega), if_pos]
      exact Or.inr (Or.inl (show magF b ≠ 0 by omega))
  · rw [if_neg h0] at hm
    have hk : kindF b = 6 := by unfold kindF; rw [if_neg h47, if_neg h0]
    rw [if_neg (by omega), if_neg (by omega), ← hm]
    have hz : 1075 - ((upF b + 1 : Nat) : Int) - up = -((expF b : Int) - 1075 + up) := by omega
    unfold splitF
    rw [hz]
    generalize (expF b : Int) - 1075 + up = z at *
    generalize magF b = d at *
    clear hz hup h0 h47 he hk k0
    by_cases h1 : -z ≤ 0
    · rw [if_neg (by omega), if_pos h1, if_pos]
      exact Or.inr (Or.inr (coord_big _ (by decide)))
    · rw [if_neg h1]
      by_cases h2 : 54 < -z
      · have hp : 2 ^ 54 ≤ 2 ^ (-z).toNat := Nat.pow_le_pow_right (by decide) (by omega)
        rw [show (2 : Nat) ^ 54 = 18014398509481984 from rfl] at hp
        rw [if_neg (by rw [Nat.mod_eq_of_lt (by omega)]; omega), if_pos]
        right; left
        show d % 2 ^ (min (-z) 54).toNat ≠ 0
        rw [show (min (-z) 54).toNat = 54 by omega, show (2 : Nat) ^ 54 = 18014398509481984 from rfl, Nat.mod_eq_of_lt (by omega)]
        omega
      · rw [show (min (-z) 54).toNat = (-z).toNat by omega]
        show (if z < 0 ∧ d % 2 ^ (-z).toNat = 0 ∧ coordF (sgn (negF b) (d / 2 ^ (-z).toNat)) = true then (sgn (negF b) (d / 2 ^ (-z).toNat), 0) else ((0 : Int), 71)) = if (d = 0 ∧ negF b = true) ∨ d % 2 ^ (-z).toNat ≠ 0 ∨ coordF (sgn (negF b) (d / 2 ^ (-z).toNat)) = false then (0, 71) else (sgn (negF b) (d / 2 ^ (-z).toNat), 0)
        generalize d % 2 ^ (-z).toNat = r
        generalize sgn (negF b) (d / 2 ^ (-z).toNat) = q
        by_cases h3 : r = 0
        · cases h4 : coordF q with
          | true => rw [if_pos ⟨by omega, h3, rfl⟩, if_neg]; rintro (h | h | h); · omega
                    · exact h h3
                    · exact absurd h (by decide)
          | false => rw [if_neg (fun h => absurd h.2.2 (by decide)), if_pos (Or.inr (Or.inr rfl))]
        · rw [if_neg (fun h => h3 h.2.1), if_pos (Or.inr (Or.inl h3))]
/-- The whole number next to it, by the pieces. -/
def upone (t : Nat × Nat × Nat) : Nat := if t.2.2 < t.2.1 ∨ (t.2.1 = t.2.2 ∧ t.1 % 2 ≠ 0) then t.1 + 1 else t.1
theorem round_by {b : Nat} (k0 : kindF b ≠ 0) : roundF b = if coordF (sgn (negF b) (upone (splitF (upF b + 1) (magF b) 0))) = true then (sgn (negF b) (upone (splitF (upF b + 1) (magF b) 0)), 0) else (0, 3) := by
  have hf := fracF_lt b
  have he := expF_lt b
  have hml := magF_lt b
  have hm : magF b = if expF b = 0 then fracF b else 4503599627370496 + fracF b := rfl
  have hup : upF b = expF b - 1 := rfl
  have hl := lowF_nat
  unfold roundF
  rw [if_neg k0]
  by_cases h47 : expF b = 2047
  · have hk : kindF b = 1 ∨ kindF b = 2 := by
      revert k0
      unfold kindF
      rw [if_pos h47]
      (repeat' split) <;> simp
    rw [if_pos (by omega), show splitF (upF b + 1) (magF b) 0 = (4503599627370496, 0, 1) from if_pos (by omega)]
    rw [show upone (4503599627370496, 0, 1) = 4503599627370496 from by decide, coord_big _ (by decide), if_neg (by decide)]
  have hk : ¬ (kindF b = 1 ∨ kindF b = 2) := by
    unfold kindF
    rw [if_neg h47]
    (repeat' split) <;> simp
  by_cases hz : lowF ≤ upF b
  · rw [show splitF (upF b + 1) (magF b) 0 = (4503599627370496, 0, 1) from if_pos (by omega), show upone (4503599627370496, 0, 1) = 4503599627370496 from by decide, coord_big (negF b) (n := 4503599627370496) (by decide), if_neg (show ¬ (false = true) by decide), if_pos]
    right; right
    rw [if_neg (by omega)] at hm
    unfold absF unitF
    rw [show (2 : Nat) ^ upF b = 2 ^ (upF b - lowF) * 2 ^ lowF by rw [← Nat.pow_add, Nat.sub_add_cancel hz], ← Nat.mul_assoc]
    refine Nat.mul_lt_mul_of_pos_right ?_ (Nat.two_pow_pos _)
    have := Nat.le_mul_of_pos_right (magF b) (Nat.two_pow_pos (upF b - lowF))
    omega
  · have hU : unitF = 2 ^ (lowF - upF b) * 2 ^ upF b := by unfold unitF; rw [← Nat.pow_add, Nat.sub_add_cancel (by omega)]
    have hpos := Nat.two_pow_pos (upF b)
    have hq : absF b / unitF = magF b / 2 ^ (lowF - upF b) := by unfold absF; rw [hU, Nat.mul_div_mul_right _ _ hpos]
    have hr : absF b % unitF = magF b % 2 ^ (lowF - upF b) * 2 ^ upF b := by unfold absF; rw [hU, Nat.mul_mod_mul_right]
    have hn : nearF b = if 2 ^ (lowF - upF b) < 2 * (magF b % 2 ^ (lowF - upF b)) ∨ (2 ^ (lowF - upF b) = 2 * (magF b % 2 ^ (lowF - upF b)) ∧ magF b / 2 ^ (lowF - upF b) % 2 = 1) then magF b / 2 ^ (lowF - upF b) + 1 else magF b / 2 ^ (lowF - upF b) := by
      unfold nearF
      rw [hq, hr, hU, ← Nat.mul_assoc]
      have a1 : 2 ^ (lowF - upF b) * 2 ^ upF b < 2 * (magF b % 2 ^ (lowF - upF b)) * 2 ^ upF b ↔ 2 ^ (lowF - upF b) < 2 * (magF b % 2 ^ (lowF - upF b)) := Nat.mul_lt_mul_right hpos
      have a2 : 2 ^ (lowF - upF b) * 2 ^ upF b = 2 * (magF b % 2 ^ (lowF - upF b)) * 2 ^ upF b ↔ 2 ^ (lowF - upF b) = 2 * (magF b % 2 ^ (lowF - upF b)) := Nat.mul_right_cancel_iff hpos
      simp only [a1, a2]
    have hs : upone (splitF (upF b + 1) (magF b) 0) = nearF b := by
      rw [hn]
      unfold splitF
      rw [if_neg (by omega)]
      by_cases h54 : lowF - upF b ≤ 54
      · rw [show (min (1075 - ((upF b + 1 : Nat) : Int) - 0) 54).toNat = lowF - upF b by omega]
        obtain ⟨j, hj⟩ : ∃ j, lowF - upF b = j + 1 := ⟨lowF - upF b - 1, by omega⟩
        rw [hj]
        have hp2 : 2 ^ (j + 1) = 2 * 2 ^ j := by rw [Nat.pow_succ, Nat.mul_comm]
        generalize hP : 2 ^ (j + 1) = P at *
        generalize 2 ^ j = H at *
        unfold upone
        simp only
        generalize magF b % P = r at *
        generalize magF b / P = q at *
        have e1 : (P / 2 < r ∨ (r = P / 2 ∧ q % 2 ≠ 0)) ↔ (P < 2 * r ∨ (P = 2 * r ∧ q % 2 = 1)) := by omega
        simp only [e1]
      · rw [show (min (1075 - ((upF b + 1 : Nat) : Int) - 0) 54).toNat = 54 by omega, show (2 : Nat) ^ 54 = 18014398509481984 from rfl]
        have hp : 2 ^ 54 ≤ 2 ^ (lowF - upF b) := Nat.pow_le_pow_right (by decide) (by omega)
        rw [show (2 : Nat) ^ 54 = 18014398509481984 from rfl] at hp
        generalize 2 ^ (lowF - upF b) = P at *
        rw [Nat.mod_eq_of_lt (show magF b < 18014398509481984 by omega), Nat.div_eq_of_lt (show magF b < 18014398509481984 by omega), Nat.mod_eq_of_lt (show magF b < P by omega), Nat.div_eq_of_lt (show magF b < P by omega)]
        unfold upone
        simp only
        rw [if_neg (by omega), if_neg (by omega)]
    rw [hs]
    by_cases hbig : 4294967296 * unitF < absF b
    · have h1 : 4294967296 ≤ absF b / unitF := (Nat.le_div_iff_mul_le unit_pos).2 (Nat.le_of_lt hbig)
      have h2 : 4294967296 ≤ nearF b := by unfold nearF; split <;> omega
      rw [if_pos (Or.inr (Or.inr hbig)), coord_big _ h2, if_neg (by decide)]
    · rw [if_neg (fun h => by rcases h with h | h | h; · exact hk (Or.inl h)
                              · exact hk (Or.inr h)
                              · exact hbig h)]
theorem upone_lt {p d : Nat} {up : Int} (hd : d < 9007199254740992) : (splitF p d up).1 < 9007199254740991 ∧ upone (splitF p d up) < 9007199254740992 := by
  have h : (splitF p d up).1 < 9007199254740991 := by
    unfold splitF
    split
    · decide
    · rename_i h
      show d / 2 ^ (min (1075 - (p : Int) - up) 54).toNat < _
      obtain ⟨j, hj⟩ : ∃ j, (min (1075 - (p : Int) - up) 54).toNat = j + 1 := ⟨(min (1075 - (p : Int) - up) 54).toNat - 1, by omega⟩
      rw [hj, Nat.pow_succ, Nat.mul_comm, ← Nat.div_div_eq_div_mul]
      have := Nat.div_le_self (d / 2) (2 ^ j)
      omega
  refine ⟨h, ?_⟩
  unfold upone
  split <;> omega
end Go.Proofs.Ytilekfappdlooaa
