/- Layer 7 in plain numbers: what a double's 64 bits stand for, as a whole number of the least unit. -/
import Derived.Laws.FloatArith
import Derived.Lib.Hide
namespace Go.Proofs.Ytilekfappdlooaa

/-- The fields of 64 bits. -/
def negF (b : Nat) : Bool := b / 9223372036854775808 == 1
def expF (b : Nat) : Nat := b / 4503599627370496 % 2048
def fracF (b : Nat) : Nat := b % 4503599627370496
def kindF (b : Nat) : Nat := if expF b = 2047 then (if fracF b ≠ 0 then 0 else if negF b then 2 else 1) else if expF b = 0 then (if fracF b = 0 then (if negF b then 4 else 3) else 5) else 6
theorem bits_split (b : Nat) (h : b < 18446744073709551616) : b = (if negF b then 9223372036854775808 else 0) + expF b * 4503599627370496 + fracF b := by
  unfold negF expF fracF
  by_cases hn : b / 9223372036854775808 = 1
  · simp only [hn, beq_self_eq_true, if_true]; omega
  · rw [if_neg (by simpa using hn)]; omega
theorem expF_lt (b : Nat) : expF b < 2048 := Nat.mod_lt _ (by decide)
theorem fracF_lt (b : Nat) : fracF b < 4503599627370496 := Nat.mod_lt _ (by decide)
theorem dbl_binade : Ieee.double.binade = 4503599627370496 := by decide
theorem dbl_sign : Ieee.double.signWeight = 9223372036854775808 := by decide
theorem dbl_inf : Ieee.double.infRung = 2047 * 4503599627370496 := by decide
theorem dbl_least : Ieee.double.leastPlace = -1074 := by decide
/-- What the bits stand for. -/
theorem read_is (b : Nat) (h : b < 18446744073709551616) : Ieee.double.read b = if expF b = 0 then .number (negF b) (fracF b) (-1074) else if expF b = 2047 then (if fracF b = 0 then .infinity (negF b) else .nan (negF b) (fracF b)) else .number (negF b) (4503599627370496 + fracF b) (-1074 + ((expF b - 1 : Nat) : Int)) := by
  unfold Ieee.Format.read
  simp only [dbl_binade, dbl_sign, dbl_inf, dbl_least]
  have hneg : (b / 9223372036854775808 % 2 == 1) = negF b := by unfold negF; rw [Nat.mod_eq_of_lt (by omega)]
  have hr : b % 9223372036854775808 = expF b * 4503599627370496 + fracF b := by unfold expF fracF; omega
  have he := expF_lt b
  have hf := fracF_lt b
  rw [hneg, hr]
  generalize expF b = e at *
  generalize fracF b = m at *
  by_cases h0 : e = 0
  · subst h0
    rw [if_pos (by omega), if_pos rfl]; simp
  · rw [if_neg (by omega), if_neg h0]
    by_cases h1 : e = 2047
    · subst h1
      rw [if_neg (by omega), if_pos rfl]
      by_cases h2 : m = 0
      · subst h2; rw [if_pos (by omega), if_pos rfl]
      · rw [if_neg (by omega), if_neg h2, Nat.add_sub_cancel_left]
    · rw [if_pos (by omega), if_neg h1, show (e * 4503599627370496 + m) % 4503599627370496 = m by omega, show (e * 4503599627370496 + m) / 4503599627370496 = e by omega]

/-- A finite double: so many units of 2^-1074, a power of two times. -/
def magF (b : Nat) : Nat := if expF b = 0 then fracF b else 4503599627370496 + fracF b
def upF (b : Nat) : Nat := expF b - 1
theorem magF_lt (b : Nat) : magF b < 9007199254740992 := by
  have := fracF_lt b
  unfold magF
  split <;> omega
theorem read_fin {b : Nat} (h : b < 18446744073709551616) (hf : expF b ≠ 2047) : Ieee.double.read b = .number (negF b) (magF b) (-1074 + ((upF b : Nat) : Int)) := by
  rw [read_is b h]
  unfold magF upF
  by_cases h0 : expF b = 0
  · rw [if_pos h0, if_pos h0, h0]; rfl
  · rw [if_neg h0, if_neg hf, if_neg h0]
/-- With a sign. -/
def sgn (s : Bool) (n : Nat) : Int := if s then -(n : Int) else (n : Int)
theorem sgn_abs (s : Bool) (n : Nat) : (sgn s n).natAbs = n := by unfold sgn; split <;> omega
/-- How many units a finite double is. -/
def valF (b : Nat) : Int := sgn (negF b) (magF b * 2 ^ upF b)
theorem signed_is (s : Bool) (m u : Nat) : Ieee.signed s m u = sgn s (m * 2 ^ u) := by unfold Ieee.signed sgn; rw [Nat.shiftLeft_eq]
theorem sgn_mul (s : Bool) (n k : Nat) : sgn s (n * k) = sgn s n * (k : Int) := by
  unfold sgn
  split
  · rw [Int.natCast_mul, Int.neg_mul]
  · rw [Int.natCast_mul]
theorem compare_mul (x y : Int) {k : Nat} (hk : 0 < k) : compare (x * (k : Int)) (y * (k : Int)) = compare x y := by
  have hk' : (0 : Int) < (k : Int) := by omega
  rcases Int.lt_trichotomy x y with h | h | h
  · have h2 : x * (k : Int) < y * (k : Int) := Int.mul_lt_mul_of_pos_right h hk'
    simp only [compare, compareOfLessAndEq, h, h2, if_true]
  · subst h; simp only [compare, compareOfLessAndEq, Int.lt_irrefl, if_false, if_true]
  · have h2 : y * (k : Int) < x * (k : Int) := Int.mul_lt_mul_of_pos_right h hk'
    simp only [compare, compareOfLessAndEq]
    rw [if_neg (by omega), if_neg (by omega), if_neg (by omega), if_neg (by omega)]
theorem order_fin {x y : Nat} (hx : x < 18446744073709551616) (hy : y < 18446744073709551616) (fx : expF x ≠ 2047) (fy : expF y ≠ 2047) : Ieee.double.order x y = some (compare (valF x) (valF y)) := by
  unfold Ieee.Format.order
  rw [read_fin hx fx, read_fin hy fy]
  unfold Ieee.Datum.order
  simp only [signed_is]
  unfold valF
  generalize upF x = a
  generalize upF y = c
  generalize magF x = m
  generalize magF y = n
  have e1 : (-1074 + (a : Int) - min (-1074 + (a : Int)) (-1074 + (c : Int))).toNat = a - min a c := by omega
  have e2 : (-1074 + (c : Int) - min (-1074 + (a : Int)) (-1074 + (c : Int))).toNat = c - min a c := by omega
  rw [e1, e2]
  have f1 : m * 2 ^ a = m * 2 ^ (a - min a c) * 2 ^ min a c := by rw [Nat.mul_assoc, ← Nat.pow_add]; congr 2; omega
  have f2 : n * 2 ^ c = n * 2 ^ (c - min a c) * 2 ^ min a c := by rw [Nat.mul_assoc, ← Nat.pow_add]; congr 2; omega
  rw [f1, f2, sgn_mul _ (m * 2 ^ (a - min a c)), sgn_mul _ (n * 2 ^ (c - min a c)), compare_mul _ _ (Nat.two_pow_pos _)]
/-- A NaN stands in no order. -/
theorem order_nan {x : Nat} (hx : x < 18446744073709551616) (fx : expF x = 2047) (mx : fracF x ≠ 0) (y : Nat) : Ieee.double.order x y = none ∧ Ieee.double.order y x = none := by
  unfold Ieee.Format.order
  rw [read_is x hx, if_neg (by omega), if_pos fx, if_neg mx]
  constructor
  · rfl
  · cases Ieee.double.read y <;> rfl

/-- The rung of so many units, where a double has just that many. -/
def rungF (X : Nat) : Nat := (X.log2 - 52) * 4503599627370496 + X / 2 ^ (X.log2 - 52)
/-- So many units are those of a double. -/
def FitF (X : Nat) : Prop := 2 ^ (X.log2 - 52) ∣ X ∧ X.log2 ≤ 2097
theorem log_bounds {X : Nat} (h : X ≠ 0) : 2 ^ X.log2 ≤ X ∧ X < 2 ^ (X.log2 + 1) := ⟨Nat.log2_self_le h, Nat.lt_log2_self⟩
theorem kept_bounds {X : Nat} (h : X ≠ 0) : X / 2 ^ (X.log2 - 52) < 9007199254740992 ∧ (52 ≤ X.log2 → 4503599627370496 ≤ X / 2 ^ (X.log2 - 52)) := by
  obtain ⟨h1, h2⟩ := log_bounds h
  constructor
  · rw [Nat.div_lt_iff_lt_mul (Nat.two_pow_pos _), show (9007199254740992 : Nat) = 2 ^ 53 from rfl, ← Nat.pow_add]
    exact Nat.lt_of_lt_of_le h2 (Nat.pow_le_pow_right (by decide) (by omega))
  · intro h3
    rw [Nat.le_div_iff_mul_le (Nat.two_pow_pos _), show (4503599627370496 : Nat) = 2 ^ 52 from rfl, ← Nat.pow_add, show 52 + (X.log2 - 52) = X.log2 by omega]
    exact h1
theorem word_parts (s : Bool) {q k : Nat} (hq : q ≤ 2045) (hk : k < 9007199254740992) : let b := Ieee.double.word s (q * 4503599627370496 + k)
    b < 18446744073709551616 ∧ negF b = s ∧ expF b = q + k / 4503599627370496 ∧ fracF b = k % 4503599627370496 := by
  simp only [Ieee.Format.word, dbl_sign]
  unfold negF expF fracF
  cases s
  · simp only [Bool.false_eq_true, if_false]
    refine ⟨by omega, ?_, by omega, by omega⟩
    rw [show (q * 4503599627370496 + k) / 9223372036854775808 = 0 by omega]; rfl
  · simp only [if_true]
    refine ⟨by omega, ?_, by omega, by omega⟩
    rw [show (9223372036854775808 + (q * 4503599627370496 + k)) / 9223372036854775808 = 1 by omega]; rfl
theorem word_val (s : Bool) {X : Nat} (h : X ≠ 0) (hf : FitF X) : let b := Ieee.double.word s (rungF X)
    b < 18446744073709551616 ∧ expF b ≠ 2047 ∧ negF b = s ∧ valF b = sgn s X := by
  obtain ⟨hk1, hk2⟩ := kept_bounds h
  obtain ⟨hd, hl⟩ := hf
  have hX : X / 2 ^ (X.log2 - 52) * 2 ^ (X.log2 - 52) = X := Nat.div_mul_cancel hd
  have hq : X.log2 - 52 ≤ 2045 := by omega
  obtain ⟨h1, h2, h3, h4⟩ := word_parts s hq hk1
  simp only
  unfold rungF
  generalize X / 2 ^ (X.log2 - 52) = k at *
  generalize hq' : X.log2 - 52 = q at *
  generalize Ieee.double.word s (q * 4503599627370496 + k) = b at *
  refine ⟨h1, by omega, h2, ?_⟩
  unfold valF magF upF
  rw [h2, h3, h4]
  by_cases hq0 : q = 0
  · subst hq0
    rw [Nat.pow_zero, Nat.mul_one] at hX
    subst hX
    by_cases he : k / 4503599627370496 = 0
    · rw [if_pos (by omega), he]
      simp only [Nat.zero_add, Nat.zero_sub, Nat.pow_zero, Nat.mul_one]
      congr 1; omega
    · rw [if_neg (by omega), show 0 + k / 4503599627370496 - 1 = 0 by omega, Nat.pow_zero, Nat.mul_one]
      congr 1; omega
  · have h5 := hk2 (by omega)
    rw [if_neg (by omega), show q + k / 4503599627370496 - 1 = q by omega, show 4503599627370496 + k % 4503599627370496 = k by omega, hX]

theorem log_shift {m : Nat} (h : m ≠ 0) (a : Nat) : (m * 2 ^ a).log2 = m.log2 + a := by
  have hp := Nat.two_pow_pos a
  have h0 : m * 2 ^ a ≠ 0 := Nat.mul_ne_zero h (by omega)
  obtain ⟨h1, h2⟩ := log_bounds h
  apply Nat.le_antisymm
  · have : m * 2 ^ a < 2 ^ (m.log2 + a + 1) := by
      rw [show m.log2 + a + 1 = (m.log2 + 1) + a by omega, Nat.pow_add]
      exact Nat.mul_lt_mul_of_pos_right h2 hp
    have := (Nat.log2_lt h0).2 this
    omega
  · rw [Nat.le_log2 h0, Nat.pow_add]
    exact Nat.mul_le_mul_right _ h1
theorem cut_exact (s : Bool) {q : Nat} (hq : q ≠ 0) (d : Nat) : Ieee.Toward.even.cut s (q * 2 ^ d) d = q := by
  have hp := Nat.two_pow_pos d
  unfold Ieee.Toward.cut
  simp only [Nat.shiftLeft_eq, Nat.one_mul]
  rw [log_shift hq, Nat.min_eq_left (by omega), Nat.mul_div_cancel _ hp, Nat.mul_mod_left]
  have e1 : decide (2 ^ d < 2 * 0) = false := by simp
  have e2 : (2 ^ d == 2 * 0) = false := beq_eq_false_iff_ne.2 (by omega)
  rw [e1, e2]
  rfl
theorem nearest_exact (s : Bool) {mag a X : Nat} (hm : mag * 2 ^ a = X) (h : X ≠ 0) (hf : FitF X) : Ieee.double.nearest s mag (-1074 + (a : Int)) = Ieee.double.word s (rungF X) := by
  have hmag : mag ≠ 0 := fun e => h (by rw [← hm, e, Nat.zero_mul])
  have hlog : X.log2 = mag.log2 + a := by rw [← hm, log_shift hmag]
  obtain ⟨hk1, _⟩ := kept_bounds h
  obtain ⟨hd, hl⟩ := hf
  unfold Ieee.Format.nearest rungF
  rw [if_neg hmag]
  simp only [dbl_least, dbl_binade, dbl_inf, show Ieee.double.fractionBits = 52 from rfl]
  generalize hq : X.log2 - 52 = q at *
  have e1 : max (-1074 + (a : Int) + (mag.log2 : Int) - ((52 : Nat) : Int)) (-1074) = -1074 + (q : Int) := by omega
  rw [e1, show (-1074 + (a : Int) - (-1074 + (q : Int))).toNat = a - q by omega, show (-1074 + (q : Int) - (-1074 + (a : Int))).toNat = q - a by omega, show (-1074 + (q : Int) - -1074).toNat = q by omega, Nat.shiftLeft_eq]
  have e2 : Ieee.Toward.even.cut s (mag * 2 ^ (a - q)) (q - a) = X / 2 ^ q := by
    by_cases hqa : q ≤ a
    · have hz : mag * 2 ^ (a - q) ≠ 0 := Nat.mul_ne_zero hmag (by have := Nat.two_pow_pos (a - q); omega)
      have h1 := cut_exact s hz 0
      rw [Nat.pow_zero, Nat.mul_one] at h1
      rw [show q - a = 0 by omega, h1]
      have h2 : X = mag * 2 ^ (a - q) * 2 ^ q := by rw [Nat.mul_assoc, ← Nat.pow_add, Nat.sub_add_cancel hqa, hm]
      rw [h2, Nat.mul_div_cancel _ (Nat.two_pow_pos q)]
    · have h3 : 2 ^ (q - a) ∣ mag := by
        have h4 : 2 ^ (q - a) * 2 ^ a ∣ mag * 2 ^ a := by rw [← Nat.pow_add, Nat.sub_add_cancel (by omega), hm]; exact hd
        exact Nat.dvd_of_mul_dvd_mul_right (Nat.two_pow_pos a) h4
      obtain ⟨z, hz⟩ := h3
      have hz0 : z ≠ 0 := fun e => hmag (by rw [hz, e, Nat.mul_zero])
      rw [show a - q = 0 by omega, Nat.pow_zero, Nat.mul_one, hz, Nat.mul_comm, cut_exact s hz0]
      have h5 : X = z * 2 ^ q := by rw [← hm, hz, Nat.mul_comm _ z, Nat.mul_assoc, ← Nat.pow_add, Nat.sub_add_cancel (by omega)]
      rw [h5, Nat.mul_div_cancel _ (Nat.two_pow_pos q)]
  rw [e2, Nat.min_eq_left (by omega)]
/-- From further below the least place. -/
theorem nearest_below (s : Bool) {X p : Nat} (h : X ≠ 0) (hf : FitF X) : Ieee.double.nearest s (X * 2 ^ p) (-1074 - (p : Int)) = Ieee.double.word s (rungF X) := by
  have hp := Nat.two_pow_pos p
  have hmag : X * 2 ^ p ≠ 0 := Nat.mul_ne_zero h (by omega)
  have hlog := log_shift h p
  obtain ⟨hk1, _⟩ := kept_bounds h
  obtain ⟨hd, hl⟩ := hf
  unfold Ieee.Format.nearest rungF
  rw [if_neg hmag]
  simp only [dbl_least, dbl_binade, dbl_inf, show Ieee.double.fractionBits = 52 from rfl]
  rw [hlog]
  generalize hq : X.log2 - 52 = q at *
  have e1 : max (-1074 - (p : Int) + ((X.log2 + p : Nat) : Int) - ((52 : Nat) : Int)) (-1074) = -1074 + (q : Int) := by omega
  rw [e1, show (-1074 - (p : Int) - (-1074 + (q : Int))).toNat = 0 by omega, show (-1074 + (q : Int) - (-1074 - (p : Int))).toNat = q + p by omega, show (-1074 + (q : Int) - -1074).toNat = q by omega, Nat.shiftLeft_eq, Nat.pow_zero, Nat.mul_one]
  obtain ⟨z, hz⟩ := hd
  have hz0 : z ≠ 0 := fun e => h (by rw [hz, e, Nat.mul_zero])
  have e2 : X * 2 ^ p = z * 2 ^ (q + p) := by rw [hz, Nat.mul_comm _ z, Nat.mul_assoc, ← Nat.pow_add]
  rw [e2, cut_exact s hz0]
  have e3 : X / 2 ^ q = z := by rw [hz, Nat.mul_div_cancel_left _ (Nat.two_pow_pos q)]
  rw [e3] at hk1 ⊢
  rw [Nat.min_eq_left (by omega)]

theorem fit_of {M c : Nat} (h0 : M ≠ 0) (h : M < 9007199254740992) (hc : c ≤ 2045) : FitF (M * 2 ^ c) := by
  have hl : M.log2 ≤ 52 := by
    have := (Nat.log2_lt (k := 53) h0).2 (by rw [show (2 : Nat) ^ 53 = 9007199254740992 from rfl]; exact h)
    omega
  constructor
  · rw [log_shift h0]
    exact Nat.dvd_trans (Nat.pow_dvd_pow 2 (show M.log2 + c - 52 ≤ c by omega)) (Nat.dvd_mul_left _ _)
  · rw [log_shift h0]; omega
/-- One whole, in units. -/
def lowF : Nat := 1074
theorem lowF_is : (lowF : Int) = 1074 := rfl
theorem lowF_nat : lowF = 1074 := rfl
def unitF : Nat := 2 ^ lowF
theorem unit_pos : 0 < unitF := by unfold unitF; exact Nat.two_pow_pos lowF
theorem val_word0 (s : Bool) : let b := Ieee.double.word s 0; b < 18446744073709551616 ∧ expF b = 0 ∧ fracF b = 0 ∧ negF b = s ∧ valF b = 0 := by
  cases s <;> decide
theorem sgn_zero (s : Bool) : sgn s 0 = 0 := by cases s <;> rfl
theorem sgn_natAbs (n : Int) : sgn (decide (n < 0)) n.natAbs = n := by
  unfold sgn
  by_cases h : n < 0
  · rw [if_pos (by simpa using h)]; omega
  · rw [if_neg (by simpa using h)]; omega
/-- What comes of a number that a double has. -/
theorem write_val (s : Bool) {mag a : Nat} (h0 : mag * 2 ^ a ≠ 0 → FitF (mag * 2 ^ a)) : let b := Ieee.double.nearest s mag (-1074 + (a : Int))
    b < 18446744073709551616 ∧ expF b ≠ 2047 ∧ negF b = s ∧ valF b = sgn s (mag * 2 ^ a) := by
  by_cases h : mag * 2 ^ a = 0
  · have hm : mag = 0 := by
      rcases Nat.mul_eq_zero.1 h with h | h
      · exact h
      · have := Nat.two_pow_pos a; omega
    subst hm
    have e : Ieee.double.nearest s 0 (-1074 + (a : Int)) = Ieee.double.word s 0 := by unfold Ieee.Format.nearest; rw [if_pos rfl]
    rw [e, h, sgn_zero]
    obtain ⟨h1, h2, _, h4, h5⟩ := val_word0 s
    exact ⟨h1, by show expF _ ≠ 2047; omega, h4, h5⟩
  · simp only
    rw [nearest_exact s rfl h (h0 h)]
    exact word_val s h (h0 h)
theorem float_int {n : Int} (h : n.natAbs < 9007199254740992) : let b := FloatKind.nearest .f64 n
    b < 18446744073709551616 ∧ expF b ≠ 2047 ∧ negF b = decide (n < 0) ∧ valF b = n * (unitF : Int) := by
  have e : FloatKind.nearest .f64 n = Ieee.double.nearest (decide (n < 0)) n.natAbs (-1074 + (lowF : Int)) := by rw [show (-1074 + (lowF : Int)) = 0 by rw [lowF_is]; rfl]; rfl
  simp only
  rw [e]
  obtain ⟨h1, h2, h3, h4⟩ := write_val (decide (n < 0)) (mag := n.natAbs) (a := lowF) (fun h' => fit_of (fun e => h' (by rw [e, Nat.zero_mul])) h (by rw [lowF_nat]; decide))
  refine ⟨h1, h2, h3, ?_⟩
  rw [h4, sgn_mul, sgn_natAbs]
  unfold unitF
  rfl
theorem sub_exact {x y : Nat} (hx : x < 18446744073709551616) (hy : y < 18446744073709551616) (fx : expF x ≠ 2047) (fy : expF y ≠ 2047) (hf : valF x - valF y ≠ 0 → FitF (valF x - valF y).natAbs) :
    ∃ r, Ieee.double.sub x y = some r ∧ r < 18446744073709551616 ∧ expF r ≠ 2047 ∧ valF r = valF x - valF y := by
  unfold Ieee.Format.sub
  rw [read_fin hx fx, read_fin hy fy]
  unfold valF at *
  generalize upF x = a at *
  generalize upF y = c at *
  generalize magF x = m at *
  generalize magF y = n at *
  generalize negF x = s at *
  generalize negF y = t at *
  simp only [Ieee.Datum.opposite, Ieee.Datum.sum, signed_is, Option.map_some]
  have e0 : min (-1074 + (a : Int)) (-1074 + (c : Int)) = -1074 + ((min a c : Nat) : Int) := by omega
  rw [e0, show (-1074 + (a : Int) - (-1074 + ((min a c : Nat) : Int))).toNat = a - min a c by omega, show (-1074 + (c : Int) - (-1074 + ((min a c : Nat) : Int))).toNat = c - min a c by omega]
  have f1 : sgn s (m * 2 ^ a) = sgn s (m * 2 ^ (a - min a c)) * ((2 ^ min a c : Nat) : Int) := by rw [← sgn_mul, Nat.mul_assoc, ← Nat.pow_add, Nat.sub_add_cancel (Nat.min_le_left _ _)]
  have f2 : sgn t (n * 2 ^ c) = - sgn (!t) (n * 2 ^ (c - min a c)) * ((2 ^ min a c : Nat) : Int) := by
    have : - sgn (!t) (n * 2 ^ (c - min a c)) = sgn t (n * 2 ^ (c - min a c)) := by unfold sgn; cases t <;> simp
    rw [this, ← sgn_mul, Nat.mul_assoc, ← Nat.pow_add, Nat.sub_add_cancel (Nat.min_le_right _ _)]
  rw [f1, f2] at hf ⊢
  generalize sgn s (m * 2 ^ (a - min a c)) = u at *
  generalize sgn (!t) (n * 2 ^ (c - min a c)) = v at *
  generalize min a c = k at *
  have hp := Nat.two_pow_pos k
  have e3 : u * ((2 ^ k : Nat) : Int) - -v * ((2 ^ k : Nat) : Int) = (u + v) * ((2 ^ k : Nat) : Int) := by rw [Int.neg_mul, Int.sub_neg, Int.add_mul]
  rw [e3] at hf ⊢
  have e4 : ((u + v) * ((2 ^ k : Nat) : Int)).natAbs = (u + v).natAbs * 2 ^ k := by rw [Int.natAbs_mul, Int.natAbs_natCast]
  generalize hsg : (if u + v = 0 then s && !t else decide (u + v < 0)) = sg
  obtain ⟨h1, h2, h3, h4⟩ := write_val sg (mag := (u + v).natAbs) (a := k) (fun h' => by
    rw [← e4]
    refine hf fun h'' => h' ?_
    rw [← e4, h'']; rfl)
  refine ⟨_, rfl, h1, h2, ?_⟩
  show valF (Ieee.double.nearest sg (u + v).natAbs (-1074 + (k : Int))) = _
  rw [h4, sgn_mul]
  congr 1
  by_cases hz : u + v = 0
  · rw [hz]; exact sgn_zero sg
  · rw [if_neg hz] at hsg
    rw [← hsg, sgn_natAbs]

theorem read_two : Ieee.double.read 4611686018427387904 = .number false 4503599627370496 (-51) := by decide
theorem log_52 : (4503599627370496 : Nat).log2 = 52 := by decide
theorem half_exact {x : Nat} (hx : x < 18446744073709551616) (fx : expF x ≠ 2047) {X : Nat} (h2 : magF x * 2 ^ upF x = 2 * X) (hf : X ≠ 0 → FitF X) :
    ∃ r, Ieee.double.div x 4611686018427387904 = some r ∧ r < 18446744073709551616 ∧ expF r ≠ 2047 ∧ negF r = negF x ∧ valF r = sgn (negF x) X := by
  unfold Ieee.Format.div
  rw [read_fin hx fx, read_two]
  have hm := magF_lt x
  generalize upF x = a at *
  generalize magF x = m at *
  generalize negF x = s at *
  simp only [Ieee.Datum.quotient, show Ieee.double.fractionBits = 52 from rfl, log_52, Nat.shiftLeft_eq, Bool.xor_false]
  rw [if_neg (by decide)]
  refine ⟨_, rfl, ?_⟩
  by_cases hm0 : m = 0
  · subst hm0
    have hX : X = 0 := by simp at h2; omega
    subst hX
    rw [sgn_zero]
    simp only [Nat.zero_mul, Nat.zero_div, Nat.zero_mod, Nat.mul_zero, Nat.zero_add, bne_self_eq_false, Bool.toNat_false]
    have e : ∀ q, Ieee.double.write (.number s 0 q) = Ieee.double.word s 0 := fun q => by show Ieee.double.nearest s 0 q = _; unfold Ieee.Format.nearest; rw [if_pos rfl]
    rw [e]
    obtain ⟨h1, h2, _, h4, h5⟩ := val_word0 s
    exact ⟨h1, by show expF _ ≠ 2047; omega, h4, h5⟩
  · have hl : m.log2 ≤ 52 := by
      have := (Nat.log2_lt (k := 53) hm0).2 (by rw [show (2 : Nat) ^ 53 = 9007199254740992 from rfl]; exact hm)
      omega
    generalize ht : 52 + 2 + 52 - m.log2 = t
    have e1 : m * 2 ^ t = m * 2 ^ (t - 52) * 4503599627370496 := by
      rw [show (4503599627370496 : Nat) = 2 ^ 52 from rfl, Nat.mul_assoc, ← Nat.pow_add, Nat.sub_add_cancel (by omega)]
    rw [e1, Nat.mul_div_cancel _ (by decide), Nat.mul_mod_left]
    have e2 : 2 * (m * 2 ^ (t - 52)) + ((0 : Nat) != 0).toNat = m * 2 ^ (t - 51) := by
      rw [show t - 51 = (t - 52) + 1 by omega, Nat.pow_succ]
      show 2 * (m * 2 ^ (t - 52)) + 0 = _
      rw [Nat.add_zero, Nat.mul_comm 2, Nat.mul_assoc]
    rw [e2]
    have hX0 : X ≠ 0 := fun e => by
      rw [e, Nat.mul_zero] at h2
      rcases Nat.mul_eq_zero.1 h2 with h | h
      · exact hm0 h
      · have := Nat.two_pow_pos a; omega
    show (Ieee.double.nearest s (m * 2 ^ (t - 51)) _ < _) ∧ _
    by_cases hat : t ≤ a + 50
    · have e3 : (-1074 + (a : Int) - -51 - (t : Int) - 1) = -1074 + ((a + 50 - t : Nat) : Int) := by omega
      have e4 : m * 2 ^ (t - 51) * 2 ^ (a + 50 - t) = X := by
        have h3 : 2 * (m * 2 ^ (t - 51) * 2 ^ (a + 50 - t)) = 2 * X := by
          rw [← h2, Nat.mul_assoc, ← Nat.pow_add, show t - 51 + (a + 50 - t) = a - 1 by omega, Nat.mul_comm 2, Nat.mul_assoc, ← Nat.pow_succ, show (a - 1).succ = a by omega]
        omega
      have e5 := nearest_exact s e4 hX0 (hf hX0)
      have e6 : Ieee.double.write (.number s (m * 2 ^ (t - 51)) (-1074 + (a : Int) - -51 - (t : Int) - 1)) = Ieee.double.word s (rungF X) := by
        rw [e3]; exact e5
      rw [e6]
      rw [e3, e5]
      exact word_val s hX0 (hf hX0)
    · obtain ⟨p, hp⟩ : ∃ p, t = a + 50 + p := ⟨t - (a + 50), by omega⟩
      have e3 : (-1074 + (a : Int) - -51 - (t : Int) - 1) = -1074 - (p : Int) := by omega
      have e4 : m * 2 ^ (t - 51) = X * 2 ^ p := by
        have h3 : 2 * (m * 2 ^ (t - 51)) = 2 * (X * 2 ^ p) := by
          rw [← Nat.mul_assoc 2 X, ← h2, Nat.mul_assoc, ← Nat.pow_add, Nat.mul_comm 2, Nat.mul_assoc, ← Nat.pow_succ, show (t - 51).succ = a + p by omega]
        omega
      have e5 := nearest_below s (p := p) hX0 (hf hX0)
      have e6 : Ieee.double.write (.number s (m * 2 ^ (t - 51)) (-1074 + (a : Int) - -51 - (t : Int) - 1)) = Ieee.double.word s (rungF X) := by
        rw [e3, e4]; exact e5
      rw [e6]
      rw [e3, e4, e5]
      exact word_val s hX0 (hf hX0)
theorem cut_zero (s : Bool) (n d : Nat) : Ieee.Toward.zero.cut s n d = n / 2 ^ d := by
  unfold Ieee.Toward.cut
  simp only [Nat.shiftLeft_eq, Nat.one_mul, Bool.toNat_false, Nat.add_zero]
  by_cases h : d ≤ n.log2 + 2
  · rw [Nat.min_eq_left h]
  · rw [Nat.min_eq_right (by omega)]
    have h1 : n < 2 ^ (n.log2 + 2) := Nat.lt_of_lt_of_le Nat.lt_log2_self (Nat.pow_le_pow_right (by decide) (by omega))
    have h2 : n < 2 ^ d := Nat.lt_of_lt_of_le h1 (Nat.pow_le_pow_right (by decide) (by omega))
    rw [Nat.div_eq_of_lt h1, Nat.div_eq_of_lt h2]
/-- Cut towards nought. -/
theorem trunc_is {x : Nat} (hx : x < 18446744073709551616) (fx : expF x ≠ 2047) : (Ieee.double.read x).toInt .zero = some (sgn (negF x) (magF x * 2 ^ upF x / unitF)) := by
  rw [read_fin hx fx]
  generalize upF x = a
  generalize magF x = m
  generalize negF x = s
  unfold Ieee.Datum.toInt
  simp only [Ieee.Datum.integral, cut_zero, signed_is, Nat.shiftLeft_eq, Nat.pow_zero, Nat.mul_one]
  congr 2
  unfold unitF
  have hlow := lowF_nat
  by_cases h : lowF ≤ a
  · rw [show (-1074 + (a : Int)).toNat = a - lowF by omega, show (-(-1074 + (a : Int))).toNat = 0 by omega, Nat.pow_zero, Nat.div_one]
    have e : m * 2 ^ a = m * 2 ^ (a - lowF) * 2 ^ lowF := by rw [Nat.mul_assoc, ← Nat.pow_add, Nat.sub_add_cancel h]
    rw [e, Nat.mul_div_cancel _ (Nat.two_pow_pos lowF)]
  · rw [show (-1074 + (a : Int)).toNat = 0 by omega, show (-(-1074 + (a : Int))).toNat = lowF - a by omega, Nat.pow_zero, Nat.mul_one]
    have e : 2 ^ lowF = 2 ^ (lowF - a) * 2 ^ a := by rw [← Nat.pow_add, Nat.sub_add_cancel (by omega)]
    rw [e, Nat.mul_div_mul_right _ _ (Nat.two_pow_pos a)]

/-- A finite double but nought is what its units say. -/
theorem canon {x : Nat} (hx : x < 18446744073709551616) (fx : expF x ≠ 2047) (h0 : magF x * 2 ^ upF x ≠ 0) : x = Ieee.double.word (negF x) (rungF (magF x * 2 ^ upF x)) ∧ FitF (magF x * 2 ^ upF x) := by
  have hs := bits_split x hx
  have he := expF_lt x
  have hm := fracF_lt x
  have hw : ∀ r, Ieee.double.word (negF x) r = (if negF x then 9223372036854775808 else 0) + r := fun r => by
    simp only [Ieee.Format.word, dbl_sign]
    split <;> omega
  rw [hw]
  have hmag : magF x ≠ 0 := fun e => h0 (by rw [e, Nat.zero_mul])
  by_cases e0 : expF x = 0
  · have e1 : magF x = fracF x := if_pos e0
    have e2 : upF x = 0 := by unfold upF; omega
    rw [e1] at hmag
    rw [e1, e2, Nat.pow_zero, Nat.mul_one]
    have hl : (fracF x).log2 < 52 := (Nat.log2_lt hmag).2 (by rw [show (2 : Nat) ^ 52 = 4503599627370496 from rfl]; exact hm)
    refine ⟨?_, ?_, by omega⟩
    · unfold rungF
      rw [show (fracF x).log2 - 52 = 0 by omega, Nat.pow_zero, Nat.div_one]
      omega
    · rw [show (fracF x).log2 - 52 = 0 by omega, Nat.pow_zero]; exact Nat.one_dvd _
  · have e1 : magF x = 4503599627370496 + fracF x := if_neg e0
    have e2 : upF x = expF x - 1 := rfl
    have hl : (magF x).log2 = 52 := by
      have h1 : (magF x).log2 < 53 := (Nat.log2_lt hmag).2 (by rw [show (2 : Nat) ^ 53 = 9007199254740992 from rfl]; exact magF_lt x)
      have h2 : 52 ≤ (magF x).log2 := (Nat.le_log2 hmag).2 (by rw [show (2 : Nat) ^ 52 = 4503599627370496 from rfl, e1]; omega)
      omega
    have hlog : (magF x * 2 ^ upF x).log2 - 52 = upF x := by rw [log_shift hmag, hl]; omega
    refine ⟨?_, ?_, ?_⟩
    · unfold rungF
      rw [hlog, Nat.mul_div_cancel _ (Nat.two_pow_pos _), e1, e2]
      omega
    · rw [hlog]; exact Nat.dvd_mul_left _ _
    · rw [log_shift hmag, hl]; omega
theorem val_abs (x : Nat) : (valF x).natAbs = magF x * 2 ^ upF x := sgn_abs _ _
/-- Two of them that are as much are the same. -/
theorem val_same {x y : Nat} (hx : x < 18446744073709551616) (hy : y < 18446744073709551616) (fx : expF x ≠ 2047) (fy : expF y ≠ 2047) (h0 : valF x ≠ 0) (h : valF x = valF y) : x = y := by
  have hax : magF x * 2 ^ upF x ≠ 0 := by rw [← val_abs]; omega
  have hay : magF y * 2 ^ upF y ≠ 0 := by rw [← val_abs, ← h]; omega
  have hn : negF x = negF y := by
    unfold valF sgn at h h0
    generalize magF x * 2 ^ upF x = a at *
    generalize magF y * 2 ^ upF y = b at *
    cases hx' : negF x <;> cases hy' : negF y <;> simp only [hx', hy', if_true, Bool.false_eq_true, if_false] at h h0 ⊢ <;> omega
  rw [(canon hx fx hax).1, (canon hy fy hay).1, ← val_abs x, ← val_abs y, h, hn]
theorem val_zero7 {x : Nat} (h : valF x = 0) : expF x = 0 ∧ fracF x = 0 := by
  have h1 : magF x * 2 ^ upF x = 0 := by rw [← val_abs, h]; rfl
  have h2 : magF x = 0 := by
    rcases Nat.mul_eq_zero.1 h1 with h | h
    · exact h
    · have := Nat.two_pow_pos (upF x); omega
  unfold magF at h2
  split at h2
  · rename_i h3; exact ⟨h3, h2⟩
  · omega
end Go.Proofs.Ytilekfappdlooaa
