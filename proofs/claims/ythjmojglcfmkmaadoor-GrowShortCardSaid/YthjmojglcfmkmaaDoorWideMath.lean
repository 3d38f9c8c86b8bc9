/- Layer 8 in plain numbers: digits to the base 65536, whole numbers by 128 bits. -/
import Derived.Test.YthjmojglcfmkmaaDoorBase
namespace Go.Proofs.YthjmojglcfmkmaaDoor
open Go.RowKit

def intVs (l : List Int) : List Value := l.map (Value.int .i64)
theorem intVs_len (l : List Int) : (intVs l).length = l.length := by simp [intVs]
theorem intVs_app (l r : List Int) : intVs (l ++ r) = intVs l ++ intVs r := by simp [intVs]
theorem intVs_at {l : List Int} {j : Nat} (h : j < l.length) : (intVs l)[j]? = some (.int .i64 l[j]) := by simp [intVs, h]
theorem intVs_one (l : List Int) : ∀ u ∈ intVs l, u.oneCell' = true := by
  intro u hu
  obtain ⟨x, _, rfl⟩ := List.mem_map.1 hu
  rfl
/-- 2^128. -/
def bigW : Int := 340282366920938463463374607431768211456
/-- So many digits to the base 65536, the lowest first. -/
def digI : Nat → Int → List Int
  | 0, _ => []
  | k + 1, n => n % 65536 :: digI k (n / 65536)
/-- What digits make. -/
def valD : List Int → Int
  | [] => 0
  | d :: ds => d + 65536 * valD ds
/-- A number without its lowest digits. -/
def shI : Nat → Int → Int
  | 0, n => n
  | i + 1, n => shI i n / 65536
theorem shI_in (i : Nat) (n : Int) : shI (i + 1) n = shI i (n / 65536) := by
  induction i with
  | zero => rfl
  | succ i ih => show shI (i + 1) n / 65536 = shI i (n / 65536) / 65536; rw [ih]
theorem digI_len (k : Nat) : ∀ n, (digI k n).length = k := by
  induction k with
  | zero => intro n; rfl
  | succ k ih => intro n; show (digI k (n / 65536)).length + 1 = _; rw [ih]
theorem digI_bd (k : Nat) : ∀ n, ∀ d ∈ digI k n, 0 ≤ d ∧ d < 65536 := by
  induction k with
  | zero => intro n d hd; cases hd
  | succ k ih =>
    intro n d hd
    rcases List.mem_cons.1 hd with rfl | h
    · omega
    · exact ih _ d h
theorem digI_snoc (k : Nat) : ∀ n, digI (k + 1) n = digI k n ++ [shI k n % 65536] := by
  induction k with
  | zero => intro n; rfl
  | succ k ih =>
    intro n
    show n % 65536 :: digI (k + 1) (n / 65536) = n % 65536 :: (digI k (n / 65536) ++ [shI (k + 1) n % 65536])
    rw [ih, shI_in]
theorem digI_at {k i : Nat} (h : i < k) : ∀ n, (digI k n)[i]? = some (shI i n % 65536) := by
  induction k generalizing i with
  | zero => omega
  | succ k ih =>
    intro n
    cases i with
    | zero => rfl
    | succ i =>
      show (digI k (n / 65536))[i]? = _
      rw [ih (by omega), shI_in]
theorem digI_take {k i : Nat} (h : i ≤ k) : ∀ n, (digI k n).take i = digI i n := by
  induction k generalizing i with
  | zero => intro n; obtain rfl : i = 0 := by omega
            rfl
  | succ k ih =>
    intro n
    cases i with
    | zero => rfl
    | succ i =>
      show n % 65536 :: (digI k (n / 65536)).take i = n % 65536 :: digI i (n / 65536)
      rw [ih (by omega)]
theorem digI_mul (k : Nat) : ∀ (n t : Int), digI k (n + 65536 ^ k * t) = digI k n := by
  induction k with
  | zero => intro n t; rfl
  | succ k ih =>
    intro n t
    have e : (65536 : Int) ^ (k + 1) * t = 65536 * (65536 ^ k * t) := by rw [Int.pow_succ, Int.mul_comm (65536 ^ k) 65536, Int.mul_assoc]
    obtain ⟨v, hv⟩ : ∃ v, (65536 : Int) ^ k * t = v := ⟨_, rfl⟩
    have h := ih (n / 65536) t
    rw [hv] at h
    rw [e, hv]
    show (n + 65536 * v) % 65536 :: digI k ((n + 65536 * v) / 65536) = n % 65536 :: digI k (n / 65536)
    rw [show (n + 65536 * v) % 65536 = n % 65536 by omega, show (n + 65536 * v) / 65536 = n / 65536 + v by omega, h]
theorem digI_join (a b : Nat) : ∀ (lo hi : Int), 0 ≤ lo → lo < 65536 ^ a → digI (a + b) (lo + 65536 ^ a * hi) = digI a lo ++ digI b hi := by
  induction a with
  | zero =>
    intro lo hi h0 h1
    have h2 : lo = 0 := by have e : (65536 : Int) ^ 0 = 1 := rfl
                           omega
    subst h2
    rw [Nat.zero_add, show (0 : Int) + 65536 ^ 0 * hi = hi by simp]
    rfl
  | succ a ih =>
    intro lo hi h0 h1
    have e : (65536 : Int) ^ (a + 1) = 65536 * 65536 ^ a := by rw [Int.pow_succ, Int.mul_comm]
    rw [e] at h1
    have h := ih (lo / 65536) hi (by omega) (by omega)
    rw [e, Int.mul_assoc]
    obtain ⟨v, hv⟩ : ∃ v, (65536 : Int) ^ a * hi = v := ⟨_, rfl⟩
    rw [hv] at h ⊢
    rw [show a + 1 + b = (a + b) + 1 by omega]
    show (lo + 65536 * v) % 65536 :: digI (a + b) ((lo + 65536 * v) / 65536) = lo % 65536 :: (digI a (lo / 65536) ++ digI b hi)
    rw [show (lo + 65536 * v) % 65536 = lo % 65536 by omega, show (lo + 65536 * v) / 65536 = lo / 65536 + v by omega, h]
/-- Digits that are too great, carried. -/
def settle : Int → List Int → List Int
  | _, [] => []
  | c, d :: ds => (c + d) % 65536 :: settle ((c + d) / 65536) ds
theorem settle_is (ds : List Int) : ∀ c, settle c ds = digI ds.length (c + valD ds) := by
  induction ds with
  | nil => intro c; rfl
  | cons d ds ih =>
    intro c
    show (c + d) % 65536 :: settle ((c + d) / 65536) ds = (c + (d + 65536 * valD ds)) % 65536 :: digI ds.length ((c + (d + 65536 * valD ds)) / 65536)
    rw [ih]
    generalize valD ds = v
    rw [show (c + (d + 65536 * v)) % 65536 = (c + d) % 65536 by omega, show (c + (d + 65536 * v)) / 65536 = (c + d) / 65536 + v by omega]
/-- The carry behind so many. -/
def carry : Int → List Int → Int
  | c, [] => c
  | c, d :: ds => carry ((c + d) / 65536) ds
theorem carry_app (l r : List Int) : ∀ c, carry c (l ++ r) = carry (carry c l) r := by
  induction l with
  | nil => intro c; rfl
  | cons d l ih => intro c; exact ih _
theorem settle_app (l r : List Int) : ∀ c, settle c (l ++ r) = settle c l ++ settle (carry c l) r := by
  induction l with
  | nil => intro c; rfl
  | cons d l ih => intro c; show _ :: settle _ (l ++ r) = _ :: (settle _ l ++ _); rw [ih]; rfl
theorem carry_bd (l : List Int) (h : ∀ d ∈ l, 0 ≤ d ∧ d < 1099511627776) : ∀ c, 0 ≤ c ∧ c < 1099511627776 → 0 ≤ carry c l ∧ carry c l < 1099511627776 := by
  induction l with
  | nil => intro c hc; exact hc
  | cons d l ih =>
    intro c hc
    have hd := h d (List.mem_cons_self ..)
    exact ih (fun x hx => h x (List.mem_cons_of_mem _ hx)) _ (by omega)
theorem valD_app (l r : List Int) : valD (l ++ r) = valD l + 65536 ^ l.length * valD r := by
  induction l with
  | nil => simp [valD]
  | cons d l ih =>
    show d + 65536 * valD (l ++ r) = (d + 65536 * valD l) + 65536 ^ (l.length + 1) * valD r
    rw [ih, Int.mul_add, Int.pow_succ, Int.mul_comm (65536 ^ l.length) 65536, Int.mul_assoc, Int.add_assoc]
theorem valD_one (d : Int) : valD [d] = d := by simp [valD]
theorem valD_take {l : List Int} {i : Nat} (h : i < l.length) : valD (l.take (i + 1)) = valD (l.take i) + 65536 ^ i * l[i] := by
  rw [List.take_succ_eq_append_getElem h, valD_app, valD_one, List.length_take, Nat.min_eq_left (by omega)]
theorem valD_cut (l : List Int) (i : Nat) : valD l = valD (l.take i) + 65536 ^ (min i l.length) * valD (l.drop i) := by
  have h := valD_app (l.take i) (l.drop i)
  rw [List.take_append_drop, List.length_take] at h
  exact h
theorem valD_add (a b : List Int) (h : a.length = b.length) : valD (List.zipWith (· + ·) a b) = valD a + valD b := by
  induction a generalizing b with
  | nil => cases b with
    | nil => rfl
    | cons _ _ => cases h
  | cons x a ih => cases b with
    | nil => cases h
    | cons y b =>
      have := ih b (by simpa using h)
      show (x + y) + 65536 * valD (List.zipWith (· + ·) a b) = (x + 65536 * valD a) + (y + 65536 * valD b)
      omega
theorem valD_neg (a : List Int) : valD (a.map (65535 - ·)) = 65536 ^ a.length - 1 - valD a := by
  induction a with
  | nil => rfl
  | cons x a ih =>
    show (65535 - x) + 65536 * valD (a.map (65535 - ·)) = 65536 ^ (a.length + 1) - 1 - (x + 65536 * valD a)
    rw [ih, Int.pow_succ]
    omega
theorem valD_set (l : List Int) : ∀ (j : Nat) (v : Int) (h : j < l.length), valD (l.set j (l[j] + v)) = valD l + 65536 ^ j * v := by
  induction l with
  | nil => intro j v h; simp at h
  | cons d l ih =>
    intro j v h
    cases j with
    | zero =>
      show (d + v) + 65536 * valD l = (d + 65536 * valD l) + 65536 ^ 0 * v
      rw [show (65536 : Int) ^ 0 = 1 from rfl]; omega
    | succ j =>
      have hj : j < l.length := by simpa using h
      have h1 := ih j v hj
      show d + 65536 * valD (l.set j (l[j] + v)) = (d + 65536 * valD l) + 65536 ^ (j + 1) * v
      rw [h1, Int.mul_add, Int.pow_succ, Int.mul_comm (65536 ^ j) 65536, Int.mul_assoc, Int.add_assoc]
theorem digI_of (k : Nat) : ∀ n, ∃ t, n = valD (digI k n) + 65536 ^ k * t := by
  induction k with
  | zero => intro n; exact ⟨n, by simp [digI, valD]⟩
  | succ k ih =>
    intro n
    obtain ⟨t, ht⟩ := ih (n / 65536)
    refine ⟨t, ?_⟩
    show n = (n % 65536 + 65536 * valD (digI k (n / 65536))) + 65536 ^ (k + 1) * t
    rw [Int.pow_succ, Int.mul_comm (65536 ^ k) 65536, Int.mul_assoc]
    omega
theorem powB8 : (65536 : Int) ^ 8 = bigW := by decide
theorem powB4 : (65536 : Int) ^ 4 = 18446744073709551616 := by decide
/-- The same by 128 bits. -/
def Cong (x y : Int) : Prop := ∃ t, x = y + bigW * t
theorem Cong.refl (x : Int) : Cong x x := ⟨0, by simp⟩
theorem Cong.symm {x y : Int} (h : Cong x y) : Cong y x := by
  obtain ⟨t, rfl⟩ := h
  exact ⟨-t, by rw [Int.mul_neg]; omega⟩
theorem Cong.trans {x y z : Int} (h : Cong x y) (h2 : Cong y z) : Cong x z := by
  obtain ⟨t, rfl⟩ := h
  obtain ⟨u, rfl⟩ := h2
  exact ⟨t + u, by rw [Int.mul_add]; omega⟩
theorem Cong.add {x y a b : Int} (h : Cong x y) (h2 : Cong a b) : Cong (x + a) (y + b) := by
  obtain ⟨t, rfl⟩ := h
  obtain ⟨u, rfl⟩ := h2
  exact ⟨t + u, by rw [Int.mul_add]; omega⟩
theorem Cong.neg {x y : Int} (h : Cong x y) : Cong (-x) (-y) := by
  obtain ⟨t, rfl⟩ := h
  exact ⟨-t, by rw [Int.mul_neg]; omega⟩
theorem Cong.mul {x y a b : Int} (h : Cong x y) (h2 : Cong a b) : Cong (x * a) (y * b) := by
  obtain ⟨t, rfl⟩ := h
  obtain ⟨u, rfl⟩ := h2
  refine ⟨y * u + t * b + bigW * (t * u), ?_⟩
  simp only [Int.add_mul, Int.mul_add]
  rw [show bigW * t * b = bigW * (t * b) from Int.mul_assoc .., show y * (bigW * u) = bigW * (y * u) by rw [← Int.mul_assoc, Int.mul_comm y, Int.mul_assoc], show bigW * t * (bigW * u) = bigW * (bigW * (t * u)) by rw [Int.mul_assoc, ← Int.mul_assoc t, Int.mul_comm t, Int.mul_assoc]]
  omega
theorem digI_cong {x y : Int} (h : Cong x y) : digI 8 x = digI 8 y := by
  obtain ⟨t, rfl⟩ := h
  rw [← powB8]
  exact digI_mul 8 y t
theorem val_cong (x : Int) : Cong x (valD (digI 8 x)) := by
  obtain ⟨t, ht⟩ := digI_of 8 x
  exact ⟨t, by rw [← powB8]; exact ht⟩
theorem cong_digI {x y : Int} (h : digI 8 x = digI 8 y) : Cong x y := (val_cong x).trans (by rw [h]; exact (val_cong y).symm)
/-- A wide number's high word, and its low one. -/
def hiW (x : Int) : Int := wrap64 (x / 18446744073709551616)
def loW (x : Int) : Int := x % 18446744073709551616
def valW (h l : Int) : Int := h * 18446744073709551616 + l
def numV (x : Int) : Value := .agg #[.int .i64 (hiW x), .int .u64 (loW x)]
def i64W (h : Int) : Prop := -9223372036854775808 ≤ h ∧ h ≤ 9223372036854775807
def u64W (l : Int) : Prop := 0 ≤ l ∧ l ≤ 18446744073709551615
theorem hi_in (x : Int) : i64W (hiW x) := by unfold i64W hiW wrap64; omega
theorem lo_in (x : Int) : u64W (loW x) := by unfold u64W loW; omega
theorem hi_of {h l : Int} (hh : i64W h) (hl : u64W l) : hiW (valW h l) = h := by unfold i64W u64W at *; unfold hiW valW wrap64; omega
theorem lo_of {h l : Int} (hl : u64W l) : loW (valW h l) = l := by unfold u64W at *; unfold loW valW; omega
theorem cong_num (x : Int) : Cong x (valW (hiW x) (loW x)) := by
  refine ⟨(x / 18446744073709551616 + 9223372036854775808) / 18446744073709551616, ?_⟩
  unfold hiW loW valW wrap64 bigW
  omega
theorem num_cong {x y : Int} (h : Cong x y) : hiW x = hiW y ∧ loW x = loW y := by
  obtain ⟨t, rfl⟩ := h
  unfold hiW loW wrap64 bigW
  omega
theorem numV_cong {x y : Int} (h : Cong x y) : numV x = numV y := by
  obtain ⟨h1, h2⟩ := num_cong h
  unfold numV
  rw [h1, h2]
theorem cong_iff {x y : Int} : Cong x y ↔ hiW x = hiW y ∧ loW x = loW y := by
  refine ⟨num_cong, fun ⟨h1, h2⟩ => (cong_num x).trans ?_⟩
  rw [h1, h2]
  exact (cong_num y).symm
/-- How two numbers stand. -/
def cmpI (x y : Int) : Int := if x < y then -1 else if y < x then 1 else 0
theorem shI_mono (i : Nat) {x y : Int} (h : x ≤ y) : shI i x ≤ shI i y := by
  induction i with
  | zero => exact h
  | succ i ih => show shI i x / 65536 ≤ shI i y / 65536; omega
theorem shI_lt {i : Nat} {x y : Int} (h : shI i x < shI i y) : x < y := by
  by_cases h2 : x < y
  · exact h2
  · have := shI_mono i (show y ≤ x by omega); omega
def inW (x : Int) : Prop := -170141183460469231731687303715884105728 ≤ x ∧ x < 170141183460469231731687303715884105728
theorem valW_in {h l : Int} (hh : i64W h) (hl : u64W l) : inW (valW h l) := by unfold i64W u64W at *; unfold inW valW; omega
theorem sh7_in {x : Int} (h : inW x) : -32768 ≤ shI 7 x ∧ shI 7 x ≤ 32767 := by
  unfold inW at h
  simp only [shI]
  omega
theorem digI_from {h l : Int} (hl : u64W l) : digI 4 l ++ (digI 8 h).take 4 = digI 8 (valW h l) := by
  rw [digI_take (by decide), show valW h l = l + 65536 ^ 4 * h by rw [powB4]; unfold valW; omega]
  exact (digI_join 4 4 l h hl.1 (by rw [powB4]; have := hl.2; omega)).symm
end Go.Proofs.YthjmojglcfmkmaaDoor
