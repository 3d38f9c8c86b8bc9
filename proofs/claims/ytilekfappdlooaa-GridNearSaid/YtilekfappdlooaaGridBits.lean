/- The landed grid: a number taken apart, and its pieces. -/
import Derived.Test.YtilekfappdlooaaGridPts
import Derived.Laws.ResultCell
import Derived.BigQuiet
import Derived.Deep.WholeRow
import Derived.Laws.BitsAllLaws
namespace Go.Proofs.Ytilekfappdlooaa
open Go.RowKit

/-- Pieces, as a value. -/
def pcV (s : Bool) (p d : Nat) : Value := .agg #[.bool s, .int .i64 (p : Int), .int .u64 (d : Int)]
theorem gridUp_any (n : Int) (w : World) : Calls Try.prog 31 #[.int .i64 n] w fun e w' => e = .returned (.bool (decide (0 ≤ n ∧ n ≤ 30))) ∧ w = w' := by
  by_cases h1 : 0 ≤ n
  · have t1 : decide (0 ≤ n) = true := by simpa using h1
    have HE : Hid (decide (0 ≤ n ∧ n ≤ 30) = decide (n ≤ 30)) := by show _ = _; simp [h1]
    go_enter Try.func31, Try.ntmps31
    go_wp2
    go_ret
    exact ⟨ret_bool (by rw [HE.out]), rfl⟩
  · have t1 : decide (0 ≤ n) = false := by simpa using h1
    have HE : Hid (false = decide (0 ≤ n ∧ n ≤ 30)) := by show _ = _; simp [h1]
    go_enter Try.func31, Try.ntmps31
    go_wp2
    go_ret
    exact ⟨ret_bool (by first | rfl | exact HE.out), rfl⟩
theorem gridCoord_any (n : Int) (w : World) : Calls Try.prog 37 #[.int .i64 n] w fun e w' => e = .returned (.bool (coordF n)) ∧ w = w' := by
  by_cases h1 : -2147483648 ≤ n
  · have t1 : decide (-2147483648 ≤ n) = true := by simpa using h1
    have HE : Hid (coordF n = decide (n ≤ 2147483647)) := by show _ = _; unfold coordF; simp [h1]
    go_enter Try.func37, Try.ntmps37
    go_wp2
    go_ret
    exact ⟨ret_bool (by rw [HE.out]), rfl⟩
  · have t1 : decide (-2147483648 ≤ n) = false := by simpa using h1
    have HE : Hid (coordF n = false) := by show _ = _; unfold coordF; simp [h1]
    go_enter Try.func37, Try.ntmps37
    go_wp2
    go_ret
    exact ⟨ret_bool (by rw [HE.out]), rfl⟩
theorem order_self {b : Nat} (hb : b < 18446744073709551616) : (Ieee.double.order b b != some .eq) = decide (kindF b = 0) := by
  by_cases he : expF b = 2047
  · by_cases hm : fracF b = 0
    · have hk : kindF b ≠ 0 := by unfold kindF; rw [if_pos he, if_neg (by simpa using hm)]; split <;> decide
      rw [decide_eq_false hk]
      unfold Ieee.Format.order
      rw [read_is b hb, if_neg (by omega), if_pos he, if_pos hm]
      generalize negF b = s
      cases s <;> rfl
    · have hk : kindF b = 0 := by unfold kindF; rw [if_pos he, if_pos hm]
      rw [decide_eq_true hk, (order_nan hb he hm b).1]
      rfl
  · have hk : kindF b ≠ 0 := by unfold kindF; rw [if_neg he]; (repeat' split) <;> decide
    rw [decide_eq_false hk, order_fin hb hb he he]
    have h : compare (valF b) (valF b) = .eq := by simp
    rw [h]
    rfl
theorem gridNaN_any (b : Nat) (w : World) (hb : b < 18446744073709551616) : Calls Try.prog 32 #[.float .f64 b] w fun e w' => e = .returned (.bool (decide (kindF b = 0))) ∧ w = w' := by
  go_enter Try.func32, Try.ntmps32
  go_wp2
  go_ret
  exact ⟨ret_bool (order_self hb), rfl⟩
theorem dec_nat {P : Prop} {Q : Prop} [Decidable P] [Decidable Q] (h : P ↔ Q) : decide P = decide Q := decide_eq_decide.2 h
theorem beq_nat (a b : Nat) : ((a : Int) == (b : Int)) = decide (a = b) := by
  by_cases h : a = b
  · subst h; simp
  · rw [decide_eq_false h]; exact beq_eq_false_iff_ne.2 (by omega)
theorem gridNought_any (s : Bool) (p d : Nat) (w : World) : Calls Try.prog 36 #[pcV s p d] w fun e w' => e = .returned (.bool (decide (d = 0))) ∧ Below w.heap.size w w' := by
  unfold pcV
  have hb : Blk (w.alloc (.cells #[.bool s, .int .i64 (p : Int), .int .u64 (d : Int)] 62)) w.heap.size 62 #[.bool s, .int .i64 (p : Int), .int .u64 (d : Int)] := Blk.new w _ _
  have h2 := hb.cell 2
  go_enter Try.func36, Try.ntmps36
  go_wp2
  go_ret
  exact ⟨ret_bool (beq_nat d 0), new_alloc (Below.refl _ _) _⟩
theorem gridInf_any (s : Bool) (p d : Nat) (w : World) : Calls Try.prog 41 #[pcV s p d] w fun e w' => e = .returned (.bool (decide (p = 2047))) ∧ Below w.heap.size w w' := by
  unfold pcV
  have hb : Blk (w.alloc (.cells #[.bool s, .int .i64 (p : Int), .int .u64 (d : Int)] 62)) w.heap.size 62 #[.bool s, .int .i64 (p : Int), .int .u64 (d : Int)] := Blk.new w _ _
  have h2 := hb.cell 1
  go_enter Try.func41, Try.ntmps41
  go_wp2
  go_ret
  exact ⟨ret_bool (beq_nat p 2047), new_alloc (Below.refl _ _) _⟩
theorem gridSmall_any (s : Bool) (p d : Nat) (w : World) : Calls Try.prog 42 #[pcV s p d] w fun e w' => e = .returned (.bool (decide (d < 4503599627370496))) ∧ Below w.heap.size w w' := by
  unfold pcV
  have hb : Blk (w.alloc (.cells #[.bool s, .int .i64 (p : Int), .int .u64 (d : Int)] 62)) w.heap.size 62 #[.bool s, .int .i64 (p : Int), .int .u64 (d : Int)] := Blk.new w _ _
  have h2 := hb.cell 2
  go_enter Try.func42, Try.ntmps42
  go_wp2
  go_ret
  exact ⟨ret_bool (dec_nat (by omega)), new_alloc (Below.refl _ _) _⟩
theorem gridSigned_any (s : Bool) (p d q : Nat) (w : World) (hq : q < 9007199254740992) : Calls Try.prog 35 #[pcV s p d, .int .u64 (q : Int)] w fun e w' => e = .returned (.int .i64 (sgn s q)) ∧ Below w.heap.size w w' := by
  unfold pcV
  have hb : Blk (w.alloc (.cells #[.bool s, .int .i64 (p : Int), .int .u64 (d : Int)] 62)) w.heap.size 62 #[.bool s, .int .i64 (p : Int), .int .u64 (d : Int)] := Blk.new w _ _
  have h2 := hb.cell 0
  cases s
  · go_enter Try.func35, Try.ntmps35
    go_wp2
    go_ret
    exact ⟨rfl, new_alloc (Below.refl _ _) _⟩
  · go_enter Try.func35, Try.ntmps35
    go_wp2
    go_ret
    exact ⟨rfl, new_alloc (Below.refl _ _) _⟩
/-- What split tells: the whole number, the rest, a half of one. -/
def splitF (p d : Nat) (up : Int) : Nat × Nat × Nat := if 1075 - (p : Int) - up ≤ 0 then (4503599627370496, 0, 1) else
  (d / 2 ^ (min (1075 - (p : Int) - up) 54).toNat, d % 2 ^ (min (1075 - (p : Int) - up) 54).toNat, 2 ^ (min (1075 - (p : Int) - up) 54).toNat / 2)
theorem ret_tri {a a' b b' c c' : Int} (h1 : a = a') (h2 : b = b') (h3 : c = c') : Ending.returned (.tuple #[.int .u64 a, .int .u64 b, .int .u64 c]) = .returned (.tuple #[.int .u64 a', .int .u64 b', .int .u64 c']) := by rw [h1, h2, h3]
theorem mask_is {d k : Nat} (hd : d < 18446744073709551616) (hk : k < 64) : bits .and .u64 (d : Int) (((2 ^ k - 1 : Nat) : Nat) : Int) = ((d % 2 ^ k : Nat) : Int) := by
  have h : 2 ^ k ≤ 2 ^ 63 := Nat.pow_le_pow_right (by decide) (by omega)
  rw [show (2 : Nat) ^ 63 = 9223372036854775808 from rfl] at h
  rw [u64_and_nat _ _ hd (by omega), Nat.and_two_pow_sub_one_eq_mod]
def tri (a b c : Nat) : Value := .tuple #[.int .u64 (a : Int), .int .u64 (b : Int), .int .u64 (c : Int)]
set_option maxRecDepth 100000 in
theorem gridSplit_any (s : Bool) (p d : Nat) (up : Int) (w : World) (hp : p ≤ 2047) (hu : 0 ≤ up ∧ up ≤ 30) (hd : d < 9007199254740992) : Calls Try.prog 34 #[pcV s p d, .int .i64 up] w fun e w' => e = .returned (tri (splitF p d up).1 (splitF p d up).2.1 (splitF p d up).2.2) ∧ Below w.heap.size w w' := by
  unfold pcV tri
  have hb : Blk (w.alloc (.cells #[.bool s, .int .i64 (p : Int), .int .u64 (d : Int)] 62)) w.heap.size 62 #[.bool s, .int .i64 (p : Int), .int .u64 (d : Int)] := Blk.new w _ _
  have h1 := hb.cell 1
  have h2 := hb.cell 2
  clear hb
  by_cases hz : 1075 - (p : Int) - up ≤ 0
  · have t0 : decide (1075 - (p : Int) - up ≤ 0) = true := by simpa using hz
    have HE : Hid (splitF p d up = (4503599627370496, 0, 1)) := if_pos hz
    go_enter Try.func34, Try.ntmps34
    go_wp2
    go_ret3
    rw [HE.out]
    exact ⟨rfl, new_alloc (Below.refl _ _) _⟩
  · have t0 : decide (1075 - (p : Int) - up ≤ 0) = false := by simpa using hz
    have HE := Lib.hid (show splitF p d up = _ from if_neg hz)
    by_cases h54 : 54 < 1075 - (p : Int) - up
    · have t1 : decide (54 < 1075 - (p : Int) - up) = true := by simpa using h54
      have HM : Hid (bits .and .u64 (d : Int) 18014398509481983 = (d : Int)) := by
        have h := mask_is (k := 54) (show d < 18446744073709551616 by omega) (by decide)
        rw [Nat.mod_eq_of_lt (show d < 2 ^ 54 by rw [show (2 : Nat) ^ 54 = 18014398509481984 from rfl]; omega)] at h
        exact h
      have HK : Hid (splitF p d up = (0, d, 9007199254740992)) := by
        show _ = _
        rw [HE.out, show (min (1075 - (p : Int) - up) 54).toNat = 54 by omega, show (2 : Nat) ^ 54 = 18014398509481984 from rfl, Nat.div_eq_of_lt (by omega), Nat.mod_eq_of_lt (by omega)]
      have e1 : (d : Int) / 18014398509481984 = 0 := by omega
      clear HE
      go_enter Try.func34, Try.ntmps34
      go_wp2
      go_quiet (fail)
      go_wp2
      go_ret3
      rw [HK.out]
      exact ⟨ret_tri rfl HM.out rfl, new_call (new_alloc (Below.refl _ _) _) (quiet_below7 _ _)⟩
    · obtain ⟨k, hk⟩ : ∃ k : Nat, 1075 - (p : Int) - up = (k : Int) := ⟨(1075 - (p : Int) - up).toNat, by omega⟩
      have hk1 : 1 ≤ k ∧ k ≤ 54 := by omega
      rw [hk, show (min (k : Int) 54).toNat = k by omega] at HE
      have HM := Lib.hid (mask_is (k := k) (show d < 18446744073709551616 by omega) (by omega))
      have hpow : 2 ^ k ≤ 2 ^ 54 := Nat.pow_le_pow_right (by decide) (by omega)
      rw [show (2 : Nat) ^ 54 = 18014398509481984 from rfl] at hpow
      have hpos := Nat.two_pow_pos k
      have hcast : ((2 : Int) ^ k) = ((2 ^ k : Nat) : Int) := by simp
      have H1 : Hid (IntKind.wrap .u64 (IntKind.wrap .u64 ((2 : Int) ^ k) - 1) = ((2 ^ k - 1 : Nat) : Int)) := by
        show _ = _
        rw [hcast, IntKind.wrap_u64, IntKind.wrap_u64]; omega
      have H2 : Hid (IntKind.wrap .u64 ((IntKind.wrap .u64 ((2 : Int) ^ k)).tdiv 2) = ((2 ^ k / 2 : Nat) : Int)) := by
        show _ = _
        rw [hcast, IntKind.wrap_u64 ((2 ^ k : Nat) : Int), show ((2 ^ k : Nat) : Int) % 18446744073709551616 = ((2 ^ k : Nat) : Int) by omega, show ((2 ^ k : Nat) : Int).tdiv 2 = ((2 ^ k / 2 : Nat) : Int) from rfl, IntKind.wrap_u64]; omega
      have H3 : Hid ((d : Int) / 2 ^ k = ((d / 2 ^ k : Nat) : Int)) := by show _ = _; rw [hcast]; rfl
      clear hpow hpos hcast
      go_enter Try.func34, Try.ntmps34
      go_wp2
      go_quiet (fail)
      go_wp2
      go_ret3
      rw [HE.out]
      exact ⟨ret_tri H3.out (by rw [H1.out]; exact HM.out) H2.out, new_call (new_alloc (Below.refl _ _) _) (quiet_below7 _ _)⟩
theorem piecesInfo : (Try.prog.info? 62).map (fun i => (i.zero, i.size)) = some (some (.agg #[.bool false, .int .i64 0, .int .u64 0]), 3) := by kernel_rfl
theorem results_cell7 {fn : Func} {p : Tmp} {ty : TypeId} (h : fn.results = #[.cell p ty]) {tmps : Array Value} {P : Program} {w : World} {a : Addr} {v : Value} (hp : tmps.getD p undef = .pointer (some a))
    (hl : (loadVar ty a).run P w = .ok v w) : (results fn tmps).run P w = .ok v w := by
  have hp' : tmps[p]?.getD undef = .pointer (some a) := by rw [← hp]; simp
  simp only [results, h]
  simp [hp', asAddr, hl]
theorem ret_pc {s s' : Bool} {a a' b b' : Int} (h1 : s = s') (h2 : a = a') (h3 : b = b') : Ending.returned (.agg #[.bool s, .int .i64 a, .int .u64 b]) = .returned (.agg #[.bool s', .int .i64 a', .int .u64 b']) := by rw [h1, h2, h3]
theorem or_first {f : Nat} (h : f < 4503599627370496) : bits .or .u64 (f : Int) 4503599627370496 = ((4503599627370496 + f : Nat) : Int) := by
  rw [show (4503599627370496 : Int) = ((4503599627370496 : Nat) : Int) from rfl, u64_or_nat _ _ (by omega) (by decide)]
  congr 1
  rw [Nat.or_comm]
  exact (Nat.two_pow_add_eq_or_of_lt (i := 52) h 1).symm
theorem pieces_load (W : World) (s : Bool) (a b : Int) (g : Nat) (h : Blk W g 62 #[.bool s, .int .i64 a, .int .u64 b]) : (loadVar 62 ⟨g, 0, none⟩).run Try.prog W = .ok (.agg #[.bool s, .int .i64 a, .int .u64 b]) W := by
  obtain ⟨kz, ks⟩ := zero_of_info piecesInfo
  exact run_loadVar_row _ _ _ _ _ _ _ h Try.underlying62 rfl (by rw [ks]; rfl)
set_option maxRecDepth 100000 in
theorem gridApart_any (b : Nat) (w : World) (hb : b < 18446744073709551616) : Calls Try.prog 33 #[.float .f64 b] w fun e w' => e = .returned (pcV (negF b) (upF b + 1) (magF b)) ∧ Below w.heap.size w w' := by
  unfold pcV
  obtain ⟨kz, ks⟩ := zero_of_info piecesInfo
  have hbits := fun W => bits_run b W
  have e1 : bits .and .u64 ((b : Int) / 4503599627370496) 2047 = (expF b : Int) := mask_is (k := 11) (d := b / 4503599627370496) (by omega) (by decide)
  have e2 : bits .and .u64 (b : Int) 4503599627370495 = (fracF b : Int) := mask_is (k := 52) (d := b) hb (by decide)
  have he := expF_lt b
  have hf := fracF_lt b
  have HN : Hid (((b : Int) / 9223372036854775808 != 0) = negF b) := by
    show _ = _
    unfold negF
    by_cases h : b / 9223372036854775808 = 1
    · rw [h]; exact bne_iff_ne.2 (by omega)
    · rw [beq_eq_false_iff_ne.2 h]; exact bne_eq_false_iff_eq.2 (by omega)
  by_cases h0 : expF b = 0
  · have HU : Hid (((upF b + 1 : Nat) : Int) = 1) := by show _ = _; unfold upF; omega
    have HM : Hid ((magF b : Int) = (fracF b : Int)) := by show _ = _; unfold magF; rw [if_pos h0]
    rw [h0] at e1
    clear h0 he
    go_enter Try.func33, Try.ntmps33
    go_wp2
    refine bodyPost_ret (results_cell7 Try.results33 rfl (pieces_load _ _ _ _ _ ((Blk.new w _ _).alloc _))) rfl ⟨ret_pc HN.out HU.out.symm HM.out.symm, new_alloc (new_alloc (Below.refl _ _) _) _⟩
  · have HU : Hid (((upF b + 1 : Nat) : Int) = (expF b : Int)) := by show _ = _; unfold upF; omega
    have HM : Hid ((magF b : Int) = ((4503599627370496 + fracF b : Nat) : Int)) := by show _ = _; unfold magF; rw [if_neg h0]
    have e3 := or_first hf
    have t0 : ((expF b : Int) == 0) = false := beq_eq_false_iff_ne.2 (by omega)
    clear h0
    go_enter Try.func33, Try.ntmps33
    go_wp2
    refine bodyPost_ret (results_cell7 Try.results33 rfl (pieces_load _ _ _ _ _ ((Blk.new w _ _).alloc _))) rfl ⟨ret_pc HN.out HU.out.symm (by first | exact HM.out.symm | (rw [HM.out]; simp)), new_alloc (new_alloc (Below.refl _ _) _) _⟩
end Go.Proofs.Ytilekfappdlooaa
