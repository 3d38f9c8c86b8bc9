/- Of any two uint64: VintLong answers true: a number has as many bytes as it has sevens of bits. Conditions: none. -/
import Derived.Test.YtkpangelcboklaaKnown01
import Derived.Test.YtkpangelcboklaaLaw
namespace Go.Proofs.Ytkpangelcboklaa.vintLong
open Go.ChangeShapes Go.WideShapes Go.ChangeAt Go.RowKit

theorem shr_is (n k : Nat) (hn : n < 18446744073709551616) (hk : k ≤ 10) : Op.shift .shr .u64 (n : Int) .i64 (7 * (k : Int)) = pure (.int .u64 ((n / 128 ^ k : Nat) : Int)) := by
  rw [shift_shr_any _ _ _ _ (by omega)]
  have e : (7 * (k : Int)).toNat = 7 * k := by omega
  rw [e]
  by_cases h : k ≤ 9
  · rw [Nat.min_eq_left (by show 7 * k ≤ 64; omega), shr7]
  · obtain rfl : k = 10 := by omega
    have e2 : min (7 * 10) IntKind.u64.bits = 64 := by decide
    have e3 : (128 : Nat) ^ 10 = 1180591620717411303424 := by decide
    have e4 : ((2 : Int) ^ 64) = 18446744073709551616 := by decide
    rw [e2, e3, e4, Nat.div_eq_of_lt (by omega)]
    congr 3
    omega
set_option maxRecDepth 100000 in
set_option maxHeartbeats 1000000 in
theorem walk (N M : Int) (w : World) (hN : 0 ≤ N ∧ N ≤ 18446744073709551615) (hM : 0 ≤ M ∧ M ≤ 18446744073709551615) :
    Calls Try.prog 10 #[.int .u64 N, .int .u64 M] w fun e w' => e = .returned (.bool true) ∧ Below w.heap.size w w' := by
  obtain ⟨n, rfl⟩ := Int.eq_ofNat_of_zero_le hN.1
  obtain ⟨m, rfl⟩ := Int.eq_ofNat_of_zero_le hM.1
  go_enter Try.func10, Try.ntmps10
  go_wp2_with fail
  refine (put_one n w (by omega) _ rfl).mono ?_
  rintro e w1 ⟨A1, c1, rfl, hh1, ho1, hb1⟩
  have B1 := Lib.hid (new_call (new_alloc (Below.refl _ _) _) hb1)
  clear hh1 ho1 hb1
  go_wp2_with fail
  refine (put_one m w1 (by omega) _ rfl).mono ?_
  rintro e w2 ⟨A2, c2, rfl, hh2, ho2, hb2⟩
  have B2 := Lib.hid (new_call (new_alloc B1.out _) hb2)
  clear hh2 ho2 hb2 B1
  have HC1 := Lib.hid (putN_len_is · n)
  have HC2 : Hid (n ≤ m → (putN n).length ≤ (putN m).length) := fun h => putN_len_mono n n m (Nat.le_refl _) h
  have HC3 : Hid (m ≤ n → (putN m).length ≤ (putN n).length) := fun h => putN_len_mono m m n (Nat.le_refl _) h
  have hl1 := putN_len (n := n) (by omega)
  have hl2 := putN_len (n := m) (by omega)
  generalize (putN n).length = L1 at *
  generalize (putN m).length = L2 at *
  go_wp2
  go_loopg [7] 9 (fun g s7 wx => ∃ k : Nat, 1 ≤ k ∧ k + g = 10 ∧ s7 = .int .i64 k ∧ w2 = wx ∧ Hid (k = 1 ∨ 128 ^ (k - 1) ≤ n))
  case atStart => exact ⟨1, by omega, by omega, rfl, rfl, Or.inl rfl⟩
  case round =>
    obtain ⟨k, hk1, hkg, rfl, rfl, HK⟩ := hrel
    by_cases hz : n / 128 ^ k = 0
    · have tq : (n / 128 ^ k == 0) = true := by rw [hz]; rfl
      have hsh := shr_is n k (by omega) (by omega)
      rw [hz] at hsh
      have hlt : n < 128 ^ k := by
        rcases Nat.lt_or_ge n (128 ^ k) with h | h
        · exact h
        · have := Nat.div_pos h (Nat.pow_pos (by decide)); omega
      obtain rfl : L1 = k := by
        have := HC1.out (k - 1) (by rw [show k - 1 + 1 = k by omega]; exact hlt) (match HK.out with | Or.inl h => Or.inl (by omega) | Or.inr h => Or.inr h)
        omega
      clear hz hlt HC1 HK
      have h3 : (n < m ∧ L1 ≤ L2) ∨ (n = m ∧ L1 ≤ L2 ∧ L2 ≤ L1) ∨ (m < n ∧ L2 ≤ L1) := by
        rcases Nat.lt_or_ge n m with h | h
        · exact Or.inl ⟨h, HC2.out (by omega)⟩
        · rcases Nat.lt_or_ge m n with h' | h'
          · exact Or.inr (Or.inr ⟨h', HC3.out (by omega)⟩)
          · exact Or.inr (Or.inl ⟨by omega, HC2.out (by omega), HC3.out (by omega)⟩)
      rcases h3 with ⟨h3, h4⟩ | ⟨rfl, h4, h5⟩ | ⟨h3, h4⟩
      all_goals
        go_wp2_with (go_at_call 12; refine (known01 _).mono ?_; rintro e w' ⟨rfl, hb⟩)
        go_ret
        exact ⟨rfl, new_call B2.out hb⟩
    · have hle : 128 ^ k ≤ n := by
        rcases Nat.lt_or_ge n (128 ^ k) with h | h
        · exact absurd (Nat.div_eq_of_lt h) hz
        · exact h
      have hk10 : k < 10 := by
        rcases Nat.lt_or_ge k 10 with h | h
        · exact h
        · have h2 := Nat.pow_le_pow_right (n := 128) (by decide) h
          have e : (128 : Nat) ^ 10 = 1180591620717411303424 := by decide
          omega
      have tq : decide ((0 : Int) < (n : Int) / 2 ^ (7 * k)) = true := by
        have hpos : 0 < n / 128 ^ k := Nat.pos_of_ne_zero hz
        rw [shr7]; exact decide_eq_true (by omega)

      have HN : Hid (k + 1 = 1 ∨ 128 ^ (k + 1 - 1) ≤ n) := Or.inr hle
      clear hle HK hz
      go_wp2
      go_roundg (gk - 1)
      case measure => omega
      case rel => exact ⟨k + 1, by omega, by omega, by go_num, rfl, HN⟩

set_option maxRecDepth 100000 in
theorem lifted (os : Os) (started : os.Started) (H : Type) (enc : TypeId × Value → H) :
    ReturnsInHanded {} Try.checked os 10 .any (Rows.vintLongSpec.pre6 enc Try.prog Try.f10 Rows.vintLongRow.domain false) (Rows.vintLongSpec.post enc Try.prog Try.f10 false true false false) := by
  refine returnsInHanded_of_change (C := Try.checked) Try.own started (by kernel_rfl) Try.func10
    (ChangeSpec.witness6 (enc := enc) (C := Try.checked) false ⟨#[], #[.int .u64 0, .int .u64 0], []⟩ 8 (by kernel_rfl) (by kernel_rfl) (by kernel_rfl) (by kernel_rfl)) ?_
  intro W base args ds gs before hval0 hW _ _
  have hval : ∀ (j : Nat) t v, Try.f10.params[j]? = some t → args[j]? = some v → Value.okWide Try.prog W .any base t v := hval0
  have hW' := hW
  obtain ⟨p, q, hA0, hV, rfl, _, _⟩ := hW
  have hA : DataW.TrodAll enc Try.prog W 0 (fun _ => true) true Try.f10.params.toList args.toList ds p := hA0
  rw [Try.params10] at hA hval
  obtain ⟨v0, v1, d0, d1, p0, p1, rfl, rfl, rfl, h0, h1⟩ := trodAll_two hA
  obtain ⟨rfl, rfl⟩ := trodVars_none hV
  obtain ⟨a0, rfl, rfl, rfl, w0⟩ := open_int Try.underlying26 (hval 0 26 v0 rfl rfl) h0
  obtain ⟨a1, rfl, rfl, rfl, w1⟩ := open_int Try.underlying26 (hval 1 26 v1 rfl rfl) h1
  exact (walk a0 a1 W (wf_u64 w0) (wf_u64 w1)).mono fun e W' he =>
    law_post rfl rfl (by rw [Try.params10]; intro t ht; simp at ht; subst ht; exact ⟨by kernel_rfl, of_decide_eq_true (by kernel_rfl)⟩) hW' rfl he

theorem proved : Rows.VintLongSaid :=
  OpenClaim.holds_of_wide 10 Try.f10 rfl rfl rfl rfl rfl rfl rfl ⟨rfl, rfl, rfl, rfl, rfl⟩ rfl rfl rfl rfl rfl (by kernel_rfl) Try.func10 (by kernel_rfl)
    (of_decide_eq_true (by kernel_rfl)) (by unfold Func.isWrapper; first | (rw [if_pos (by decide +kernel)]; kernel_rfl) | (rw [if_neg (by decide +kernel)]; exact ⟨rfl, rfl⟩))
    (fun os started H enc _ => lifted os started H enc)
end Go.Proofs.Ytkpangelcboklaa.vintLong
