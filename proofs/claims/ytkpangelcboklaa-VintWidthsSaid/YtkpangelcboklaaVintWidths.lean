/- Of any uint64, width and bytes ahead: VintWidths answers true: a fixed field is read as it was. Conditions: none. -/
import Derived.Test.YtkpangelcboklaaKnown01
import Derived.Test.YtkpangelcboklaaRefField
import Derived.Test.YtkpangelcboklaaLaw
namespace Go.Proofs.Ytkpangelcboklaa.vintWidths
open Go.ChangeShapes Go.WideShapes Go.ChangeAt Go.RowKit

theorem fixed_one {n q : Nat} (hq : q ≤ 7) (h : n < 256 ^ (q + 1)) : fixed n (1 + (q : Int)) = (fixedN n (q + 1), 0) := by
  have e : (1 : Int) + (q : Int) = ((q + 1 : Nat) : Int) := by omega
  rw [e]; exact fixed_fits (by omega) (by omega) (by omega)
theorem fixed_not {n q : Nat} (h : ¬ n < 256 ^ (q + 1)) : fixed n (1 + (q : Int)) = ([], 2) := by
  have e : (1 : Int) + (q : Int) = ((q + 1 : Nat) : Int) := by omega
  rw [e]; exact fixed_big (by omega)
theorem val8_fixedN : ∀ (W n : Nat), n < 256 ^ W → val8 (fixedN n W) = n
  | 0, n, h => by simp at h; subst h; rfl
  | W + 1, n, h => by
    have h1 : fixedN n (W + 1) = (n % 256) :: fixedN (n / 256) W := by
      unfold fixedN
      rw [List.range_succ_eq_map, List.map_cons, List.map_map]
      congr 1
      · unfold dig; simp
      · apply List.map_congr_left
        intro i _
        simp only [Function.comp, dig, Nat.succ_eq_add_one, Nat.pow_succ, Nat.div_div_eq_div_mul]
        rw [Nat.mul_comm]
    rw [h1]
    simp only [val8]
    rw [val8_fixedN W (n / 256) (by rw [Nat.pow_succ] at h; exact Nat.div_lt_of_lt_mul (by omega))]
    omega
theorem fixedN_more {n W : Nat} (h : n < 256 ^ W) : fixedN n (W + 1) = fixedN n W ++ [0] := by
  unfold fixedN
  rw [List.range_succ, List.map_append]
  simp [dig, Nat.div_eq_of_lt h]
theorem field_there {l : List Nat} {n q : Nat} (hq : q ≤ 7) (h : n < 256 ^ (q + 1)) : field (l ++ fixedN n (q + 1)) (l.length : Int) (1 + (q : Int)) = (n, 0) := by
  have e : (1 : Int) + (q : Int) = ((q + 1 : Nat) : Int) := by omega
  rw [e, field_ok (by omega) (by rw [List.length_append, fixedN_len]; omega), List.drop_left, List.take_of_length_le (by rw [fixedN_len]; omega), val8_fixedN _ _ h]
theorem field_past {l : List Nat} {n q : Nat} (hq : q ≤ 7) : field (l ++ fixedN n (q + 1)) ((l.length : Int) + 1) (1 + (q : Int)) = (0, 10) :=
  field_short (by omega) (by omega) (by rw [List.length_append, fixedN_len]; omega)

theorem shl_is {q : Nat} (h : q ≤ 6) : IntKind.u64.wrap ((2 : Int) ^ (8 * (1 + q))) = ((256 ^ (q + 1) : Nat) : Int) := by
  have p : ((2 : Int) ^ (8 * (1 + q))) = ((256 ^ (q + 1) : Nat) : Int) := by rw [Nat.add_comm 1 q, ← pow8]; simp
  have h2 := Nat.pow_le_pow_right (n := 256) (by decide) (show q + 1 ≤ 7 by omega)
  have e : (256 : Nat) ^ 7 = 72057594037927936 := by decide
  rw [e] at h2
  rw [p]
  generalize 256 ^ (q + 1) = P at *
  rw [wraps_u64 _ (by omega) (by omega)]

set_option maxRecDepth 100000 in
set_option maxHeartbeats 1000000 in
theorem walk (N z : Int) (A : Option Addr) (n c : Nat) (l : List Nat) (w : World) (hN : 0 ≤ N ∧ N ≤ 18446744073709551615) (hz : 0 ≤ z ∧ z ≤ 255)
    (hh : Has w A n c (u8s l)) (hb : ∀ x ∈ l, x < 256) (hn : n ≤ 9223372036854775807) :
    Calls Try.prog 11 #[.int .u64 N, .int .u8 z, .slice A n c] w fun e w' => e = .returned (.bool true) ∧ Below w.heap.size w w' := by
  obtain ⟨m, rfl⟩ := Int.eq_ofNat_of_zero_le hN.1
  obtain ⟨q, hq⟩ : ∃ q : Nat, z % 8 = q := ⟨(z % 8).toNat, by omega⟩
  have hq7 : q ≤ 7 := by omega
  have hl : l.length = n := by have := hh.len; rw [u8s_len] at this; exact this
  by_cases hbig : 400 < n
  · have t : decide ((400 : Int) < (n : Int)) = true := by simp; omega
    clear hh hb hl
    go_enter Try.func11, Try.ntmps11
    go_wp2_with (go_at_call 12; refine (known01 _).mono ?_; rintro e w' ⟨rfl, hb⟩)
    go_ret
    exact ⟨rfl, hb⟩
  · have t : decide ((400 : Int) < (n : Int)) = false := by simp; omega
    by_cases hfit : m < 256 ^ (q + 1)
    · have HX := Lib.hid (fixed_any m (1 + (q : Int)) w (by omega))
      rw [fixed_one hq7 hfit] at HX
      have HL := Lib.hid hl
      have HH := Lib.hid hh
      have HBy := Lib.hid hb
      have HFI := Lib.hid hfit
      clear hl hh hb hfit
      go_enter Try.func11, Try.ntmps11
      go_wp2_with fail
      refine HX.out.mono ?_
      rintro e w1 ⟨v1, rfl, ho1, hb1⟩
      obtain ⟨A1, c1, rfl, hh1⟩ := ho1.has
      rw [u8s_len, fixedN_len] at hh1
      have HB1 := Lib.hid hb1
      have HH1 := Lib.hid hh1
      have HO1 := Lib.hid ho1
      clear hb1 ho1 hh1
      rw [u8s_len, fixedN_len]
      have h8 : (((1 : Int) + (q : Int) == 8) = true ∧ 7 ≤ q) ∨ (((1 : Int) + (q : Int) == 8) = false ∧ decide ((m : Int) < IntKind.u64.wrap (2 ^ (8 * (1 + q)))) = true ∧ q ≤ 6) := by
        by_cases h : q = 7
        · exact Or.inl ⟨by rw [beq_iff_eq]; omega, by omega⟩
        · exact Or.inr ⟨beq_eq_false_iff_ne.2 (by omega), by rw [shl_is (by omega)]; exact decide_eq_true (by have := HFI.out; omega), by omega⟩
      have HHk := Lib.hid (HH.out.kept HB1.out)
      have e3 : ([] ++ u8s l ++ u8s (fixedN m (q + 1))) = u8s (l ++ fixedN m (q + 1)) := by rw [u8s_app]; rfl
      have E3 := Lib.hid e3
      clear e3
      rcases h8 with ⟨t8, h7⟩ | ⟨t8, tf, h6⟩
      all_goals
        go_wp2_with (first
          | (at_builtin; refine wpList_join rfl (.tmp 55) (.tmp 56) 24 rfl elem8 w1.heap.size _ [] rfl (Own.nil _ _ _) _ _ _ _ rfl HHk.out (u8s_one _) (by simp; omega) (by decide) (Nat.le_refl _) ?_; intro v2 w2 hown2 hbel2; have HO2 := Lib.hid hown2; have HB2 := Lib.hid hbel2; clear hown2 hbel2)
          | (at_builtin; refine wpList_join rfl (.tmp 58) (.tmp 59) 24 rfl elem8 w1.heap.size _ _ rfl HO2.out _ _ _ _ rfl (HH1.out.kept HB2.out) (u8s_one _) (by simp [u8s_len, HL.out]; omega) (by decide) HB2.out.size ?_; intro v3 w3 hown3 hbel3; have HO3 := Lib.hid hown3; have HB3 := Lib.hid hbel3; clear hown3 hbel3)
          | fail)
        rw [E3.out] at HO3
        obtain ⟨A3, c3, hv3, hh3⟩ := HO3.out.has
        rw [u8s_len, List.length_append, fixedN_len, HL.out] at hv3 hh3
        subst hv3
        have HB13 := Lib.hid (HB2.out.trans HB3.out)
        have hby : ∀ x ∈ l ++ fixedN m (q + 1), x < 256 := by
          intro x hx
          rcases List.mem_append.1 hx with h | h
          · exact HBy.out x h
          · exact fixedN_byte _ _ x h
        have HF1 := Lib.hid (field_any A3 _ c3 _ (n : Int) (1 + (q : Int)) w3 hh3 hby (by omega) (by omega))
        have HF2 := Lib.hid (field_any A3 _ c3 _ ((n : Int) + 1) (1 + (q : Int)) w3 hh3 hby (by omega) (by omega))
        have e1 := field_there (l := l) hq7 HFI.out
        have e2 := field_past (l := l) (n := m) hq7
        rw [HL.out] at e1 e2
        rw [e1] at HF1
        rw [e2] at HF2
        clear e1 e2 hby hh3
        have HK := Lib.hid (new_call HB1.out HB13.out)
      · go_wp2_with fail
        refine HF1.out.mono ?_
        rintro e w' ⟨rfl, rfl⟩
        go_wp2_with fail
        refine HF2.out.mono ?_
        rintro e w' ⟨rfl, rfl⟩
        have t7 : decide ((1 : Int) + (q : Int) < 8) = false := by simp; omega
        go_wp2_with fail
        refine (refFixed_any m (1 + (q : Int)) w3 (by omega)).mono ?_
        rw [fixed_one hq7 HFI.out]
        rintro e w4 ⟨v4, rfl, ho4, hb4⟩
        have HB4 := Lib.hid hb4
        clear ho4 hb4
        go_wp2_with (go_at_call 12; refine (known01 _).mono ?_; rintro e w' ⟨rfl, hb⟩)
        go_ret
        exact ⟨rfl, new_call (new_call HK.out HB4.out) hb⟩
      · go_wp2_with fail
        refine HF1.out.mono ?_
        rintro e w' ⟨rfl, rfl⟩
        go_wp2_with fail
        refine HF2.out.mono ?_
        rintro e w' ⟨rfl, rfl⟩
        have t7 : decide ((1 : Int) + (q : Int) < 8) = true := by simp; omega
        go_wp2_with fail
        refine (fixed_any m (1 + (q : Int) + 1) w3 (by omega)).mono ?_
        have ef : fixed m (1 + (q : Int) + 1) = (fixedN m (q + 1) ++ [0], 0) := by
          have e := fixed_one (n := m) (q := q + 1) (by omega) (by rw [Nat.pow_succ]; have := HFI.out; omega)
          rw [show (1 : Int) + (q : Int) + 1 = 1 + ((q + 1 : Nat) : Int) by omega, e, fixedN_more HFI.out]
        rw [ef]
        rintro e w4 ⟨v4, rfl, ho4, hb4⟩
        clear ef
        obtain ⟨g4, c4, hv4, _, _⟩ := ho4.form (by rw [u8s_len]; simp)
        rw [u8s_len, List.length_append, fixedN_len, List.length_singleton] at hv4
        subst hv4
        have hl4 : (u8s (fixedN m (q + 1) ++ [0])).length = q + 1 + 1 := by rw [u8s_len, List.length_append, fixedN_len]; rfl
        have hc4 := (ho4.cellAt hl4 (q + 1) (by omega)).1
        have hc4' : w4.cell? ⟨g4, q + 1, none⟩ = some (.int .u8 0) := by
          rw [hc4]; simp [u8s, fixedN_len]
        have hh4 : Has w4 (some ⟨g4, 0, none⟩) (q + 1 + 1) c4 (u8s (fixedN m (q + 1) ++ [0])) := by
          obtain ⟨A', c', hv, hh⟩ := ho4.has
          rw [hl4] at hv hh
          injection hv with h1 h2 h3
          subst h1 h3
          exact hh
        have hcap := hh4.cap
        have HH4 := Lib.hid hh4
        have HB4 := Lib.hid hb4
        clear ho4 hb4 hc4 hl4 hh4
        have tl : ((((q + 1 + 1 : Nat) : Int)) != 1 + (q : Int) + 1) = false := by rw [bne_eq_false_iff_eq]; omega
        go_wp2_with fail
        have hhd := HH4.out.head (m := 1 + q) (by omega)
        have ehd : (u8s (fixedN m (q + 1) ++ [0])).take (1 + q) = u8s (fixedN m (q + 1)) := by
          rw [u8s_app, List.take_append_of_le_length (by rw [u8s_len, fixedN_len]; omega), List.take_of_length_le (by rw [u8s_len, fixedN_len]; omega)]
        rw [ehd] at hhd
        refine (same_any _ _ _ _ _ _ (fixedN m (q + 1)) (fixedN m (q + 1)) _ hhd ((HH1.out.kept HB13.out).kept HB4.out) (fixedN_byte _ _) (fixedN_byte _ _)).mono ?_
        rintro e w' ⟨rfl, rfl⟩
        clear ehd hhd
        have hc5 : w4.cell? ⟨g4, 1 + q, none⟩ = some (.int .u8 0) := by rw [Nat.add_comm]; exact hc4'
        go_wp2_with fail
        refine (refFixed_any m (1 + (q : Int)) w4 (by omega)).mono ?_
        rw [fixed_one hq7 HFI.out]
        rintro e w5 ⟨v5, rfl, ho5, hb5⟩
        have HB5 := Lib.hid hb5
        clear ho5 hb5
        go_wp2_with (go_at_call 12; refine (known01 _).mono ?_; rintro e w' ⟨rfl, hb⟩)
        go_ret
        exact ⟨rfl, new_call (new_call (new_call HK.out HB4.out) HB5.out) hb⟩
    · have HX := Lib.hid (fixed_any m (1 + (q : Int)) w (by omega))
      rw [fixed_not hfit] at HX
      have hq6 : q ≤ 6 := by
        rcases Nat.lt_or_ge q 7 with h | h
        · omega
        · obtain rfl : q = 7 := by omega
          have e : (256 : Nat) ^ (7 + 1) = 18446744073709551616 := by decide
          rw [e] at hfit; omega
      have t8 : ((1 : Int) + (q : Int) == 8) = false := beq_eq_false_iff_ne.2 (by omega)
      have tf : decide ((m : Int) < IntKind.u64.wrap (2 ^ (8 * (1 + q)))) = false := by rw [shl_is hq6]; exact decide_eq_false (by omega)
      clear hh hb hl hfit
      go_enter Try.func11, Try.ntmps11
      go_wp2_with fail
      refine HX.out.mono ?_
      rintro e w1 ⟨v1, rfl, ho1, hb1⟩
      obtain ⟨A1, c1, rfl, hh1⟩ := ho1.has
      have HB1 := Lib.hid hb1
      clear hb1 ho1 hh1
      rw [u8s_len]
      go_wp2_with (go_at_call 12; refine (known01 _).mono ?_; rintro e w' ⟨rfl, hb⟩)
      go_ret
      exact ⟨rfl, new_call HB1.out hb⟩

set_option maxRecDepth 100000 in
theorem lifted (os : Os) (started : os.Started) (H : Type) (enc : TypeId × Value → H) :
    ReturnsInHanded {} Try.checked os 11 .any (Rows.vintWidthsSpec.pre6 enc Try.prog Try.f11 Rows.vintWidthsRow.domain false) (Rows.vintWidthsSpec.post enc Try.prog Try.f11 false true false false) := by
  refine returnsInHanded_of_change (C := Try.checked) Try.own started (by kernel_rfl) Try.func11
    (ChangeSpec.witness6 (enc := enc) (C := Try.checked) false ⟨#[], #[.int .u64 0, .int .u8 0, .slice none 0 0], []⟩ 8 (by kernel_rfl) (by kernel_rfl) (by kernel_rfl) (by kernel_rfl)) ?_
  intro W base args ds gs before hval0 hW _ _
  have hval : ∀ (j : Nat) t v, Try.f11.params[j]? = some t → args[j]? = some v → Value.okWide Try.prog W .any base t v := hval0
  have hW' := hW
  obtain ⟨p, q, hA0, hV, rfl, _, _⟩ := hW
  have hA : DataW.TrodAll enc Try.prog W 0 (fun _ => true) true Try.f11.params.toList args.toList ds p := hA0
  rw [Try.params11] at hA hval
  obtain ⟨v0, v1, v2, d0, d1, d2, p0, p1, p2, rfl, rfl, rfl, h0, h1, h2⟩ := trodAll_three hA
  obtain ⟨rfl, rfl⟩ := trodVars_none hV
  obtain ⟨a0, rfl, rfl, rfl, w0⟩ := open_int Try.underlying26 (hval 0 26 v0 rfl rfl) h0
  obtain ⟨a1, rfl, rfl, rfl, w1⟩ := open_int Try.underlying5 (hval 1 5 v1 rfl rfl) h1
  obtain ⟨A2, n2, c2, bs2, rfl, hh2, hb2, hn2⟩ := open_bytes (hval 2 24 v2 rfl rfl) h2
  exact (walk a0 a1 A2 n2 c2 bs2 W (wf_u64 w0) (wf_u8 w1) hh2 hb2 hn2).mono fun e W' he =>
    law_post rfl rfl (by rw [Try.params11]; intro t ht; simp at ht; rcases ht with rfl | rfl | rfl <;> exact ⟨by kernel_rfl, of_decide_eq_true (by kernel_rfl)⟩) hW' rfl he

theorem proved : Rows.VintWidthsSaid :=
  OpenClaim.holds_of_wide 11 Try.f11 rfl rfl rfl rfl rfl rfl rfl ⟨rfl, rfl, rfl, rfl, rfl⟩ rfl rfl rfl rfl rfl (by kernel_rfl) Try.func11 (by kernel_rfl)
    (of_decide_eq_true (by kernel_rfl)) (by unfold Func.isWrapper; first | (rw [if_pos (by decide +kernel)]; kernel_rfl) | (rw [if_neg (by decide +kernel)]; exact ⟨rfl, rfl⟩))
    (fun os started H enc _ => lifted os started H enc)
end Go.Proofs.Ytkpangelcboklaa.vintWidths
