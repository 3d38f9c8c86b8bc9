/- lapidaryref01.Fixed and lapidaryref01.Field answer what vint's do. -/
import Derived.Test.YtkpangelcboklaaField
namespace Go.Proofs.Ytkpangelcboklaa
open Go.RowKit

set_option maxRecDepth 100000 in
set_option maxHeartbeats 1000000 in
theorem refFixed_any (n : Nat) (width : Int) (w : World) (hn : n < 18446744073709551616) :
    Calls Try.prog 29 #[.int .u64 n, .int .i64 width] w (Fixd w (fixed n width)) := by
  by_cases hw : 1 ≤ width ∧ width ≤ 8
  · obtain ⟨W, rfl⟩ := Int.eq_ofNat_of_zero_le (show 0 ≤ width by omega)
    have t1 : decide ((W : Int) < 1) = false := by simp; omega
    have t8 : decide ((8 : Int) < (W : Int)) = false := by simp; omega
    have HB := Lib.hid (fixed_big (n := n) (W := W))
    have HF := Lib.hid (fixed_fits (n := n) (W := W) (by omega) (by omega))
    go_enter Try.func29, Try.ntmps29
    go_wp2
    go_loopg [0, 6, 7] W (fun g s0 s6 s7 wx => ∃ i m : Nat, i + g = W ∧ s7 = .int .i64 i ∧ s0 = .int .u64 m ∧ m < 18446744073709551616 ∧ Hid (m = n / 256 ^ i) ∧ Own wx w.heap.size 5 s6 (u8s ((List.range i).map (dig n))) ∧ Below w.heap.size w wx)
    case atStart => exact ⟨0, n, by omega, rfl, rfl, hn, by show _ = _; simp, Own.nil _ _ _, Below.refl _ _⟩
    case round =>
      obtain ⟨i, m, hig, rfl, rfl, hm, HM, hown, hbel⟩ := hrel
      by_cases hi : i < W
      · have HR := Lib.hid hown
        have HBl := Lib.hid hbel
        have hsz := hbel.size
        have HM2 : Hid (m / 256 = n / 256 ^ (i + 1)) := by show _ = _; rw [HM.out, Nat.div_div_eq_div_mul, Nat.pow_succ]
        have HD : Hid (m % 256 = dig n i) := by show _ = _; rw [HM.out]; rfl
        clear hown hbel
        go_wp2_with (at_builtin; refine wpList_join rfl _ _ 24 rfl elem8 w.heap.size _ _ rfl (HR.out.alloc _) _ 1 1 [_] rfl (Has.one _ _ _) ?d1 ?d2 (by decide) ?d3 ?_)
        case d1 => intro u hu; simp at hu; subst hu; rfl
        case d2 => rw [u8s_len, List.length_map, List.length_range]; omega
        case d3 => simp; omega
        intro v' w' hown' hbel'
        have R1 : Own w' w.heap.size 5 v' (u8s ((List.range (i + 1)).map (dig n))) := by
          have e : u8s ((List.range (i + 1)).map (dig n)) = u8s ((List.range i).map (dig n)) ++ [.int .u8 ((m : Int) % 256)] := by
            rw [List.range_succ, List.map_append, u8s_app]
            simp [u8s, ← HD.out]
          rw [e]; exact hown'
        have R2 : Below w.heap.size w w' := (new_alloc HBl.out _).trans hbel'
        clear hown' hbel'
        go_wp2
        go_roundg (gk - 1)
        case measure => omega
        case rel => exact ⟨i + 1, m / 256, by omega, by go_num, by go_num, by omega, HM2, R1, R2⟩
      · obtain rfl : i = W := by omega
        by_cases hm0 : m = 0
        · subst hm0
          have hlt : ¬ 256 ^ i ≤ n := by
            intro h
            have := Nat.div_pos h (Nat.pow_pos (by decide))
            have := HM.out
            omega
          have HFF := Lib.hid (HF.out hlt)
          clear hlt
          go_wp2
          go_ret2
          rw [HFF.out]
          exact ⟨_, rfl, hown, hbel⟩
        · have hle : 256 ^ i ≤ n := by
            rcases Nat.lt_or_ge n (256 ^ i) with h | h
            · have := Nat.div_eq_of_lt h; have := HM.out; omega
            · exact h
          have HFF := Lib.hid (HB.out hle)
          have tm : 0 < m := by omega
          clear hle hm0
          go_wp2
          go_ret2
          rw [HFF.out]
          exact ⟨_, rfl, Own.nil _ _ _, hbel⟩
  · have HF := Lib.hid (fixed_wide (n := n) hw)
    by_cases h1 : width < 1
    · clear hw
      go_enter Try.func29, Try.ntmps29
      go_wp2
      go_ret2
      rw [HF.out]
      exact ⟨_, rfl, Own.nil _ _ _, Below.refl _ _⟩
    · have h8 : 8 < width := by omega
      have t1 : decide (width < 1) = false := by simpa using h1
      clear hw
      go_enter Try.func29, Try.ntmps29
      go_wp2
      go_ret2
      rw [HF.out]
      exact ⟨_, rfl, Own.nil _ _ _, Below.refl _ _⟩

theorem val8_tail_le (l : List Nat) (t : Nat) : val8 (l.drop t) ≤ val8 l := by
  induction l generalizing t with
  | nil => simp
  | cons x l ih =>
    cases t with
    | zero => simp
    | succ t =>
      simp only [List.drop_succ_cons, val8]
      have := ih t
      omega

set_option maxRecDepth 100000 in
set_option maxHeartbeats 1000000 in
theorem refField_any (A : Option Addr) (n c : Nat) (bs : List Nat) (p width : Int) (w : World) (h : Has w A n c (u8s bs)) (hb : ∀ x ∈ bs, x < 256) (hn : n ≤ 281474976710656) (hp : p ≤ 9223372036854775807) :
    Calls Try.prog 31 #[.slice A n c, .int .i64 p, .int .i64 width] w (Told w (field bs p width)) := by
  have hl : bs.length = n := by have := h.len; rw [u8s_len] at this; exact this
  by_cases hw : 1 ≤ width ∧ width ≤ 8
  · have t1 : decide (width < 1) = false := by simp; omega
    have t8 : decide ((8 : Int) < width) = false := by simp; omega
    by_cases hp0 : p < 0
    · have HF := Lib.hid (field_arg (bs := bs) (width := width) (Or.inr hp0))
      clear h hb
      go_enter Try.func31, Try.ntmps31
      go_wp2
      go_ret2
      rw [HF.out]
      exact ⟨rfl, rfl⟩
    · have tp : decide (p < 0) = false := by simpa using hp0
      by_cases hs : (n : Int) - p < width
      · have HF := Lib.hid (field_short (bs := bs) hw (show 0 ≤ p by omega) (by rw [hl]; exact hs))
        clear h hb hl
        by_cases hnw : (n : Int) < width
        · go_enter Try.func31, Try.ntmps31
          go_wp2
          go_ret2
          rw [HF.out]
          exact ⟨rfl, rfl⟩
        · have tnw : decide ((n : Int) < width) = false := by simpa using hnw
          have h2 : (n : Int) - width < p := by omega
          clear hs
          go_enter Try.func31, Try.ntmps31
          go_wp2
          go_ret2
          rw [HF.out]
          exact ⟨rfl, rfl⟩
      · obtain ⟨k, rfl⟩ := Int.eq_ofNat_of_zero_le (show 0 ≤ p by omega)
        obtain ⟨W, rfl⟩ := Int.eq_ofNat_of_zero_le (show 0 ≤ width by omega)
        have hkW : k + W ≤ n := by omega
        obtain ⟨b, off, rfl, _, hcell⟩ := h.spot (by omega)
        have HF := Lib.hid (field_ok (bs := bs) (k := k) (W := W) (by omega) (by omega))
        have tnw : decide (n < W) = false := by simp; omega
        have ts : decide ((n : Int) - (W : Int) < (k : Int)) = false := by simp; omega
        obtain ⟨S, hS⟩ : ∃ S, (bs.drop k).take W = S := ⟨_, rfl⟩
        rw [hS] at HF
        have hSl : S.length = W := by rw [← hS, List.length_take, List.length_drop]; omega
        have hSat : ∀ t (ht : t < S.length), S[t] < 256 ∧ w.cell? ⟨b, off + (k + t), none⟩ = some (.int .u8 (S[t] : Int)) := by
          intro t ht
          have htb : k + t < bs.length := by omega
          have e : S[t] = bs[k + t] := by simp only [← hS, List.getElem_take, List.getElem_drop]
          rw [e]
          exact ⟨hb _ (List.getElem_mem htb), hcell _ _ (u8s_at htb)⟩
        have hSb : ∀ x ∈ S, x < 256 := by
          intro x hx
          obtain ⟨t, ht, rfl⟩ := List.getElem_of_mem hx
          exact (hSat t ht).1
        have hSv : val8 S < 18446744073709551616 := by
          have h1 := val8_lt hSb
          have h2 := pow256_le (i := S.length) (by omega)
          omega
        have HSA := Lib.hid hSat
        have HSL := Lib.hid hSl
        clear h hb hl hcell hS hSat hSl hp0 hs hSb
        go_enter Try.func31, Try.ntmps31
        go_wp2
        go_loopg [8, 9] W (fun g s8 s9 wx => ∃ (t v : Nat) (i : Int), t = g ∧ t ≤ W ∧ i + 1 = (t : Int) ∧ s9 = .int .i64 i ∧ s8 = .int .u64 v ∧ Hid (v = val8 (S.drop t)) ∧ w = wx)
        case atStart => exact ⟨W, 0, (W : Int) - 1, rfl, by omega, by omega, rfl, rfl, by show _ = _; rw [List.drop_eq_nil_of_le (by have := HSL.out; omega)]; rfl, rfl⟩
        case round =>
          obtain ⟨t, v, i, rfl, htW, hi, rfl, rfl, HV, rfl⟩ := hrel
          cases t with
          | zero =>
            have ti : decide ((0 : Int) ≤ i) = false := by simp; omega
            have Hi := Lib.hid hi
            clear hi
            go_wp2
            go_ret2
            rw [HF.out]
            refine ⟨?_, rfl⟩
            have e : v = val8 S := by rw [HV.out]; rfl
            rw [e]; rfl
          | succ t =>
            obtain rfl : i = (t : Int) := by omega
            have hts : t < S.length := by have := HSL.out; omega
            obtain ⟨hy8, hyc⟩ := HSA.out t hts
            have HV2 := Lib.hid (val8_step hts)
            have hle := val8_tail_le S t
            rw [HV2.out, ← HV.out] at hle
            rw [← HV.out] at HV2
            generalize S[t] = y at *
            clear hts hi
            go_wp2
            go_roundg t
            case measure => omega
            case rel => exact ⟨t, 256 * v + y, (t : Int) - 1, rfl, by omega, by omega, by go_num, by go_num, by show _ = _; rw [HV2.out]; omega, rfl⟩
  · have HF := Lib.hid (field_arg (bs := bs) (p := p) (width := width) (Or.inl hw))
    clear h hb hl
    by_cases h1 : width < 1
    · clear hw
      go_enter Try.func31, Try.ntmps31
      go_wp2
      go_ret2
      rw [HF.out]
      exact ⟨rfl, rfl⟩
    · have t1 : decide (width < 1) = false := by simpa using h1
      have h8 : 8 < width := by omega
      clear hw
      go_enter Try.func31, Try.ntmps31
      go_wp2
      go_ret2
      rw [HF.out]
      exact ⟨rfl, rfl⟩
end Go.Proofs.Ytkpangelcboklaa
