/- lapidaryref01.Get answers what vint.Get does. The world stays as it is. -/
import Derived.Test.YtbmdgoljjffjdaaVintNums
import Derived.Deep.LoopGhost
namespace Go.Proofs.Ytbmdgoljjffjdaa
open Go.RowKit

theorem refGet_out (A : Option Addr) (n c : Nat) (p : Int) (w : World) (h : p < 0 ∨ (n : Int) < p) :
    Calls Try.prog 36 #[.slice A n c, .int .i64 p] w fun e w' => e = .returned (.tuple #[.int .u64 0, .int .i64 0, .int .i64 2]) ∧ w = w' := by
  by_cases h0 : p < 0
  · go_enter Try.func36, Try.ntmps36
    go_wp2
    go_ret3
    exact ⟨rfl, rfl⟩
  · have h1 : (n : Int) < p := by omega
    clear h
    go_enter Try.func36, Try.ntmps36
    go_wp2
    go_ret3
    exact ⟨rfl, rfl⟩

set_option maxRecDepth 100000 in
set_option maxHeartbeats 400000 in
theorem refGet_in (A : Option Addr) (n c k : Nat) (bs : List Nat) (w : World) (h : Has w A n c (u8s bs)) (hk : k ≤ n) (hn : n ≤ 281474976710656) (hb : ∀ x ∈ bs, x < 256) :
    Calls Try.prog 36 #[.slice A n c, .int .i64 k] w fun e w' =>
      e = .returned (.tuple #[.int .u64 (getAt bs k).1, .int .i64 (getAt bs k).2.1, .int .i64 (getAt bs k).2.2]) ∧ w = w' := by
  have hk0 : decide ((k : Int) < 0) = false := by simp
  have hkn : decide (n < k) = false := by simp; omega
  have HL : Aside (bs.length = n) := by have := h.len; rw [u8s_len] at this; exact this
  have HB : Aside (∀ x ∈ bs, x < 256) := hb
  have HH : Aside (Has w A n c (u8s bs)) := h
  clear hb h
  go_enter Try.func36, Try.ntmps36
  go_wp2
  go_loopg [7] (n - k) (fun g s7 wx => ∃ m : Nat, m + g = n ∧ k ≤ m ∧ m ≤ k + 9 ∧ s7 = .int .i64 m ∧ w = wx ∧ Aside (scan 0 0 (bs.drop k) = scan (m - k) (val ((bs.drop k).take (m - k))) (bs.drop m)))
  case atStart => exact ⟨k, by omega, by omega, by omega, rfl, rfl, by show _ = _; rw [Nat.sub_self]; rfl⟩
  case round =>
    obtain ⟨m, hmg, hkm, hm9, rfl, rfl, HS⟩ := hrel
    by_cases hin : m < n
    · have hml : m < bs.length := by have := HL.out; omega
      obtain ⟨b, off, rfl, _, hcell⟩ := HH.out.spot (by omega)
      have hcl := hcell m _ (u8s_at hml)
      obtain ⟨x, hx⟩ : ∃ x, bs[m] = x := ⟨_, rfl⟩
      have hx8 : x < 256 := by rw [← hx]; exact HB.out _ (List.getElem_mem hml)
      rw [hx] at hcl
      have HD : Aside (bs.drop m = x :: bs.drop (m + 1)) := by show _ = _; rw [List.drop_eq_getElem_cons hml, hx]
      have HV : Aside (val ((bs.drop k).take (m + 1 - k)) = val ((bs.drop k).take (m - k)) + x % 128 * 128 ^ (m - k)) := by
        have hlk : m - k < (bs.drop k).length := by rw [List.length_drop]; omega
        show _ = _
        rw [show m + 1 - k = m - k + 1 by omega, take_snoc hlk, val_snoc, List.length_take, List.length_drop, Nat.min_eq_left (by omega)]
        congr 3
        rw [List.getElem_drop]; congr 1
        simp only [show k + (m - k) = m by omega, hx]
      clear hx hml hcell
      have tlt : decide ((m : Int) < (n : Int)) = true := by simp; omega
      have t10 : decide ((m : Int) - (k : Int) < 10) = true := by simp; omega
      by_cases hx1 : 128 ≤ x
      · have tx : decide ((128 : Int) ≤ (x : Int)) = true := by simp; omega
        by_cases h9 : m - k = 9
        · have t9 : ((m : Int) - (k : Int) == 9) = true := by rw [beq_iff_eq]; omega
          have HG : Aside (getAt bs k = (0, 0, 11)) := getAt_err (by rw [HS.out, HD.out, scan, if_pos (by omega)]) (by decide)
          clear h9
          go_wp2
          go_ret3
          exact ⟨by rw [HG.out]; rfl, rfl⟩
        · have t9 : ((m : Int) - (k : Int) == 9) = false := beq_eq_false_iff_ne.2 (by omega)
          have HN : Aside (scan 0 0 (bs.drop k) = scan (m + 1 - k) (val ((bs.drop k).take (m + 1 - k))) (bs.drop (m + 1))) := by
            show _ = _
            rw [HS.out, HD.out, scan, if_neg (by omega), if_neg (by omega), if_neg (by omega), HV.out]
            rw [show m + 1 - k = m - k + 1 by omega]
          go_wp2
          go_roundg (gk - 1)
          case measure => omega
          case rel => exact ⟨m + 1, by omega, by omega, by omega, by go_num, rfl, HN⟩
      · have tx : decide ((128 : Int) ≤ (x : Int)) = false := by simp; omega
        have tmn : ((m : Int) == (n : Int)) = false := beq_eq_false_iff_ne.2 (by omega)
        have hS : (bs.drop k).take (m + 1 - k) = (bs.drop k).take (m - k) ++ [x] := by
          have hlk : m - k < (bs.drop k).length := by rw [List.length_drop, HL.out]; omega
          rw [show m + 1 - k = m - k + 1 by omega, take_snoc hlk]
          have e := congrArg (fun l => l[0]?) HD.out
          rw [List.getElem?_drop] at e
          rw [List.getElem_drop]
          simp [show k + (m - k) = m by omega] at e ⊢
          rw [List.getElem?_eq_getElem (by have := HL.out; omega)] at e
          simpa using e
        by_cases hA : m - k = 9 ∧ 1 < x
        · have t9 : ((m : Int) - (k : Int) == 9) = true := by rw [beq_iff_eq]; omega
          have t1 : decide ((1 : Int) < (x : Int)) = true := by simp; omega
          have HG : Aside (getAt bs k = (0, 0, 11)) := getAt_err (by rw [HS.out, HD.out, scan, if_pos hA]) (by decide)
          clear hA hS
          go_wp2
          go_ret3
          exact ⟨by rw [HG.out]; rfl, rfl⟩
        · by_cases hB : 0 < m - k ∧ x = 0
          · have tk : decide ((k : Int) < (m : Int)) = true := by simp; omega
            obtain ⟨hB1, rfl⟩ := hB
            have HG : Aside (getAt bs k = (0, 0, 11)) := getAt_err (by rw [HS.out, HD.out, scan, if_neg (by omega), if_pos (by omega)]) (by decide)
            clear hA hS
            by_cases h9 : m - k = 9
            · have t9 : ((m : Int) - (k : Int) == 9) = true := by rw [beq_iff_eq]; omega
              clear h9
              go_wp2
              go_ret3
              exact ⟨by rw [HG.out]; rfl, rfl⟩
            · have t9 : ((m : Int) - (k : Int) == 9) = false := beq_eq_false_iff_ne.2 (by omega)
              clear h9
              go_wp2
              go_ret3
              exact ⟨by rw [HG.out]; rfl, rfl⟩
          · obtain ⟨S, hSS⟩ : ∃ S, (bs.drop k).take (m + 1 - k) = S := ⟨_, rfl⟩
            have hSl : S.length = m + 1 - k := by rw [← hSS, List.length_take, List.length_drop, HL.out]; omega
            have hSat : ∀ t (h : t < S.length), ∃ y, S[t] = y ∧ y < 256 ∧ w.cell? ⟨b, off + (k + t), none⟩ = some (.int .u8 (y : Int)) := by
              intro t ht
              have htb : k + t < bs.length := by have := HL.out; omega
              refine ⟨bs[k + t], ?_, HB.out _ (List.getElem_mem htb), ?_⟩
              · simp only [← hSS, List.getElem_take, List.getElem_drop]
              · obtain ⟨b', off', hA', _, hc'⟩ := HH.out.spot (by omega)
                cases hA'
                exact hc' _ _ (u8s_at htb)
            have hSv : val S < 18446744073709551616 := by
              rw [← hSS, hS]
              by_cases h9 : m - k = 9
              · exact val_fits10 (by rw [List.length_take, List.length_drop, HL.out]; omega) (by omega)
              · have := val_fits (l := (bs.drop k).take (m - k) ++ [x]) (by rw [List.length_append, List.length_take, List.length_drop, HL.out, List.length_singleton]; omega)
                omega
            have HG : Aside (getAt bs k = (val S, m + 1, 0)) := by
              show _ = _
              have := getAt_ok (bs := bs) (k := k) (by rw [HS.out, HD.out, scan, if_neg hA, if_neg hB, if_pos (by omega)])
              rw [this, ← hSS, HV.out, show k + (m - k + 1) = m + 1 by omega, Nat.mod_eq_of_lt (show x < 128 by omega)]
            have HSA := Lib.hid hSat
            have HSL := Lib.hid hSl
            have hSlt : S.length ≤ 10 := by omega
            clear hSS hS hSat hSl HS HD HV
            have hcase : ((((m : Int) - (k : Int) == 9) = true) ∧ (decide ((1 : Int) < (x : Int)) = false) ∧ (decide (k < m) = true) ∧ (((x : Int) == 0) = false)) ∨
                ((((m : Int) - (k : Int) == 9) = false) ∧ (decide (k < m) = false)) ∨ ((((m : Int) - (k : Int) == 9) = false) ∧ (decide (k < m) = true) ∧ (((x : Int) == 0) = false)) := by
              have hc : (m - k = 9 ∧ x = 1) ∨ (m - k < 9 ∧ m = k) ∨ (m - k < 9 ∧ k < m ∧ 0 < x) := by omega
              rcases hc with ⟨h1, h2⟩ | ⟨h1, h2⟩ | ⟨h1, h2, h3⟩
              · exact Or.inl ⟨by rw [beq_iff_eq]; omega, by simp; omega, by simp; omega, beq_eq_false_iff_ne.2 (by omega)⟩
              · exact Or.inr (Or.inl ⟨beq_eq_false_iff_ne.2 (by omega), by simp; omega⟩)
              · exact Or.inr (Or.inr ⟨beq_eq_false_iff_ne.2 (by omega), by simp; omega, beq_eq_false_iff_ne.2 (by omega)⟩)
            clear hA hB
            rcases hcase with ⟨t9, t1, tk, t0⟩ | ⟨t9, tk⟩ | ⟨t9, tk, t0⟩
            all_goals
              go_wp2
              go_loopg [8, 9] (m + 1 - k) (fun g s8 s9 wx => ∃ (t : Nat) (i : Int), t = g ∧ t ≤ m + 1 - k ∧ i + 1 = (k : Int) + t ∧ s9 = .int .i64 i ∧ s8 = .int .u64 ((val (S.drop t) : Nat) : Int) ∧ w = wx)
              case atStart => exact ⟨m + 1 - k, m, rfl, by omega, by omega, rfl, by rw [List.drop_eq_nil_of_le (by have := HSL.out; omega)]; rfl, rfl⟩
              case round =>
                obtain ⟨t, i, rfl, htm, hi, rfl, rfl, rfl⟩ := hrel
                cases t with
                | zero =>
                  have ti : decide ((k : Int) ≤ i) = false := by simp; omega
                  have hlast : Hid (S.drop 0 = S) := rfl
                  have Hi := Lib.hid hi
                  clear hi
                  go_wp2
                  go_ret3
                  refine ⟨?_, rfl⟩
                  rw [HG.out]
                  exact ret3 rfl (by simp) rfl
                | succ t =>
                  obtain rfl : i = ((k + t : Nat) : Int) := by omega
                  have hts : t < S.length := by have := HSL.out; omega
                  obtain ⟨y, hy, hy8, hyc⟩ := HSA.out t hts
                  have HV := Lib.hid (val_step hts)
                  rw [hy] at HV
                  have hle := val_tail_le S t
                  rw [HV.out] at hle
                  obtain ⟨v, hv⟩ : ∃ v, val (S.drop (t + 1)) = v := ⟨_, rfl⟩
                  rw [hv] at HV hle
                  rw [hv]
                  clear hv hy hts hi
                  go_wp2
                  go_roundg t
                  case measure => omega
                  case rel => exact ⟨t, (k : Int) + t - 1, rfl, by omega, by omega, by go_num, by rw [HV.out]; go_num, rfl⟩
    · have tlt : decide ((m : Int) < (n : Int)) = false := by simp; omega
      have tmn : ((m : Int) == (n : Int)) = true := by rw [beq_iff_eq]; omega
      have hd : bs.drop m = [] := List.drop_eq_nil_of_le (by have := HL.out; omega)
      have HG : Aside (getAt bs k = (0, 0, 10)) := getAt_err (by rw [HS.out, hd]; rfl) (by decide)
      clear hd
      go_wp2
      go_ret3
      exact ⟨by rw [HG.out]; rfl, rfl⟩
theorem refGet_any (A : Option Addr) (n c : Nat) (bs : List Nat) (p : Int) (w : World) (h : Has w A n c (u8s bs)) (hb : ∀ x ∈ bs, x < 256) (hn : n ≤ 281474976710656) :
    Calls Try.prog 36 #[.slice A n c, .int .i64 p] w fun e w' =>
      e = .returned (.tuple #[.int .u64 (get bs p).1, .int .i64 (get bs p).2.1, .int .i64 (get bs p).2.2]) ∧ w = w' := by
  have hl : bs.length = n := by have := h.len; rw [u8s_len] at this; exact this
  by_cases ho : p < 0 ∨ (n : Int) < p
  · have hg : get bs p = (0, 0, 2) := by unfold get; rw [hl, if_pos ho]
    rw [hg]
    exact refGet_out A n c p w ho
  · have hg : get bs p = getAt bs p.toNat := by unfold get; rw [hl, if_neg ho]
    obtain ⟨k, rfl⟩ := Int.eq_ofNat_of_zero_le (show 0 ≤ p by omega)
    rw [hg, Int.toNat_natCast]
    exact refGet_in A n c k bs w h (by omega) hn hb
end Go.Proofs.Ytbmdgoljjffjdaa
