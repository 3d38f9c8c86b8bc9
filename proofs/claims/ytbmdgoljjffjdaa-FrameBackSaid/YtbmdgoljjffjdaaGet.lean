/- vint.Get: a number out of bytes. The world stays as it is. -/
import Derived.Test.YtbmdgoljjffjdaaVintNums
import Derived.Deep.LoopGhost
import Derived.Lib.Hide
namespace Go.Proofs.Ytbmdgoljjffjdaa
open Go.RowKit

theorem get_out (A : Option Addr) (n c : Nat) (p : Int) (w : World) (h : p < 0 ∨ (n : Int) < p) :
    Calls Try.prog 34 #[.slice A n c, .int .i64 p] w fun e w' => e = .returned (.tuple #[.int .u64 0, .int .i64 0, .int .i64 2]) ∧ w = w' := by
  by_cases h0 : p < 0
  · go_enter Try.func34, Try.ntmps34
    go_wp2
    go_step3
    go_wp2
    rw [Exit.noGoto_ret]
    go_ret3
    exact ⟨rfl, rfl⟩
  · have h1 : (n : Int) < p := by omega
    clear h
    go_enter Try.func34, Try.ntmps34
    go_wp2
    go_step3
    go_wp2
    rw [Exit.noGoto_ret]
    go_ret3
    exact ⟨rfl, rfl⟩

set_option maxRecDepth 100000 in
set_option maxHeartbeats 400000 in
theorem get_in (b off n c k : Nat) (bs : List Nat) (w : World) (hl : bs.length = n) (hk : k < n) (hc : n ≤ c) (hn : n ≤ 281474976710656) (hb : ∀ x ∈ bs, x < 256)
    (hcell : ∀ j, (h : j < bs.length) → w.cell? ⟨b, off + j, none⟩ = some (.int .u8 (bs[j] : Int))) :
    Calls Try.prog 34 #[.slice (some ⟨b, off, none⟩) n c, .int .i64 k] w fun e w' =>
      e = .returned (.tuple #[.int .u64 (getAt bs k).1, .int .i64 (getAt bs k).2.1, .int .i64 (getAt bs k).2.2]) ∧ w = w' := by
  have hck' : ¬ c = k := by omega
  have hk0 : decide ((k : Int) < 0) = false := by simp
  have hkn : decide (n < k) = false := by simp; omega
  have HL : Aside (bs.length = n) := hl
  have HB : Aside (∀ x ∈ bs, x < 256) := hb
  have HC : Aside (∀ j, (h : j < bs.length) → w.cell? ⟨b, off + j, none⟩ = some (.int .u8 (bs[j] : Int))) := hcell
  clear hl hb hcell
  go_enter Try.func34, Try.ntmps34
  go_wp2
  go_step3
  go_wp2
  go_step3
  go_wp2
  go_loopg [7, 8, 23] (n - k) (fun g s7 s8 s23 wx => ∃ i acc : Nat, i + g = n - k ∧ i ≤ 9 ∧ s23 = .int .i64 i ∧ s8 = .int .i64 0 ∧ s7 = .int .u64 acc ∧ acc < 128 ^ i ∧ w = wx ∧
    Aside (scan 0 0 (bs.drop k) = scan i acc (bs.drop (k + i))))
  case atStart => exact ⟨0, 0, by omega, by omega, rfl, rfl, rfl, by omega, rfl, by show _ = _; rw [Nat.add_zero]⟩
  case round =>
    obtain ⟨i, acc, hig, hi9, rfl, rfl, rfl, hacc, rfl, HS⟩ := hrel
    by_cases hin : i < n - k
    · have hkl : k + i < bs.length := by have := HL.out; omega
      obtain ⟨x, hx⟩ : ∃ x, bs[k + i] = x := ⟨_, rfl⟩
      have hx8 : x < 256 := by rw [← hx]; exact HB.out _ (List.getElem_mem hkl)
      have hcl := HC.out (k + i) hkl
      rw [hx, ← Nat.add_assoc] at hcl
      have HD : Aside (bs.drop (k + i) = x :: bs.drop (k + i + 1)) := by show _ = _; rw [List.drop_eq_getElem_cons hkl, hx]
      clear hx hkl
      have hm := u8_low7 (c := (x : Int)) (by omega) (by omega)
      have hlt : (i : Int) < ((n - k : Nat) : Int) := by omega
      by_cases h9 : i = 9
      · subst h9
        by_cases h1 : 1 < x
        · have t1 : decide ((1 : Int) < (x : Int)) = true := by simp; omega
          have HG : Aside (getAt bs k = (0, 0, 11)) := getAt_err (by rw [HS.out, HD.out, scan, if_pos ⟨rfl, h1⟩]) (by decide)
          go_wp2
          rw [Exit.noGoto_ret]
          go_ret3
          exact ⟨by rw [HG.out]; rfl, rfl⟩
        · have t1 : decide ((1 : Int) < (x : Int)) = false := by simp; omega
          have ts : decide ((x : Int) < 128) = true := by simp; omega
          by_cases hx0 : x = 0
          · subst hx0
            have HG : Aside (getAt bs k = (0, 0, 11)) := getAt_err (by rw [HS.out, HD.out, scan, if_neg (by omega), if_pos (by omega)]) (by decide)
            go_wp2
            rw [Exit.noGoto_ret]
            go_ret3
            exact ⟨by rw [HG.out]; rfl, rfl⟩
          · have tx : ((x : Int) == 0) = false := beq_eq_false_iff_ne.2 (by omega)
            have HG : Aside (getAt bs k = (acc + x * 128 ^ 9, k + 10, 0)) := getAt_ok (by rw [HS.out, HD.out, scan, if_neg (by omega), if_neg (by omega), if_pos (by omega)])
            have HO := Lib.hid (or_last hacc (show x ≤ 1 by omega))
            go_wp2
            all_goals rw [Exit.noGoto_ret]
            all_goals go_ret3
            all_goals refine ⟨?_, rfl⟩
            all_goals rw [HG.out]
            all_goals exact ret3 HO.out (by simp; try omega) rfl
      · have t9 : ((i : Int) == 9) = false := beq_eq_false_iff_ne.2 (by omega)
        have HO := Lib.hid (or_next (x := x) (show i ≤ 8 by omega) hacc)
        by_cases h0 : i = 0
        · have t0 : decide ((0 : Int) < (i : Int)) = false := by simp; omega
          have t0' : decide (0 < i) = false := by simp; omega
          by_cases hs : x < 128
          · have ts : decide ((x : Int) < 128) = true := by simp; omega
            have HG : Aside (getAt bs k = (acc + x * 128 ^ i, k + (i + 1), 0)) := getAt_ok (by rw [HS.out, HD.out, scan, if_neg (by omega), if_neg (by omega), if_pos (by omega)])
            have tz : ((i : Int) + 1 == 0) = false := beq_eq_false_iff_ne.2 (by omega)
            have hxm : x % 128 = x := by omega
            rw [hxm] at HO
            clear h0 hxm
            go_wp2
            all_goals rw [Exit.noGoto_ret]
            all_goals go_ret3
            all_goals refine ⟨?_, rfl⟩
            all_goals rw [HG.out]
            all_goals exact ret3 HO.out (by simp; try omega) rfl
          · have ts : decide ((x : Int) < 128) = false := by simp; omega
            have HN : Aside (scan 0 0 (bs.drop k) = scan (i + 1) (acc + x % 128 * 128 ^ i) (bs.drop (k + (i + 1)))) := by
              show _ = _
              rw [HS.out, HD.out, scan, if_neg (by omega), if_neg (by omega), if_neg (by omega)]
              rfl
            have hi8 : i ≤ 8 := by omega
            clear h0
            go_wp2
            all_goals go_roundg (gk - 1)
            case measure => omega
            case rel => exact ⟨i + 1, acc + x % 128 * 128 ^ i, by omega, by omega, by go_num, rfl, by rw [HO.out], acc_up hacc, rfl, HN⟩
        · have t0 : decide ((0 : Int) < (i : Int)) = true := by simp; omega
          by_cases hx0 : x = 0
          · subst hx0
            have HG : Aside (getAt bs k = (0, 0, 11)) := getAt_err (by rw [HS.out, HD.out, scan, if_neg (by omega), if_pos (by omega)]) (by decide)
            go_wp2
            rw [Exit.noGoto_ret]
            go_ret3
            exact ⟨by rw [HG.out]; rfl, rfl⟩
          · have tx : ((x : Int) == 0) = false := beq_eq_false_iff_ne.2 (by omega)
            by_cases hs : x < 128
            · have ts : decide ((x : Int) < 128) = true := by simp; omega
              have HG : Aside (getAt bs k = (acc + x * 128 ^ i, k + (i + 1), 0)) := getAt_ok (by rw [HS.out, HD.out, scan, if_neg (by omega), if_neg (by omega), if_pos (by omega)])
              have hxm : x % 128 = x := by omega
              rw [hxm] at HO
              clear hxm
              have tz : ((i : Int) + 1 == 0) = false := beq_eq_false_iff_ne.2 (by omega)
              go_wp2
              all_goals rw [Exit.noGoto_ret]
              all_goals go_ret3
              all_goals refine ⟨?_, rfl⟩
              all_goals rw [HG.out]
              all_goals exact ret3 HO.out (by simp; try omega) rfl
            · have ts : decide ((x : Int) < 128) = false := by simp; omega
              have HN : Aside (scan 0 0 (bs.drop k) = scan (i + 1) (acc + x % 128 * 128 ^ i) (bs.drop (k + (i + 1)))) := by
                show _ = _
                rw [HS.out, HD.out, scan, if_neg (by omega), if_neg (by omega), if_neg (by omega)]; rfl
              go_wp2
              go_roundg (gk - 1)
              case measure => omega
              case rel => exact ⟨i + 1, acc + x % 128 * 128 ^ i, by omega, by omega, by go_num, rfl, by rw [HO.out], acc_up hacc, rfl, HN⟩
    · have hz : ¬ ((i : Int) < ((n - k : Nat) : Int)) := by omega
      have HG : Aside (getAt bs k = (0, 0, 10)) := getAt_err (by rw [HS.out, List.drop_eq_nil_of_le (by have := HL.out; omega)]; rfl) (by decide)
      go_wp2
      go_ret3
      exact ⟨by rw [HG.out]; rfl, rfl⟩
set_option maxRecDepth 100000 in
set_option maxHeartbeats 400000 in
theorem get_end (A : Option Addr) (n c : Nat) (w : World) (hc : n ≤ c) (hn : n ≤ 281474976710656) :
    Calls Try.prog 34 #[.slice A n c, .int .i64 n] w fun e w' => e = .returned (.tuple #[.int .u64 0, .int .i64 0, .int .i64 10]) ∧ w = w' := by
  have hk0 : decide ((n : Int) < 0) = false := by simp
  by_cases hcn : c = n
  · subst hcn
    go_enter Try.func34, Try.ntmps34
    go_wp2
    go_step3
    go_wp2
    go_step3
    go_wp2
    refine wp_loop_rounds 1 ?_
    rw [rounds_succ]
    go_wp2
    try rw [Exit.noGoto_ret]
    go_ret3
    exact ⟨rfl, rfl⟩
  · go_enter Try.func34, Try.ntmps34
    go_wp2
    go_step3
    go_wp2
    go_step3
    go_wp2
    refine wp_loop_rounds 1 ?_
    rw [rounds_succ]
    go_wp2
    try rw [Exit.noGoto_ret]
    go_ret3
    exact ⟨rfl, rfl⟩

theorem get_any (A : Option Addr) (n c : Nat) (bs : List Nat) (p : Int) (w : World) (h : Has w A n c (u8s bs)) (hb : ∀ x ∈ bs, x < 256) (hn : n ≤ 281474976710656) :
    Calls Try.prog 34 #[.slice A n c, .int .i64 p] w fun e w' => 
      e = .returned (.tuple #[.int .u64 (get bs p).1, .int .i64 (get bs p).2.1, .int .i64 (get bs p).2.2]) ∧ w = w' := by
  have hl : bs.length = n := by have := h.len; rw [u8s_len] at this; exact this
  by_cases ho : p < 0 ∨ (n : Int) < p
  · have hg : get bs p = (0, 0, 2) := by unfold get; rw [hl, if_pos ho]
    rw [hg]
    exact get_out A n c p w ho
  · have hg : get bs p = getAt bs p.toNat := by unfold get; rw [hl, if_neg ho]
    obtain ⟨k, rfl⟩ := Int.eq_ofNat_of_zero_le (show 0 ≤ p by omega)
    rw [hg, Int.toNat_natCast]
    by_cases hk : k < n
    · obtain ⟨b, off, rfl, _, hcell⟩ := h.spot (by omega)
      exact get_in b off n c k bs w hl hk h.cap hn hb (fun j hj => hcell j _ (u8s_at hj))
    · obtain rfl : k = n := by omega
      have he : getAt bs k = (0, 0, 10) := getAt_err (by rw [List.drop_eq_nil_of_le (by omega)]; rfl) (by decide)
      rw [he]
      exact get_end A k c w h.cap hn
end Go.Proofs.Ytbmdgoljjffjdaa
