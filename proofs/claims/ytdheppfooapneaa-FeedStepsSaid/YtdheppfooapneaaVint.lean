import Derived.Test.YtdheppfooapneaaBase
import Derived.Lib.Zigzag
import Derived.Deep.LoopGhost
import Derived.Lib.Hide
/- What Zig and Zag answer, the program's and the document's: for every int and every uint64; the world stays as it is. -/
namespace Go.Proofs.Ytdheppfooapneaa
open Go.RowKit

/-- Zig, by turns. -/
def zig (n : Int) : Int := if n < 0 then -2 * n - 1 else n * 2
/-- Zag, back. -/
def zag (u : Int) : Int := if u % 2 = 1 then -(u / 2) - 1 else u / 2

theorem zig_neg {n : Int} (h : n < 0) : zig n = -2 * n - 1 := if_pos h
theorem zig_pos {n : Int} (h : ¬ n < 0) : zig n = n * 2 := if_neg h
theorem zag_odd {u : Int} (h : u % 2 = 1) : zag u = -(u / 2) - 1 := if_pos h
theorem zag_even {u : Int} (h : ¬ u % 2 = 1) : zag u = u / 2 := if_neg h
theorem zig_range {n : Int} (h0 : -9223372036854775808 ≤ n) (h1 : n ≤ 9223372036854775807) : 0 ≤ zig n ∧ zig n ≤ 18446744073709551615 := by
  unfold zig; split <;> omega
theorem zag_range {u : Int} (h0 : 0 ≤ u) (h1 : u ≤ 18446744073709551615) : -9223372036854775808 ≤ zag u ∧ zag u ≤ 9223372036854775807 := by
  unfold zag; split <;> omega
theorem zag_zig (n : Int) : zag (zig n) = n := by
  unfold zig; split
  · rw [zag_odd (by omega)]; omega
  · rw [zag_even (by omega)]; omega
theorem zig_zag {u : Int} (h : 0 ≤ u) : zig (zag u) = u := by
  unfold zag; split
  · rw [zig_neg (by omega)]; omega
  · rw [zig_pos (by omega)]; omega


theorem not_i64 {n : Int} (h0 : 0 ≤ n) (h1 : n ≤ 9223372036854775807) : bits .xor .i64 (-1) n = -n - 1 := by
  obtain ⟨x, rfl⟩ := Int.eq_ofNat_of_zero_le h0
  exact Lib.i64_not x (by omega)

end Go.Proofs.Ytdheppfooapneaa

/- vint.Get: a number out of bytes. The world stays as it is. -/
namespace Go.Proofs.Ytdheppfooapneaa
open Go.RowKit

theorem get_out (A : Option Addr) (n c : Nat) (p : Int) (w : World) (h : p < 0 ∨ (n : Int) < p) :
    Calls Try.prog 38 #[.slice A n c, .int .i64 p] w fun e w' => e = .returned (.tuple #[.int .u64 0, .int .i64 0, .int .i64 2]) ∧ w = w' := by
  by_cases h0 : p < 0
  · go_enter Try.func38, Try.ntmps38
    go_wp2
    go_step3
    go_wp2
    rw [Exit.noGoto_ret]
    go_ret3
    exact ⟨rfl, rfl⟩
  · have h1 : (n : Int) < p := by omega
    clear h
    go_enter Try.func38, Try.ntmps38
    go_wp2
    go_step3
    go_wp2
    rw [Exit.noGoto_ret]
    go_ret3
    exact ⟨rfl, rfl⟩

set_option maxRecDepth 100000 in
set_option maxHeartbeats 400000 in
theorem get_in (b off n c k : Nat) (bs : List Nat) (w : World) (hl : bs.length = n) (hk : k < n) (hc : n ≤ c) (hn : n ≤ 281474976710656) (hb : ∀ x ∈ bs, x < 256)
    (hcell : ∀ j, (h : j < bs.length) → w.cell? ⟨b, off + j, none⟩ = some (.int .u8 (bs[j] : Int))) :
    Calls Try.prog 38 #[.slice (some ⟨b, off, none⟩) n c, .int .i64 k] w fun e w' =>
      e = .returned (.tuple #[.int .u64 (getAt bs k).1, .int .i64 (getAt bs k).2.1, .int .i64 (getAt bs k).2.2]) ∧ w = w' := by
  have hck' : ¬ c = k := by omega
  have hk0 : decide ((k : Int) < 0) = false := by simp
  have hkn : decide (n < k) = false := by simp; omega
  have HL : Aside (bs.length = n) := hl
  have HB : Aside (∀ x ∈ bs, x < 256) := hb
  have HC : Aside (∀ j, (h : j < bs.length) → w.cell? ⟨b, off + j, none⟩ = some (.int .u8 (bs[j] : Int))) := hcell
  clear hl hb hcell
  go_enter Try.func38, Try.ntmps38
  go_wp2
  go_step3
  go_wp2
  go_step3
  go_wp2
  go_loopg [7, 8, 23] (n - k) (fun g s7 s8 s23 wx => ∃ i acc : Nat, i + g = n - k ∧ i ≤ 9 ∧ s23 = .int .i64 i ∧ s8 = .int .i64 0 ∧ s7 = .int .u64 acc ∧ acc < 128 ^ i ∧ w = wx ∧
    Aside (scan 0 0 (bs.drop k) = scan i acc (bs.drop (k + i))))
  case atStart => exact ⟨0, 0, by omega, by omega, rfl, rfl, rfl, by omega, rfl, by show _ = _; rw [Nat.add_zero]⟩
  case round =>
    obtain ⟨i, acc, hig, hi9, rfl, rfl, rfl, hacc, rfl, HS⟩ := hrel
    by_cases hin : i < n - k
    · have hkl : k + i < bs.length := by have := HL.out; omega
      obtain ⟨x, hx⟩ : ∃ x, bs[k + i] = x := ⟨_, rfl⟩
      have hx8 : x < 256 := by rw [← hx]; exact HB.out _ (List.getElem_mem hkl)
      have hcl := HC.out (k + i) hkl
      rw [hx, ← Nat.add_assoc] at hcl
      have HD : Aside (bs.drop (k + i) = x :: bs.drop (k + i + 1)) := by show _ = _; rw [List.drop_eq_getElem_cons hkl, hx]
      clear hx hkl
      have hm := u8_low7 (c := (x : Int)) (by omega) (by omega)
      have hlt : (i : Int) < ((n - k : Nat) : Int) := by omega
      by_cases h9 : i = 9
      · subst h9
        by_cases h1 : 1 < x
        · have t1 : decide ((1 : Int) < (x : Int)) = true := by simp; omega
          have HG : Aside (getAt bs k = (0, 0, 11)) := getAt_err (by rw [HS.out, HD.out, scan, if_pos ⟨rfl, h1⟩]) (by decide)
          go_wp2
          rw [Exit.noGoto_ret]
          go_ret3
          exact ⟨by rw [HG.out]; rfl, rfl⟩
        · have t1 : decide ((1 : Int) < (x : Int)) = false := by simp; omega
          have ts : decide ((x : Int) < 128) = true := by simp; omega
          by_cases hx0 : x = 0
          · subst hx0
            have HG : Aside (getAt bs k = (0, 0, 11)) := getAt_err (by rw [HS.out, HD.out, scan, if_neg (by omega), if_pos (by omega)]) (by decide)
            go_wp2
            rw [Exit.noGoto_ret]
            go_ret3
            exact ⟨by rw [HG.out]; rfl, rfl⟩
          · have tx : ((x : Int) == 0) = false := beq_eq_false_iff_ne.2 (by omega)
            have HG : Aside (getAt bs k = (acc + x * 128 ^ 9, k + 10, 0)) := getAt_ok (by rw [HS.out, HD.out, scan, if_neg (by omega), if_neg (by omega), if_pos (by omega)])
            have HO := Lib.hid (or_last hacc (show x ≤ 1 by omega))
            go_wp2
            all_goals rw [Exit.noGoto_ret]
            all_goals go_ret3
            all_goals refine ⟨?_, rfl⟩
            all_goals rw [HG.out]
            all_goals exact ret3 HO.out (by simp; try omega) rfl
      · have t9 : ((i : Int) == 9) = false := beq_eq_false_iff_ne.2 (by omega)
        have HO := Lib.hid (or_next (x := x) (show i ≤ 8 by omega) hacc)
        by_cases h0 : i = 0
        · have t0 : decide ((0 : Int) < (i : Int)) = false := by simp; omega
          have t0' : decide (0 < i) = false := by simp; omega
          by_cases hs : x < 128
          · have ts : decide ((x : Int) < 128) = true := by simp; omega
            have HG : Aside (getAt bs k = (acc + x * 128 ^ i, k + (i + 1), 0)) := getAt_ok (by rw [HS.out, HD.out, scan, if_neg (by omega), if_neg (by omega), if_pos (by omega)])
            have tz : ((i : Int) + 1 == 0) = false := beq_eq_false_iff_ne.2 (by omega)
            have hxm : x % 128 = x := by omega
            rw [hxm] at HO
            clear h0 hxm
            go_wp2
            all_goals rw [Exit.noGoto_ret]
            all_goals go_ret3
            all_goals refine ⟨?_, rfl⟩
            all_goals rw [HG.out]
            all_goals exact ret3 HO.out (by simp; try omega) rfl
          · have ts : decide ((x : Int) < 128) = false := by simp; omega
            have HN : Aside (scan 0 0 (bs.drop k) = scan (i + 1) (acc + x % 128 * 128 ^ i) (bs.drop (k + (i + 1)))) := by
              show _ = _
              rw [HS.out, HD.out, scan, if_neg (by omega), if_neg (by omega), if_neg (by omega)]
              rfl
            have hi8 : i ≤ 8 := by omega
            clear h0
            go_wp2
            all_goals go_roundg (gk - 1)
            case measure => omega
            case rel => exact ⟨i + 1, acc + x % 128 * 128 ^ i, by omega, by omega, by go_num, rfl, by rw [HO.out], acc_up hacc, rfl, HN⟩
        · have t0 : decide ((0 : Int) < (i : Int)) = true := by simp; omega
          by_cases hx0 : x = 0
          · subst hx0
            have HG : Aside (getAt bs k = (0, 0, 11)) := getAt_err (by rw [HS.out, HD.out, scan, if_neg (by omega), if_pos (by omega)]) (by decide)
            go_wp2
            rw [Exit.noGoto_ret]
            go_ret3
            exact ⟨by rw [HG.out]; rfl, rfl⟩
          · have tx : ((x : Int) == 0) = false := beq_eq_false_iff_ne.2 (by omega)
            by_cases hs : x < 128
            · have ts : decide ((x : Int) < 128) = true := by simp; omega
              have HG : Aside (getAt bs k = (acc + x * 128 ^ i, k + (i + 1), 0)) := getAt_ok (by rw [HS.out, HD.out, scan, if_neg (by omega), if_neg (by omega), if_pos (by omega)])
              have hxm : x % 128 = x := by omega
              rw [hxm] at HO
              clear hxm
              have tz : ((i : Int) + 1 == 0) = false := beq_eq_false_iff_ne.2 (by omega)
              go_wp2
              all_goals rw [Exit.noGoto_ret]
              all_goals go_ret3
              all_goals refine ⟨?_, rfl⟩
              all_goals rw [HG.out]
              all_goals exact ret3 HO.out (by simp; try omega) rfl
            · have ts : decide ((x : Int) < 128) = false := by simp; omega
              have HN : Aside (scan 0 0 (bs.drop k) = scan (i + 1) (acc + x % 128 * 128 ^ i) (bs.drop (k + (i + 1)))) := by
                show _ = _
                rw [HS.out, HD.out, scan, if_neg (by omega), if_neg (by omega), if_neg (by omega)]; rfl
              go_wp2
              go_roundg (gk - 1)
              case measure => omega
              case rel => exact ⟨i + 1, acc + x % 128 * 128 ^ i, by omega, by omega, by go_num, rfl, by rw [HO.out], acc_up hacc, rfl, HN⟩
    · have hz : ¬ ((i : Int) < ((n - k : Nat) : Int)) := by omega
      have HG : Aside (getAt bs k = (0, 0, 10)) := getAt_err (by rw [HS.out, List.drop_eq_nil_of_le (by have := HL.out; omega)]; rfl) (by decide)
      go_wp2
      go_ret3
      exact ⟨by rw [HG.out]; rfl, rfl⟩
set_option maxRecDepth 100000 in
set_option maxHeartbeats 400000 in
theorem get_end (A : Option Addr) (n c : Nat) (w : World) (hc : n ≤ c) (hn : n ≤ 281474976710656) :
    Calls Try.prog 38 #[.slice A n c, .int .i64 n] w fun e w' => e = .returned (.tuple #[.int .u64 0, .int .i64 0, .int .i64 10]) ∧ w = w' := by
  have hk0 : decide ((n : Int) < 0) = false := by simp
  by_cases hcn : c = n
  · subst hcn
    go_enter Try.func38, Try.ntmps38
    go_wp2
    go_step3
    go_wp2
    go_step3
    go_wp2
    refine wp_loop_rounds 1 ?_
    rw [rounds_succ]
    go_wp2
    try rw [Exit.noGoto_ret]
    go_ret3
    exact ⟨rfl, rfl⟩
  · go_enter Try.func38, Try.ntmps38
    go_wp2
    go_step3
    go_wp2
    go_step3
    go_wp2
    refine wp_loop_rounds 1 ?_
    rw [rounds_succ]
    go_wp2
    try rw [Exit.noGoto_ret]
    go_ret3
    exact ⟨rfl, rfl⟩

theorem get_any (A : Option Addr) (n c : Nat) (bs : List Nat) (p : Int) (w : World) (h : Has w A n c (u8s bs)) (hb : ∀ x ∈ bs, x < 256) (hn : n ≤ 281474976710656) :
    Calls Try.prog 38 #[.slice A n c, .int .i64 p] w fun e w' => 
      e = .returned (.tuple #[.int .u64 (get bs p).1, .int .i64 (get bs p).2.1, .int .i64 (get bs p).2.2]) ∧ w = w' := by
  have hl : bs.length = n := by have := h.len; rw [u8s_len] at this; exact this
  by_cases ho : p < 0 ∨ (n : Int) < p
  · have hg : get bs p = (0, 0, 2) := by unfold get; rw [hl, if_pos ho]
    rw [hg]
    exact get_out A n c p w ho
  · have hg : get bs p = getAt bs p.toNat := by unfold get; rw [hl, if_neg ho]
    obtain ⟨k, rfl⟩ := Int.eq_ofNat_of_zero_le (show 0 ≤ p by omega)
    rw [hg, Int.toNat_natCast]
    by_cases hk : k < n
    · obtain ⟨b, off, rfl, _, hcell⟩ := h.spot (by omega)
      exact get_in b off n c k bs w hl hk h.cap hn hb (fun j hj => hcell j _ (u8s_at hj))
    · obtain rfl : k = n := by omega
      have he : getAt bs k = (0, 0, 10) := getAt_err (by rw [List.drop_eq_nil_of_le (by omega)]; rfl) (by decide)
      rw [he]
      exact get_end A k c w h.cap hn
end Go.Proofs.Ytdheppfooapneaa

/- vint.Put: numbers as bytes, one behind the other: a slice of the call's own; nothing that was there has turned. -/
namespace Go.Proofs.Ytdheppfooapneaa
open Go.RowKit

set_option maxRecDepth 100000 in
set_option maxHeartbeats 400000 in
theorem put_any (A : Option Addr) (n c : Nat) (l : List Nat) (w : World) (h : Has w A n c (u64s l)) (hl : ∀ x ∈ l, x < 18446744073709551616) (hn : n ≤ 1000000) :
    Calls Try.prog 41 #[.slice A n c] w fun e w' => ∃ v, e = .returned v ∧ Own w' w.heap.size 5 v (u8s (putAll l)) ∧ Below w.heap.size w w' := by
  have HH : Aside (Has w A n c (u64s l)) := h
  have HL : Aside (∀ x ∈ l, x < 18446744073709551616) := hl
  have HN : Aside (l.length = n) := by have := h.len; rw [u64s_len] at this; exact this
  clear h hl
  go_enter Try.func41, Try.ntmps41
  go_wp2
  go_loopg [3, 8] n (fun g s3 s8 wx => ∃ k : Nat, k + g = n ∧ s8 = .int .i64 k ∧ Own wx w.heap.size 5 s3 (u8s (putAll (l.take k))) ∧ Below w.heap.size w wx)
  case atStart => exact ⟨0, by omega, rfl, Own.nil _ _ _, Below.refl _ _⟩
  case round =>
    obtain ⟨k, hkg, rfl, hown, hbel⟩ := hrel
    by_cases hk : k < n
    · have hkl : k < l.length := by have := HN.out; omega
      obtain ⟨b, off, rfl, hbs, hcell⟩ := (HH.out.kept hbel).spot (by omega)
      have hcl := hcell k _ (u64s_at hkl)
      obtain ⟨N, hN⟩ : ∃ N, l[k] = N := ⟨_, rfl⟩
      have hN64 : N < 18446744073709551616 := by rw [← hN]; exact HL.out _ (List.getElem_mem hkl)
      have HT : Aside (putAll (l.take (k + 1)) = putAll (l.take k) ++ putN N) := by rw [← hN]; exact putAll_take hkl
      rw [hN] at hcl
      clear hN hcell
      have hpl : (putAll (l.take k)).length ≤ 10 * n := by
        have := putAll_len (l := l.take k) fun x hx => HL.out x (List.mem_of_mem_take hx)
        rw [List.length_take] at this; omega
      have hnp := putN_len hN64
      go_wp2
      go_loopg [3, 5] 9 (fun g s3 s5 wx => ∃ (m : Nat) (ys : List Nat), s5 = .int .u64 m ∧ m < 128 ^ (g + 1) ∧ m < 18446744073709551616 ∧ Own wx w.heap.size 5 s3 (u8s (putAll (l.take k) ++ ys)) ∧ Below w.heap.size w wx ∧ Aside (ys ++ putN m = putN N))
      case atStart => exact ⟨N, [], rfl, by omega, hN64, by rw [List.append_nil]; exact hown, hbel, rfl⟩
      case round =>
        obtain ⟨m, ys, rfl, hm9, hm64, hown2, hbel2, HY⟩ := hrel
        have hyl : ys.length + (putN m).length ≤ 10 := by have := congrArg List.length HY.out; rw [List.length_append] at this; omega
        by_cases hm : m < 128
        · have ht : decide ((128 : Int) ≤ (m : Int)) = false := by simp; omega
          have hbl := byte_last hm
          have hown3 := hown2.alloc (.cells #[.int .u8 (m : Int)] 5)
          go_wp2_with (at_builtin; refine wpList_join rfl _ _ 22 rfl elem8 w.heap.size _ _ rfl hown3 _ 1 1 [.int .u8 (m : Int)] rfl (Has.one _ _ _) ?c1 ?c2 (by decide) ?c3 ?_)
          case c1 => intro u hu; simp at hu; subst hu; rfl
          case c2 => rw [u8s_len, List.length_append]; omega
          case c3 => have := hbel2.size; simp; omega
          intro v' w' hown' hbel'
          have R1 : Own w' w.heap.size 5 v' (u8s (putAll (l.take (k + 1)))) := by
            have e : u8s (putAll (l.take (k + 1))) = u8s (putAll (l.take k) ++ ys) ++ [.int .u8 (m : Int)] := by
              rw [HT.out, ← HY.out, putN_small hm, ← List.append_assoc, u8s_app]; rfl
            rw [e]; exact hown'
          have R2 : Below w.heap.size w w' := (hbel2.alloc hbel2.size _).trans hbel'
          clear hown' hbel' hown3 hown2 hown hbel hbel2
          go_wp2
          go_roundg (n - (k + 1))
          case measure => omega
          case rel => exact ⟨k + 1, by omega, by go_num, R1, R2⟩
        · have ht : decide ((128 : Int) ≤ (m : Int)) = true := by simp; omega
          go_wp2_with (at_builtin; refine wpList_join rfl _ _ 22 rfl elem8 w.heap.size _ _ rfl (hown2.alloc _) _ 1 1 [_] rfl (Has.one _ _ _) ?d1 ?d2 (by decide) ?d3 ?_)
          case d1 => intro u hu; simp at hu; subst hu; rfl
          case d2 => rw [u8s_len, List.length_append]; omega
          case d3 => have := hbel2.size; simp; omega
          intro v' w' hown' hbel'
          have hbm := byte_more (m := m)
          have R1 : Own w' w.heap.size 5 v' (u8s (putAll (l.take k) ++ (ys ++ [m % 128 + 128]))) := by
            have e : u8s (putAll (l.take k) ++ (ys ++ [m % 128 + 128])) = u8s (putAll (l.take k) ++ ys) ++ [.int .u8 ((m % 128 + 128 : Nat) : Int)] := by
              rw [← List.append_assoc, u8s_app]; rfl
            rw [e, ← hbm]; exact hown'
          have R2 : Below w.heap.size w w' := (hbel2.alloc hbel2.size _).trans hbel'
          have R3 : Aside ((ys ++ [m % 128 + 128]) ++ putN (m / 128) = putN N) := by
            show _ = _
            rw [← HY.out, putN_big (n := m) (by omega)]; simp
          clear hown' hbel' hown2 hown hbel hbel2 hbm
          have hg : 1 ≤ gk := by
            rcases Nat.eq_zero_or_pos gk with h0 | h0
            · rw [h0] at hm9; omega
            · exact h0
          have hd : m / 128 < 128 ^ (gk - 1 + 1) := by
            rw [show gk - 1 + 1 = gk by omega]
            rw [Nat.pow_succ] at hm9
            exact Nat.div_lt_of_lt_mul (by omega)
          go_wp2
          go_roundg (gk - 1)
          case measure => omega
          case rel => exact ⟨m / 128, ys ++ [m % 128 + 128], by go_num, hd, by omega, R1, R2, R3⟩
    · have hz : ¬ ((k : Int) < (n : Int)) := by omega
      go_wp2
      go_ret
      exact ⟨_, rfl, by rw [List.take_of_length_le (by have := HN.out; omega)] at hown; exact hown, hbel⟩
theorem put_has (A : Option Addr) (n c : Nat) (l : List Nat) (w : World) (h : Has w A n c (u64s l)) (hl : ∀ x ∈ l, x < 18446744073709551616) (hn : n ≤ 1000000) :
    Calls Try.prog 41 #[.slice A n c] w (Wrote w (putAll l)) :=
  (put_any A n c l w h hl hn).mono fun e w' ⟨v, he, ho, hb⟩ => by
    obtain ⟨A', c', rfl, hh⟩ := ho.has
    rw [u8s_len] at he hh ho
    exact ⟨A', c', he, hh, ho, hb⟩
/-- Of one number, which is boxed for the call. -/
theorem put_one (N : Nat) (w : World) (h : N < 18446744073709551616) (g : Nat) (hg : g = w.heap.size) :
    Calls Try.prog 41 #[.slice (some ⟨g, 0, none⟩) 1 1] (w.alloc (.cells #[.int .u64 (N : Int)] 64)) (Wrote (w.alloc (.cells #[.int .u64 (N : Int)] 64)) (putN N)) := by
  have := put_has (some ⟨g, 0, none⟩) 1 1 [N] (w.alloc (.cells #[.int .u64 (N : Int)] 64)) (by exact Has.new_at w #[.int .u64 (N : Int)] _ g hg) (by simpa using h) (by decide)
  rw [putAll_one] at this
  exact this
end Go.Proofs.Ytdheppfooapneaa

/- vint.rightWidth, vint.Fixed: a number in so many bytes. -/
namespace Go.Proofs.Ytdheppfooapneaa
open Go.RowKit

def widthOk (n : Int) : Bool := decide (1 ≤ n ∧ n ≤ 8)
theorem width_any (n : Int) (w : World) : Calls Try.prog 53 #[.int .i64 n] w fun e w' => e = .returned (.bool (widthOk n)) ∧ w = w' := by
  by_cases h1 : 1 ≤ n
  · by_cases h2 : n ≤ 8
    · have hw : Hid (true = widthOk n) := by show _ = _; unfold widthOk; simp [h1, h2]
      go_enter Try.func53, Try.ntmps53
      go_wp2
      go_ret
      exact ⟨ret_bool hw.out, rfl⟩
    · have hw : Hid (false = widthOk n) := by show _ = _; unfold widthOk; simp [h2]
      have h2' : decide (n ≤ 8) = false := by simpa using h2
      go_enter Try.func53, Try.ntmps53
      go_wp2
      go_ret
      exact ⟨ret_bool hw.out, rfl⟩
  · have hw : Hid (false = widthOk n) := by show _ = _; unfold widthOk; simp [h1]
    have h1' : decide (1 ≤ n) = false := by simpa using h1
    go_enter Try.func53, Try.ntmps53
    go_wp2
    go_ret
    exact ⟨ret_bool hw.out, rfl⟩

def Fixd (w : World) (r : List Nat × Nat) (e : Ending) (w' : World) : Prop := ∃ v, e = .returned (.tuple #[v, .int .i64 (r.2 : Int)]) ∧ Own w' w.heap.size 5 v (u8s r.1) ∧ Below w.heap.size w w'

set_option maxRecDepth 100000 in
set_option maxHeartbeats 400000 in
theorem fixed_any (n : Nat) (width : Int) (w : World) (_hn : n < 18446744073709551616) :
    Calls Try.prog 50 #[.int .u64 n, .int .i64 width] w (Fixd w (fixed n width)) := by
  by_cases hw : widthOk width = true
  · have hw' : 1 ≤ width ∧ width ≤ 8 := by simpa [widthOk] using hw
    obtain ⟨W, rfl⟩ := Int.eq_ofNat_of_zero_le (show 0 ≤ width by omega)
    have hz : (Try.prog.info? 5).bind (·.zero) = some (.int .u8 0) := by kernel_rfl
    by_cases hbig : 256 ^ W ≤ n
    · have hf : Aside (fixed n W = ([], 2)) := fixed_big hbig
      have hq : ((n : Int) / 2 ^ (8 * W) != 0) = true := by
        rw [shr8, bne_iff_ne]
        have := Nat.div_pos hbig (Nat.pow_pos (by decide))
        omega
      clear hbig
      go_enter Try.func50, Try.ntmps50
      go_wp2_with (go_at_call 53; refine (width_any _ _).mono ?_; rintro e w' ⟨rfl, rfl⟩)
      go_ret2
      rw [hf.out]
      exact ⟨_, rfl, Own.nil _ _ _, Below.refl _ _⟩
    · have hf : Aside (fixed n W = (fixedN n W, 0)) := fixed_fits (by omega) (by omega) hbig
      have hq : ((n : Int) / 2 ^ (8 * W) != 0) = false := by
        rw [shr8, Nat.div_eq_of_lt (by omega)]; rfl
      clear hbig
      go_enter Try.func50, Try.ntmps50
      go_wp2_with (first
        | (go_at_call 53; refine (width_any _ _).mono ?_; rintro e w' ⟨rfl, rfl⟩)
        | (at_make; refine wpList_made rfl _ _ 22 rfl elem8 (.int .u8 0) hz rfl w.heap.size _ _ _ _ W rfl rfl (by omega) (by omega) (by omega) (by decide) (Nat.le_refl _) ?_; intro w1 hown hbel))
      clear hz
      go_loopg [22] W (fun g s22 wx => ∃ i : Nat, i + g = W ∧ s22 = .int .i64 i ∧ Own wx w.heap.size 5 (.slice (some ⟨w.heap.size, 0, none⟩) W W) (u8s ((List.range i).map (dig n)) ++ List.replicate (W - i) (.int .u8 0)) ∧ Below w.heap.size w wx)
      case atStart => exact ⟨0, by omega, rfl, by simpa [u8s] using hown, hbel⟩
      case round =>
        obtain ⟨i, hig, rfl, hown2, hbel2⟩ := hrel
        have hlen : (u8s ((List.range i).map (dig n)) ++ List.replicate (W - i) (Value.int .u8 0)).length = W := by simp [u8s]; omega
        by_cases hi : i < W
        · have hst := hown2.stored hlen i (.int .u8 ((dig n i : Nat) : Int))
          rw [fill_step n W i hi] at hst
          have hc := hown2.cellAt hlen i hi
          obtain ⟨hc1, hc2⟩ := hc
          rw [List.getElem?_append_right (by simp [u8s])] at hc1
          have hc1' : wr.cell? ⟨w.heap.size, i, none⟩ = some (.int .u8 0) := by
            rw [hc1, List.getElem?_replicate, if_pos (by simp [u8s]; omega)]
          clear hc1
          have hsh := shr8_dig n i
          have R1 := Lib.hid hst.1
          have R2 := Lib.hid (hbel2.trans hst.2)
          clear hst hown2 hbel2 hown hbel
          go_wp2
          go_roundg (gk - 1)
          case measure => omega
          case rel =>
            refine ⟨i + 1, by omega, by go_num, ?_, ?_⟩
            · exact R1.out
            · exact R2.out
        · go_wp2
          go_ret2
          rw [hf.out]
          obtain rfl : i = W := by omega
          refine ⟨_, rfl, ?_, hbel2⟩
          simpa [fixedN] using hown2
  · have hf : Aside (fixed n width = ([], 2)) := fixed_wide (by simpa [widthOk] using hw)
    have hw' : widthOk width = false := by simpa using hw
    clear hw
    go_enter Try.func50, Try.ntmps50
    go_wp2_with (go_at_call 53; refine (width_any _ _).mono ?_; rintro e w' ⟨rfl, rfl⟩)
    go_ret2
    rw [hf.out]
    exact ⟨_, rfl, Own.nil _ _ _, Below.refl _ _⟩
end Go.Proofs.Ytdheppfooapneaa

/- vint.Field, and the document's Fixed and Field. -/
namespace Go.Proofs.Ytdheppfooapneaa
open Go.RowKit

/-- Bytes as a number, the lowest first. -/
def val8 : List Nat → Nat
  | [] => 0
  | c :: cs => c + 256 * val8 cs
theorem val8_snoc (l : List Nat) (c : Nat) : val8 (l ++ [c]) = val8 l + c * 256 ^ l.length := by
  induction l with
  | nil => simp [val8]
  | cons x l ih =>
    simp only [List.cons_append, val8, ih, List.length_cons, Nat.pow_succ]
    rw [Nat.mul_add, ← Nat.add_assoc]
    congr 1
    rw [Nat.mul_left_comm, Nat.mul_comm 256]
theorem val8_lt {l : List Nat} (h : ∀ x ∈ l, x < 256) : val8 l < 256 ^ l.length := by
  induction l with
  | nil => simp [val8]
  | cons x l ih =>
    have h1 := ih fun y hy => h y (List.mem_cons_of_mem _ hy)
    have h2 := h x (List.mem_cons_self ..)
    simp only [val8, List.length_cons, Nat.pow_succ]
    omega
theorem val8_step {l : List Nat} {t : Nat} (h : t < l.length) : val8 (l.drop t) = l[t] + 256 * val8 (l.drop (t + 1)) := by
  rw [List.drop_eq_getElem_cons h]; rfl
theorem pow256_le {i : Nat} (h : i ≤ 8) : 256 ^ i ≤ 18446744073709551616 := by
  have := Nat.pow_le_pow_right (n := 256) (by decide) h
  have e : (256 : Nat) ^ 8 = 18446744073709551616 := by decide
  omega
theorem or_up8 {i acc y : Nat} (hi : i ≤ 7) (h : acc < 256 ^ i) (hy : y < 256) :
    bits .or .u64 (acc : Int) (IntKind.u64.wrap ((y : Int) * 2 ^ (8 * i))) = ((acc + y * 256 ^ i : Nat) : Int) := by
  have e : (y : Int) * 2 ^ (8 * i) = ((y * 256 ^ i : Nat) : Int) := by rw [← pow8]; simp
  have p : ((2 : Int) ^ (8 * i)) = ((256 ^ i : Nat) : Int) := by rw [← pow8]; simp
  have hb : acc + y * 256 ^ i < 18446744073709551616 := by
    have h1 : y * 256 ^ i ≤ 255 * 256 ^ i := Nat.mul_le_mul_right _ (by omega)
    have h2 := pow256_le (i := i + 1) (by omega)
    rw [Nat.pow_succ] at h2
    omega
  rw [e, wraps_u64 _ (by omega) (by omega)]
  rw [bits_join_low .u64 64 (by decide) wraps_u64 (8 * i) (acc : Int) ((y * 256 ^ i : Nat) : Int) (by omega) (by rw [p]; omega) (by omega) (by omega) (by rw [p, ← Int.natCast_emod, Nat.mul_mod_left]; rfl) (by omega)]
  omega

/-- What Field answers. -/
def field (bs : List Nat) (p width : Int) : Nat × Nat :=
  if ¬ (1 ≤ width ∧ width ≤ 8) ∨ p < 0 then (0, 2)
  else if (bs.length : Int) - p < width then (0, 10)
  else (val8 ((bs.drop p.toNat).take width.toNat), 0)
theorem field_arg {bs : List Nat} {p width : Int} (h : ¬ (1 ≤ width ∧ width ≤ 8) ∨ p < 0) : field bs p width = (0, 2) := if_pos h
theorem field_short {bs : List Nat} {p width : Int} (h : 1 ≤ width ∧ width ≤ 8) (h1 : 0 ≤ p) (h2 : (bs.length : Int) - p < width) : field bs p width = (0, 10) := by
  unfold field; rw [if_neg (by omega), if_pos h2]
theorem field_ok {bs : List Nat} {k W : Nat} (h : 1 ≤ W ∧ W ≤ 8) (h2 : k + W ≤ bs.length) : field bs k W = (val8 ((bs.drop k).take W), 0) := by
  unfold field; rw [if_neg (by omega), if_neg (by omega)]; simp

def Told (w : World) (r : Nat × Nat) (e : Ending) (w' : World) : Prop := e = .returned (.tuple #[.int .u64 (r.1 : Int), .int .i64 (r.2 : Int)]) ∧ w = w'

set_option maxRecDepth 100000 in
set_option maxHeartbeats 1000000 in
theorem field_any (A : Option Addr) (n c : Nat) (bs : List Nat) (p width : Int) (w : World) (h : Has w A n c (u8s bs)) (hb : ∀ x ∈ bs, x < 256) (hn : n ≤ 281474976710656) (hp : p ≤ 9223372036854775807) :
    Calls Try.prog 47 #[.slice A n c, .int .i64 p, .int .i64 width] w (Told w (field bs p width)) := by
  have hl : bs.length = n := by have := h.len; rw [u8s_len] at this; exact this
  by_cases hw : widthOk width = true
  · have hw' : 1 ≤ width ∧ width ≤ 8 := by simpa [widthOk] using hw
    by_cases hp0 : p < 0
    · have HF := Lib.hid (field_arg (bs := bs) (width := width) (Or.inr hp0))
      clear h hb
      go_enter Try.func47, Try.ntmps47
      go_wp2_with (go_at_call 53; refine (width_any _ _).mono ?_; rintro e w' ⟨rfl, rfl⟩)
      go_ret2
      rw [HF.out]
      exact ⟨rfl, rfl⟩
    · by_cases hs : (n : Int) - p < width
      · have HF := Lib.hid (field_short (bs := bs) hw' (show 0 ≤ p by omega) (by rw [hl]; exact hs))
        have tp : decide (p < 0) = false := by simpa using hp0
        clear h hb hl
        go_enter Try.func47, Try.ntmps47
        go_wp2_with (go_at_call 53; refine (width_any _ _).mono ?_; rintro e w' ⟨rfl, rfl⟩)
        go_ret2
        rw [HF.out]
        exact ⟨rfl, rfl⟩
      · obtain ⟨k, rfl⟩ := Int.eq_ofNat_of_zero_le (show 0 ≤ p by omega)
        obtain ⟨W, rfl⟩ := Int.eq_ofNat_of_zero_le (show 0 ≤ width by omega)
        have hkW : k + W ≤ n := by omega
        obtain ⟨b, off, rfl, _, hcell⟩ := h.spot (by omega)
        have hcap := h.cap
        have HF := Lib.hid (field_ok (bs := bs) (k := k) (W := W) (by omega) (by omega))
        have tp : decide ((k : Int) < 0) = false := by simp
        have ts : decide ((n : Int) - (k : Int) < (W : Int)) = false := by simp; omega
        have hck : ¬ c = k := by omega
        obtain ⟨S, hS⟩ : ∃ S, (bs.drop k).take W = S := ⟨_, rfl⟩
        rw [hS] at HF
        have hSl : S.length = W := by rw [← hS, List.length_take, List.length_drop]; omega
        have hSat : ∀ t (ht : t < S.length), S[t] < 256 ∧ w.cell? ⟨b, off + k + t, none⟩ = some (.int .u8 (S[t] : Int)) := by
          intro t ht
          have htb : k + t < bs.length := by omega
          have e : S[t] = bs[k + t] := by simp only [← hS, List.getElem_take, List.getElem_drop]
          rw [e, Nat.add_assoc]
          exact ⟨hb _ (List.getElem_mem htb), hcell _ _ (u8s_at htb)⟩
        have HSA := Lib.hid hSat
        have HSL := Lib.hid hSl
        clear h hb hl hcell hS hSat hSl hp0 hs
        go_enter Try.func47, Try.ntmps47
        go_wp2_with (go_at_call 53; refine (width_any _ _).mono ?_; rintro e w' ⟨rfl, rfl⟩)
        go_loopg [8, 31] W (fun g s8 s31 wx => ∃ i acc : Nat, i + g = W ∧ s31 = .int .i64 i ∧ s8 = .int .u64 acc ∧ acc < 256 ^ i ∧ Hid (acc = val8 (S.take i)) ∧ w = wx)
        case atStart => exact ⟨0, 0, by omega, rfl, rfl, by simp, rfl, rfl⟩
        case round =>
          obtain ⟨i, acc, hig, rfl, rfl, hacc, HA, rfl⟩ := hrel
          by_cases hi : i < W
          · have his : i < S.length := by rw [HSL.out]; exact hi
            obtain ⟨hy8, hyc⟩ := HSA.out i his
            have HV : Hid (acc + S[i] * 256 ^ i = val8 (S.take (i + 1))) := by
              show _ = _
              rw [take_snoc his, val8_snoc, ← HA.out, List.length_take, Nat.min_eq_left (by omega)]
            have HO := Lib.hid (or_up8 (show i ≤ 7 by omega) hacc hy8)
            have hacc2 : acc + S[i] * 256 ^ i < 256 ^ (i + 1) := by
              have : S[i] * 256 ^ i ≤ 255 * 256 ^ i := Nat.mul_le_mul_right _ (by omega)
              rw [Nat.pow_succ]; omega
            generalize S[i] = y at *
            clear his
            go_wp2
            go_roundg (gk - 1)
            case measure => omega
            case rel => exact ⟨i + 1, acc + y * 256 ^ i, by omega, by go_num, by rw [HO.out], hacc2, HV, rfl⟩
          · go_wp2
            go_ret2
            rw [HF.out]
            refine ⟨?_, rfl⟩
            have e : acc = val8 S := by rw [HA.out, List.take_of_length_le (by rw [HSL.out]; omega)]
            rw [e]; rfl
  · have hw' : widthOk width = false := by simpa using hw
    have HF := Lib.hid (field_arg (bs := bs) (p := p) (width := width) (Or.inl (by simpa [widthOk] using hw)))
    clear h hb hw
    go_enter Try.func47, Try.ntmps47
    go_wp2_with (go_at_call 53; refine (width_any _ _).mono ?_; rintro e w' ⟨rfl, rfl⟩)
    go_ret2
    rw [HF.out]
    exact ⟨rfl, rfl⟩
end Go.Proofs.Ytdheppfooapneaa

/- lapidaryref01.Get answers what vint.Get does. The world stays as it is. -/
namespace Go.Proofs.Ytdheppfooapneaa
open Go.RowKit

theorem refGet_out (A : Option Addr) (n c : Nat) (p : Int) (w : World) (h : p < 0 ∨ (n : Int) < p) :
    Calls Try.prog 35 #[.slice A n c, .int .i64 p] w fun e w' => e = .returned (.tuple #[.int .u64 0, .int .i64 0, .int .i64 2]) ∧ w = w' := by
  by_cases h0 : p < 0
  · go_enter Try.func35, Try.ntmps35
    go_wp2
    go_ret3
    exact ⟨rfl, rfl⟩
  · have h1 : (n : Int) < p := by omega
    clear h
    go_enter Try.func35, Try.ntmps35
    go_wp2
    go_ret3
    exact ⟨rfl, rfl⟩

set_option maxRecDepth 100000 in
set_option maxHeartbeats 400000 in
theorem refGet_in (A : Option Addr) (n c k : Nat) (bs : List Nat) (w : World) (h : Has w A n c (u8s bs)) (hk : k ≤ n) (hn : n ≤ 281474976710656) (hb : ∀ x ∈ bs, x < 256) :
    Calls Try.prog 35 #[.slice A n c, .int .i64 k] w fun e w' =>
      e = .returned (.tuple #[.int .u64 (getAt bs k).1, .int .i64 (getAt bs k).2.1, .int .i64 (getAt bs k).2.2]) ∧ w = w' := by
  have hk0 : decide ((k : Int) < 0) = false := by simp
  have hkn : decide (n < k) = false := by simp; omega
  have HL : Aside (bs.length = n) := by have := h.len; rw [u8s_len] at this; exact this
  have HB : Aside (∀ x ∈ bs, x < 256) := hb
  have HH : Aside (Has w A n c (u8s bs)) := h
  clear hb h
  go_enter Try.func35, Try.ntmps35
  go_wp2
  go_loopg [7] (n - k) (fun g s7 wx => ∃ m : Nat, m + g = n ∧ k ≤ m ∧ m ≤ k + 9 ∧ s7 = .int .i64 m ∧ w = wx ∧ Aside (scan 0 0 (bs.drop k) = scan (m - k) (val ((bs.drop k).take (m - k))) (bs.drop m)))
  case atStart => exact ⟨k, by omega, by omega, by omega, rfl, rfl, by show _ = _; rw [Nat.sub_self]; rfl⟩
  case round =>
    obtain ⟨m, hmg, hkm, hm9, rfl, rfl, HS⟩ := hrel
    by_cases hin : m < n
    · have hml : m < bs.length := by have := HL.out; omega
      obtain ⟨b, off, rfl, _, hcell⟩ := HH.out.spot (by omega)
      have hcl := hcell m _ (u8s_at hml)
      obtain ⟨x, hx⟩ : ∃ x, bs[m] = x := ⟨_, rfl⟩
      have hx8 : x < 256 := by rw [← hx]; exact HB.out _ (List.getElem_mem hml)
      rw [hx] at hcl
      have HD : Aside (bs.drop m = x :: bs.drop (m + 1)) := by show _ = _; rw [List.drop_eq_getElem_cons hml, hx]
      have HV : Aside (val ((bs.drop k).take (m + 1 - k)) = val ((bs.drop k).take (m - k)) + x % 128 * 128 ^ (m - k)) := by
        have hlk : m - k < (bs.drop k).length := by rw [List.length_drop]; omega
        show _ = _
        rw [show m + 1 - k = m - k + 1 by omega, take_snoc hlk, val_snoc, List.length_take, List.length_drop, Nat.min_eq_left (by omega)]
        congr 3
        rw [List.getElem_drop]; congr 1
        simp only [show k + (m - k) = m by omega, hx]
      clear hx hml hcell
      have tlt : decide ((m : Int) < (n : Int)) = true := by simp; omega
      have t10 : decide ((m : Int) - (k : Int) < 10) = true := by simp; omega
      by_cases hx1 : 128 ≤ x
      · have tx : decide ((128 : Int) ≤ (x : Int)) = true := by simp; omega
        by_cases h9 : m - k = 9
        · have t9 : ((m : Int) - (k : Int) == 9) = true := by rw [beq_iff_eq]; omega
          have HG : Aside (getAt bs k = (0, 0, 11)) := getAt_err (by rw [HS.out, HD.out, scan, if_pos (by omega)]) (by decide)
          clear h9
          go_wp2
          go_ret3
          exact ⟨by rw [HG.out]; rfl, rfl⟩
        · have t9 : ((m : Int) - (k : Int) == 9) = false := beq_eq_false_iff_ne.2 (by omega)
          have HN : Aside (scan 0 0 (bs.drop k) = scan (m + 1 - k) (val ((bs.drop k).take (m + 1 - k))) (bs.drop (m + 1))) := by
            show _ = _
            rw [HS.out, HD.out, scan, if_neg (by omega), if_neg (by omega), if_neg (by omega), HV.out]
            rw [show m + 1 - k = m - k + 1 by omega]
          go_wp2
          go_roundg (gk - 1)
          case measure => omega
          case rel => exact ⟨m + 1, by omega, by omega, by omega, by go_num, rfl, HN⟩
      · have tx : decide ((128 : Int) ≤ (x : Int)) = false := by simp; omega
        have tmn : ((m : Int) == (n : Int)) = false := beq_eq_false_iff_ne.2 (by omega)
        have hS : (bs.drop k).take (m + 1 - k) = (bs.drop k).take (m - k) ++ [x] := by
          have hlk : m - k < (bs.drop k).length := by rw [List.length_drop, HL.out]; omega
          rw [show m + 1 - k = m - k + 1 by omega, take_snoc hlk]
          have e := congrArg (fun l => l[0]?) HD.out
          rw [List.getElem?_drop] at e
          rw [List.getElem_drop]
          simp [show k + (m - k) = m by omega] at e ⊢
          rw [List.getElem?_eq_getElem (by have := HL.out; omega)] at e
          simpa using e
        by_cases hA : m - k = 9 ∧ 1 < x
        · have t9 : ((m : Int) - (k : Int) == 9) = true := by rw [beq_iff_eq]; omega
          have t1 : decide ((1 : Int) < (x : Int)) = true := by simp; omega
          have HG : Aside (getAt bs k = (0, 0, 11)) := getAt_err (by rw [HS.out, HD.out, scan, if_pos hA]) (by decide)
          clear hA hS
          go_wp2
          go_ret3
          exact ⟨by rw [HG.out]; rfl, rfl⟩
        · by_cases hB : 0 < m - k ∧ x = 0
          · have tk : decide ((k : Int) < (m : Int)) = true := by simp; omega
            obtain ⟨hB1, rfl⟩ := hB
            have HG : Aside (getAt bs k = (0, 0, 11)) := getAt_err (by rw [HS.out, HD.out, scan, if_neg (by omega), if_pos (by omega)]) (by decide)
            clear hA hS
            by_cases h9 : m - k = 9
            · have t9 : ((m : Int) - (k : Int) == 9) = true := by rw [beq_iff_eq]; omega
              clear h9
              go_wp2
              go_ret3
              exact ⟨by rw [HG.out]; rfl, rfl⟩
            · have t9 : ((m : Int) - (k : Int) == 9) = false := beq_eq_false_iff_ne.2 (by omega)
              clear h9
              go_wp2
              go_ret3
              exact ⟨by rw [HG.out]; rfl, rfl⟩
          · obtain ⟨S, hSS⟩ : ∃ S, (bs.drop k).take (m + 1 - k) = S := ⟨_, rfl⟩
            have hSl : S.length = m + 1 - k := by rw [← hSS, List.length_take, List.length_drop, HL.out]; omega
            have hSat : ∀ t (h : t < S.length), ∃ y, S[t] = y ∧ y < 256 ∧ w.cell? ⟨b, off + (k + t), none⟩ = some (.int .u8 (y : Int)) := by
              intro t ht
              have htb : k + t < bs.length := by have := HL.out; omega
              refine ⟨bs[k + t], ?_, HB.out _ (List.getElem_mem htb), ?_⟩
              · simp only [← hSS, List.getElem_take, List.getElem_drop]
              · obtain ⟨b', off', hA', _, hc'⟩ := HH.out.spot (by omega)
                cases hA'
                exact hc' _ _ (u8s_at htb)
            have hSv : val S < 18446744073709551616 := by
              rw [← hSS, hS]
              by_cases h9 : m - k = 9
              · exact val_fits10 (by rw [List.length_take, List.length_drop, HL.out]; omega) (by omega)
              · have := val_fits (l := (bs.drop k).take (m - k) ++ [x]) (by rw [List.length_append, List.length_take, List.length_drop, HL.out, List.length_singleton]; omega)
                omega
            have HG : Aside (getAt bs k = (val S, m + 1, 0)) := by
              show _ = _
              have := getAt_ok (bs := bs) (k := k) (by rw [HS.out, HD.out, scan, if_neg hA, if_neg hB, if_pos (by omega)])
              rw [this, ← hSS, HV.out, show k + (m - k + 1) = m + 1 by omega, Nat.mod_eq_of_lt (show x < 128 by omega)]
            have HSA := Lib.hid hSat
            have HSL := Lib.hid hSl
            have hSlt : S.length ≤ 10 := by omega
            clear hSS hS hSat hSl HS HD HV
            have hcase : ((((m : Int) - (k : Int) == 9) = true) ∧ (decide ((1 : Int) < (x : Int)) = false) ∧ (decide (k < m) = true) ∧ (((x : Int) == 0) = false)) ∨
                ((((m : Int) - (k : Int) == 9) = false) ∧ (decide (k < m) = false)) ∨ ((((m : Int) - (k : Int) == 9) = false) ∧ (decide (k < m) = true) ∧ (((x : Int) == 0) = false)) := by
              have hc : (m - k = 9 ∧ x = 1) ∨ (m - k < 9 ∧ m = k) ∨ (m - k < 9 ∧ k < m ∧ 0 < x) := by omega
              rcases hc with ⟨h1, h2⟩ | ⟨h1, h2⟩ | ⟨h1, h2, h3⟩
              · exact Or.inl ⟨by rw [beq_iff_eq]; omega, by simp; omega, by simp; omega, beq_eq_false_iff_ne.2 (by omega)⟩
              · exact Or.inr (Or.inl ⟨beq_eq_false_iff_ne.2 (by omega), by simp; omega⟩)
              · exact Or.inr (Or.inr ⟨beq_eq_false_iff_ne.2 (by omega), by simp; omega, beq_eq_false_iff_ne.2 (by omega)⟩)
            clear hA hB
            rcases hcase with ⟨t9, t1, tk, t0⟩ | ⟨t9, tk⟩ | ⟨t9, tk, t0⟩
            all_goals
              go_wp2
              go_loopg [8, 9] (m + 1 - k) (fun g s8 s9 wx => ∃ (t : Nat) (i : Int), t = g ∧ t ≤ m + 1 - k ∧ i + 1 = (k : Int) + t ∧ s9 = .int .i64 i ∧ s8 = .int .u64 ((val (S.drop t) : Nat) : Int) ∧ w = wx)
              case atStart => exact ⟨m + 1 - k, m, rfl, by omega, by omega, rfl, by rw [List.drop_eq_nil_of_le (by have := HSL.out; omega)]; rfl, rfl⟩
              case round =>
                obtain ⟨t, i, rfl, htm, hi, rfl, rfl, rfl⟩ := hrel
                cases t with
                | zero =>
                  have ti : decide ((k : Int) ≤ i) = false := by simp; omega
                  have hlast : Hid (S.drop 0 = S) := rfl
                  have Hi := Lib.hid hi
                  clear hi
                  go_wp2
                  go_ret3
                  refine ⟨?_, rfl⟩
                  rw [HG.out]
                  exact ret3 rfl (by simp) rfl
                | succ t =>
                  obtain rfl : i = ((k + t : Nat) : Int) := by omega
                  have hts : t < S.length := by have := HSL.out; omega
                  obtain ⟨y, hy, hy8, hyc⟩ := HSA.out t hts
                  have HV := Lib.hid (val_step hts)
                  rw [hy] at HV
                  have hle := val_tail_le S t
                  rw [HV.out] at hle
                  obtain ⟨v, hv⟩ : ∃ v, val (S.drop (t + 1)) = v := ⟨_, rfl⟩
                  rw [hv] at HV hle
                  rw [hv]
                  clear hv hy hts hi
                  go_wp2
                  go_roundg t
                  case measure => omega
                  case rel => exact ⟨t, (k : Int) + t - 1, rfl, by omega, by omega, by go_num, by rw [HV.out]; go_num, rfl⟩
    · have tlt : decide ((m : Int) < (n : Int)) = false := by simp; omega
      have tmn : ((m : Int) == (n : Int)) = true := by rw [beq_iff_eq]; omega
      have hd : bs.drop m = [] := List.drop_eq_nil_of_le (by have := HL.out; omega)
      have HG : Aside (getAt bs k = (0, 0, 10)) := getAt_err (by rw [HS.out, hd]; rfl) (by decide)
      clear hd
      go_wp2
      go_ret3
      exact ⟨by rw [HG.out]; rfl, rfl⟩
theorem refGet_any (A : Option Addr) (n c : Nat) (bs : List Nat) (p : Int) (w : World) (h : Has w A n c (u8s bs)) (hb : ∀ x ∈ bs, x < 256) (hn : n ≤ 281474976710656) :
    Calls Try.prog 35 #[.slice A n c, .int .i64 p] w fun e w' =>
      e = .returned (.tuple #[.int .u64 (get bs p).1, .int .i64 (get bs p).2.1, .int .i64 (get bs p).2.2]) ∧ w = w' := by
  have hl : bs.length = n := by have := h.len; rw [u8s_len] at this; exact this
  by_cases ho : p < 0 ∨ (n : Int) < p
  · have hg : get bs p = (0, 0, 2) := by unfold get; rw [hl, if_pos ho]
    rw [hg]
    exact refGet_out A n c p w ho
  · have hg : get bs p = getAt bs p.toNat := by unfold get; rw [hl, if_neg ho]
    obtain ⟨k, rfl⟩ := Int.eq_ofNat_of_zero_le (show 0 ≤ p by omega)
    rw [hg, Int.toNat_natCast]
    exact refGet_in A n c k bs w h (by omega) hn hb
end Go.Proofs.Ytdheppfooapneaa

/- lapidaryref01.Put: a number as bytes: what vint.Put writes of it. -/
namespace Go.Proofs.Ytdheppfooapneaa
open Go.RowKit

def putRest (x m : Nat) : List Nat := if m = 0 then [x] else (x + 128) :: putN m
theorem putRest_is (n : Nat) : putRest (n % 128) (n / 128) = putN n := by
  unfold putRest
  by_cases h : n < 128
  · rw [if_pos (by omega), putN_small h]; congr 1; omega
  · rw [if_neg (by omega), putN_big (n := n) (by omega)]

end Go.Proofs.Ytdheppfooapneaa

/- lapidaryref01.Fixed and lapidaryref01.Field answer what vint's do. -/
namespace Go.Proofs.Ytdheppfooapneaa
open Go.RowKit

theorem val8_tail_le (l : List Nat) (t : Nat) : val8 (l.drop t) ≤ val8 l := by
  induction l generalizing t with
  | nil => simp
  | cons x l ih =>
    cases t with
    | zero => simp
    | succ t =>
      simp only [List.drop_succ_cons, val8]
      have := ih t
      omega

end Go.Proofs.Ytdheppfooapneaa

/- vint.Get in plain numbers: what it reads is a word; how far it goes; with an error noughts. -/
namespace Go.Proofs.Ytdheppfooapneaa
open Go.RowKit

theorem scan_lt : ∀ (bs : List Nat) (i acc : Nat), i ≤ 9 → acc < 128 ^ i → (scan i acc bs).1 < 18446744073709551616
  | [], _, _, _, _ => by simp [scan]
  | c :: cs, i, acc, hi, hacc => by
    unfold scan
    split
    · simp
    · split
      · simp
      · split
        · have h1 : acc + c * 128 ^ i < 18446744073709551616 := by
            by_cases h9 : i = 9
            · subst h9
              have e : (128 : Nat) ^ 9 = 9223372036854775808 := by decide
              rw [e] at hacc ⊢
              omega
            · have h2 := pow128_le (i := i) (by omega)
              have h3 : c * 128 ^ i ≤ 127 * 128 ^ i := Nat.mul_le_mul_right _ (by omega)
              rw [Nat.pow_succ] at h2
              omega
          exact h1
        · rename_i h0 _ _
          exact scan_lt cs (i + 1) _ (by omega) (acc_up hacc)
theorem scan_zero : ∀ (bs : List Nat) (i acc : Nat), (scan i acc bs).2.2 ≠ 0 → (scan i acc bs).1 = 0 ∧ (scan i acc bs).2.1 = 0
  | [], _, _, _ => by simp [scan]
  | c :: cs, i, acc, h => by
    unfold scan at h ⊢
    split
    · simp
    · split
      · simp
      · split
        · simp_all
        · rename_i h1 h2 h3
          rw [if_neg h1, if_neg h2, if_neg h3] at h
          exact scan_zero cs (i + 1) _ h
theorem get_lt (bs : List Nat) (p : Int) : (get bs p).1 < 18446744073709551616 := by
  unfold get
  split
  · simp
  · unfold getAt
    have := scan_lt (bs.drop p.toNat) 0 0 (by omega) (by omega)
    simp only
    split <;> simpa using this
theorem get_zero (bs : List Nat) (p : Int) (h : (get bs p).2.2 ≠ 0) : (get bs p).1 = 0 ∧ (get bs p).2.1 = 0 := by
  unfold get at h ⊢
  split
  · simp
  · rename_i h1
    rw [if_neg h1] at h
    unfold getAt at h ⊢
    simp only at h ⊢
    split
    · rename_i h2
      rw [if_pos h2] at h
      simp at h
    · rename_i h2
      exact scan_zero _ _ _ h2
theorem scan_size : ∀ (bs : List Nat) (i acc : Nat), (scan i acc bs).2.2 = 0 → i < (scan i acc bs).2.1 ∧ (scan i acc bs).2.1 ≤ i + bs.length
  | [], _, _, h => by simp [scan] at h
  | c :: cs, i, acc, h => by
    unfold scan at h ⊢
    split
    · rename_i h1; rw [if_pos h1] at h; simp at h
    · rename_i h1
      rw [if_neg h1] at h
      split
      · rename_i h2; rw [if_pos h2] at h; simp at h
      · rename_i h2
        rw [if_neg h2] at h
        split
        · simp
        · rename_i h3
          rw [if_neg h3] at h
          have := scan_size cs (i + 1) _ h
          simp only [List.length_cons]
          omega
theorem get_moves {bs : List Nat} {k : Nat} (h : (get bs k).2.2 = 0) : k < (get bs k).2.1 ∧ (get bs k).2.1 ≤ bs.length := by
  unfold get at h ⊢
  split
  · rename_i h1; rw [if_pos h1] at h; simp at h
  · rename_i h1
    rw [if_neg h1] at h
    rw [Int.toNat_natCast] at h ⊢
    unfold getAt at h ⊢
    simp only at h ⊢
    split
    · rename_i h2
      have := scan_size _ _ _ h2
      rw [List.length_drop] at this
      simp only
      omega
    · rename_i h2
      rw [if_neg h2] at h
      exact absurd h h2
end Go.Proofs.Ytdheppfooapneaa

/- vint.GetInt, vint.PutInt and the document's: signed numbers. -/
namespace Go.Proofs.Ytdheppfooapneaa
open Go.RowKit

end Go.Proofs.Ytdheppfooapneaa

/- vint.All and the document's: numbers to the end. -/
namespace Go.Proofs.Ytdheppfooapneaa
open Go.RowKit

/-- Numbers from a place on, behind those that were read. -/
def allF : Nat → List Nat → Nat → List Nat → List Nat × Nat
  | 0, _, _, acc => (acc, 0)
  | f + 1, bs, k, acc =>
    if k < bs.length then (if (get bs k).2.2 = 0 then allF f bs (get bs k).2.1 (acc ++ [(get bs k).1]) else ([], (get bs k).2.2)) else (acc, 0)

theorem allF_len : ∀ (f : Nat) (bs : List Nat) (k : Nat) (acc : List Nat), acc.length ≤ k → k ≤ bs.length → (allF f bs k acc).1.length ≤ bs.length
  | 0, _, _, _, h1, h2 => Nat.le_trans h1 h2
  | f + 1, bs, k, acc, h1, h2 => by
    unfold allF
    split
    · split
      · rename_i h4
        have := get_moves h4
        exact allF_len f bs _ _ (by rw [List.length_append, List.length_singleton]; omega) this.2
      · simp
    · exact Nat.le_trans h1 h2

def Alld (w : World) (r : List Nat × Nat) (e : Ending) (w' : World) : Prop := ∃ v, e = .returned (.tuple #[v, .int .i64 (r.2 : Int)]) ∧ Own w' w.heap.size 64 v (u64s r.1) ∧ Below w.heap.size w w'

end Go.Proofs.Ytdheppfooapneaa

/- Plain numbers: a number's bytes are read as it; bytes that are one are its bytes; cut short they are missing some. -/
namespace Go.Proofs.Ytdheppfooapneaa
open Go.RowKit

theorem pow_fits {i n : Nat} (h : n * 128 ^ i < 18446744073709551616) (hn : 0 < n) : i ≤ 9 ∧ (i = 9 → n ≤ 1) := by
  have h9 : i ≤ 9 := by
    rcases Nat.lt_or_ge i 10 with h1 | h1
    · omega
    · have h2 := Nat.pow_le_pow_right (n := 128) (by decide) h1
      have e : (128 : Nat) ^ 10 = 1180591620717411303424 := by decide
      have h3 : 1 * 128 ^ i ≤ n * 128 ^ i := Nat.mul_le_mul_right _ hn
      omega
  refine ⟨h9, fun e => ?_⟩
  subst e
  have e : (128 : Nat) ^ 9 = 9223372036854775808 := by decide
  rw [e] at h
  omega

/-- A number's bytes are read as it, whatever stands behind. -/
theorem scan_put : ∀ (f n i acc : Nat) (rest : List Nat), n ≤ f → (0 < i → 0 < n) → n * 128 ^ i < 18446744073709551616 →
    scan i acc (putN n ++ rest) = (acc + n * 128 ^ i, i + (putN n).length, 0)
  | f, n, i, acc, rest, hf, h0, hn => by
    by_cases hs : n < 128
    · rw [putN_small hs]
      have h9 : ¬ (i = 9 ∧ 1 < n) := by
        rintro ⟨rfl, h1⟩
        have := (pow_fits hn (by omega)).2 rfl
        omega
      simp only [List.cons_append, List.nil_append, scan]
      rw [if_neg h9, if_neg (by omega), if_pos hs]
      rfl
    · cases f with
      | zero => omega
      | succ f =>
        have hp := pow_fits hn (by omega)
        have h9 : i ≠ 9 := fun e => by have := hp.2 e; omega
        rw [putN_big (n := n) (by omega)]
        simp only [List.cons_append, scan]
        rw [if_neg (by omega), if_neg (by omega), if_neg (by omega)]
        have hsum : n % 128 * 128 ^ i + n / 128 * 128 ^ (i + 1) = n * 128 ^ i := by
          have e : n = n % 128 + 128 * (n / 128) := by omega
          rw [Nat.pow_succ]
          generalize n % 128 = a at *
          generalize n / 128 = b at *
          subst e
          rw [Nat.add_mul, Nat.mul_comm 128 b, Nat.mul_assoc, Nat.mul_comm 128]
        rw [scan_put f (n / 128) (i + 1) _ rest (by omega) (fun _ => by omega) (by omega)]
        have hm : (n % 128 + 128) % 128 = n % 128 := by omega
        rw [hm]
        refine Prod.ext ?_ (Prod.ext ?_ rfl)
        · show _ = acc + n * 128 ^ i
          omega
        · show i + 1 + (putN (n / 128)).length = i + ((n % 128 + 128) :: putN (n / 128)).length
          rw [List.length_cons]; omega

theorem get_put (n : Nat) (ahead behind : List Nat) (h : n < 18446744073709551616) : get (ahead ++ (putN n ++ behind)) (ahead.length : Int) = (n, ahead.length + (putN n).length, 0) := by
  unfold get
  rw [if_neg (by rw [List.length_append]; omega), Int.toNat_natCast]
  have hs := scan_put n n 0 0 behind (Nat.le_refl _) (by omega) (by simpa using h)
  have := getAt_ok (bs := ahead ++ (putN n ++ behind)) (k := ahead.length) (by rw [List.drop_left]; exact hs)
  rw [this]
  simp

/-- Cut short, some are missing. -/
theorem scan_short : ∀ (f n i acc r : Nat), n ≤ f → n * 128 ^ i < 18446744073709551616 → r < (putN n).length → scan i acc ((putN n).take r) = (0, 0, 10)
  | f, n, i, acc, r, hf, hn, hr => by
    by_cases hs : n < 128
    · rw [putN_small hs] at hr ⊢
      obtain rfl : r = 0 := by simpa using hr
      rfl
    · cases f with
      | zero => omega
      | succ f =>
        have hp := pow_fits hn (by omega)
        have h9 : i ≠ 9 := fun e => by have := hp.2 e; omega
        rw [putN_big (n := n) (by omega)] at hr ⊢
        cases r with
        | zero => rfl
        | succ r =>
          rw [List.length_cons] at hr
          simp only [List.take_succ_cons, scan]
          rw [if_neg (by omega), if_neg (by omega), if_neg (by omega)]
          have hle : n / 128 * 128 ^ (i + 1) ≤ n * 128 ^ i := by
            rw [Nat.pow_succ, Nat.mul_comm (128 ^ i), ← Nat.mul_assoc]
            exact Nat.mul_le_mul_right _ (by omega)
          exact scan_short f (n / 128) (i + 1) _ r (by omega) (by omega) (by omega)
theorem get_cut (n r : Nat) (h : n < 18446744073709551616) (hr : r < (putN n).length) : get ((putN n).take r) 0 = (0, 0, 10) := by
  unfold get
  rw [if_neg (by omega)]
  exact getAt_err (by simpa using scan_short n n 0 0 r (Nat.le_refl _) (by simpa using h) hr) (by decide)

/-- Bytes that are a number are its bytes. -/
theorem scan_back : ∀ (bs : List Nat) (i acc : Nat), (∀ x ∈ bs, x < 256) → (scan i acc bs).2.2 = 0 →
    ∃ n, (scan i acc bs).1 = acc + n * 128 ^ i ∧ i < (scan i acc bs).2.1 ∧ putN n = bs.take ((scan i acc bs).2.1 - i) ∧ (0 < i → 0 < n)
  | [], _, _, _, h => by simp [scan] at h
  | c :: cs, i, acc, hb, h => by
    by_cases h1 : i = 9 ∧ 1 < c
    · rw [scan, if_pos h1] at h; simp at h
    · by_cases h2 : 0 < i ∧ c = 0
      · rw [scan, if_neg h1, if_pos h2] at h; simp at h
      · by_cases h3 : c < 128
        · rw [scan, if_neg h1, if_neg h2, if_pos h3]
          refine ⟨c, rfl, by simp, ?_, fun _ => by omega⟩
          rw [putN_small h3]
          simp
        · rw [scan, if_neg h1, if_neg h2, if_neg h3] at h ⊢
          obtain ⟨n, e1, e2, e3, e4⟩ := scan_back cs (i + 1) _ (fun x hx => hb x (List.mem_cons_of_mem _ hx)) h
          have hn := e4 (by omega)
          have hc := hb c (List.mem_cons_self ..)
          refine ⟨c % 128 + 128 * n, ?_, by omega, ?_, fun _ => by omega⟩
          · rw [e1, Nat.pow_succ, Nat.add_mul, Nat.mul_comm 128 n, Nat.mul_assoc, Nat.mul_comm 128 (128 ^ i), Nat.add_assoc]
          · rw [putN_big (by omega)]
            have f1 : (c % 128 + 128 * n) % 128 + 128 = c := by omega
            have f2 : (c % 128 + 128 * n) / 128 = n := by omega
            rw [f1, f2, e3]
            generalize (scan (i + 1) (acc + c % 128 * 128 ^ i) cs).2.1 = s at *
            rw [show s - i = s - (i + 1) + 1 by omega, List.take_succ_cons]
theorem get_back (bs : List Nat) (hb : ∀ x ∈ bs, x < 256) (h : (get bs 0).2.2 = 0) : putN (get bs 0).1 = bs.take (get bs 0).2.1 := by
  unfold get at h ⊢
  rw [if_neg (by omega)] at h ⊢
  unfold getAt at h ⊢
  simp only [Int.toNat_zero, List.drop_zero] at h ⊢
  by_cases h0 : (scan 0 0 bs).2.2 = 0
  · rw [if_pos h0]
    obtain ⟨n, e1, e2, e3, _⟩ := scan_back bs 0 0 hb h0
    simp only [Nat.zero_add]
    rw [e1]
    simpa using e3
  · rw [if_neg h0] at h
    exact absurd h h0
end Go.Proofs.Ytdheppfooapneaa
