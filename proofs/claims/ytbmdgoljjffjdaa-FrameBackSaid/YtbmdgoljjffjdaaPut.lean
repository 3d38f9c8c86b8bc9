/- vint.Put: numbers as bytes, one behind the other: a slice of the call's own; nothing that was there has turned. -/
import Derived.Test.YtbmdgoljjffjdaaVintNums
import Derived.Deep.LoopGhost
namespace Go.Proofs.Ytbmdgoljjffjdaa
open Go.RowKit

set_option maxRecDepth 100000 in
set_option maxHeartbeats 400000 in
theorem put_any (A : Option Addr) (n c : Nat) (l : List Nat) (w : World) (h : Has w A n c (u64s l)) (hl : ∀ x ∈ l, x < 18446744073709551616) (hn : n ≤ 1000000) :
    Calls Try.prog 30 #[.slice A n c] w fun e w' => ∃ v, e = .returned v ∧ Own w' w.heap.size 5 v (u8s (putAll l)) ∧ Below w.heap.size w w' := by
  have HH : Aside (Has w A n c (u64s l)) := h
  have HL : Aside (∀ x ∈ l, x < 18446744073709551616) := hl
  have HN : Aside (l.length = n) := by have := h.len; rw [u64s_len] at this; exact this
  clear h hl
  go_enter Try.func30, Try.ntmps30
  go_wp2
  go_loopg [3, 8] n (fun g s3 s8 wx => ∃ k : Nat, k + g = n ∧ s8 = .int .i64 k ∧ Own wx w.heap.size 5 s3 (u8s (putAll (l.take k))) ∧ Below w.heap.size w wx)
  case atStart => exact ⟨0, by omega, rfl, Own.nil _ _ _, Below.refl _ _⟩
  case round =>
    obtain ⟨k, hkg, rfl, hown, hbel⟩ := hrel
    by_cases hk : k < n
    · have hkl : k < l.length := by have := HN.out; omega
      obtain ⟨b, off, rfl, hbs, hcell⟩ := (HH.out.kept hbel).spot (by omega)
      have hcl := hcell k _ (u64s_at hkl)
      obtain ⟨N, hN⟩ : ∃ N, l[k] = N := ⟨_, rfl⟩
      have hN64 : N < 18446744073709551616 := by rw [← hN]; exact HL.out _ (List.getElem_mem hkl)
      have HT : Aside (putAll (l.take (k + 1)) = putAll (l.take k) ++ putN N) := by rw [← hN]; exact putAll_take hkl
      rw [hN] at hcl
      clear hN hcell
      have hpl : (putAll (l.take k)).length ≤ 10 * n := by
        have := putAll_len (l := l.take k) fun x hx => HL.out x (List.mem_of_mem_take hx)
        rw [List.length_take] at this; omega
      have hnp := putN_len hN64
      go_wp2
      go_loopg [3, 5] 9 (fun g s3 s5 wx => ∃ (m : Nat) (ys : List Nat), s5 = .int .u64 m ∧ m < 128 ^ (g + 1) ∧ m < 18446744073709551616 ∧ Own wx w.heap.size 5 s3 (u8s (putAll (l.take k) ++ ys)) ∧ Below w.heap.size w wx ∧ Aside (ys ++ putN m = putN N))
      case atStart => exact ⟨N, [], rfl, by omega, hN64, by rw [List.append_nil]; exact hown, hbel, rfl⟩
      case round =>
        obtain ⟨m, ys, rfl, hm9, hm64, hown2, hbel2, HY⟩ := hrel
        have hyl : ys.length + (putN m).length ≤ 10 := by have := congrArg List.length HY.out; rw [List.length_append] at this; omega
        by_cases hm : m < 128
        · have ht : decide ((128 : Int) ≤ (m : Int)) = false := by simp; omega
          have hbl := byte_last hm
          have hown3 := hown2.alloc (.cells #[.int .u8 (m : Int)] 5)
          go_wp2_with (at_builtin; refine wpList_join rfl _ _ 25 rfl elem8 w.heap.size _ _ rfl hown3 _ 1 1 [.int .u8 (m : Int)] rfl (Has.one _ _ _) ?c1 ?c2 (by decide) ?c3 ?_)
          case c1 => intro u hu; simp at hu; subst hu; rfl
          case c2 => rw [u8s_len, List.length_append]; omega
          case c3 => have := hbel2.size; simp; omega
          intro v' w' hown' hbel'
          have R1 : Own w' w.heap.size 5 v' (u8s (putAll (l.take (k + 1)))) := by
            have e : u8s (putAll (l.take (k + 1))) = u8s (putAll (l.take k) ++ ys) ++ [.int .u8 (m : Int)] := by
              rw [HT.out, ← HY.out, putN_small hm, ← List.append_assoc, u8s_app]; rfl
            rw [e]; exact hown'
          have R2 : Below w.heap.size w w' := (hbel2.alloc hbel2.size _).trans hbel'
          clear hown' hbel' hown3 hown2 hown hbel hbel2
          go_wp2
          go_roundg (n - (k + 1))
          case measure => omega
          case rel => exact ⟨k + 1, by omega, by go_num, R1, R2⟩
        · have ht : decide ((128 : Int) ≤ (m : Int)) = true := by simp; omega
          go_wp2_with (at_builtin; refine wpList_join rfl _ _ 25 rfl elem8 w.heap.size _ _ rfl (hown2.alloc _) _ 1 1 [_] rfl (Has.one _ _ _) ?d1 ?d2 (by decide) ?d3 ?_)
          case d1 => intro u hu; simp at hu; subst hu; rfl
          case d2 => rw [u8s_len, List.length_append]; omega
          case d3 => have := hbel2.size; simp; omega
          intro v' w' hown' hbel'
          have hbm := byte_more (m := m)
          have R1 : Own w' w.heap.size 5 v' (u8s (putAll (l.take k) ++ (ys ++ [m % 128 + 128]))) := by
            have e : u8s (putAll (l.take k) ++ (ys ++ [m % 128 + 128])) = u8s (putAll (l.take k) ++ ys) ++ [.int .u8 ((m % 128 + 128 : Nat) : Int)] := by
              rw [← List.append_assoc, u8s_app]; rfl
            rw [e, ← hbm]; exact hown'
          have R2 : Below w.heap.size w w' := (hbel2.alloc hbel2.size _).trans hbel'
          have R3 : Aside ((ys ++ [m % 128 + 128]) ++ putN (m / 128) = putN N) := by
            show _ = _
            rw [← HY.out, putN_big (n := m) (by omega)]; simp
          clear hown' hbel' hown2 hown hbel hbel2 hbm
          have hg : 1 ≤ gk := by
            rcases Nat.eq_zero_or_pos gk with h0 | h0
            · rw [h0] at hm9; omega
            · exact h0
          have hd : m / 128 < 128 ^ (gk - 1 + 1) := by
            rw [show gk - 1 + 1 = gk by omega]
            rw [Nat.pow_succ] at hm9
            exact Nat.div_lt_of_lt_mul (by omega)
          go_wp2
          go_roundg (gk - 1)
          case measure => omega
          case rel => exact ⟨m / 128, ys ++ [m % 128 + 128], by go_num, hd, by omega, R1, R2, R3⟩
    · have hz : ¬ ((k : Int) < (n : Int)) := by omega
      go_wp2
      go_ret
      exact ⟨_, rfl, by rw [List.take_of_length_le (by have := HN.out; omega)] at hown; exact hown, hbel⟩
theorem put_has (A : Option Addr) (n c : Nat) (l : List Nat) (w : World) (h : Has w A n c (u64s l)) (hl : ∀ x ∈ l, x < 18446744073709551616) (hn : n ≤ 1000000) :
    Calls Try.prog 30 #[.slice A n c] w (Wrote w (putAll l)) :=
  (put_any A n c l w h hl hn).mono fun e w' ⟨v, he, ho, hb⟩ => by
    obtain ⟨A', c', rfl, hh⟩ := ho.has
    rw [u8s_len] at he hh ho
    exact ⟨A', c', he, hh, ho, hb⟩
/-- Of one number, which is boxed for the call. -/
theorem put_one (N : Nat) (w : World) (h : N < 18446744073709551616) (g : Nat) (hg : g = w.heap.size) :
    Calls Try.prog 30 #[.slice (some ⟨g, 0, none⟩) 1 1] (w.alloc (.cells #[.int .u64 (N : Int)] 52)) (Wrote (w.alloc (.cells #[.int .u64 (N : Int)] 52)) (putN N)) := by
  have := put_has (some ⟨g, 0, none⟩) 1 1 [N] (w.alloc (.cells #[.int .u64 (N : Int)] 52)) (by exact Has.new_at w #[.int .u64 (N : Int)] _ g hg) (by simpa using h) (by decide)
  rw [putAll_one] at this
  exact this
end Go.Proofs.Ytbmdgoljjffjdaa
