/- lapidaryref01.Put: a number as bytes: what vint.Put writes of it. -/
import Derived.Test.YtbmdgoljjffjdaaPut
namespace Go.Proofs.Ytbmdgoljjffjdaa
open Go.RowKit

def putRest (x m : Nat) : List Nat := if m = 0 then [x] else (x + 128) :: putN m
theorem putRest_is (n : Nat) : putRest (n % 128) (n / 128) = putN n := by
  unfold putRest
  by_cases h : n < 128
  · rw [if_pos (by omega), putN_small h]; congr 1; omega
  · rw [if_neg (by omega), putN_big (n := n) (by omega)]

set_option maxRecDepth 100000 in
set_option maxHeartbeats 1000000 in
theorem refPut_any (N : Nat) (w : World) (hN : N < 18446744073709551616) :
    Calls Try.prog 23 #[.int .u64 (N : Int)] w (Wrote w (putN N)) := by
  have hpl := putN_len hN
  have hfr := Own.fresh w w.heap.size #[.int .u8 ((N % 128 : Nat) : Int)] 5 (Nat.le_refl _) (by simp)
  have HF := Lib.hid hfr
  clear hfr
  go_enter Try.func23, Try.ntmps23
  go_wp2
  go_loopg [0, 3] 9 (fun g s0 s3 wx => ∃ (m x : Nat) (ys : List Nat), s0 = .int .u64 m ∧ m < 128 ^ g ∧ m < 18446744073709551616 ∧ x < 128 ∧ Own wx w.heap.size 5 s3 (u8s (ys ++ [x])) ∧ Below w.heap.size w wx ∧ Aside (ys ++ putRest x m = putN N))
  case atStart =>
    refine ⟨N / 128, N % 128, [], by go_num, by omega, by omega, by omega, ?_, (Below.refl _ _).alloc (Nat.le_refl _) _, putRest_is N⟩
    exact HF.out
  case round =>
    obtain ⟨m, x, ys, rfl, hmg, hm64, hx, hown, hbel, HY⟩ := hrel
    by_cases hm : m = 0
    · subst hm
      have hxs : ys ++ [x] = putN N := by have := HY.out; simpa [putRest] using this
      go_wp2
      go_ret
      rw [hxs] at hown
      obtain ⟨A', c', rfl, hh⟩ := hown.has
      rw [u8s_len] at hh hown
      exact ⟨A', c', by rw [u8s_len]; rfl, hh, hown, hbel⟩
    · have hyl : ys.length + 1 + (putN m).length ≤ 10 := by
        have := congrArg List.length HY.out
        simp [putRest, hm] at this
        omega
      obtain ⟨g, cap, hv, hg1, hg2⟩ := hown.form (by rw [u8s_len]; simp)
      rw [u8s_len, List.length_append, List.length_singleton] at hv
      subst hv
      have hlen : (u8s (ys ++ [x])).length = ys.length + 1 := by rw [u8s_len]; simp
      obtain ⟨hc1, hc2⟩ := hown.cellAt hlen ys.length (by omega)
      have hc1' : wr.cell? ⟨g, ys.length, none⟩ = some (.int .u8 (x : Int)) := by rw [hc1]; simp [u8s]
      have hst := hown.stored hlen ys.length (.int .u8 ((x : Int) + 128))
      have hset : (u8s (ys ++ [x])).set ys.length (.int .u8 ((x : Int) + 128)) = u8s (ys ++ [x + 128]) := by
        simp [u8s]
      rw [hset] at hst
      have HST := Lib.hid hst
      have HB0 := Lib.hid hbel
      have hsz := hbel.size
      have hpos : 0 < m := by omega
      have hR3 : Aside ((ys ++ [x + 128]) ++ putRest (m % 128) (m / 128) = putN N) := by
        show _ = _
        rw [putRest_is, ← HY.out]; simp [putRest, hm]
      have hg0 : 1 ≤ gk := by
        rcases Nat.eq_zero_or_pos gk with h0 | h0
        · rw [h0] at hmg; omega
        · exact h0
      have hd : m / 128 < 128 ^ (gk - 1) := by
        rw [show gk = gk - 1 + 1 by omega, Nat.pow_succ] at hmg
        exact Nat.div_lt_of_lt_mul (by omega)
      have hsz2 : wr.heap.size = (wr.setCell ⟨g, ys.length, none⟩ (.int .u8 ((x : Int) + 128))).heap.size := by simp
      have hyl2 : ys.length ≤ 10 := by omega
      have HSZ := Lib.hid hsz2
      clear hown hc1 hst hset hlen hbel hm hmg HY HF hsz2
      go_wp2_with (at_builtin; refine wpList_join rfl _ _ 25 rfl elem8 w.heap.size _ (u8s (ys ++ [x + 128])) rfl (HST.out.1.alloc _) _ 1 1 [_] rfl (Has.new_at _ #[_] _ _ HSZ.out) ?d1 ?d2 (by decide) ?d3 ?_)
      case d1 => intro u hu; simp at hu; subst hu; rfl
      case d2 => rw [u8s_len, List.length_append]; simp; omega
      case d3 => simp; omega
      intro v' w' hown' hbel'
      have R1 : Own w' w.heap.size 5 v' (u8s ((ys ++ [x + 128]) ++ [m % 128])) := by
        rw [u8s_app]
        have e : u8s [m % 128] = [.int .u8 ((m : Int) % 128)] := by simp [u8s]
        rw [e]; exact hown'
      have R2 : Below w.heap.size w w' := ((HB0.out.trans HST.out.2).alloc (by simp; omega) _).trans hbel'
      clear hown' hbel' HST HB0 hc1' hc2
      go_wp2
      go_roundg (gk - 1)
      case measure => omega
      case rel => exact ⟨m / 128, m % 128, ys ++ [x + 128], by go_num, hd, by omega, by omega, R1, R2, hR3⟩
end Go.Proofs.Ytbmdgoljjffjdaa
