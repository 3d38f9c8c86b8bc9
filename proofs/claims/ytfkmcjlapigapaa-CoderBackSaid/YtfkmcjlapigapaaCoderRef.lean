/- lapidaryref06: two, digits, add. -/
import Derived.Test.YtfkmcjlapigapaaCoderMath
import Derived.Deep.LoopGhost
import Derived.Outline
namespace Go.Proofs.Ytfkmcjlapigapaa
open Go.RowKit

set_option maxRecDepth 100000 in
theorem ref6Two_any (n : Nat) (w : World) (hn : n ≤ 16) : Calls Try.prog 54 #[.int .i64 (n : Int)] w fun e w' => e = .returned (.int .i64 ((2 ^ n : Nat) : Int)) ∧ w = w' := by
  go_enter Try.func54, Try.ntmps54
  go_wp2
  go_loopg [3, 4] n (fun g s3 s4 wx => ∃ i : Nat, i + g = n ∧ s4 = .int .i64 i ∧ s3 = .int .i64 ((2 ^ i : Nat) : Int) ∧ w = wx)
  case atStart => exact ⟨0, by omega, rfl, rfl, rfl⟩
  case round =>
    obtain ⟨i, hig, rfl, rfl, rfl⟩ := hrel
    by_cases hi : i < n
    · have ti : decide ((i : Int) < (n : Int)) = true := by simp; omega
      have hp : 2 ^ i ≤ 2 ^ 16 := Nat.pow_le_pow_right (by decide) (by omega)
      have HX : Hid (2 ^ (i + 1) = 2 ^ i * 2) := Nat.pow_succ ..
      generalize 2 ^ i = x at *
      go_wp2
      go_roundg (gk - 1)
      case measure => omega
      case rel => exact ⟨i + 1, by omega, by go_num, by rw [HX.out]; go_num, rfl⟩
    · have ti : decide ((i : Int) < (n : Int)) = false := by simp; omega
      obtain rfl : i = n := by omega
      go_wp2
      go_ret
      exact ⟨rfl, rfl⟩

set_option maxRecDepth 100000 in
theorem ref6Digits_any (A : Option Addr) (n c : Nat) (ds : List Nat) (w : World) (h : Has w A n c (i64s ds)) (hd : ∀ x ∈ ds, x < 256) (hn : n ≤ 1000000) :
    Calls Try.prog 30 #[.slice A n c] w (Wrote w ds) := by
  have HL : Hid (ds.length = n) := by have := h.len; rw [i64s_len] at this; exact this
  have HH := Lib.hid h
  have HD := Lib.hid hd
  clear h hd
  go_enter Try.func30, Try.ntmps30
  go_wp2
  go_loopg [3, 4] n (fun g s3 s4 wx => ∃ i : Nat, i + g = n ∧ s4 = .int .i64 i ∧ Hid (Own wx w.heap.size 5 s3 (u8s (ds.take i))) ∧ Hid (Below w.heap.size w wx))
  case atStart => exact ⟨0, by omega, rfl, Own.nil _ _ _, Below.refl _ _⟩
  case round =>
    obtain ⟨i, hig, rfl, HO, HB⟩ := hrel
    have hz := HB.out.size
    by_cases hi : i < n
    · have hil : i < ds.length := by rw [HL.out]; exact hi
      have ti : decide ((i : Int) < (n : Int)) = true := by simp; omega
      obtain ⟨b, off, rfl, hlt, hc⟩ := (HH.out.kept HB.out).spot (by omega)
      have hcell := hc i _ (i64s_at hil)
      have hx := HD.out _ (List.getElem_mem hil)
      have HS : Hid (u8s (ds.take i) ++ u8s [ds[i]] = u8s (ds.take (i + 1))) := by show _ = _; rw [← u8s_app, List.take_succ_eq_append_getElem hil]
      clear hc
      generalize ds[i] = x at *
      have hwr : IntKind.wrap .u8 (x : Int) = (x : Int) := by rw [IntKind.wrap_u8]; omega
      go_wp2_with (at_builtin
                   refine wpList_join rfl _ _ 25 rfl elem8 w.heap.size _ _ rfl (HO.out.alloc _) _ 1 1 (u8s [x]) rfl (Has.one _ _ _) (u8s_one _) (by rw [u8s_len, List.length_take]; omega) (by decide) (by simp; omega) ?_
                   intro v2 w2 hown2 hbel2
                   rw [HS.out] at hown2
                   have HO2 := Lib.hid hown2
                   have HB2 := Lib.hid ((new_alloc HB.out _).trans hbel2)
                   clear hown2 hbel2)
      go_roundg (gk - 1)
      case measure => omega
      case rel => exact ⟨i + 1, by omega, by go_num, HO2, HB2⟩
    · have ti : decide ((i : Int) < (n : Int)) = false := by simp; omega
      rw [List.take_of_length_le (by rw [HL.out]; omega)] at HO
      go_wp2
      go_ret
      exact Wrote.of HO.out HB.out

theorem digC_cons (k : Nat) : ∀ M, digC (k + 1) M = (M / 256 ^ k) % 256 :: digC k M := by
  induction k with
  | zero => intro M; simp [digC]
  | succ k ih =>
    intro M
    rw [digC, ih (M / 256), digC, Nat.div_div_eq_div_mul, ← Nat.pow_succ', List.cons_append]
/-- The digits of a sum so far: k from behind are done. -/
def addTo (D N M k : Nat) : List Nat := digC (D - k) (N / 256 ^ k) ++ digC k M
theorem addTo_len {D N M k : Nat} (h : k ≤ D) : (addTo D N M k).length = D := by unfold addTo; rw [List.length_append, digC_len, digC_len]; omega
theorem addTo_at {D N M k : Nat} (h : k < D) : (addTo D N M k)[D - 1 - k]'(by rw [addTo_len (by omega)]; omega) = N / 256 ^ k % 256 := by
  obtain ⟨e, he⟩ : ∃ e, D - k = e + 1 := ⟨D - k - 1, by omega⟩
  have hE : addTo D N M k = digC e (N / 256 ^ k / 256) ++ (N / 256 ^ k % 256 :: digC k M) := by unfold addTo; rw [he, digC, List.append_assoc]; rfl
  have hi : D - 1 - k = e := by omega
  simp only [hE, hi]
  rw [List.getElem_append_right (by rw [digC_len]; exact Nat.le_refl _)]
  simp [digC_len]
theorem addTo_step {D N M k : Nat} (h : k < D) : (addTo D N M k).set (D - 1 - k) (M / 256 ^ k % 256) = addTo D N M (k + 1) := by
  obtain ⟨e, he⟩ : ∃ e, D - k = e + 1 := ⟨D - k - 1, by omega⟩
  have hE : addTo D N M k = digC e (N / 256 ^ k / 256) ++ (N / 256 ^ k % 256 :: digC k M) := by unfold addTo; rw [he, digC, List.append_assoc]; rfl
  have hF : addTo D N M (k + 1) = digC e (N / 256 ^ k / 256) ++ (M / 256 ^ k % 256 :: digC k M) := by
    unfold addTo; rw [digC_cons, Nat.div_div_eq_div_mul, ← Nat.pow_succ, show D - (k + 1) = e by omega]
  rw [hE, hF, show D - 1 - k = e by omega, List.set_append_right (h := by rw [digC_len]; exact Nat.le_refl _), digC_len, Nat.sub_self, List.set_cons_zero]

set_option maxRecDepth 100000 in
set_option maxHeartbeats 1000000 in
theorem ref6Add_any (A : Option Addr) (D c : Nat) (N x : Nat) (w : World) (h : Has w A D c (i64s (digC D N))) (hD : D ≤ 1000000) (hD1 : 1 ≤ D) (hx : x ≤ 1000000000000) :
    Calls Try.prog 47 #[.slice A D c, .int .i64 (x : Int)] w fun e w' => ∃ v, e = .returned v ∧ Own w' w.heap.size 3 v (i64s (digC D (N + x))) ∧ Below w.heap.size w w' := by
  have HH := Lib.hid h
  clear h
  go_enter Try.func47, Try.ntmps47
  go_wp2_with (at_builtin
               refine wpList_join rfl _ _ 22 rfl elemI w.heap.size _ [] rfl (Own.nil _ _ _) _ _ _ (i64s (digC D N)) rfl HH.out (i64s_one _) (by simp; omega) (by decide) (Nat.le_refl _) ?_
               intro v1 w1 hown1 hbel1
               rw [List.nil_append] at hown1
               obtain ⟨g, cap, rfl, hgb, hgl⟩ := hown1.form (by rw [i64s_len, digC_len]; omega)
               rw [i64s_len, digC_len] at hown1
               simp only [i64s_len, digC_len]
               have HO1 := Lib.hid hown1
               have HB1 := Lib.hid hbel1
               clear hown1 hbel1)
  go_loopg [1, 6] D (fun gh s1 s6 wx => ∃ k : Nat, k + gh = D ∧ s6 = .int .i64 ((D : Int) - 1 - (k : Int)) ∧ s1 = .int .i64 (((N + x) / 256 ^ k - N / 256 ^ k : Nat) : Int) ∧ Hid (Own wx w.heap.size 3 (.slice (some ⟨g, 0, none⟩) D cap) (i64s (addTo D N (N + x) k))) ∧ Hid (Below w.heap.size w wx))
  case atStart => exact ⟨0, by omega, by simp, by simp, by show Own _ _ _ _ _; simpa [addTo, digC] using HO1.out, HB1⟩
  case round =>
    obtain ⟨k, hkg, rfl, rfl, HO, HB⟩ := hrel
    clear HO1 HB1
    by_cases hk : k < D
    · have ti : decide ((0 : Int) ≤ (D : Int) - 1 - (k : Int)) = true := by simp; omega
      have hle : (i64s (addTo D N (N + x) k)).length = D := by rw [i64s_len, addTo_len (by omega)]
      obtain ⟨hc1, hf1⟩ := HO.out.cellAt hle (D - 1 - k) (by omega)
      rw [i64s_at (by rw [addTo_len (by omega)]; omega), addTo_at hk] at hc1
      have hst := (HO.out.stored hle (D - 1 - k) (.int .i64 (((N + x) / 256 ^ k % 256 : Nat) : Int))).1
      rw [i64s_set, addTo_step hk] at hst
      have HO3 := Lib.hid hst
      have HB3 := Lib.hid (HB.out.setCell (p := ⟨g, D - 1 - k, none⟩) hgb (.int .i64 (((N + x) / 256 ^ k % 256 : Nat) : Int)))
      have hm : N / 256 ^ k ≤ (N + x) / 256 ^ k := Nat.div_le_div_right (by omega)
      have hdx : (N + x) / 256 ^ k - N / 256 ^ k ≤ x := by
        have h0 : 0 < 256 ^ k := Nat.pow_pos (by decide)
        have h1 : N < (N / 256 ^ k + 1) * 256 ^ k := by rw [Nat.mul_comm]; exact Nat.lt_mul_div_succ N h0
        have h2 : (N + x) / 256 ^ k < N / 256 ^ k + 1 + x := by
          rw [Nat.div_lt_iff_lt_mul h0, Nat.add_mul]
          have := Nat.le_mul_of_pos_right x h0
          omega
        omega
      have HE1 : Hid ((N + x) / 256 ^ (k + 1) = (N + x) / 256 ^ k / 256) := by show _ = _; rw [Nat.pow_succ, Nat.div_div_eq_div_mul]
      have HE2 : Hid (N / 256 ^ (k + 1) = N / 256 ^ k / 256) := by show _ = _; rw [Nat.pow_succ, Nat.div_div_eq_div_mul]
      generalize N / 256 ^ k = a at *
      generalize (N + x) / 256 ^ k = b at *
      obtain ⟨i0, hi0⟩ : ∃ i0, D - 1 - k = i0 := ⟨_, rfl⟩
      have hi1 : (D : Int) - 1 - (k : Int) = (i0 : Int) := by omega
      obtain ⟨cy, hcy⟩ : ∃ cy, b - a = cy := ⟨_, rfl⟩
      obtain ⟨dg, hdg⟩ : ∃ dg, a % 256 = dg := ⟨_, rfl⟩
      obtain ⟨y, hy⟩ : ∃ y, b % 256 = y := ⟨_, rfl⟩
      obtain ⟨c2, hc2⟩ : ∃ c2, b / 256 - a / 256 = c2 := ⟨_, rfl⟩
      have q1 : ((cy : Int) + (dg : Int)) % 256 = (y : Int) := by omega
      have q2 : ((cy : Int) + (dg : Int)) / 256 = (c2 : Int) := by omega
      have hdl : dg < 256 := by omega
      have HC2 : Hid ((N + x) / 256 ^ (k + 1) - N / 256 ^ (k + 1) = c2) := by show _ = _; rw [HE1.out, HE2.out]; exact hc2
      rw [hi0, hdg] at hc1
      rw [hi0] at hf1
      rw [hi0, hy] at HO3 HB3
      rw [hi1, hcy]
      rw [hcy] at hdx
      have ti' : decide ((0 : Int) ≤ (i0 : Int)) = true := by simp
      have hi0D : i0 < D := by omega
      have HI : Hid ((D : Int) - 1 - ((k + 1 : Nat) : Int) = (i0 : Int) - 1) := by show _ = _; omega
      clear ti hi1 hcy hdg hy hc2 hm HE1 HE2 hle hst HO HB
      go_wp2
      go_roundg (gk - 1)
      case measure => omega
      case rel =>
        refine ⟨k + 1, by omega, by rw [HI.out], by rw [HC2.out, q2], ?_, ?_⟩
        · exact HO3
        · exact HB3
    · have ti : decide ((0 : Int) ≤ (D : Int) - 1 - (k : Int)) = false := by simp; omega
      obtain rfl : k = D := by omega
      have HE : Hid (addTo k N (N + x) k = digC k (N + x)) := by show _ = _; unfold addTo; rw [Nat.sub_self]; rfl
      rw [HE.out] at HO
      go_wp2
      go_ret
      exact ⟨_, rfl, HO.out, HB.out⟩
end Go.Proofs.Ytfkmcjlapigapaa
