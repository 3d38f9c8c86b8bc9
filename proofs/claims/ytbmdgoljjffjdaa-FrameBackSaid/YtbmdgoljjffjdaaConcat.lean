/- slices.Clone, slices.Grow of nil, slices.Concat, of bytes. -/
import Derived.Test.YtbmdgoljjffjdaaGoOn
import Derived.Lib.AppendZerosOnto
import Derived.Lib.SliceRun
namespace Go.Proofs.Ytbmdgoljjffjdaa
open Go.RowKit

set_option maxRecDepth 100000 in
theorem clone_any (A : Option Addr) (n c : Nat) (bs : List Nat) (w : World) (h : Has w A n c (u8s bs)) (hn : n ≤ 1000000000) : Calls Try.prog 42 #[.slice A n c] w (Wrote w bs) := by
  have q : ∀ (w : World) (a : Option Addr) (n c n' c' : Nat), (binOp .eql 25 (.slice a n c) (.slice none n' c')).run Try.prog w = .ok (.bool a.isNone) w := fun w a n c n' c' => Lib.run_eql_slice_nil w _ _ a n c n' c' Try.underlying25
  have hl := h.len
  have HH := Lib.hid h
  rw [u8s_len] at hl
  cases A with
  | none =>
    have hc := h.bare rfl
    have h0 : n = 0 := by
      rcases Nat.eq_zero_or_pos n with h0 | h0
      · exact h0
      · obtain ⟨b, off, hA, _⟩ := h.spot h0; cases hA
    have hb0 : bs = [] := List.eq_nil_of_length_eq_zero (by omega)
    subst hb0
    clear h hc h0 hl
    go_enter Try.func42, Try.ntmps42
    go_wp2
    go_ret
    exact Wrote.of (Own.nil _ _ _) (Below.refl _ _)
  | some a =>
    clear h
    go_enter Try.func42, Try.ntmps42
    go_wp2_with (at_builtin; refine wpList_join rfl _ _ 25 rfl elem8 w.heap.size _ [] rfl (Own.fresh w _ #[] _ (Nat.le_refl _) (by decide)) _ _ _ (u8s bs) rfl (HH.out.alloc _) (u8s_one _) (by simp; omega) (by decide) (by simp) ?_; intro v' w' hown' hbel')
    go_ret
    exact Wrote.of (by simpa using hown') ((new_alloc (Below.refl _ _) _).trans hbel')

set_option maxRecDepth 100000 in
theorem growNil_any (n : Nat) (w : World) (hn : n ≤ 1000000000) : Calls Try.prog 40 #[.slice none 0 0, .int .i64 n] w fun e w' => ∃ v, e = .returned v ∧ Own w' w.heap.size 5 v [] ∧ Below w.heap.size w w' := by
  by_cases h0 : n = 0
  · subst h0
    go_enter Try.func40, Try.ntmps40
    go_wp2
    go_ret
    exact ⟨_, rfl, Own.nil _ _ _, Below.refl _ _⟩
  · obtain ⟨i, z, hi, hz, hsize, hbytes, hzs⟩ := elem8.info
    have h1 : ¬ ((n : Int) < 0) := by omega
    have h4 : (n : Int) > 0 := by omega
    have hrun : ∀ ty, (Builtin.append_ #[25, 3] ty #[.slice none 0 0, .int .i64 n]).run Try.prog w =
        .ok (.slice (some ⟨w.heap.size, 0, none⟩) n (grownCap w n 0 5)) (w.drew.alloc (.cells (([] : List Value).toArray ++ Builtin.zeroCells z.cells n ++ Builtin.zeroCells z.cells (grownCap w n 0 5 - n)) 5)) := fun ty => by
      have h := Lib.run_append_grow_zeros w 25 3 ty 5 i z .i64 .i64 Try.underlying25 Try.underlying3 hi hz none 0 0 [] (run_firstCells_none w.drew i.size 0 0 0) n (by omega) (by omega) (by omega) (by omega) (by rw [hbytes]; omega)
        (by rw [Nat.zero_add]; exact growslice_fits (by omega) (by rw [hbytes]; omega))
      rw [Nat.zero_add] at h
      exact h
    have hGn : n ≤ grownCap w n 0 5 := grownCap_ge w _ _ _
    have hGm := grownCap_le_maxLen w n 0 5 (by unfold maxLen; omega)
    obtain ⟨G, hG⟩ : ∃ G, G = grownCap w n 0 5 := ⟨_, rfl⟩
    rw [← hG] at hrun hGn hGm
    have HM := Lib.hid hGm
    have hG63 : G ≤ 9223372036854775807 := by unfold maxLen at hGm; omega
    have HZ : Hid ((([] : List Value).toArray ++ Builtin.zeroCells z.cells n ++ Builtin.zeroCells z.cells (G - n)).size = G * 1) := by
      show _ = _
      simp [Builtin.zeroCells, hzs]; omega
    obtain ⟨cs, hcs⟩ : ∃ cs, ([] : List Value).toArray ++ Builtin.zeroCells z.cells n ++ Builtin.zeroCells z.cells (G - n) = cs := ⟨_, rfl⟩
    rw [hcs] at hrun HZ
    clear hG hGm hcs hi hz hsize hbytes hzs
    go_enter Try.func40, Try.ntmps40
    go_wp2_with (at_builtin; refine Lib.wpList_append_run _ rfl _ _ _ _ rfl _ _ rfl rfl _ _ (hrun _) ?_)
    all_goals
      go_ret
      refine ⟨_, rfl, ?_, new_alloc (Below.refl _ _).drew _⟩
      exact World.ownsRow_made w.drew cs G (Nat.le_refl _) HM.out HZ.out

set_option maxRecDepth 100000 in
set_option maxHeartbeats 400000 in
theorem concat_any (A : Option Addr) (n c : Nat) (ls : List (List Nat)) (w : World) (h : Parts w A n c ls) (hn : n ≤ 1000000000) (hm : ls.flatten.length ≤ 1000000000) : Calls Try.prog 32 #[.slice A n c] w (Wrote w ls.flatten) := by
  have HL := Lib.hid h.len
  have HP := Lib.hid h
  have hlen : ∀ k, k ≤ ls.length → (ls.take k).flatten.length ≤ 1000000000 := fun k hk => by
    have e : ls.flatten = (ls.take k).flatten ++ (ls.drop k).flatten := by rw [← List.flatten_append, List.take_append_drop]
    rw [e, List.length_append] at hm
    omega
  have HN := Lib.hid hlen
  clear h hlen
  go_enter Try.func32, Try.ntmps32
  go_wp2
  go_loopg [3, 11] n (fun g s3 s11 wx => ∃ k : Nat, k + g = n ∧ s11 = .int .i64 k ∧ s3 = .int .i64 (((ls.take k).flatten.length : Nat) : Int) ∧ w = wx)
  case atStart => exact ⟨0, by omega, rfl, by simp, rfl⟩
  case round =>
    obtain ⟨k, hkg, rfl, rfl, rfl⟩ := hrel
    by_cases hk : k < n
    · have hkl : k < ls.length := by rw [HL.out]; exact hk
      obtain ⟨b, off, A', n', c', rfl, hcell, hhas⟩ := HP.out.at_ hkl
      have hl := hhas.len
      rw [u8s_len] at hl
      have HX : Hid ((ls.take (k + 1)).flatten.length = (ls.take k).flatten.length + n') := by show _ = _; rw [flat_snoc hkl, List.length_append, hl]
      have h1 := HN.out k (by omega)
      have h2 := HN.out (k + 1) (by omega)
      rw [HX.out] at h2
      generalize (ls.take k).flatten.length = q at *
      have tk : decide ((k : Int) < (n : Int)) = true := by simp; omega
      have tq : decide ((q : Int) + (n' : Int) < 0) = false := by simp; omega
      clear hl hhas hkl
      go_wp2
      go_roundg (gk - 1)
      case measure => omega
      case rel => exact ⟨k + 1, by omega, by go_num, by rw [HX.out]; go_num, rfl⟩
    · have tk : decide ((k : Int) < (n : Int)) = false := by simp; omega
      have hq := HN.out k (by rw [HL.out]; omega)
      generalize (ls.take k).flatten.length = q at *
      go_wp2_with (go_at_call 40; refine (growNil_any q _ hq).mono ?_; rintro e w1 ⟨v, rfl, hown, hbel⟩)
      go_loopg [6, 27] n (fun g s6 s27 wx => ∃ k : Nat, k + g = n ∧ s27 = .int .i64 k ∧ Hid (Own wx w.heap.size 5 s6 (u8s (ls.take k).flatten)) ∧ Hid (Below w.heap.size w wx))
      case atStart => exact ⟨0, by omega, rfl, hown, hbel⟩
      case round =>
        obtain ⟨j, hjg, rfl, HO, HB⟩ := hrel
        clear hown hbel
        by_cases hj : j < n
        · have hjl : j < ls.length := by rw [HL.out]; exact hj
          obtain ⟨b, off, A', n', c', rfl, hcell, hhas⟩ := (HP.out.kept HB.out).at_ hjl
          have hl := hhas.len
          rw [u8s_len] at hl
          have HX : Hid ((ls.take (j + 1)).flatten = (ls.take j).flatten ++ ls[j]) := flat_snoc hjl
          have h2 := HN.out (j + 1) (by omega)
          rw [HX.out, List.length_append, hl] at h2
          have HHs := Lib.hid hhas
          have tj : decide ((j : Int) < (n : Int)) = true := by simp; omega
          clear hhas hl
          go_wp2_with (at_builtin; refine wpList_join rfl _ _ 25 rfl elem8 w.heap.size _ _ rfl HO.out _ _ _ _ rfl HHs.out (u8s_one _) (by rw [u8s_len]; omega) (by decide) HB.out.size ?_; intro v' w' hown' hbel')
          rw [← u8s_app, ← HX.out] at hown'
          have R2 := HB.out.trans hbel'
          go_wp2
          go_roundg (gk - 1)
          case measure => omega
          case rel => exact ⟨j + 1, by omega, by go_num, hown', R2⟩
        · have tj : decide ((j : Int) < (n : Int)) = false := by simp; omega
          have HE : Hid ((ls.take j).flatten = ls.flatten) := by show _ = _; rw [List.take_of_length_le (by rw [HL.out]; omega)]
          rw [HE.out] at HO
          go_wp2
          go_ret
          exact Wrote.of HO.out HB.out
end Go.Proofs.Ytbmdgoljjffjdaa
