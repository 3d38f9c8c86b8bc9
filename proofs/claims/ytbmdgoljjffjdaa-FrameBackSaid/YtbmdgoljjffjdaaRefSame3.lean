/- lapidaryref03.Same: the same sections? -/
import Derived.Test.YtbmdgoljjffjdaaSecs
import Derived.Test.YtbmdgoljjffjdaaSame
import Derived.Deep.LoopGhost
import Derived.Deep.QuietTactic
import Derived.BigQuiet
import Derived.Outline
namespace Go.Proofs.Ytbmdgoljjffjdaa
open Go.RowKit

set_option maxRecDepth 100000 in
set_option maxHeartbeats 1000000 in
theorem refSame3_any (A B : Option Addr) (n c m d : Nat) (l r : List Sec) (w : World) (h : Secs w A n c l) (h2 : Secs w B m d r) (hb : ∀ s ∈ l, ∀ x ∈ s.2, x < 256) (hb2 : ∀ s ∈ r, ∀ x ∈ s.2, x < 256) (hn : n ≤ 1000000000) (hm : m ≤ 1000000000) :
    Calls Try.prog 17 #[.slice A n c, .slice B m d] w fun e w' => e = .returned (.bool (decide (l = r))) ∧ Below w.heap.size w w' := by
  have HL := Lib.hid h.len
  have HL2 := Lib.hid h2.len
  have HH := Lib.hid h
  have HH2 := Lib.hid h2
  have HBy := Lib.hid hb
  have HBy2 := Lib.hid hb2
  clear h h2 hb hb2
  by_cases hnm : n = m
  · subst hnm
    go_enter Try.func17, Try.ntmps17
    go_wp2
    go_loopg [5] n (fun g s5 wx => ∃ i : Nat, i + g = n ∧ s5 = .int .i64 i ∧ Hid (l.take i = r.take i) ∧ Hid (Below w.heap.size w wx))
    case atStart => exact ⟨0, by omega, rfl, rfl, Below.refl _ _⟩
    case round =>
      obtain ⟨i, hig, rfl, HT, HB⟩ := hrel
      by_cases hi : i < n
      · have hil : i < l.length := by rw [HL.out]; exact hi
        have hir : i < r.length := by rw [HL2.out]; exact hi
        obtain ⟨b, off, A', n', c', rfl, _, _, hrow⟩ := HH.out.at_ hil
        obtain ⟨b2, off2, B', m', d', rfl, _, _, hrow2⟩ := HH2.out.at_ hir
        obtain ⟨hc1, hc2, hh⟩ := hrow _ HB.out
        obtain ⟨hd1, hd2, hh2⟩ := hrow2 _ HB.out
        have HS1 : Hid (∀ k, Calls Try.prog 14 #[.slice A' n' c', .slice B' m' d'] (wr.drewN k) fun e w' => e = .returned (.bool (decide (l[i].2 = r[i].2))) ∧ w' = wr.drewN k) := fun k =>
          (same_any A' B' n' c' m' d' l[i].2 r[i].2 (wr.drewN k) (hh.kept ⟨rfl, rfl, rfl, Nat.le_refl _, fun _ _ => rfl⟩) (hh2.kept ⟨rfl, rfl, rfl, Nat.le_refl _, fun _ _ => rfl⟩) (HBy.out _ (List.getElem_mem hil)) (HBy2.out _ (List.getElem_mem hir))).mono fun e w' ⟨h1, h2⟩ => ⟨h1, h2.symm⟩
        have ti : decide ((i : Int) < (n : Int)) = true := by simp; omega
        have HTn : Hid (l.take (i + 1) = r.take (i + 1) ↔ l[i] = r[i]) := by
          show _ ↔ _
          rw [List.take_succ_eq_append_getElem hil, List.take_succ_eq_append_getElem hir, HT.out]
          refine ⟨fun h => ?_, fun h => by rw [h]⟩
          have := List.append_cancel_left h
          simpa using this
        have HNo : Hid (l[i] ≠ r[i] → l ≠ r) := fun hne e => hne (by subst e; rfl)
        have hpair : Hid (l[i] = r[i] ↔ l[i].1 = r[i].1 ∧ l[i].2 = r[i].2) := Prod.ext_iff
        clear hrow hrow2 hh hh2
        generalize l[i] = s at *
        generalize r[i] = t at *
        by_cases hk : s.1 = t.1
        · by_cases hx : s.2 = t.2
          · have te : decide (s.2 = t.2) = true := decide_eq_true hx
            have HR := Lib.hid (HTn.out.2 (hpair.out.2 ⟨hk, hx⟩))
            clear HTn HNo hpair hx
            rw [hk] at hc1
            clear hk
            go_wp2
            go_quiet ((go_at_call 14; exact Calls.quiet_of_same (HS1.out _)))
            go_wp2
            go_roundg (gk - 1)
            case measure => omega
            case rel =>
              have h0 := HB.out
              exact ⟨i + 1, by omega, by go_num, HR, ⟨h0.os, h0.tape, h0.output, h0.size, h0.block⟩⟩
          · have te : decide (s.2 = t.2) = false := decide_eq_false hx
            have HR := Lib.hid (HNo.out fun e => hx (hpair.out.1 e).2)
            clear HTn HNo hpair hx
            rw [hk] at hc1
            clear hk
            go_wp2
            go_quiet ((go_at_call 14; exact Calls.quiet_of_same (HS1.out _)))
            go_wp2
            go_ret
            have h0 := HB.out
            exact ⟨ret_bool (decide_eq_false HR.out).symm, ⟨h0.os, h0.tape, h0.output, h0.size, h0.block⟩⟩
        · have HR := Lib.hid (HNo.out fun e => hk (hpair.out.1 e).1)
          have tk : (s.1 != t.1) = true := by rw [bne_iff_ne]; exact hk
          clear HTn HNo hpair hk
          go_wp2
          go_quiet (fail)
          go_wp2
          go_ret
          have h0 := HB.out
          exact ⟨ret_bool (decide_eq_false HR.out).symm, ⟨h0.os, h0.tape, h0.output, h0.size, h0.block⟩⟩
      · have ti : decide ((i : Int) < (n : Int)) = false := by simp; omega
        have HR : Hid (l = r) := by
          have := HT.out
          rw [List.take_of_length_le (by rw [HL.out]; omega), List.take_of_length_le (by rw [HL2.out]; omega)] at this
          exact this
        go_wp2
        go_ret
        exact ⟨ret_bool (decide_eq_true HR.out).symm, HB.out⟩
  · have HR : Hid (l ≠ r) := fun e => hnm (by rw [← HL.out, ← HL2.out, e])
    have tn : ((n : Int) != (m : Int)) = true := by rw [bne_iff_ne]; omega
    go_enter Try.func17, Try.ntmps17
    go_wp2
    go_ret
    exact ⟨ret_bool (decide_eq_false HR.out).symm, Below.refl _ _⟩
end Go.Proofs.Ytbmdgoljjffjdaa
