/- lapidaryref03.Encode. -/
import Derived.Test.YtbmdgoljjffjdaaRefOne
import Derived.Deep.LoopGhost
import Derived.RegionTactic
import Derived.Outline
namespace Go.Proofs.Ytbmdgoljjffjdaa
open Go.RowKit

/-- Sections that are short enough for what is looked at. -/
structure Short (l : List Sec) (n : Nat) : Prop where
  num : l.length ≤ n
  all : (l.map fun s => s.2.length).sum ≤ n
theorem Short.each {l : List Sec} {n : Nat} (h : Short l n) {s : Sec} (hs : s ∈ l) : s.2.length ≤ n := by
  have h0 := h.all
  clear h
  induction l with
  | nil => cases hs
  | cons t l ih =>
    simp only [List.map_cons, List.sum_cons] at h0
    rcases List.mem_cons.1 hs with rfl | hs
    · omega
    · exact ih hs (by omega)
theorem onesN_len (l : List Sec) : (onesN l).1.length ≤ (l.map fun s => s.2.length).sum + 15 * l.length := by
  induction l with
  | nil => simp [onesN]
  | cons s l ih =>
    have := oneN_len s
    simp only [onesN, List.map_cons, List.sum_cons, List.length_cons]
    split
    · simp
    · split
      · simp
      · simp only [List.length_append]; omega
theorem sum_take (l : List Sec) (i : Nat) : ((l.take i).map fun s => s.2.length).sum ≤ (l.map fun s => s.2.length).sum := by
  have e : l.map (fun s => s.2.length) = (l.take i).map (fun s => s.2.length) ++ (l.drop i).map (fun s => s.2.length) := by rw [← List.map_append, List.take_append_drop]
  rw [e, List.sum_append]; omega
theorem Short.part {l : List Sec} {n : Nat} (h : Short l n) (i : Nat) : (onesN (l.take i)).1.length ≤ 16 * n := by
  have h1 := onesN_len (l.take i)
  have h2 := sum_take l i
  have h3 := h.all
  have h4 := h.num
  have h5 : (l.take i).length ≤ l.length := by rw [List.length_take]; omega
  omega

set_option maxRecDepth 100000 in
set_option maxHeartbeats 1000000 in
theorem refEnc_any (A : Option Addr) (n c : Nat) (l : List Sec) (w : World) (h : Secs w A n c l) (hb : ∀ s ∈ l, ∀ x ∈ s.2, x < 256) (hs : Short l 3000) :
    Calls Try.prog 11 #[.slice A n c] w (Fixd w (encN l)) := by
  have HL := Lib.hid h.len
  have HH := Lib.hid h
  have HBy := Lib.hid hb
  have HSh := Lib.hid hs
  have hn : n ≤ 3000 := by rw [← HL.out]; exact hs.num
  clear h hb hs
  go_enter Try.func11, Try.ntmps11
  go_wp2
  go_loopg [4, 5] n (fun g s4 s5 wx => ∃ i : Nat, i + g = n ∧ s5 = .int .i64 i ∧ Hid ((onesN (l.take i)).2 = 0) ∧ Hid (Own wx w.heap.size 5 s4 (u8s (headN ++ (onesN (l.take i)).1))) ∧ Hid (Below w.heap.size w wx))
  case atStart =>
    refine ⟨0, by omega, rfl, rfl, ?_, new_alloc (Below.refl _ _) _⟩
    exact Own.fresh w w.heap.size #[.int .u8 76, .int .u8 80, .int .u8 68, .int .u8 89, .int .u8 1] 5 (Nat.le_refl _) (by simp)
  case round =>
    obtain ⟨i, hig, rfl, HZ, HO, HB⟩ := hrel
    by_cases hi : i < n
    · have hil : i < l.length := by rw [HL.out]; exact hi
      obtain ⟨b, off, A', n', c', rfl, _, hl', hrow⟩ := HH.out.at_ hil
      obtain ⟨hc1, hc2, hh⟩ := hrow _ HB.out
      have ti : decide ((i : Int) < (n : Int)) = true := by simp; omega
      have HSt := Lib.hid (onesN_step hil HZ.out)
      have hsz := HSh.out.each (List.getElem_mem hil)
      rw [hl'] at hsz
      have HOn := Lib.hid (refOne_any l[i].1 A' n' c' l[i].2 wr hh (HBy.out _ (List.getElem_mem hil)) (by omega) (by omega))
      have HP1 := Lib.hid (HSh.out.part i)
      have hol := oneN_len l[i]
      rw [hl'] at hol
      clear hrow hh hl'
      generalize l[i] = s at *
      by_cases he : (oneN s).2 = 0
      · rw [he] at HSt
        have HSt2 : Hid (onesN (l.take (i + 1)) = ((onesN (l.take i)).1 ++ (oneN s).1, 0)) := by show _ = _; rw [HSt.out]; simp
        have HOn2 : Hid (Calls Try.prog 13 #[.agg #[.int .i64 s.1, .slice A' n' c']] wr (Fixd wr ((oneN s).1, 0))) := by
          have := HOn.out
          rw [show oneN s = ((oneN s).1, 0) by rw [← he]] at this
          exact this
        have hP := HP1.out
        clear HSt HOn he HP1
        generalize (oneN s).1 = ob at *
        go_wp2_with (first
          | (go_at_call 13; refine HOn2.out.mono ?_; rintro e w1 ⟨v1, rfl, ho1, hb1⟩; obtain ⟨A1, c1, rfl, hh1⟩ := ho1.has; have HH1 := Lib.hid hh1; have HB1 := Lib.hid hb1; clear ho1 hb1 hh1)
          | (at_builtin
             refine wpList_join rfl _ _ 25 rfl elem8 w.heap.size _ _ rfl (HO.out.keep HB1.out) _ _ _ _ rfl HH1.out (u8s_one _) (by simp only [u8s_len, List.length_append, headN, List.length_cons, List.length_nil] at hP ⊢; omega) (by decide) (new_call HB.out HB1.out).size ?_
             intro v2 w2 hown2 hbel2
             rw [← u8s_app, List.append_assoc] at hown2
             have HO2 := Lib.hid hown2
             have HB2 := Lib.hid ((new_call HB.out HB1.out).trans hbel2)
             clear hown2 hbel2))
        go_roundg (gk - 1)
        case measure => omega
        case rel =>
          refine ⟨i + 1, by omega, by go_num, by show _ = _; rw [HSt2.out], ?_, HB2.out⟩
          show Own _ _ _ _ _
          rw [HSt2.out]; exact HO2.out
      · have HSt2 : Hid (onesN (l.take (i + 1)) = ([], (oneN s).2)) := by show _ = _; rw [HSt.out, if_pos he]
        have HE : Hid (encN l = ([], (oneN s).2)) := by
          show _ = _
          have h1 : (onesN (l.take (i + 1))).2 ≠ 0 := by rw [HSt2.out]; exact he
          have h2 := onesN_stop h1
          unfold encN
          rw [h2, HSt2.out, if_pos he]
        have te : (((oneN s).2 : Int) != 0) = true := by rw [bne_iff_ne]; omega
        clear HSt HSt2 he HP1
        generalize oneN s = ob at *
        go_wp2_with (go_at_call 13; refine HOn.out.mono ?_; rintro e w1 ⟨v1, rfl, ho1, hb1⟩; have HB1 := Lib.hid hb1; clear ho1 hb1)
        go_ret2
        rw [HE.out]
        exact ⟨_, rfl, Own.nil _ _ _, new_call HB.out HB1.out⟩
    · have ti : decide ((i : Int) < (n : Int)) = false := by simp; omega
      have HT : Hid (l.take i = l) := by show _ = _; rw [List.take_of_length_le (by rw [HL.out]; omega)]
      have hP := HSh.out.part i
      rw [HT.out] at HZ HO hP
      obtain ⟨A4, c4, rfl, _⟩ := HO.out.has
      go_wp2
      go_loopg [8] n (fun g s8 wx => ∃ q : Nat, (q + g = n) ∧ s8 = .int .i64 ((q : Int) + 1) ∧ Hid (∀ p (h : p + 1 < l.length), p < q → l[p].1 < l[p + 1].1) ∧ Hid (Below wr.heap.size wr wx))
      case atStart => exact ⟨0, by omega, by simp, fun p _ h => by omega, Below.refl _ _⟩
      case round =>
        obtain ⟨q, hqg, rfl, HR, HBx⟩ := hrel
        by_cases hq : q + 1 < n
        · have hq1 : q + 1 < l.length := by rw [HL.out]; exact hq
          obtain ⟨b, off, A', n', c', rfl, _, _, hrow⟩ := HH.out.at_ hq1
          obtain ⟨hc1, _, _⟩ := hrow _ (new_call HB.out HBx.out)
          obtain ⟨b', off', A'', n'', c'', hAe, _, _, hrow0⟩ := HH.out.at_ (show q < l.length by omega)
          cases hAe
          obtain ⟨hc0, _, _⟩ := hrow0 _ (new_call HB.out HBx.out)
          have tq : decide ((q : Int) + 1 < (n : Int)) = true := by simp; omega
          have e1 : ((q : Int) + 1).toNat = q + 1 := by omega
          clear hrow hrow0
          by_cases hk : l[q + 1].1 ≤ l[q].1
          · have HE : Hid (encN l = ([], 2)) := by
              show _ = _
              have hr : risesB l = false := by
                cases hr : risesB l with
                | false => rfl
                | true => have := (risesB_iff l).1 hr q hq1; omega
              unfold encN
              rw [if_neg (by simp [HZ.out]), if_pos hr]
            generalize l[q + 1].1 = k1 at *
            generalize l[q].1 = k0 at *
            have tk : decide (k1 ≤ k0) = true := by simpa using hk
            go_wp2
            go_region
            go_wp2
            go_ret2
            rw [HE.out]
            have h0 := new_call HB.out HBx.out
            exact ⟨_, rfl, Own.nil _ _ _, ⟨h0.os, h0.tape, h0.output, h0.size, h0.block⟩⟩
          · have HR2 : Hid (∀ p (h : p + 1 < l.length), p < q + 1 → l[p].1 < l[p + 1].1) := fun p h hp => by
              rcases Nat.lt_or_ge p q with hpq | hpq
              · exact HR.out p h hpq
              · obtain rfl : p = q := by omega
                omega
            generalize l[q + 1].1 = k1 at *
            generalize l[q].1 = k0 at *
            have tk : decide (k1 ≤ k0) = false := by simpa using hk
            go_wp2
            go_region
            go_wp2
            go_roundg (gk - 1)
            case measure => omega
            case rel =>
              have h0 := HBx.out
              exact ⟨q + 1, by omega, by go_num, HR2, ⟨h0.os, h0.tape, h0.output, h0.size, h0.block⟩⟩
        · have tq : decide ((q : Int) + 1 < (n : Int)) = false := by simp; omega
          have hr : Hid (risesB l = true) := (risesB_iff l).2 fun p h => HR.out p h (by rw [HL.out] at h; omega)
          have HO2 := Lib.hid (HO.out.keep HBx.out)
          have HBz := Lib.hid (new_call HB.out HBx.out)
          have hlen : (headN ++ (onesN l).1).length ≤ 50000 := by simp only [List.length_append, headN, List.length_cons, List.length_nil]; omega
          have hl1 : (headN ++ (onesN l).1 ++ [0]).length = (headN ++ (onesN l).1).length + 1 := by rw [List.length_append]; rfl
          have HE : Hid (encN l = (headN ++ (onesN l).1 ++ [0], 0)) := by
            show _ = _
            unfold encN
            rw [if_neg (by simp [HZ.out]), if_neg (by rw [hr.out]; simp), if_neg (by omega)]
          have hz := HBz.out.size
          clear hl1 HR
          generalize headN ++ (onesN l).1 = out at *
          have tl : decide ((1048576 : Int) < (out.length : Int) + 1) = false := decide_eq_false (by omega)
          go_wp2_with (at_builtin
                       refine wpList_join rfl _ _ 25 rfl elem8 w.heap.size _ _ rfl (HO2.out.alloc _) _ 1 1 (u8s [0]) rfl (Has.one _ _ _) (u8s_one _) (by rw [u8s_len]; omega) (by decide) (by simp; omega) ?_
                       intro v2 w2 hown2 hbel2
                       rw [← u8s_app] at hown2
                       have HO3 := Lib.hid hown2
                       have HB3 := Lib.hid ((new_alloc HBz.out _).trans hbel2)
                       obtain ⟨A5, c5, rfl, _⟩ := hown2.has
                       simp only [u8s_len, List.length_append, List.length_cons, List.length_nil]
                       clear hown2 hbel2)
          go_ret2
          rw [HE.out]
          refine ⟨_, rfl, ?_, HB3.out⟩
          have h3 := HO3.out
          simp only [u8s_len, List.length_append, List.length_cons, List.length_nil] at h3
          exact h3
end Go.Proofs.Ytbmdgoljjffjdaa
