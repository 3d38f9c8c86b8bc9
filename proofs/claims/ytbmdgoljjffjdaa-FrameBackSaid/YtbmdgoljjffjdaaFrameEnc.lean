/- frame.faultOfAll, frame.Encode. -/
import Derived.Test.YtbmdgoljjffjdaaFrameSeal
import Derived.Test.YtbmdgoljjffjdaaFrameHead
import Derived.Test.YtbmdgoljjffjdaaRefEnc
import Derived.Deep.LoopGhost
import Derived.RegionTactic
import Derived.Outline
namespace Go.Proofs.Ytbmdgoljjffjdaa
open Go.RowKit

/-- The kind ahead. -/
def lastK (l : List Sec) (i : Nat) : Int := if i = 0 then 0 else (l.getD (i - 1) (0, [])).1
theorem rises_step {l : List Sec} {i : Nat} (hi : i < l.length) (h0 : 0 < l[i].1) : risesB (l.take (i + 1)) = (risesB (l.take i) && decide (lastK l i < l[i].1)) := by
  rw [Bool.eq_iff_iff, Bool.and_eq_true, risesB_iff, risesB_iff, decide_eq_true_iff]
  simp only [List.getElem_take, List.length_take]
  cases i with
  | zero =>
    constructor
    · intro _; exact ⟨fun p hp => by omega, by simpa [lastK] using h0⟩
    · intro _ p hp; omega
  | succ j =>
    have e : lastK l (j + 1) = l[j].1 := by simp [lastK, List.getElem?_eq_getElem (show j < l.length by omega)]
    rw [e]
    constructor
    · intro H; exact ⟨fun p hp => H p (by omega), H j (by omega)⟩
    · intro ⟨H1, H2⟩ p hp
      by_cases h : p = j
      · subst h; exact H2
      · exact H1 p (by omega)
theorem lastK_next {l : List Sec} {i : Nat} (hi : i < l.length) : lastK l (i + 1) = l[i].1 := by simp [lastK, List.getElem?_eq_getElem hi]
/-- What is wrong with the sections. -/
def faN (l : List Sec) : Nat := if (onesN l).2 ≠ 0 then (onesN l).2 else if risesB l = false then 2 else 0
theorem encN_fa (l : List Sec) : encN l = if faN l ≠ 0 then ([], faN l) else if 1048576 < (headN ++ (onesN l).1 ++ [0]).length then ([], 3) else (headN ++ (onesN l).1 ++ [0], 0) := by
  unfold encN faN
  by_cases h1 : (onesN l).2 = 0
  · by_cases h2 : risesB l = false
    · simp [h1, h2]
    · simp [h1, h2]
  · simp [h1]
theorem one_kind {s : Sec} (h : (oneN s).2 = 0) : 1 ≤ s.1 ∧ s.1 ≤ 9 ∧ s.2.length ≤ 1048576 ∧ (oneN s).1 = sealN (oneBody s) := by
  by_cases h1 : s.1 < 1 ∨ 9 < s.1
  · rw [oneN_arg h1] at h; simp at h
  · by_cases h2 : 1048576 < s.2.length
    · rw [oneN_long h1 h2] at h; simp at h
    · rw [oneN_ok h1 h2]; exact ⟨by omega, by omega, by omega, rfl⟩

set_option maxRecDepth 100000 in
set_option maxHeartbeats 1000000 in
theorem faultAll_any (A : Option Addr) (n c : Nat) (l : List Sec) (w : World) (h : Secs w A n c l) (hn : n ≤ 9223372036854775807) (hs : ∀ s ∈ l, s.2.length ≤ 9223372036854775807) :
    Calls Try.prog 19 #[.slice A n c] w fun e w' => e = .returned (.int .i64 (faN l : Int)) ∧ Below w.heap.size w w' := by
  have HL := Lib.hid h.len
  have HH := Lib.hid h
  have HSh := Lib.hid hs
  clear h hs
  go_enter Try.func19, Try.ntmps19
  go_wp2
  go_loopg [3, 4, 10] n (fun g s3 s4 s10 wx => ∃ i : Nat, i + g = n ∧ s10 = .int .i64 i ∧ s3 = .int .i64 (lastK l i) ∧ s4 = .bool (risesB (l.take i)) ∧ Hid ((onesN (l.take i)).2 = 0) ∧ Hid (Below w.heap.size w wx))
  case atStart => exact ⟨0, by omega, rfl, rfl, rfl, rfl, Below.refl _ _⟩
  case round =>
    obtain ⟨i, hig, rfl, rfl, rfl, HZ, HB⟩ := hrel
    by_cases hi : i < n
    · have hil : i < l.length := by rw [HL.out]; exact hi
      obtain ⟨b, off, A', n', c', rfl, _, hl', hrow⟩ := HH.out.at_ hil
      obtain ⟨hc1, hc2, hh⟩ := hrow _ HB.out
      have ti : decide ((i : Int) < (n : Int)) = true := by simp; omega
      have HSt := Lib.hid (onesN_step hil HZ.out)
      have HKn := Lib.hid (lastK_next hil)
      have hsz := HSh.out _ (List.getElem_mem hil)
      rw [hl'] at hsz
      have HF := Lib.hid (fun W => fault_any l[i].1 A' n' c' l[i].2 W hl' (by omega))
      have HRs := Lib.hid (fun (h : 0 < l[i].1) => rises_step (l := l) hil h)
      have HK1 := Lib.hid (fun (h : (oneN l[i]).2 = 0) => one_kind (s := l[i]) h)
      clear hrow hh hl'
      generalize l[i] = s at *
      by_cases he : (oneN s).2 = 0
      · have hk := HK1.out he
        have HRs2 := Lib.hid (HRs.out (by omega))
        clear HRs HK1
        rw [show (oneN (s.1, s.2)).2 = 0 from he] at HF
        have HSt2 : Hid ((onesN (l.take (i + 1))).2 = 0) := by show _ = _; rw [HSt.out, if_neg (by simp [he])]
        clear HSt he hk
        generalize lastK l i = K at *
        go_wp2_with fail
        refine (HF.out _).mono ?_
        rintro e w1 ⟨rfl, hb1⟩
        have hz := hb1.size
        simp at hz
        have hcK : w1.cell? ⟨wr.heap.size, 0, none⟩ = some (.int .i64 s.1) := by
          rw [hb1.cell (p := ⟨wr.heap.size, 0, none⟩) (by simp), World.cell?_alloc_at _ _ _ _ rfl]; rfl
        have HB1 := Lib.hid (new_call (new_alloc HB.out _) hb1)
        clear hb1 hc1 hc2 HF
        generalize risesB (l.take i) = R at *
        cases R with
        | false =>
          have HR3 : Hid (risesB (l.take (i + 1)) = false) := by show _ = _; rw [HRs2.out]; rfl
          clear HRs2
          go_wp2
          go_roundg (gk - 1)
          case measure => omega
          case rel => exact ⟨i + 1, by omega, by go_num, by rw [HKn.out], by rw [HR3.out], HSt2, HB1⟩
        | true =>
          have HR3 : Hid (risesB (l.take (i + 1)) = decide (K < s.1)) := by show _ = _; rw [HRs2.out]; rfl
          clear HRs2
          go_wp2
          go_roundg (gk - 1)
          case measure => omega
          case rel => exact ⟨i + 1, by omega, by go_num, by rw [HKn.out], by rw [HR3.out], HSt2, HB1⟩
      · have HSt2 : Hid ((onesN (l.take (i + 1))).2 = (oneN s).2) := by show _ = _; rw [HSt.out, if_pos he]
        have HE : Hid (faN l = (oneN s).2) := by
          show _ = _
          have h1 : (onesN (l.take (i + 1))).2 ≠ 0 := by rw [HSt2.out]; exact he
          have h2 := onesN_stop h1
          unfold faN
          rw [h2, HSt2.out, if_pos he]
        have te : (((oneN s).2 : Int) != 0) = true := by rw [bne_iff_ne]; omega
        have HF2 : Hid (∀ W, Calls Try.prog 22 #[.agg #[.int .i64 s.1, .slice A' n' c']] W fun e w' => e = .returned (.int .i64 ((oneN s).2 : Int)) ∧ Below W.heap.size W w') := HF.out
        clear HF HSt HSt2 he HRs HK1
        generalize (oneN s).2 = E at *
        go_wp2_with fail
        refine (HF2.out _).mono ?_
        rintro e w1 ⟨rfl, hb1⟩
        have HB1 := Lib.hid (new_call (new_alloc HB.out _) hb1)
        clear hb1 hc1 hc2
        go_wp2
        go_ret
        rw [HE.out]
        exact ⟨rfl, HB1.out⟩
    · have ti : decide ((i : Int) < (n : Int)) = false := by simp; omega
      have HT : Hid (l.take i = l) := by show _ = _; rw [List.take_of_length_le (by rw [HL.out]; omega)]
      rw [HT.out] at HZ ⊢
      cases hr : risesB l with
      | false =>
        have HE : Hid (faN l = 2) := by show _ = _; unfold faN; rw [if_neg (by simp [HZ.out]), if_pos hr]
        clear hr
        go_wp2
        go_ret
        rw [HE.out]
        exact ⟨rfl, HB.out⟩
      | true =>
        have HE : Hid (faN l = 0) := by show _ = _; unfold faN; rw [if_neg (by simp [HZ.out]), if_neg (by simp [hr])]
        clear hr
        go_wp2
        go_ret
        rw [HE.out]
        exact ⟨rfl, HB.out⟩

/-- Kinds that rise are few. -/
theorem few {l : List Sec} (h1 : (onesN l).2 = 0) (h2 : risesB l = true) : l.length ≤ 9 ∧ ∀ s ∈ l, s.2.length ≤ 1048576 := by
  have hz : ∀ i, (onesN (l.take i)).2 = 0 := fun i => by
    by_cases h : (onesN (l.take i)).2 = 0
    · exact h
    · have := onesN_stop h; rw [this] at h1; exact h1
  have he : ∀ i (hi : i < l.length), (oneN l[i]).2 = 0 := fun i hi => by
    have h0 := hz (i + 1)
    rw [onesN_step hi (hz i)] at h0
    by_cases h : (oneN l[i]).2 = 0
    · exact h
    · rw [if_pos h] at h0; exact h0
  have hk : ∀ i (hi : i < l.length), (i : Int) + 1 ≤ l[i].1 := fun i => by
    induction i with
    | zero => intro hi; have := (one_kind (he 0 hi)).1; omega
    | succ i ih => intro hi; have := ih (by omega); have := (risesB_iff l).1 h2 i hi; omega
  refine ⟨?_, fun s hs => ?_⟩
  · rcases Nat.lt_or_ge 9 l.length with h | h
    · have := hk 9 h; have := (one_kind (he 9 h)).2.1; omega
    · exact h
  · obtain ⟨i, hi, rfl⟩ := List.getElem_of_mem hs
    exact (one_kind (he i hi)).2.2.1
theorem sum_le {l : List Sec} {m : Nat} (h : ∀ s ∈ l, s.2.length ≤ m) : (l.map fun s => s.2.length).sum ≤ l.length * m := by
  induction l with
  | nil => simp
  | cons s l ih =>
    have := h s (List.mem_cons_self ..)
    have := ih fun t ht => h t (List.mem_cons_of_mem _ ht)
    simp only [List.map_cons, List.sum_cons, List.length_cons, Nat.succ_mul]; omega
theorem part_le {l : List Sec} (h : l.length ≤ 9 ∧ ∀ s ∈ l, s.2.length ≤ 1048576) (i : Nat) : (onesN (l.take i)).1.length ≤ 9440000 := by
  have h1 := onesN_len (l.take i)
  have h2 := sum_take l i
  have h3 := sum_le h.2
  have h4 := Nat.mul_le_mul_right 1048576 h.1
  have h5 : (l.take i).length ≤ l.length := by rw [List.length_take]; omega
  have h6 := h.1
  omega

set_option maxRecDepth 100000 in
set_option maxHeartbeats 1000000 in
theorem frameEnc_all (A : Option Addr) (n c : Nat) (l : List Sec) (w : World) (h : Secs w A n c l) (hb : ∀ s ∈ l, ∀ x ∈ s.2, x < 256) (hn : n ≤ 9223372036854775807) (hs : ∀ s ∈ l, s.2.length ≤ 9223372036854775807) :
    Calls Try.prog 10 #[.slice A n c] w (Fixd w (encN l)) := by
  have HL := Lib.hid h.len
  have HH := Lib.hid h
  have HBy := Lib.hid hb
  have HFA := Lib.hid (faultAll_any A n c l w h hn hs)
  have HEn := Lib.hid (encN_fa l)
  clear h hb hs
  by_cases hf : faN l = 0
  · have hz0 : (onesN l).2 = 0 := by
      by_cases h : (onesN l).2 = 0
      · exact h
      · unfold faN at hf; rw [if_pos h] at hf; exact hf
    have hr0 : risesB l = true := by
      cases h : risesB l with
      | true => rfl
      | false => unfold faN at hf; rw [if_neg (by simp [hz0]), if_pos h] at hf; cases hf
    have hfew := few hz0 hr0
    have HP := Lib.hid (part_le hfew)
    have HSh := Lib.hid hfew.2
    have hn9 : n ≤ 9 := by rw [← HL.out]; exact hfew.1
    have HZ : Hid (∀ i, (onesN (l.take i)).2 = 0) := fun i => by
      by_cases h : (onesN (l.take i)).2 = 0
      · exact h
      · have := onesN_stop h; rw [this] at hz0; exact hz0
    rw [hf] at HFA
    rw [if_neg (by simp [hf])] at HEn
    clear hf hz0 hr0 hfew hn
    go_enter Try.func10, Try.ntmps10
    go_wp2_with fail
    refine HFA.out.mono ?_
    rintro e w1 ⟨rfl, hb1⟩
    have HB1 := Lib.hid hb1
    clear hb1 HFA
    go_wp2_with fail
    refine (head_any _).mono ?_
    rintro e w2 ⟨A2, c2, rfl, hh2, ho2, hb2⟩
    have HO2 := Lib.hid (ho2.less HB1.out.size)
    have HB2 := Lib.hid (new_call HB1.out hb2)
    clear hh2 ho2 hb2 HB1
    go_wp2
    go_loopg [5, 16] n (fun g s5 s16 wx => ∃ i : Nat, i + g = n ∧ s16 = .int .i64 i ∧ Hid (Own wx w.heap.size 5 s5 (u8s (headN ++ (onesN (l.take i)).1))) ∧ Hid (Below w.heap.size w wx))
    case atStart =>
      refine ⟨0, by omega, rfl, ?_, HB2⟩
      show Own _ _ _ _ _
      simpa [onesN] using HO2.out
    case round =>
      obtain ⟨i, hig, rfl, HO, HB⟩ := hrel
      clear HO2 HB2
      by_cases hi : i < n
      · have hil : i < l.length := by rw [HL.out]; exact hi
        obtain ⟨b, off, A', n', c', rfl, _, hl', hrow⟩ := HH.out.at_ hil
        obtain ⟨hc1, hc2, hh⟩ := hrow _ HB.out
        have ti : decide ((i : Int) < (n : Int)) = true := by simp; omega
        have HSt := onesN_step hil (HZ.out i)
        have h0 := HZ.out (i + 1)
        have he : (oneN l[i]).2 = 0 := by
          by_cases h : (oneN l[i]).2 = 0
          · exact h
          · rw [HSt, if_pos h] at h0; exact h0
        have hk := one_kind he
        rw [if_neg (by simp [he]), hk.2.2.2] at HSt
        have HSt2 := Lib.hid HSt
        have hsz := HSh.out _ (List.getElem_mem hil)
        rw [hl'] at hsz
        have hP := HP.out i
        have hP2 := HP.out (i + 1)
        rw [HSt, List.length_append] at hP2
        have HBi := Lib.hid (HBy.out _ (List.getElem_mem hil))
        have HHi := Lib.hid hh
        clear hrow hh hl' HSt h0 he
        generalize l[i] = s at *
        obtain ⟨k, bs⟩ := s
        obtain ⟨hk1, hk9, _, _⟩ := hk
        simp only at hk1 hk9 hc1 hc2 HBi HHi hP2
        obtain ⟨K, rfl⟩ := Int.eq_ofNat_of_zero_le (show 0 ≤ k by omega)
        have HSe := Lib.hid (fun W (hW : Below wr.heap.size wr W) => sealed_any K A' n' c' bs W (HHi.out.kept hW) HBi.out (by omega) (by omega) (by omega))
        generalize sealN (oneBody ((K : Int), bs)) = ob at *
        go_wp2_with (first
          | (go_at_call 21; refine (HSe.out _ (new_alloc (Below.refl _ _) _)).mono ?_; rintro e w3 ⟨A3, c3, rfl, hh3, ho3, hb3⟩; have HH3 := Lib.hid hh3; have HB3 := Lib.hid (new_call (new_alloc (Below.refl _ _) _) hb3); clear ho3 hb3 hh3)
          | (at_builtin
             refine wpList_join rfl _ _ 25 rfl elem8 w.heap.size _ _ rfl (HO.out.keep HB3.out) _ _ _ _ rfl HH3.out (u8s_one _) (by simp only [u8s_len, List.length_append, headN, List.length_cons, List.length_nil] at hP hP2 ⊢; omega) (by decide) (new_call HB.out HB3.out).size ?_
             intro v4 w4 hown4 hbel4
             rw [← u8s_app, List.append_assoc] at hown4
             have HO4 := Lib.hid hown4
             have HB4 := Lib.hid ((new_call HB.out HB3.out).trans hbel4)
             clear hown4 hbel4))
        go_roundg (gk - 1)
        case measure => omega
        case rel =>
          refine ⟨i + 1, by omega, by go_num, ?_, HB4⟩
          show Own _ _ _ _ _
          rw [HSt2.out]; exact HO4.out
      · have ti : decide ((i : Int) < (n : Int)) = false := by simp; omega
        have HT : Hid (l.take i = l) := by show _ = _; rw [List.take_of_length_le (by rw [HL.out]; omega)]
        have hP := HP.out i
        rw [HT.out] at HO hP
        have hlen : (headN ++ (onesN l).1).length ≤ 9440005 := by simp only [List.length_append, headN, List.length_cons, List.length_nil]; omega
        have hz := HB.out.size
        have hl1 : (headN ++ (onesN l).1 ++ [0]).length = (headN ++ (onesN l).1).length + 1 := by rw [List.length_append]; rfl
        rw [hl1] at HEn
        clear hP hl1
        by_cases hlo : 1048576 < (headN ++ (onesN l).1).length + 1
        · have HE : Hid (encN l = ([], 3)) := by show _ = _; rw [HEn.out, if_pos hlo]
          clear HEn
          generalize headN ++ (onesN l).1 = out at *
          obtain ⟨A4, c4, rfl, _⟩ := HO.out.has
          have tl : decide ((1048576 : Int) < (out.length : Int) + 1) = true := decide_eq_true (by omega)
          go_wp2_with (at_builtin
                       refine wpList_join rfl _ _ 25 rfl elem8 w.heap.size _ _ rfl (HO.out.alloc _) _ 1 1 (u8s [0]) rfl (Has.one _ _ _) (u8s_one _) (by rw [u8s_len]; omega) (by decide) (by simp; omega) ?_
                       intro v2 w2 hown2 hbel2
                       rw [← u8s_app] at hown2
                       have HB3 := Lib.hid ((new_alloc HB.out _).trans hbel2)
                       obtain ⟨A5, c5, rfl, _⟩ := hown2.has
                       simp only [u8s_len, List.length_append, List.length_cons, List.length_nil]
                       clear hown2 hbel2)
          go_ret2
          rw [HE.out]
          exact ⟨_, rfl, Own.nil _ _ _, HB3.out⟩
        · have HE : Hid (encN l = (headN ++ (onesN l).1 ++ [0], 0)) := by show _ = _; rw [HEn.out, if_neg hlo]
          clear HEn
          generalize headN ++ (onesN l).1 = out at *
          obtain ⟨A4, c4, rfl, _⟩ := HO.out.has
          have tl : decide ((1048576 : Int) < (out.length : Int) + 1) = false := decide_eq_false (by omega)
          go_wp2_with (at_builtin
                       refine wpList_join rfl _ _ 25 rfl elem8 w.heap.size _ _ rfl (HO.out.alloc _) _ 1 1 (u8s [0]) rfl (Has.one _ _ _) (u8s_one _) (by rw [u8s_len]; omega) (by decide) (by simp; omega) ?_
                       intro v2 w2 hown2 hbel2
                       rw [← u8s_app] at hown2
                       have HO3 := Lib.hid hown2
                       have HB3 := Lib.hid ((new_alloc HB.out _).trans hbel2)
                       obtain ⟨A5, c5, rfl, _⟩ := hown2.has
                       simp only [u8s_len, List.length_append, List.length_cons, List.length_nil]
                       clear hown2 hbel2)
          go_ret2
          rw [HE.out]
          refine ⟨_, rfl, ?_, HB3.out⟩
          have h3 := HO3.out
          simp only [u8s_len, List.length_append, List.length_cons, List.length_nil] at h3
          exact h3
  · have HE : Hid (encN l = ([], faN l)) := by show _ = _; rw [HEn.out, if_pos hf]
    have te : ((faN l : Int) != 0) = true := by rw [bne_iff_ne]; omega
    clear HEn hf
    generalize faN l = E at *
    go_enter Try.func10, Try.ntmps10
    go_wp2_with fail
    refine HFA.out.mono ?_
    rintro e w1 ⟨rfl, hb1⟩
    have HB1 := Lib.hid hb1
    clear hb1 HFA
    go_wp2
    go_ret2
    rw [HE.out]
    exact ⟨_, rfl, Own.nil _ _ _, HB1.out⟩
theorem frameEnc_any (A : Option Addr) (n c : Nat) (l : List Sec) (w : World) (h : Secs w A n c l) (hb : ∀ s ∈ l, ∀ x ∈ s.2, x < 256) (hs : Short l 3000) :
    Calls Try.prog 10 #[.slice A n c] w (Fixd w (encN l)) :=
  frameEnc_all A n c l w h hb (by have := hs.num; rw [h.len] at this; omega) (fun _ hm => Nat.le_trans (hs.each hm) (by decide))
end Go.Proofs.Ytbmdgoljjffjdaa
