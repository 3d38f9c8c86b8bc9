import Derived.Test.YtdheppfooapneaaFrameRef
import Derived.Outline
import Derived.Test.YtdheppfooapneaaCrc
import Derived.Test.YtdheppfooapneaaVint
import Derived.Lib.OthersKept
import Derived.Deep.LoopGhost
import Derived.RegionTactic
import Derived.Test.YtdheppfooapneaaStepsB
/- frame.rightKind, frame.fault. -/
namespace Go.Proofs.Ytdheppfooapneaa
open Go.RowKit

set_option maxRecDepth 100000 in
theorem rightKind_any (k : Int) (w : World) : Calls Try.prog 26 #[.int .i64 k] w fun e w' => e = .returned (.bool (!decide (k < 1 ∨ 9 < k))) ∧ w = w' := by
  by_cases h1 : k < 1
  · have t1 : decide (1 ≤ k) = false := decide_eq_false (by omega)
    have hr : (!decide (k < 1 ∨ 9 < k)) = false := by simp [h1]
    rw [hr]
    clear hr
    go_enter Try.func26, Try.ntmps26
    go_wp2
    go_ret
    exact ⟨rfl, rfl⟩
  · by_cases h9 : 9 < k
    · have t1 : decide (1 ≤ k) = true := decide_eq_true (by omega)
      have t9 : decide (k ≤ 9) = false := decide_eq_false (by omega)
      have hr : (!decide (k < 1 ∨ 9 < k)) = false := by simp [h9]
      rw [hr]
      clear hr
      go_enter Try.func26, Try.ntmps26
      go_wp2
      go_ret
      exact ⟨rfl, rfl⟩
    · have t1 : decide (1 ≤ k) = true := decide_eq_true (by omega)
      have t9 : decide (k ≤ 9) = true := decide_eq_true (by omega)
      have hr : (!decide (k < 1 ∨ 9 < k)) = true := by simp [h1, h9]
      rw [hr]
      clear hr
      go_enter Try.func26, Try.ntmps26
      go_wp2
      go_ret
      exact ⟨rfl, rfl⟩

set_option maxRecDepth 100000 in
theorem fault_any (k : Int) (A : Option Addr) (n c : Nat) (bs : List Nat) (w : World) (hl : bs.length = n) (hn : n ≤ 9223372036854775807) :
    Calls Try.prog 40 #[.agg #[.int .i64 k, .slice A n c]] w fun e w' => e = .returned (.int .i64 ((oneN (k, bs)).2 : Int)) ∧ Below w.heap.size w w' := by
  have HR := Lib.hid (rightKind_any k)
  by_cases hk : k < 1 ∨ 9 < k
  · have HF : Hid ((oneN (k, bs)).2 = 2) := by show _ = _; rw [oneN_arg (s := (k, bs)) hk]
    have hr : (!decide (k < 1 ∨ 9 < k)) = false := by simp [hk]
    rw [hr] at HR
    clear hr
    go_enter Try.func40, Try.ntmps40
    go_wp2_with (go_at_call 26; refine (HR.out _).mono ?_; rintro e w' ⟨rfl, rfl⟩)
    go_ret
    rw [HF.out]
    exact ⟨rfl, new_alloc (Below.refl _ _) _⟩
  · have hr : (!decide (k < 1 ∨ 9 < k)) = true := by simp only [hk, decide_false, Bool.not_false]
    rw [hr] at HR
    clear hr
    by_cases hlo : 1048576 < n
    · have HF : Hid ((oneN (k, bs)).2 = 3) := by show _ = _; rw [oneN_long (s := (k, bs)) hk (by simp; omega)]
      have tl : decide ((1048576 : Int) < (n : Int)) = true := by simp; omega
      go_enter Try.func40, Try.ntmps40
      go_wp2_with (go_at_call 26; refine (HR.out _).mono ?_; rintro e w' ⟨rfl, rfl⟩)
      go_ret
      rw [HF.out]
      exact ⟨rfl, new_alloc (Below.refl _ _) _⟩
    · have HF : Hid ((oneN (k, bs)).2 = 0) := by show _ = _; rw [oneN_ok (s := (k, bs)) hk (by simp; omega)]
      have tl : decide ((1048576 : Int) < (n : Int)) = false := by simp; omega
      go_enter Try.func40, Try.ntmps40
      go_wp2_with (go_at_call 26; refine (HR.out _).mono ?_; rintro e w' ⟨rfl, rfl⟩)
      go_ret
      rw [HF.out]
      exact ⟨rfl, new_alloc (Below.refl _ _) _⟩
end Go.Proofs.Ytdheppfooapneaa

/- frame.sealed, frame.One. -/
namespace Go.Proofs.Ytdheppfooapneaa
open Go.RowKit

theorem Parts.three {w : World} {A B C : Option Addr} {n c m d p q : Nat} {l r s : List Nat} (h : Has w A n c (u8s l)) (h2 : Has w B m d (u8s r)) (h3 : Has w C p q (u8s s)) (e : TypeId) (g : Nat) (hg : g = w.heap.size) : Parts (w.alloc (.cells #[.slice A n c, .slice B m d, .slice C p q] e)) (some ⟨g, 0, Option.none⟩) 3 3 [l, r, s] := by
  refine ⟨[.slice A n c, .slice B m d, .slice C p q], Has.new_at _ _ _ g hg, rfl, fun i hi => ?_⟩
  match i, hi with
  | 0, _ => exact ⟨A, n, c, rfl, h.alloc _⟩
  | 1, _ => exact ⟨B, m, d, rfl, h2.alloc _⟩
  | 2, _ => exact ⟨C, p, q, rfl, h3.alloc _⟩

set_option maxRecDepth 100000 in
set_option maxHeartbeats 400000 in
theorem sealed_any (K : Nat) (A : Option Addr) (n c : Nat) (bs : List Nat) (w : World) (h : Has w A n c (u8s bs)) (hb : ∀ x ∈ bs, x < 256) (hK : K ≤ 9) (hK1 : 1 ≤ K) (hn : n ≤ 1048576) :
    Calls Try.prog 30 #[.agg #[.int .i64 (K : Int), .slice A n c]] w (Wrote w (sealN (oneBody ((K : Int), bs)))) := by
  have hl : bs.length = n := by have := h.len; rw [u8s_len] at this; exact this
  have HBy := Lib.hid (oneBody_byte (s := ((K : Int), bs)) (by simp; omega) hb)
  have HBl := Lib.hid (oneBody_len (s := ((K : Int), bs)) (by simp; omega))
  have HBe : Hid ([[K], putN n, bs].flatten = oneBody ((K : Int), bs)) := by show _ = _; simp [oneBody, hl]
  have hpl := putN_len (n := n) (by omega)
  have HH := Lib.hid h
  have HL := Lib.hid hl
  clear h hb hl
  go_enter Try.func30, Try.ntmps30
  go_wp2_with fail
  refine (put_one n _ (by omega) _ (by simp)).mono ?_
  rintro e w1 ⟨A1, c1, rfl, hh1, ho1, hb1⟩
  have HH1 := Lib.hid hh1
  have hz := hb1.size
  simp at hz
  have hc0 : w1.cell? ⟨w.heap.size, 0, none⟩ = some (.int .i64 (K : Int)) := by
    rw [hb1.cell (p := ⟨w.heap.size, 0, none⟩) (by simp; omega)]
    rw [World.cell?_alloc_lt _ _ _ (by simp), World.cell?_alloc_at _ _ _ _ rfl]; rfl
  have hcB : w1.cell? ⟨w.heap.size, 1, none⟩ = some (.slice A n c) := by
    rw [hb1.cell (p := ⟨w.heap.size, 1, none⟩) (by simp; omega)]
    rw [World.cell?_alloc_lt _ _ _ (by simp), World.cell?_alloc_at _ _ _ _ rfl]; rfl
  have HB1 := Lib.hid (new_call (new_alloc (new_alloc (Below.refl _ _) _) _) hb1)
  have hcB2 : (w1.alloc (.cells #[.int .u8 (K : Int)] 5)).cell? ⟨w.heap.size, 1, none⟩ = some (.slice A n c) := by
    rw [World.cell?_alloc_lt _ _ _ (by simp; omega)]; exact hcB
  clear hh1 ho1 hb1 hcB
  go_wp2_with fail
  refine (concat_any _ 3 3 [[K], putN n, bs] _ (Parts.three (show Has (w1.alloc (.cells #[.int .u8 (K : Int)] 5)) _ 1 1 (u8s [K]) from Has.one _ _ _) (HH1.out.alloc _) ((HH.out.kept HB1.out).alloc _) _ _ (by simp)) (by decide) (by rw [HBe.out]; have := HBl.out; rw [HL.out] at this; omega)).mono ?_
  rintro e w2 ⟨A2, c2, rfl, hh2, ho2, hb2⟩
  rw [HBe.out] at hh2
  simp only [HBe.out]
  have HH2 := Lib.hid hh2
  have HB2 := Lib.hid (new_call (new_alloc (new_alloc HB1.out _) _) hb2)
  clear hh2 ho2 hb2
  go_wp2_with fail
  refine (seal_any A2 _ c2 (oneBody ((K : Int), bs)) _ HH2.out HBy.out (by have := HBl.out; rw [HL.out] at this; omega)).mono ?_
  rintro e w3 ⟨A3, c3, rfl, hh3, ho3, hb3⟩
  have HO3 := Lib.hid ho3
  have HB3 := Lib.hid (new_call HB2.out hb3)
  clear hh3 ho3 hb3
  go_wp2
  go_ret
  exact Wrote.of (HO3.out.less HB2.out.size) HB3.out

end Go.Proofs.Ytdheppfooapneaa

/- frame.Head: a text, gone through by a range. -/
namespace Go.Proofs.Ytdheppfooapneaa
open Go.RowKit

theorem Far1.iter (W : World) (G : Nat) (s : ByteArray) (p : Nat) : Far1 G W (W.iterAt G s p) := ⟨rfl, rfl, rfl, Lib.iterAt_size _ _ _ _, fun _ hk => Lib.iterAt_other _ _ _ _ _ hk⟩
theorem Far1.row {G : Nat} {W W' : World} (h : Far1 G W W') {base : Nat} {e : TypeId} {v : Value} {xs : List Value} (ho : Own W base e v xs) (hG : G < base) : Own W' base e v xs := by
  refine ⟨ho.1, ?_⟩
  rcases ho.2 with h1 | ⟨g', cap, cur, h1, h2, h3, h4⟩
  · exact Or.inl h1
  · exact Or.inr ⟨g', cap, cur, h1, h2, (h.block g' (by omega)).trans h3, h4⟩
/-- The text of the head; its bytes. -/
abbrev headS : ByteArray := ⟨#[76, 80, 68, 89, 1]⟩
theorem headS_at {p : Nat} (h : p < headS.size) : (headS[p]'h).toNat = headN.getD p 0 := by
  have h5 : p < 5 := h
  match p, h5 with
  | 0, _ => rfl
  | 1, _ => rfl
  | 2, _ => rfl
  | 3, _ => rfl
  | 4, _ => rfl
theorem headN_lt (p : Nat) : headN.getD p 0 < 128 := by
  match p with
  | 0 => decide
  | 1 => decide
  | 2 => decide
  | 3 => decide
  | 4 => decide
  | p + 5 => simp [headN]
theorem headN_snoc {p : Nat} (h : p < 5) : headN.take (p + 1) = headN.take p ++ [headN.getD p 0] := by
  match p, h with
  | 0, _ => rfl
  | 1, _ => rfl
  | 2, _ => rfl
  | 3, _ => rfl
  | 4, _ => rfl

set_option maxRecDepth 100000 in
set_option maxHeartbeats 400000 in
theorem head_any (w : World) : Calls Try.prog 29 #[] w (Wrote w headN) := by
  go_enter Try.func29, Try.ntmps29
  go_wp2
  go_loopg [1] 5 (fun g s1 wx => ∃ p : Nat, p + g = 5 ∧ Hid (wx.heap[w.heap.size]? = some (.stringIter headS p)) ∧ Hid (Own wx (w.heap.size + 1) 5 s1 (u8s (headN.take p))) ∧ Hid (Below w.heap.size w wx))
  case atStart =>
    exact ⟨0, rfl, World.iter_heap w headS 0, Own.nil _ _ _, new_alloc (Below.refl _ _) _⟩
  case round =>
    obtain ⟨p, hpg, HI, HO, HB⟩ := hrel
    by_cases hp : p < 5
    · have hnx : ∀ ty, (Instr.next (.pointer (some ⟨w.heap.size, 0, none⟩)) true ty).run Try.prog wr = _ := fun ty => Lib.run_next_ascii_at wr w.heap.size headS p ty HI.out hp (by rw [headS_at]; exact headN_lt p)
      rw [headS_at] at hnx
      have HI1 := Lib.hid (Lib.iterAt_heap wr w.heap.size headS p (p + 1) HI.out)
      have HF1 := Lib.hid (Far1.iter wr w.heap.size headS (p + 1))
      have HO1 := Lib.hid (HF1.out.row HO.out (Nat.lt_succ_self _))
      have HB1 := Lib.hid (Lib.below_iterAt HB.out (Nat.le_refl _) headS (p + 1))
      have hlt : w.heap.size < wr.heap.size := (Array.getElem?_eq_some_iff.1 HI.out).1
      have hlt1 : w.heap.size < (wr.iterAt w.heap.size headS (p + 1)).heap.size := by rw [Lib.iterAt_size]; exact hlt
      have HS := Lib.hid (headN_snoc hp)
      have hx := headN_lt p
      have hwr : IntKind.wrap .u8 ((headN.getD p 0 : Nat) : Int) = ((headN.getD p 0 : Nat) : Int) := by
        generalize headN.getD p 0 = x at *
        rw [IntKind.wrap_u8]; omega
      generalize headN.getD p 0 = x at *
      generalize wr.iterAt w.heap.size headS (p + 1) = W1 at *
      clear HI HO HF1 hlt
      go_wp2_with (at_builtin
                   refine wpList_join rfl _ _ 22 rfl elem8 (w.heap.size + 1) _ _ rfl (HO1.out.alloc _) _ 1 1 (u8s [x]) rfl (Has.one _ _ _) (u8s_one _) (by rw [u8s_len, List.length_take]; simp [headN]; omega) (by decide) (by simp; omega) ?_
                   intro v2 w2 hown2 hbel2
                   rw [← u8s_app, ← HS.out] at hown2
                   have HO2 := Lib.hid hown2
                   have HB2 := Lib.hid ((new_alloc HB1.out _).trans (hbel2.mono (Nat.le_succ _)))
                   have HI2 : Hid (w2.heap[w.heap.size]? = some (.stringIter headS (p + 1))) := (hbel2.block _ (Nat.lt_succ_self _)).trans (by show (W1.heap.push _)[_]? = _; rw [Array.getElem?_push_lt (by omega)]; exact (Array.getElem?_eq_getElem (by omega)).symm.trans HI1.out)
                   clear hown2 hbel2)
      go_roundg (gk - 1)
      case measure => omega
      case rel => exact ⟨p + 1, by omega, HI2, HO2, HB2⟩
    · have hnx : ∀ ty, (Instr.next (.pointer (some ⟨w.heap.size, 0, none⟩)) true ty).run Try.prog wr = _ := fun ty => Lib.run_next_end_at wr w.heap.size headS p ty HI.out hp
      have HT : Hid (headN.take p = headN) := by show _ = _; rw [List.take_of_length_le (by simp [headN]; omega)]
      rw [HT.out] at HO
      go_wp2
      go_ret
      exact Wrote.of (HO.out.less (Nat.le_succ _)) HB.out
end Go.Proofs.Ytdheppfooapneaa

/- frame.faultOfAll, frame.Encode. -/
namespace Go.Proofs.Ytdheppfooapneaa
open Go.RowKit

/-- The kind ahead. -/
def lastK (l : List Sec) (i : Nat) : Int := if i = 0 then 0 else (l.getD (i - 1) (0, [])).1
theorem rises_step {l : List Sec} {i : Nat} (hi : i < l.length) (h0 : 0 < l[i].1) : risesB (l.take (i + 1)) = (risesB (l.take i) && decide (lastK l i < l[i].1)) := by
  rw [Bool.eq_iff_iff, Bool.and_eq_true, risesB_iff, risesB_iff, decide_eq_true_iff]
  simp only [List.getElem_take, List.length_take]
  cases i with
  | zero =>
    constructor
    · intro _; exact ⟨fun p hp => by omega, by simpa [lastK] using h0⟩
    · intro _ p hp; omega
  | succ j =>
    have e : lastK l (j + 1) = l[j].1 := by simp [lastK, List.getElem?_eq_getElem (show j < l.length by omega)]
    rw [e]
    constructor
    · intro H; exact ⟨fun p hp => H p (by omega), H j (by omega)⟩
    · intro ⟨H1, H2⟩ p hp
      by_cases h : p = j
      · subst h; exact H2
      · exact H1 p (by omega)
theorem lastK_next {l : List Sec} {i : Nat} (hi : i < l.length) : lastK l (i + 1) = l[i].1 := by simp [lastK, List.getElem?_eq_getElem hi]
/-- What is wrong with the sections. -/
def faN (l : List Sec) : Nat := if (onesN l).2 ≠ 0 then (onesN l).2 else if risesB l = false then 2 else 0
theorem encN_fa (l : List Sec) : encN l = if faN l ≠ 0 then ([], faN l) else if 1048576 < (headN ++ (onesN l).1 ++ [0]).length then ([], 3) else (headN ++ (onesN l).1 ++ [0], 0) := by
  unfold encN faN
  by_cases h1 : (onesN l).2 = 0
  · by_cases h2 : risesB l = false
    · simp [h1, h2]
    · simp [h1, h2]
  · simp [h1]
theorem one_kind {s : Sec} (h : (oneN s).2 = 0) : 1 ≤ s.1 ∧ s.1 ≤ 9 ∧ s.2.length ≤ 1048576 ∧ (oneN s).1 = sealN (oneBody s) := by
  by_cases h1 : s.1 < 1 ∨ 9 < s.1
  · rw [oneN_arg h1] at h; simp at h
  · by_cases h2 : 1048576 < s.2.length
    · rw [oneN_long h1 h2] at h; simp at h
    · rw [oneN_ok h1 h2]; exact ⟨by omega, by omega, by omega, rfl⟩

set_option maxRecDepth 100000 in
set_option maxHeartbeats 1000000 in
theorem faultAll_any (A : Option Addr) (n c : Nat) (l : List Sec) (w : World) (h : Secs w A n c l) (hn : n ≤ 9223372036854775807) (hs : ∀ s ∈ l, s.2.length ≤ 9223372036854775807) :
    Calls Try.prog 28 #[.slice A n c] w fun e w' => e = .returned (.int .i64 (faN l : Int)) ∧ Below w.heap.size w w' := by
  have HL := Lib.hid h.len
  have HH := Lib.hid h
  have HSh := Lib.hid hs
  clear h hs
  go_enter Try.func28, Try.ntmps28
  go_wp2
  go_loopg [3, 4, 10] n (fun g s3 s4 s10 wx => ∃ i : Nat, i + g = n ∧ s10 = .int .i64 i ∧ s3 = .int .i64 (lastK l i) ∧ s4 = .bool (risesB (l.take i)) ∧ Hid ((onesN (l.take i)).2 = 0) ∧ Hid (Below w.heap.size w wx))
  case atStart => exact ⟨0, by omega, rfl, rfl, rfl, rfl, Below.refl _ _⟩
  case round =>
    obtain ⟨i, hig, rfl, rfl, rfl, HZ, HB⟩ := hrel
    by_cases hi : i < n
    · have hil : i < l.length := by rw [HL.out]; exact hi
      obtain ⟨b, off, A', n', c', rfl, _, hl', hrow⟩ := HH.out.at_ hil
      obtain ⟨hc1, hc2, hh⟩ := hrow _ HB.out
      have ti : decide ((i : Int) < (n : Int)) = true := by simp; omega
      have HSt := Lib.hid (onesN_step hil HZ.out)
      have HKn := Lib.hid (lastK_next hil)
      have hsz := HSh.out _ (List.getElem_mem hil)
      rw [hl'] at hsz
      have HF := Lib.hid (fun W => fault_any l[i].1 A' n' c' l[i].2 W hl' (by omega))
      have HRs := Lib.hid (fun (h : 0 < l[i].1) => rises_step (l := l) hil h)
      have HK1 := Lib.hid (fun (h : (oneN l[i]).2 = 0) => one_kind (s := l[i]) h)
      clear hrow hh hl'
      generalize l[i] = s at *
      by_cases he : (oneN s).2 = 0
      · have hk := HK1.out he
        have HRs2 := Lib.hid (HRs.out (by omega))
        clear HRs HK1
        rw [show (oneN (s.1, s.2)).2 = 0 from he] at HF
        have HSt2 : Hid ((onesN (l.take (i + 1))).2 = 0) := by show _ = _; rw [HSt.out, if_neg (by simp [he])]
        clear HSt he hk
        generalize lastK l i = K at *
        go_wp2_with fail
        refine (HF.out _).mono ?_
        rintro e w1 ⟨rfl, hb1⟩
        have hz := hb1.size
        simp at hz
        have hcK : w1.cell? ⟨wr.heap.size, 0, none⟩ = some (.int .i64 s.1) := by
          rw [hb1.cell (p := ⟨wr.heap.size, 0, none⟩) (by simp), World.cell?_alloc_at _ _ _ _ rfl]; rfl
        have HB1 := Lib.hid (new_call (new_alloc HB.out _) hb1)
        clear hb1 hc1 hc2 HF
        generalize risesB (l.take i) = R at *
        cases R with
        | false =>
          have HR3 : Hid (risesB (l.take (i + 1)) = false) := by show _ = _; rw [HRs2.out]; rfl
          clear HRs2
          go_wp2
          go_roundg (gk - 1)
          case measure => omega
          case rel => exact ⟨i + 1, by omega, by go_num, by rw [HKn.out], by rw [HR3.out], HSt2, HB1⟩
        | true =>
          have HR3 : Hid (risesB (l.take (i + 1)) = decide (K < s.1)) := by show _ = _; rw [HRs2.out]; rfl
          clear HRs2
          go_wp2
          go_roundg (gk - 1)
          case measure => omega
          case rel => exact ⟨i + 1, by omega, by go_num, by rw [HKn.out], by rw [HR3.out], HSt2, HB1⟩
      · have HSt2 : Hid ((onesN (l.take (i + 1))).2 = (oneN s).2) := by show _ = _; rw [HSt.out, if_pos he]
        have HE : Hid (faN l = (oneN s).2) := by
          show _ = _
          have h1 : (onesN (l.take (i + 1))).2 ≠ 0 := by rw [HSt2.out]; exact he
          have h2 := onesN_stop h1
          unfold faN
          rw [h2, HSt2.out, if_pos he]
        have te : (((oneN s).2 : Int) != 0) = true := by rw [bne_iff_ne]; omega
        have HF2 : Hid (∀ W, Calls Try.prog 40 #[.agg #[.int .i64 s.1, .slice A' n' c']] W fun e w' => e = .returned (.int .i64 ((oneN s).2 : Int)) ∧ Below W.heap.size W w') := HF.out
        clear HF HSt HSt2 he HRs HK1
        generalize (oneN s).2 = E at *
        go_wp2_with fail
        refine (HF2.out _).mono ?_
        rintro e w1 ⟨rfl, hb1⟩
        have HB1 := Lib.hid (new_call (new_alloc HB.out _) hb1)
        clear hb1 hc1 hc2
        go_wp2
        go_ret
        rw [HE.out]
        exact ⟨rfl, HB1.out⟩
    · have ti : decide ((i : Int) < (n : Int)) = false := by simp; omega
      have HT : Hid (l.take i = l) := by show _ = _; rw [List.take_of_length_le (by rw [HL.out]; omega)]
      rw [HT.out] at HZ ⊢
      cases hr : risesB l with
      | false =>
        have HE : Hid (faN l = 2) := by show _ = _; unfold faN; rw [if_neg (by simp [HZ.out]), if_pos hr]
        clear hr
        go_wp2
        go_ret
        rw [HE.out]
        exact ⟨rfl, HB.out⟩
      | true =>
        have HE : Hid (faN l = 0) := by show _ = _; unfold faN; rw [if_neg (by simp [HZ.out]), if_neg (by simp [hr])]
        clear hr
        go_wp2
        go_ret
        rw [HE.out]
        exact ⟨rfl, HB.out⟩

/-- Kinds that rise are few. -/
theorem few {l : List Sec} (h1 : (onesN l).2 = 0) (h2 : risesB l = true) : l.length ≤ 9 ∧ ∀ s ∈ l, s.2.length ≤ 1048576 := by
  have hz : ∀ i, (onesN (l.take i)).2 = 0 := fun i => by
    by_cases h : (onesN (l.take i)).2 = 0
    · exact h
    · have := onesN_stop h; rw [this] at h1; exact h1
  have he : ∀ i (hi : i < l.length), (oneN l[i]).2 = 0 := fun i hi => by
    have h0 := hz (i + 1)
    rw [onesN_step hi (hz i)] at h0
    by_cases h : (oneN l[i]).2 = 0
    · exact h
    · rw [if_pos h] at h0; exact h0
  have hk : ∀ i (hi : i < l.length), (i : Int) + 1 ≤ l[i].1 := fun i => by
    induction i with
    | zero => intro hi; have := (one_kind (he 0 hi)).1; omega
    | succ i ih => intro hi; have := ih (by omega); have := (risesB_iff l).1 h2 i hi; omega
  refine ⟨?_, fun s hs => ?_⟩
  · rcases Nat.lt_or_ge 9 l.length with h | h
    · have := hk 9 h; have := (one_kind (he 9 h)).2.1; omega
    · exact h
  · obtain ⟨i, hi, rfl⟩ := List.getElem_of_mem hs
    exact (one_kind (he i hi)).2.2.1
theorem sum_le {l : List Sec} {m : Nat} (h : ∀ s ∈ l, s.2.length ≤ m) : (l.map fun s => s.2.length).sum ≤ l.length * m := by
  induction l with
  | nil => simp
  | cons s l ih =>
    have := h s (List.mem_cons_self ..)
    have := ih fun t ht => h t (List.mem_cons_of_mem _ ht)
    simp only [List.map_cons, List.sum_cons, List.length_cons, Nat.succ_mul]; omega
theorem part_le {l : List Sec} (h : l.length ≤ 9 ∧ ∀ s ∈ l, s.2.length ≤ 1048576) (i : Nat) : (onesN (l.take i)).1.length ≤ 9440000 := by
  have h1 := onesN_len (l.take i)
  have h2 := sum_take l i
  have h3 := sum_le h.2
  have h4 := Nat.mul_le_mul_right 1048576 h.1
  have h5 : (l.take i).length ≤ l.length := by rw [List.length_take]; omega
  have h6 := h.1
  omega

set_option maxRecDepth 100000 in
set_option maxHeartbeats 1000000 in
theorem frameEnc_all (A : Option Addr) (n c : Nat) (l : List Sec) (w : World) (h : Secs w A n c l) (hb : ∀ s ∈ l, ∀ x ∈ s.2, x < 256) (hn : n ≤ 9223372036854775807) (hs : ∀ s ∈ l, s.2.length ≤ 9223372036854775807) :
    Calls Try.prog 19 #[.slice A n c] w (Fixd w (encN l)) := by
  have HL := Lib.hid h.len
  have HH := Lib.hid h
  have HBy := Lib.hid hb
  have HFA := Lib.hid (faultAll_any A n c l w h hn hs)
  have HEn := Lib.hid (encN_fa l)
  clear h hb hs
  by_cases hf : faN l = 0
  · have hz0 : (onesN l).2 = 0 := by
      by_cases h : (onesN l).2 = 0
      · exact h
      · unfold faN at hf; rw [if_pos h] at hf; exact hf
    have hr0 : risesB l = true := by
      cases h : risesB l with
      | true => rfl
      | false => unfold faN at hf; rw [if_neg (by simp [hz0]), if_pos h] at hf; cases hf
    have hfew := few hz0 hr0
    have HP := Lib.hid (part_le hfew)
    have HSh := Lib.hid hfew.2
    have hn9 : n ≤ 9 := by rw [← HL.out]; exact hfew.1
    have HZ : Hid (∀ i, (onesN (l.take i)).2 = 0) := fun i => by
      by_cases h : (onesN (l.take i)).2 = 0
      · exact h
      · have := onesN_stop h; rw [this] at hz0; exact hz0
    rw [hf] at HFA
    rw [if_neg (by simp [hf])] at HEn
    clear hf hz0 hr0 hfew hn
    go_enter Try.func19, Try.ntmps19
    go_wp2_with fail
    refine HFA.out.mono ?_
    rintro e w1 ⟨rfl, hb1⟩
    have HB1 := Lib.hid hb1
    clear hb1 HFA
    go_wp2_with fail
    refine (head_any _).mono ?_
    rintro e w2 ⟨A2, c2, rfl, hh2, ho2, hb2⟩
    have HO2 := Lib.hid (ho2.less HB1.out.size)
    have HB2 := Lib.hid (new_call HB1.out hb2)
    clear hh2 ho2 hb2 HB1
    go_wp2
    go_loopg [5, 16] n (fun g s5 s16 wx => ∃ i : Nat, i + g = n ∧ s16 = .int .i64 i ∧ Hid (Own wx w.heap.size 5 s5 (u8s (headN ++ (onesN (l.take i)).1))) ∧ Hid (Below w.heap.size w wx))
    case atStart =>
      refine ⟨0, by omega, rfl, ?_, HB2⟩
      show Own _ _ _ _ _
      simpa [onesN] using HO2.out
    case round =>
      obtain ⟨i, hig, rfl, HO, HB⟩ := hrel
      clear HO2 HB2
      by_cases hi : i < n
      · have hil : i < l.length := by rw [HL.out]; exact hi
        obtain ⟨b, off, A', n', c', rfl, _, hl', hrow⟩ := HH.out.at_ hil
        obtain ⟨hc1, hc2, hh⟩ := hrow _ HB.out
        have ti : decide ((i : Int) < (n : Int)) = true := by simp; omega
        have HSt := onesN_step hil (HZ.out i)
        have h0 := HZ.out (i + 1)
        have he : (oneN l[i]).2 = 0 := by
          by_cases h : (oneN l[i]).2 = 0
          · exact h
          · rw [HSt, if_pos h] at h0; exact h0
        have hk := one_kind he
        rw [if_neg (by simp [he]), hk.2.2.2] at HSt
        have HSt2 := Lib.hid HSt
        have hsz := HSh.out _ (List.getElem_mem hil)
        rw [hl'] at hsz
        have hP := HP.out i
        have hP2 := HP.out (i + 1)
        rw [HSt, List.length_append] at hP2
        have HBi := Lib.hid (HBy.out _ (List.getElem_mem hil))
        have HHi := Lib.hid hh
        clear hrow hh hl' HSt h0 he
        generalize l[i] = s at *
        obtain ⟨k, bs⟩ := s
        obtain ⟨hk1, hk9, _, _⟩ := hk
        simp only at hk1 hk9 hc1 hc2 HBi HHi hP2
        obtain ⟨K, rfl⟩ := Int.eq_ofNat_of_zero_le (show 0 ≤ k by omega)
        have HSe := Lib.hid (fun W (hW : Below wr.heap.size wr W) => sealed_any K A' n' c' bs W (HHi.out.kept hW) HBi.out (by omega) (by omega) (by omega))
        generalize sealN (oneBody ((K : Int), bs)) = ob at *
        go_wp2_with (first
          | (go_at_call 30; refine (HSe.out _ (new_alloc (Below.refl _ _) _)).mono ?_; rintro e w3 ⟨A3, c3, rfl, hh3, ho3, hb3⟩; have HH3 := Lib.hid hh3; have HB3 := Lib.hid (new_call (new_alloc (Below.refl _ _) _) hb3); clear ho3 hb3 hh3)
          | (at_builtin
             refine wpList_join rfl _ _ 22 rfl elem8 w.heap.size _ _ rfl (HO.out.keep HB3.out) _ _ _ _ rfl HH3.out (u8s_one _) (by simp only [u8s_len, List.length_append, headN, List.length_cons, List.length_nil] at hP hP2 ⊢; omega) (by decide) (new_call HB.out HB3.out).size ?_
             intro v4 w4 hown4 hbel4
             rw [← u8s_app, List.append_assoc] at hown4
             have HO4 := Lib.hid hown4
             have HB4 := Lib.hid ((new_call HB.out HB3.out).trans hbel4)
             clear hown4 hbel4))
        go_roundg (gk - 1)
        case measure => omega
        case rel =>
          refine ⟨i + 1, by omega, by go_num, ?_, HB4⟩
          show Own _ _ _ _ _
          rw [HSt2.out]; exact HO4.out
      · have ti : decide ((i : Int) < (n : Int)) = false := by simp; omega
        have HT : Hid (l.take i = l) := by show _ = _; rw [List.take_of_length_le (by rw [HL.out]; omega)]
        have hP := HP.out i
        rw [HT.out] at HO hP
        have hlen : (headN ++ (onesN l).1).length ≤ 9440005 := by simp only [List.length_append, headN, List.length_cons, List.length_nil]; omega
        have hz := HB.out.size
        have hl1 : (headN ++ (onesN l).1 ++ [0]).length = (headN ++ (onesN l).1).length + 1 := by rw [List.length_append]; rfl
        rw [hl1] at HEn
        clear hP hl1
        by_cases hlo : 1048576 < (headN ++ (onesN l).1).length + 1
        · have HE : Hid (encN l = ([], 3)) := by show _ = _; rw [HEn.out, if_pos hlo]
          clear HEn
          generalize headN ++ (onesN l).1 = out at *
          obtain ⟨A4, c4, rfl, _⟩ := HO.out.has
          have tl : decide ((1048576 : Int) < (out.length : Int) + 1) = true := decide_eq_true (by omega)
          go_wp2_with (at_builtin
                       refine wpList_join rfl _ _ 22 rfl elem8 w.heap.size _ _ rfl (HO.out.alloc _) _ 1 1 (u8s [0]) rfl (Has.one _ _ _) (u8s_one _) (by rw [u8s_len]; omega) (by decide) (by simp; omega) ?_
                       intro v2 w2 hown2 hbel2
                       rw [← u8s_app] at hown2
                       have HB3 := Lib.hid ((new_alloc HB.out _).trans hbel2)
                       obtain ⟨A5, c5, rfl, _⟩ := hown2.has
                       simp only [u8s_len, List.length_append, List.length_cons, List.length_nil]
                       clear hown2 hbel2)
          go_ret2
          rw [HE.out]
          exact ⟨_, rfl, Own.nil _ _ _, HB3.out⟩
        · have HE : Hid (encN l = (headN ++ (onesN l).1 ++ [0], 0)) := by show _ = _; rw [HEn.out, if_neg hlo]
          clear HEn
          generalize headN ++ (onesN l).1 = out at *
          obtain ⟨A4, c4, rfl, _⟩ := HO.out.has
          have tl : decide ((1048576 : Int) < (out.length : Int) + 1) = false := decide_eq_false (by omega)
          go_wp2_with (at_builtin
                       refine wpList_join rfl _ _ 22 rfl elem8 w.heap.size _ _ rfl (HO.out.alloc _) _ 1 1 (u8s [0]) rfl (Has.one _ _ _) (u8s_one _) (by rw [u8s_len]; omega) (by decide) (by simp; omega) ?_
                       intro v2 w2 hown2 hbel2
                       rw [← u8s_app] at hown2
                       have HO3 := Lib.hid hown2
                       have HB3 := Lib.hid ((new_alloc HB.out _).trans hbel2)
                       obtain ⟨A5, c5, rfl, _⟩ := hown2.has
                       simp only [u8s_len, List.length_append, List.length_cons, List.length_nil]
                       clear hown2 hbel2)
          go_ret2
          rw [HE.out]
          refine ⟨_, rfl, ?_, HB3.out⟩
          have h3 := HO3.out
          simp only [u8s_len, List.length_append, List.length_cons, List.length_nil] at h3
          exact h3
  · have HE : Hid (encN l = ([], faN l)) := by show _ = _; rw [HEn.out, if_pos hf]
    have te : ((faN l : Int) != 0) = true := by rw [bne_iff_ne]; omega
    clear HEn hf
    generalize faN l = E at *
    go_enter Try.func19, Try.ntmps19
    go_wp2_with fail
    refine HFA.out.mono ?_
    rintro e w1 ⟨rfl, hb1⟩
    have HB1 := Lib.hid hb1
    clear hb1 HFA
    go_wp2
    go_ret2
    rw [HE.out]
    exact ⟨_, rfl, Own.nil _ _ _, HB1.out⟩
theorem frameEnc_any (A : Option Addr) (n c : Nat) (l : List Sec) (w : World) (h : Secs w A n c l) (hb : ∀ s ∈ l, ∀ x ∈ s.2, x < 256) (hs : Short l 3000) :
    Calls Try.prog 19 #[.slice A n c] w (Fixd w (encN l)) :=
  frameEnc_all A n c l w h hb (by have := hs.num; rw [h.len] at this; omega) (fun _ hm => Nat.le_trans (hs.each hm) (by decide))
end Go.Proofs.Ytdheppfooapneaa

/- frame.checkHead: of few bytes, too, a wrong one is told ahead of those that are missing. -/
namespace Go.Proofs.Ytdheppfooapneaa
open Go.RowKit

/-- What is left to read behind i bytes of the head. -/
abbrev behind (bs : List Nat) (i : Nat) : List Sec × Nat := closeN ((bs.drop i).foldl stepN ⟨[], 0, false, i, [], 0⟩)
/-- What checkHead tells of the bytes. -/
def Heads (bs : List Nat) (E : Nat) : Prop := (E = 0 ∧ 5 ≤ bs.length ∧ decN bs = behind bs 5) ∨ (E ≠ 0 ∧ decN bs = ([], E))

set_option maxRecDepth 100000 in
set_option maxHeartbeats 400000 in
theorem checkHead_any (A : Option Addr) (n c : Nat) (bs : List Nat) (w : World) (h : Has w A n c (u8s bs)) (hb : ∀ x ∈ bs, x < 256) (hn : n ≤ 281474976710656) :
    Calls Try.prog 25 #[.slice A n c] w fun e w' => ∃ E : Nat, e = .returned (.int .i64 (E : Int)) ∧ Heads bs E ∧ Below w.heap.size w w' := by
  have HL : Hid (bs.length = n) := by have := h.len; rw [u8s_len] at this; exact this
  have HH := Lib.hid h
  have HBy := Lib.hid hb
  clear h hb
  go_enter Try.func25, Try.ntmps25
  go_wp2
  go_loopg [] 5 (fun g wx => ∃ p : Nat, p + g = 5 ∧ p ≤ n ∧ Hid (wx.heap[w.heap.size]? = some (.stringIter headS p)) ∧ Hid (decN bs = behind bs p) ∧ Hid (Below w.heap.size w wx))
  case atStart => exact ⟨0, rfl, Nat.zero_le _, World.iter_heap w headS 0, rfl, new_alloc (Below.refl _ _) _⟩
  case round =>
    obtain ⟨p, hpg, hpn, HI, HD, HB⟩ := hrel
    by_cases hp : p < 5
    · have hnx : ∀ ty, (Instr.next (.pointer (some ⟨w.heap.size, 0, none⟩)) true ty).run Try.prog wr = _ := fun ty => Lib.run_next_ascii_at wr w.heap.size headS p ty HI.out hp (by rw [headS_at]; exact headN_lt p)
      rw [headS_at] at hnx
      have HI1 := Lib.hid (Lib.iterAt_heap wr w.heap.size headS p (p + 1) HI.out)
      have HB1 := Lib.hid (Lib.below_iterAt HB.out (Nat.le_refl _) headS (p + 1))
      have HSt := Lib.hid (head_step bs hp)
      have hx := headN_lt p
      have hwr : IntKind.wrap .u8 ((headN.getD p 0 : Nat) : Int) = ((headN.getD p 0 : Nat) : Int) := by
        generalize headN.getD p 0 = x at *
        rw [IntKind.wrap_u8]; omega
      generalize wr.iterAt w.heap.size headS (p + 1) = W1 at *
      clear HI
      by_cases hpe : p = n
      · have HE : Hid (decN bs = ([], 10)) := by show _ = _; rw [HD.out]; show closeN _ = _; rw [HSt.out, if_pos (by rw [HL.out]; omega)]
        have te : ((p : Int) == (n : Int)) = true := by rw [hpe]; simp
        clear HSt HD
        generalize headN.getD p 0 = x at *
        go_wp2
        go_ret
        exact ⟨10, rfl, Or.inr ⟨by decide, HE.out⟩, HB1.out⟩
      · have te : ((p : Int) == (n : Int)) = false := by rw [beq_eq_false_iff_ne]; omega
        have hlt : p < bs.length := by rw [HL.out]; omega
        obtain ⟨b, off, rfl, _, hc⟩ := (HH.out.kept HB1.out).spot (by omega)
        have hcell := hc p _ (u8s_at hlt)
        have hgd : bs.getD p 0 = bs[p] := by simp [List.getD, List.getElem?_eq_getElem hlt]
        rw [hgd, if_neg (by omega)] at HSt
        have hb8 := HBy.out _ (List.getElem_mem hlt)
        clear hc hgd
        generalize headN.getD p 0 = x at *
        generalize bs[p] = y at *
        by_cases hy : y = x
        · have HD2 : Hid (decN bs = behind bs (p + 1)) := by show _ = _; rw [HD.out]; show closeN _ = _; rw [HSt.out, if_neg (by simp [hy])]
          have ty : ((y : Int) != (x : Int)) = false := by rw [hy]; simp
          clear HSt HD hy
          go_wp2
          go_roundg (gk - 1)
          case measure => omega
          case rel => exact ⟨p + 1, by omega, by omega, HI1, HD2, HB1⟩
        · have HE : Hid (decN bs = ([], 11)) := by show _ = _; rw [HD.out]; show closeN _ = _; rw [HSt.out, if_pos hy]
          have ty : ((y : Int) != (x : Int)) = true := by rw [bne_iff_ne]; omega
          clear HSt HD hy
          go_wp2
          go_ret
          exact ⟨11, rfl, Or.inr ⟨by decide, HE.out⟩, HB1.out⟩
    · have hnx : ∀ ty, (Instr.next (.pointer (some ⟨w.heap.size, 0, none⟩)) true ty).run Try.prog wr = _ := fun ty => Lib.run_next_end_at wr w.heap.size headS p ty HI.out hp
      obtain rfl : p = 5 := by omega
      go_wp2
      go_ret
      exact ⟨0, rfl, Or.inl ⟨rfl, by rw [HL.out]; exact hpn, HD.out⟩, HB.out⟩
end Go.Proofs.Ytdheppfooapneaa

/- frame.section: one section, from its kind on. -/
namespace Go.Proofs.Ytdheppfooapneaa
open Go.RowKit

theorem get_drop {bs : List Nat} {k : Nat} (hk : k < bs.length) : ((get (bs.drop k) 1).2.2 = 0 ∧ get bs ((k : Int) + 1) = ((get (bs.drop k) 1).1, k + (get (bs.drop k) 1).2.1, 0)) ∨ ((get (bs.drop k) 1).2.2 ≠ 0 ∧ get bs ((k : Int) + 1) = get (bs.drop k) 1) := by
  have e1 : get bs ((k : Int) + 1) = getAt bs (k + 1) := by
    unfold get
    rw [if_neg (by omega), show ((k : Int) + 1).toNat = k + 1 by omega]
  have e2 : get (bs.drop k) 1 = getAt (bs.drop k) 1 := get_one (by rw [List.length_drop]; omega)
  rw [e1, e2]
  unfold getAt
  rw [List.drop_drop]
  generalize scan 0 0 (bs.drop (k + 1)) = r
  by_cases h : r.2.2 = 0
  · left; simp [h]; omega
  · right; simp [h]

theorem set2 {W : World} {g : Nat} {t : TypeId} {z0 z1 c0 c1 : Value} (h : Blk W g t #[z0, z1]) : Blk ((W.setCell ⟨g, 0, none⟩ c0).setCell ⟨g, 1, none⟩ c1) g t #[c0, c1] := by
  have := (h.set_ 0 c0).set_ 1 c1
  simpa using this
theorem results_three {fn : Func} {p u x : Tmp} {ty : TypeId} (h : fn.results = #[.cell p ty, .tmp u, .tmp x]) {tmps : Array Value} {P : Program} {w : World} {a : Addr} {v : Value} (hp : tmps.getD p undef = .pointer (some a))
    (hl : (loadVar ty a).run P w = .ok v w) : (results fn tmps).run P w = .ok (.tuple #[v, tmps.getD u undef, tmps.getD x undef]) w := by
  have hp' : tmps[p]?.getD undef = .pointer (some a) := by rw [← hp]; simp
  simp only [results, h]
  simp [hp', asAddr, hl]
theorem ownForm {w : World} {base : Nat} {e : TypeId} {a : Addr} {n c : Nat} {xs : List Value} (h : Own w base e (.slice (some a) n c) xs) : ∃ g cp, some a = some ⟨g, 0, none⟩ ∧ cp = c := by
  rcases h.2 with ⟨h1, _⟩ | ⟨g', cap, cur, h1, _⟩
  · cases h1
  · cases h1; exact ⟨g', c, rfl, rfl⟩
theorem own_part {W : World} {base : Nat} {e : TypeId} {A : Option Addr} {c T : Nat} {cb : List Nat} (h : Own W base e (.slice A cb.length c) (u8s cb)) (hT : T ≤ cb.length) : Has W (if c = T then A else A.map (·.add T)) (cb.length - T) (c - T) (u8s (cb.drop T)) := by
  obtain ⟨A', c', e', h'⟩ := h.has
  rw [u8s_len] at e' h'
  cases e'
  have hp := h'.part (k := T) (m := cb.length) hT (Nat.le_refl _)
  rw [List.take_of_length_le (by rw [List.length_drop, u8s_len]; omega), show (u8s cb).drop T = u8s (cb.drop T) by simp [u8s]] at hp
  exact hp
/-- The place lies in a block of bytes. -/
def U8At (w : World) (A : Option Addr) : Prop := ∀ a, A = some a → ∃ cs fz, w.heap[a.block]? = some (.cells cs 5 fz)
theorem own_u8 {W : World} {base : Nat} {A : Option Addr} {n c : Nat} {xs : List Value} (h : Own W base 5 (.slice A n c) xs) : U8At W A := by
  intro a ha
  subst ha
  rcases h.2 with ⟨h1, _⟩ | ⟨g', cap, cur, h1, _, h3, _⟩
  · cases h1
  · cases h1; exact ⟨cur, _, h3⟩
theorem U8At.off {W : World} {b o o' : Nat} (h : U8At W (some ⟨b, o, none⟩)) : U8At W (some ⟨b, o', none⟩) := by
  intro a ha
  cases ha
  exact h ⟨b, o, none⟩ rfl
theorem sec_info : (Try.prog.info? 48).map (·.size) = some 2 := by kernel_rfl
theorem sec_load {W : World} {g : Nat} {c0 c1 : Value} (h : Blk W g 48 #[c0, c1]) : (loadVar 48 ⟨g, 0, none⟩).run Try.prog W = .ok (.agg #[c0, c1]) W :=
  run_loadVar_row _ _ _ _ _ _ _ h Try.underlying48 rfl (by rw [sec_info]; rfl)
/-- What section answers: an error; or the section and the place behind it. -/
def Secn (w : World) (bs : List Nat) (k : Nat) (e : Ending) (w' : World) : Prop := Below w.heap.size w w' ∧
  ((∃ E : Nat, E ≠ 0 ∧ e = .returned (.tuple #[.agg #[.int .i64 0, .slice none 0 0], .int .i64 0, .int .i64 (E : Int)]) ∧ ∀ all l, restN (bs.drop k) all l = ([], E)) ∨
   (∃ A n c, ∃ m : Nat, ∃ p, e = .returned (.tuple #[.agg #[.int .i64 (((bs.drop k).headD 0 : Nat) : Int), .slice A n c], .int .i64 ((k + m : Nat) : Int), .int .i64 0]) ∧ Has w' A n c (u8s p) ∧ U8At w' A ∧ 1 ≤ m ∧ k + m ≤ bs.length ∧
     ∀ all l, restN (bs.drop k) all l = closeN ((bs.drop (k + m)).foldl stepN ⟨[], (bs.drop k).headD 0, false, all + m, l ++ [(((bs.drop k).headD 0 : Int), p)], 0⟩)))
theorem sec_end {w W : World} {a : Act} {g : Nat} {c0 c1 x y : Value} {bs : List Nat} {k : Nat} (hb : Blk W g 48 #[c0, c1]) (hp : a.tmps.getD 4 undef = .pointer (some ⟨g, 0, none⟩)) (h5 : a.tmps.getD 5 undef = x) (h6 : a.tmps.getD 6 undef = y) (hd : a.defers = [])
    (hv : Secn w bs k (.returned (.tuple #[.agg #[c0, c1], x, y])) W) : bodyPost Try.prog Try.f27 (Secn w bs k) Exit.ret a W := by
  subst h5 h6
  exact bodyPost_ret (results_three Try.results27 hp (sec_load hb)) hd hv

set_option maxRecDepth 100000 in
set_option maxHeartbeats 1000000 in
theorem section_err (A : Option Addr) (n c : Nat) (bs : List Nat) (k : Nat) (w : World) (h : Has w A n c (u8s bs)) (hb : ∀ x ∈ bs, x < 256) (hn : n ≤ 90000) (hk : k < n) (he : (get (bs.drop k) 1).2.2 ≠ 0) :
    Calls Try.prog 27 #[.slice A n c, .int .i64 (k : Int)] w (Secn w bs k) := by
  have hl : bs.length = n := by have := h.len; rw [u8s_len] at this; exact this
  have HG := Lib.hid (fun W (hW : Below w.heap.size w W) => get_any A n c bs ((k : Int) + 1) W (h.kept hW) hb (by omega))
  have HR : Hid (∀ all l, restN (bs.drop k) all l = ([], (get (bs.drop k) 1).2.2)) := fun all l => by unfold restN; rw [if_pos he]
  rcases get_drop (bs := bs) (k := k) (by omega) with ⟨h0, _⟩ | ⟨_, h1⟩
  · exact absurd h0 he
  rw [h1] at HG
  obtain ⟨hz1, hz2⟩ := get_zero _ _ he
  rw [hz1, hz2] at HG
  have te : (((get (bs.drop k) 1).2.2 : Int) != 0) = true := by rw [bne_iff_ne]; omega
  have HNe := Lib.hid he
  clear h hb hl h1 hz1 hz2 he
  generalize (get (bs.drop k) 1).2.2 = E at *
  go_enter Try.func27, Try.ntmps27
  go_wp2_with (go_at_call 38; refine (HG.out _ (new_alloc (Below.refl _ _) _)).mono ?_; rintro e w' ⟨rfl, rfl⟩)
  exact sec_end (Blk.new _ _ _) rfl rfl rfl rfl ⟨new_alloc (Below.refl _ _) _, Or.inl ⟨_, HNe.out, rfl, HR.out⟩⟩

set_option maxRecDepth 100000 in
set_option maxHeartbeats 1000000 in
theorem section_long (A : Option Addr) (n c : Nat) (bs : List Nat) (k : Nat) (w : World) (h : Has w A n c (u8s bs)) (hb : ∀ x ∈ bs, x < 256) (hn : n ≤ 90000) (hk : k < n) (he : (get (bs.drop k) 1).2.2 = 0) (hN : 1048576 < (get (bs.drop k) 1).1) :
    Calls Try.prog 27 #[.slice A n c, .int .i64 (k : Int)] w (Secn w bs k) := by
  have hl : bs.length = n := by have := h.len; rw [u8s_len] at this; exact this
  have HG := Lib.hid (fun W (hW : Below w.heap.size w W) => get_any A n c bs ((k : Int) + 1) W (h.kept hW) hb (by omega))
  have HR : Hid (∀ all l, restN (bs.drop k) all l = ([], 3)) := fun all l => by unfold restN; rw [if_neg (by simp [he]), if_pos hN]
  rcases get_drop (bs := bs) (k := k) (by omega) with ⟨_, h1⟩ | ⟨h0, _⟩
  · rw [h1] at HG
    have tN : decide ((1048576 : Int) < ((get (bs.drop k) 1).1 : Int)) = true := decide_eq_true (by omega)
    clear h hb hl h1 he hN
    generalize (get (bs.drop k) 1).1 = N at *
    generalize k + (get (bs.drop k) 1).2.1 = F at *
    go_enter Try.func27, Try.ntmps27
    go_wp2_with (go_at_call 38; refine (HG.out _ (new_alloc (Below.refl _ _) _)).mono ?_; rintro e w' ⟨rfl, rfl⟩)
    exact sec_end (Blk.new _ _ _) rfl rfl rfl rfl ⟨new_alloc (Below.refl _ _) _, Or.inl ⟨3, by decide, rfl, HR.out⟩⟩
  · exact absurd he h0

set_option maxRecDepth 100000 in
set_option maxHeartbeats 1000000 in
theorem section_short (A : Option Addr) (n c : Nat) (bs : List Nat) (k : Nat) (w : World) (h : Has w A n c (u8s bs)) (hb : ∀ x ∈ bs, x < 256) (hn : n ≤ 90000) (hk : k < n) (he : (get (bs.drop k) 1).2.2 = 0) (hN : ¬ 1048576 < (get (bs.drop k) 1).1)
    (hm : (bs.drop k).length < (get (bs.drop k) 1).2.1 + (get (bs.drop k) 1).1 + 4) :
    Calls Try.prog 27 #[.slice A n c, .int .i64 (k : Int)] w (Secn w bs k) := by
  have hl : bs.length = n := by have := h.len; rw [u8s_len] at this; exact this
  have HG := Lib.hid (fun W (hW : Below w.heap.size w W) => get_any A n c bs ((k : Int) + 1) W (h.kept hW) hb (by omega))
  have HR : Hid (∀ all l, restN (bs.drop k) all l = ([], 10)) := fun all l => by unfold restN; rw [if_neg (by simp [he]), if_neg hN, if_pos hm]
  have hT : (get (bs.drop k) 1).2.1 ≤ (bs.drop k).length := (get_moves (bs := bs.drop k) (k := 1) he).2
  rw [List.length_drop, hl] at hm hT
  rcases get_drop (bs := bs) (k := k) (by omega) with ⟨_, h1⟩ | ⟨h0, _⟩
  · rw [h1] at HG
    have tN : decide ((1048576 : Int) < ((get (bs.drop k) 1).1 : Int)) = false := decide_eq_false (by omega)
    clear h hb hl h1 he
    generalize (get (bs.drop k) 1).1 = N at *
    generalize (get (bs.drop k) 1).2.1 = T at *
    obtain ⟨F, hF⟩ : ∃ F, k + T = F := ⟨_, rfl⟩
    rw [hF] at HG
    have tm : decide ((n : Int) < (F : Int) + (N : Int) + 4) = true := decide_eq_true (by omega)
    have hFn : F ≤ 90001 := by omega
    clear hF hm hT
    go_enter Try.func27, Try.ntmps27
    go_wp2_with (go_at_call 38; refine (HG.out _ (new_alloc (Below.refl _ _) _)).mono ?_; rintro e w' ⟨rfl, rfl⟩)
    exact sec_end (Blk.new _ _ _) rfl rfl rfl rfl ⟨new_alloc (Below.refl _ _) _, Or.inl ⟨10, by decide, rfl, HR.out⟩⟩
  · exact absurd he h0

set_option maxRecDepth 100000 in
set_option maxHeartbeats 1000000 in
theorem section_sum (A : Option Addr) (n c : Nat) (bs : List Nat) (k : Nat) (w : World) (h : Has w A n c (u8s bs)) (hb : ∀ x ∈ bs, x < 256) (hn : n ≤ 90000) (hk : k < n) (he : (get (bs.drop k) 1).2.2 = 0) (hN : ¬ 1048576 < (get (bs.drop k) 1).1)
    (hm : ¬ (bs.drop k).length < (get (bs.drop k) 1).2.1 + (get (bs.drop k) 1).1 + 4) :
    Calls Try.prog 27 #[.slice A n c, .int .i64 (k : Int)] w (Secn w bs k) := by
  have hl : bs.length = n := by have := h.len; rw [u8s_len] at this; exact this
  have HG := Lib.hid (fun W (hW : Below w.heap.size w W) => get_any A n c bs ((k : Int) + 1) W (h.kept hW) hb (by omega))
  have hT : 1 < (get (bs.drop k) 1).2.1 := (get_moves (bs := bs.drop k) (k := 1) he).1
  rcases get_drop (bs := bs) (k := k) (by omega) with ⟨_, h1⟩ | ⟨h0, _⟩
  · rw [h1] at HG
    have tN : decide ((1048576 : Int) < ((get (bs.drop k) 1).1 : Int)) = false := decide_eq_false (by omega)
    have HR : Hid (∀ all l, restN (bs.drop k) all l = if (checkN ((bs.drop k).take ((get (bs.drop k) 1).2.1 + (get (bs.drop k) 1).1 + 4))).2 ≠ 0 then ([], (checkN ((bs.drop k).take ((get (bs.drop k) 1).2.1 + (get (bs.drop k) 1).1 + 4))).2)
      else closeN ((bs.drop (k + ((get (bs.drop k) 1).2.1 + (get (bs.drop k) 1).1 + 4))).foldl stepN ⟨[], (bs.drop k).headD 0, false, all + ((get (bs.drop k) 1).2.1 + (get (bs.drop k) 1).1 + 4), l ++ [(((bs.drop k).headD 0 : Int), (checkN ((bs.drop k).take ((get (bs.drop k) 1).2.1 + (get (bs.drop k) 1).1 + 4))).1.drop (get (bs.drop k) 1).2.1)], 0⟩)) := fun all l => by
        unfold restN; rw [if_neg (by simp [he]), if_neg hN, if_neg hm, List.drop_drop]
    rw [List.length_drop, hl] at hm
    obtain ⟨b, off, rfl, hlt, hc⟩ := h.spot (by omega)
    have hcap := h.cap
    have hcell := hc k _ (u8s_at (l := bs) (j := k) (by omega))
    have hk0 : bs[k]'(by omega) = (bs.drop k).headD 0 := by rw [List.drop_eq_getElem_cons (by omega)]; rfl
    have hk8 := hb _ (List.getElem_mem (show k < bs.length by omega))
    rw [hk0] at hcell hk8
    clear h1 he hk0 hc
    generalize (get (bs.drop k) 1).1 = N at *
    generalize (get (bs.drop k) 1).2.1 = T at *
    obtain ⟨F, hF⟩ : ∃ F, k + T = F := ⟨_, rfl⟩
    rw [hF] at HG
    have tm : decide ((n : Int) < (F : Int) + (N : Int) + 4) = false := decide_eq_false (by omega)
    have hFn : F ≤ 90001 := by omega
    have hpt := h.part (k := k) (m := F + N + 4) (by omega) (by omega)
    rw [if_neg (by omega), show (((u8s bs).drop k).take (F + N + 4 - k)) = u8s ((bs.drop k).take (T + N + 4)) by
      rw [show F + N + 4 - k = T + N + 4 by omega]; simp [u8s]] at hpt
    have e : (⟨b, off, none⟩ : Addr).add k = ⟨b, off + k, none⟩ := Addr.add_mid _ _ _
    simp only [Option.map_some, e] at hpt
    have HC := Lib.hid (fun W (hW : Below w.heap.size w W) => check_any (some ⟨b, off + k, none⟩) (F + N + 4 - k) (c - k) ((bs.drop k).take (T + N + 4)) W (hpt.kept hW) (fun x hx => hb x (List.mem_of_mem_drop (List.mem_of_mem_take hx))) (by omega))
    have hrl : ((bs.drop k).take (T + N + 4)).length = T + N + 4 := by rw [List.length_take, List.length_drop]; omega
    have hle : k + (T + N + 4) ≤ bs.length := by omega
    have HLe := Lib.hid hle
    have hcl := check_len (bs := (bs.drop k).take (T + N + 4))
    rw [hrl] at hcl
    clear h hb hl hpt e hrl hle
    generalize hk0 : (bs.drop k).headD 0 = k0 at *
    have HK0 := Lib.hid hk0
    clear hk0
    generalize hck : checkN ((bs.drop k).take (T + N + 4)) = ck at *
    obtain ⟨cb, ce⟩ := ck
    simp only at HR hcl
    by_cases h0 : ce = 0
    · subst h0
      have HR2 : Hid (∀ all l, restN (bs.drop k) all l = closeN ((bs.drop (k + (T + N + 4))).foldl stepN ⟨[], k0, false, all + (T + N + 4), l ++ [((k0 : Int), cb.drop T)], 0⟩)) := fun all l => by rw [HR.out, if_neg (by simp)]
      have hcl := hcl rfl
      have hto : ((F : Int) + (N : Int) + 4) = ((k + (T + N + 4) : Nat) : Int) := by omega
      have HTo := Lib.hid hto
      have hft : (F : Int) - (k : Int) = (T : Int) := by omega
      have hwr : IntKind.i64.wrap (k0 : Int) = (k0 : Int) := by rw [IntKind.wrap_i64]; omega
      clear HR hck hto
      go_enter Try.func27, Try.ntmps27
      go_wp2_with (go_at_call 38; refine (HG.out _ (new_alloc (Below.refl _ _) _)).mono ?_; rintro e w' ⟨rfl, rfl⟩)
      refine (HC.out _ (new_alloc (Below.refl _ _) _)).mono ?_
      rintro e w2 ⟨v2, rfl, ho2, hb2⟩
      obtain ⟨A4, c4, rfl, hh4⟩ := ho2.has
      simp only [u8s_len] at ho2 hh4 ⊢
      have HO2 := Lib.hid ho2
      have hc4 := hh4.cap
      have HB2 := Lib.hid (new_call (new_alloc (Below.refl _ _) _) hb2)
      have HX2 : Hid (Blk w2 w.heap.size 48 #[.int .i64 0, .slice none 0 0]) := Blk.below (Blk.new _ _ _) hb2 (Blk.new _ _ _).lt
      have y0 : w2.cell? ⟨w.heap.size, 0, none⟩ = some (.int .i64 0) := HX2.out.cell 0
      have y1 : w2.cell? ⟨w.heap.size, 1, none⟩ = some (.slice none 0 0) := HX2.out.cell 1
      have f0 := HX2.out.frozen 0
      have f1 := HX2.out.frozen 1
      have hc2 : w2.cell? ⟨b, off + k, none⟩ = some (.int .u8 (k0 : Int)) := (HB2.out.cell (p := ⟨b, off + k, none⟩) hlt).trans hcell
      clear ho2 hb2 hcell
      rcases Nat.lt_or_ge T c4 with hq | hq
      · obtain ⟨b4, o4, rfl⟩ : ∃ b4 o4, A4 = some ⟨b4, o4, none⟩ := by
          rcases A4 with _ | a
          · have := hh4.bare rfl
            omega
          · obtain ⟨g4, cp4, e4, _⟩ := ownForm HO2.out
            exact ⟨g4, 0, e4⟩
        have hq1 : ¬ c4 = T := by omega
        clear hh4
        go_wp2
        go_region
        go_wp2
        have hfar : Far1 w.heap.size w2 ((w2.setCell ⟨w.heap.size, 0, none⟩ (.int .i64 (k0 : Int))).setCell ⟨w.heap.size, 1, none⟩ (.slice (some ⟨b4, o4 + T, none⟩) (cb.length - T) (c4 - T))) := ((Far1.refl _ _).set 0 _).set 1 _
        refine sec_end (x := .int .i64 ((F : Int) + (N : Int) + 4)) (y := .int .i64 0) (set2 HX2.out) rfl rfl rfl rfl ⟨(hfar.below HB2.out).drew, Or.inr ⟨_, _, _, T + N + 4, cb.drop T, by rw [HK0.out, HTo.out], ?_, U8At.off (own_u8 (hfar.row HO2.out (by simp))), by omega, HLe.out, by rw [HK0.out]; exact HR2.out⟩⟩
        have hp := own_part (T := T) (hfar.row HO2.out (by simp)) (by omega)
        rw [if_neg hq1] at hp
        have e : (⟨b4, o4, none⟩ : Addr).add T = ⟨b4, o4 + T, none⟩ := Addr.add_mid _ _ _
        simp only [Option.map_some, e] at hp
        exact hp.drew
      · have hq1 : c4 = T := by omega
        have hq2 : cb.length = T := by omega
        clear hh4
        go_wp2
        go_region
        go_wp2
        have hfar : Far1 w.heap.size w2 ((w2.setCell ⟨w.heap.size, 0, none⟩ (.int .i64 (k0 : Int))).setCell ⟨w.heap.size, 1, none⟩ (.slice A4 0 0)) := ((Far1.refl _ _).set 0 _).set 1 _
        refine sec_end (x := .int .i64 ((F : Int) + (N : Int) + 4)) (y := .int .i64 0) (set2 HX2.out) rfl rfl rfl rfl ⟨(hfar.below HB2.out).drew, Or.inr ⟨_, _, _, T + N + 4, cb.drop T, by rw [HK0.out, HTo.out], ?_, own_u8 (hfar.row HO2.out (by simp)), by omega, HLe.out, by rw [HK0.out]; exact HR2.out⟩⟩
        have hp := own_part (T := T) (hfar.row HO2.out (by simp)) (by omega)
        rw [if_pos hq1, show cb.length - T = 0 by omega, show c4 - T = 0 by omega] at hp
        exact hp.drew
    · have HR2 : Hid (∀ all l, restN (bs.drop k) all l = ([], ce)) := fun all l => by rw [HR.out, if_pos h0]
      have te : ((ce : Int) != 0) = true := by rw [bne_iff_ne]; omega
      have HNe := Lib.hid h0
      clear HR hck h0 hcl
      go_enter Try.func27, Try.ntmps27
      go_wp2_with (go_at_call 38; refine (HG.out _ (new_alloc (Below.refl _ _) _)).mono ?_; rintro e w' ⟨rfl, rfl⟩)
      refine (HC.out _ (new_alloc (Below.refl _ _) _)).mono ?_
      rintro e w2 ⟨v2, rfl, ho2, hb2⟩
      have HB2 := Lib.hid (new_call (new_alloc (Below.refl _ _) _) hb2)
      have HX2 : Hid (Blk w2 w.heap.size 48 #[.int .i64 0, .slice none 0 0]) := Blk.below (Blk.new _ _ _) hb2 (Blk.new _ _ _).lt
      have y0 : w2.cell? ⟨w.heap.size, 0, none⟩ = some (.int .i64 0) := HX2.out.cell 0
      have y1 : w2.cell? ⟨w.heap.size, 1, none⟩ = some (.slice none 0 0) := HX2.out.cell 1
      have f0 := HX2.out.frozen 0
      have f1 := HX2.out.frozen 1
      clear ho2 hb2
      go_wp2
      exact sec_end (set2 HX2.out) rfl rfl rfl rfl ⟨(((Far1.refl _ _).set 0 _).set 1 _).below HB2.out, Or.inl ⟨_, HNe.out, rfl, HR2.out⟩⟩
  · exact absurd he h0

theorem section_any (A : Option Addr) (n c : Nat) (bs : List Nat) (k : Nat) (w : World) (h : Has w A n c (u8s bs)) (hb : ∀ x ∈ bs, x < 256) (hn : n ≤ 90000) (hk : k < n) :
    Calls Try.prog 27 #[.slice A n c, .int .i64 (k : Int)] w (Secn w bs k) := by
  by_cases he : (get (bs.drop k) 1).2.2 = 0
  · by_cases hN : 1048576 < (get (bs.drop k) 1).1
    · exact section_long A n c bs k w h hb hn hk he hN
    · by_cases hm : (bs.drop k).length < (get (bs.drop k) 1).2.1 + (get (bs.drop k) 1).1 + 4
      · exact section_short A n c bs k w h hb hn hk he hN hm
      · exact section_sum A n c bs k w h hb hn hk he hN hm
  · exact section_err A n c bs k w h hb hn hk he
end Go.Proofs.Ytdheppfooapneaa

/- frame.Decode; with it frame's three calls. -/
namespace Go.Proofs.Ytdheppfooapneaa
open Go.RowKit

theorem U8At.kept {w w' : World} {A : Option Addr} (h : U8At w A) (hb : Below w.heap.size w w') : U8At w' A := by
  intro a ha
  obtain ⟨cs, fz, h1⟩ := h a ha
  exact ⟨cs, fz, (hb.block a.block (Array.getElem?_eq_some_iff.1 h1).1).trans h1⟩
/-- The row that grew holds sections; so bytes stay. -/
def SecRow (w : World) (row : Option Nat) : Prop := ∀ g, row = some g → ∃ cs fz, w.heap[g]? = some (.cells cs 48 fz)
theorem U8At.ne {w : World} {a : Addr} {row : Option Nat} (h : U8At w (some a)) (hr : SecRow w row) : some a.block ≠ row := by
  intro e
  obtain ⟨cs, fz, h1⟩ := h a rfl
  obtain ⟨cs', fz', h2⟩ := hr a.block e.symm
  rw [h1] at h2
  simp at h2
theorem U8At.grown {w w' : World} {A : Option Addr} {row : Option Nat} (h : U8At w A) (hg : w.grownBy w' row) (hr : SecRow w row) : U8At w' A := by
  intro a ha
  subst ha
  obtain ⟨cs, fz, h1⟩ := h a rfl
  exact ⟨cs, fz, (hg.block a.block (Array.getElem?_eq_some_iff.1 h1).1 (U8At.ne h hr)).trans h1⟩
theorem Has.grown {w w' : World} {A : Option Addr} {n c : Nat} {xs : List Value} {row : Option Nat} (h : Has w A n c xs) (hu : U8At w A) (hg : w.grownBy w' row) (hr : SecRow w row) : Has w' A n c xs :=
  ⟨h.len, h.cap, h.bare, fun hn => by
    obtain ⟨b, off, hA, hlt, hc⟩ := h.spot hn
    subst hA
    exact ⟨b, off, rfl, Nat.lt_of_lt_of_le hlt hg.size, fun j u hu' => hg.cell (hc j u hu') (U8At.ne (U8At.off hu) hr)⟩⟩
/-- The sections so far: a row of the call's own; their bytes lie elsewhere. -/
def SecsU (w : World) (base : Nat) (v : Value) (l : List Sec) : Prop := ∃ vs, OwnK 2 w base 48 v l.length (secCells vs) ∧ SecVs w vs l ∧ ∀ k A n c, (k, Value.slice A n c) ∈ vs → U8At w A
theorem SecsU.nil (w : World) (base : Nat) : SecsU w base (.slice none 0 0) [] := ⟨[], OwnK.nil _ _ _ _, ⟨rfl, fun i hi => absurd hi (by simp)⟩, fun _ _ _ _ h => by cases h⟩
theorem SecsU.keep {w w' : World} {base : Nat} {v : Value} {l : List Sec} (h : SecsU w base v l) (hb : Below w.heap.size w w') : SecsU w' base v l := by
  obtain ⟨vs, h1, h2, h3⟩ := h
  exact ⟨vs, h1.keep hb, h2.kept hb, fun k A n c hm => (h3 k A n c hm).kept hb⟩
theorem SecsU.has {w : World} {base : Nat} {v : Value} {l : List Sec} (h : SecsU w base v l) : ∃ A c, v = .slice A l.length c ∧ Secs w A l.length c l := by
  obtain ⟨vs, h1, h2, _⟩ := h
  exact OwnSecs.has ⟨vs, h1, h2⟩
theorem ownK_row {w : World} {base n : Nat} {v : Value} {xs : List Value} (h : OwnK 2 w base 48 v n xs) : SecRow w v.ownBlock := by
  intro g hg
  rcases h.2 with ⟨rfl, _⟩ | ⟨g', cap, cur, rfl, _, h3, _⟩
  · cases hg
  · cases hg; exact ⟨cur, _, h3⟩
/-- One more. -/
theorem SecsU.snoc {w w' : World} {base : Nat} {v v' : Value} {vs : List (Int × Value)} {l : List Sec} {k : Int} {A : Option Addr} {n c : Nat} {p : List Nat} (h1 : OwnK 2 w base 48 v l.length (secCells vs)) (h2 : SecVs w vs l)
    (h3 : ∀ k A n c, (k, Value.slice A n c) ∈ vs → U8At w A) (hp : Has w A n c (u8s p)) (hu : U8At w A) (hg : w.grownBy w' v.ownBlock) (ho : OwnK 2 w' base 48 v' (l.length + 1) (secCells vs ++ secCells [(k, .slice A n c)])) : SecsU w' base v' (l ++ [(k, p)]) := by
  have hr := ownK_row h1
  refine ⟨vs ++ [(k, .slice A n c)], ?_, SecVs.app ⟨h2.1, fun i hi => ?_⟩ (SecVs.single (hp.grown hu hg hr)), ?_⟩
  · rw [secCells_app, List.length_append]; exact ho
  · obtain ⟨A', n', c', e, hh⟩ := h2.2 i hi
    exact ⟨A', n', c', e, hh.grown (h3 _ _ _ _ (List.mem_of_getElem? e)) hg hr⟩
  · intro k' A' n' c' hm
    rcases List.mem_append.1 hm with hm | hm
    · exact (h3 _ _ _ _ hm).grown hg hr
    · simp at hm; obtain ⟨_, rfl, _, _⟩ := hm; exact hu.grown hg hr

set_option maxRecDepth 100000 in
set_option maxHeartbeats 1000000 in
theorem frameDec_any (A : Option Addr) (n c : Nat) (bs : List Nat) (w : World) (h : Has w A n c (u8s bs)) (hb : ∀ x ∈ bs, x < 256) (hn : n ≤ 90000) :
    Calls Try.prog 18 #[.slice A n c] w (Secd w (decN bs)) := by
  have HL : Hid (bs.length = n) := by have := h.len; rw [u8s_len] at this; exact this
  have HH := Lib.hid h
  have HBy := Lib.hid hb
  have HCk := Lib.hid (checkHead_any A n c bs w h hb (by omega))
  clear h hb
  go_enter Try.func18, Try.ntmps18
  go_wp2
  go_step3
  go_wp2_with fail
  refine HCk.out.mono ?_
  rintro e w1 ⟨E, rfl, hE, hb1⟩
  have HB1 := Lib.hid hb1
  clear hb1 HCk
  rcases hE with ⟨rfl, h5, hD⟩ | ⟨hE, hD⟩
  · have HD := Lib.hid hD
    rw [HL.out] at h5
    clear hD
    go_wp2
    go_step3
    go_wp2
    go_loopg [5, 6, 7] (n - 5) (fun g s5 s6 s7 wx => ∃ (k last : Nat) (l : List Sec), k + g = n ∧ 5 ≤ k ∧ l.length ≤ k ∧ s7 = .int .i64 (k : Int) ∧ s6 = .int .i64 (last : Int) ∧ Hid (decN bs = closeN ((bs.drop k).foldl stepN ⟨[], last, false, k, l, 0⟩)) ∧ Hid (SecsU wx w.heap.size s5 l) ∧ Hid (Below w.heap.size w wx))
    case atStart => exact ⟨5, 0, [], by omega, by omega, by simp, rfl, rfl, HD, SecsU.nil _ _, HB1⟩
    case round =>
      obtain ⟨k, last, l, hkg, hk5, hlk, rfl, rfl, HDk, HO, HB⟩ := hrel
      clear HD HB1
      by_cases hkn : k = n
      · have HE : Hid (decN bs = ([], 10)) := by
          show _ = _
          rw [HDk.out, sec_close _ _ _ _ hk5, List.drop_eq_nil_of_le (by rw [HL.out]; omega)]
        have te : ((k : Int) == (n : Int)) = true := by rw [hkn]; simp
        clear HDk
        go_wp2
        rw [Exit.noGoto_ret]
        go_ret2
        rw [HE.out]
        exact ⟨none, 0, rfl, Secs.none _, HB.out⟩
      · have te : ((k : Int) == (n : Int)) = false := by rw [beq_eq_false_iff_ne]; omega
        have hlt : k < bs.length := by rw [HL.out]; omega
        obtain ⟨b, off, rfl, _, hc⟩ := (HH.out.kept HB.out).spot (by omega)
        have hcell := hc k _ (u8s_at hlt)
        have hx8 := HBy.out _ (List.getElem_mem hlt)
        have hdr : bs.drop k = bs[k] :: bs.drop (k + 1) := List.drop_eq_getElem_cons hlt
        have hsc := sec_close (bs.drop k) last k l hk5
        rw [hdr] at hsc
        simp only at hsc
        rw [← hdr] at hsc
        have hhd : (bs.drop k).headD 0 = bs[k] := by rw [hdr]; rfl
        have HHd := Lib.hid hhd
        have HT : Hid (bs.drop (k + 1) ≠ [] ↔ k + 1 < n) := by
          show _ ↔ _
          rw [ne_eq, List.drop_eq_nil_iff, HL.out]; omega
        clear hc hdr hhd
        generalize bs[k] = x at *
        by_cases h0 : x = 0
        · subst h0
          rw [if_pos rfl] at hsc
          by_cases hmore : k + 1 < n
          · have HE : Hid (decN bs = ([], 11)) := by show _ = _; rw [HDk.out, hsc, if_pos (HT.out.2 hmore)]
            have tm : decide ((k : Int) + 1 < (n : Int)) = true := decide_eq_true (by omega)
            clear hsc HDk HT
            go_wp2
            rw [Exit.noGoto_ret]
            go_ret2
            rw [HE.out]
            exact ⟨none, 0, rfl, Secs.none _, HB.out⟩
          · have HE : Hid (decN bs = (l, 0)) := by show _ = _; rw [HDk.out, hsc, if_neg (fun h => hmore (HT.out.1 h)), if_neg (by omega)]
            have tm : decide ((k : Int) + 1 < (n : Int)) = false := decide_eq_false (by omega)
            have tl : decide ((1048576 : Int) < (k : Int) + 1) = false := decide_eq_false (by omega)
            obtain ⟨A5, c5, rfl, hh5⟩ := HO.out.has
            have HH5 := Lib.hid hh5
            clear hsc HDk HT hh5
            go_wp2
            rw [Exit.noGoto_ret]
            go_ret2
            rw [HE.out]
            exact ⟨A5, c5, rfl, HH5.out, HB.out⟩
        · rw [if_neg h0] at hsc
          have t0 : ((x : Int) == 0) = false := by rw [beq_eq_false_iff_ne]; omega
          have HRK := Lib.hid (rightKind_any (x : Int))
          by_cases h9 : 9 < x
          · have HE : Hid (decN bs = ([], 11)) := by show _ = _; rw [HDk.out, hsc, if_pos (Or.inr h9)]
            have hr : (!decide ((x : Int) < 1 ∨ 9 < (x : Int))) = false := by rw [decide_eq_true (by omega)]; rfl
            rw [hr] at HRK
            clear hsc HDk HT hr
            go_wp2_with (go_at_call 26; refine (HRK.out _).mono ?_; rintro e w' ⟨rfl, rfl⟩)
            rw [Exit.noGoto_ret]
            go_ret2
            rw [HE.out]
            exact ⟨none, 0, rfl, Secs.none _, HB.out⟩
          · have hr : (!decide ((x : Int) < 1 ∨ 9 < (x : Int))) = true := by rw [decide_eq_false (by omega)]; rfl
            rw [hr] at HRK
            by_cases hla : x ≤ last
            · have HE : Hid (decN bs = ([], 11)) := by show _ = _; rw [HDk.out, hsc, if_pos (Or.inl hla)]
              have tla : decide (x ≤ last) = true := decide_eq_true hla
              clear hsc HDk HT hr
              go_wp2_with (go_at_call 26; refine (HRK.out _).mono ?_; rintro e w' ⟨rfl, rfl⟩)
              rw [Exit.noGoto_ret]
              go_ret2
              rw [HE.out]
              exact ⟨none, 0, rfl, Secs.none _, HB.out⟩
            · have tla : decide (x ≤ last) = false := decide_eq_false hla
              rw [if_neg (by omega)] at hsc
              have HRs : Hid (decN bs = restN (bs.drop k) k l) := HDk.out.trans hsc
              have HSe := Lib.hid (section_any _ n c bs k wr (HH.out.kept HB.out) HBy.out hn (by omega))
              clear hsc HDk HT hr
              go_wp2_with (first
                | (go_at_call 26; refine (HRK.out _).mono ?_; rintro e w' ⟨rfl, rfl⟩)
                | fail)
              refine HSe.out.mono ?_
              rintro e w2 ⟨hb2, hcase⟩
              have HB2 := Lib.hid (new_call HB.out hb2)
              have HO2 := Lib.hid (HO.out.keep hb2)
              clear hb2 HSe
              rcases hcase with ⟨E, hE, rfl, hR⟩ | ⟨A3, n3, c3, m, p, rfl, hh3, hu3, hm1, hm2, hR⟩
              · have HE : Hid (decN bs = ([], E)) := HRs.out.trans (hR _ _)
                have te : ((E : Int) != 0) = true := by rw [bne_iff_ne]; omega
                clear hR hE
                go_wp2
                rw [Exit.noGoto_ret]
                go_ret2
                rw [HE.out]
                exact ⟨none, 0, rfl, Secs.none _, new_alloc HB2.out _⟩
              · have hD3 := HRs.out.trans (hR _ _)
                rw [HHd.out] at hD3
                have HD3 := Lib.hid hD3
                rw [HL.out] at hm2
                rw [HHd.out]
                have HH3 := Lib.hid hh3
                have HU3 := Lib.hid hu3
                obtain ⟨vs, hv1, hv2, hv3⟩ := HO2.out
                have HV3 := Lib.hid hv3
                have HV1 := Lib.hid hv1
                have HV2 := Lib.hid hv2
                have hz := HB2.out.size
                clear hR hD3 hh3 hu3 hv1 hv2 hv3 HRs HO2 HO
                go_wp2_with (at_builtin
                             refine wpList_joinK rfl _ _ 26 rfl elemSec (by decide) w.heap.size _ l.length (secCells vs) rfl ((HV1.out.alloc _).alloc _) _ 1 1 (secCells [((x : Int), .slice A3 n3 c3)]) rfl (HasK.new_at 2 _ #[_, _] _ _ 1 (by simp) rfl) ?_ (by omega) (by decide) (by simp; omega) ?_
                             · intro u hu; simp [secCells] at hu; rcases hu with rfl | rfl <;> rfl
                             intro v4 w4 hown4 hbel4 hgr4
                             have hb3 : Below w2.heap.size w2 ((w2.alloc (.cells #[.int .i64 (x : Int), .slice A3 n3 c3] 48)).alloc (.cells #[.int .i64 (x : Int), .slice A3 n3 c3] 48)) := new_alloc (new_alloc (Below.refl _ _) _) _
                             have HO4 : Hid (SecsU w4 w.heap.size v4 (l ++ [((x : Int), p)])) := SecsU.snoc ((HV1.out.alloc _).alloc _) (HV2.out.kept hb3) (fun k A n c hm => (HV3.out k A n c hm).kept hb3) (HH3.out.kept hb3) (HU3.out.kept hb3) hgr4 hown4
                             have HB4 : Hid (Below w.heap.size w w4) := (new_call HB2.out hb3).trans hbel4
                             clear hown4 hbel4 hgr4 hb3)
                go_roundg (gk - m)
                case measure => omega
                case rel => exact ⟨k + m, x, l ++ [((x : Int), p)], by omega, by omega, by rw [List.length_append, List.length_singleton]; omega, by go_num, rfl, HD3, HO4, HB4⟩
  · have HD := Lib.hid hD
    have te : ((E : Int) != 0) = true := by rw [bne_iff_ne]; omega
    clear hD hE
    go_wp2
    rw [Exit.noGoto_ret]
    go_ret2
    rw [HD.out]
    exact ⟨none, 0, rfl, Secs.none _, HB1.out⟩
end Go.Proofs.Ytdheppfooapneaa
