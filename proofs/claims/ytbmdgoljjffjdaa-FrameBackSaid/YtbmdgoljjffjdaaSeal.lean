/- crc.Seal, crc.Check; lapidarylaw02.known. -/
import Derived.Test.YtbmdgoljjffjdaaOf
import Derived.Test.YtbmdgoljjffjdaaConcat
import Derived.Test.YtbmdgoljjffjdaaRefCheck
import Derived.Outline
namespace Go.Proofs.Ytbmdgoljjffjdaa
open Go.RowKit

set_option maxRecDepth 100000 in
theorem seal_any (A : Option Addr) (n c : Nat) (bs : List Nat) (w : World) (h : Has w A n c (u8s bs)) (hb : ∀ x ∈ bs, x < 256) (hn : n ≤ 100000000) :
    Calls Try.prog 31 #[.slice A n c] w (Wrote w (sealN bs)) := by
  have hlt := crcOf_lt hb
  have HO := Lib.hid (of_one A n c bs w 25 h hb (by omega))
  have hl : bs.length = n := by have := h.len; rw [u8s_len] at this; exact this
  have HF : Hid (∀ W, Calls Try.prog 38 #[.int .u64 (crcOf bs : Int), .int .i64 4] W (Fixd W (fixedN (crcOf bs) 4, 0))) := fun W => by
    have := fixed_any (crcOf bs) 4 W (by omega)
    rw [show fixed (crcOf bs) 4 = (fixedN (crcOf bs) 4, 0) from fixed_fits (W := 4) (by omega) (by omega) (by omega)] at this
    exact this
  have HH := Lib.hid h
  have HL := Lib.hid hl
  have HS : Hid (sealN bs = bs ++ fixedN (crcOf bs) 4) := rfl
  clear h hb hl
  generalize crcOf bs = x at *
  go_enter Try.func31, Try.ntmps31
  go_wp2_with fail
  refine HO.out.mono ?_
  rintro e w1 ⟨rfl, hb1⟩
  have HB1 := Lib.hid hb1
  clear hb1
  go_wp2_with fail
  refine (HF.out _).mono ?_
  rintro e w2 ⟨v2, rfl, ho2, hb2⟩
  obtain ⟨A2, c2, rfl, hh2⟩ := ho2.has
  have HH2 := Lib.hid hh2
  have HB2 := Lib.hid (new_call HB1.out hb2)
  clear hh2 hb2 ho2
  simp only [u8s_len, fixedN_len] at HH2 ⊢
  go_wp2_with (go_at_call 32; refine (concat_any _ 2 2 [bs, fixedN x 4] _ (Parts.two (HH.out.kept HB2.out) HH2.out _) (by decide) (by simp [HL.out, fixedN_len]; omega)).mono ?_; rintro e w3 ⟨A3, c3, rfl, hh3, ho3, hb3⟩)
  go_ret
  rw [HS.out]
  simp only [List.flatten_cons, List.flatten_nil, List.append_nil] at ho3
  have hz := HB2.out.size
  exact Wrote.of (by simpa using ho3.less (by simp; omega)) (new_call (new_alloc HB2.out _) hb3)

theorem fixed4 {x : Nat} (h : x < 4294967296) : val8 (fixedN x 4) = x := by
  simp [fixedN, dig, List.range_succ, val8]; omega
theorem fixed4_back {l : List Nat} (hl : l.length = 4) (h : ∀ y ∈ l, y < 256) : fixedN (val8 l) 4 = l := by
  match l, hl with
  | [a, b, c, d], _ =>
    have ha := h a (by simp)
    have hb := h b (by simp)
    have hc := h c (by simp)
    have hd := h d (by simp)
    simp only [fixedN, dig, List.range_succ, List.range_zero, val8, List.map_cons, List.map_nil, List.nil_append, List.cons_append]
    congr 1
    · omega
    · congr 1
      · omega
      · congr 1
        · omega
        · congr 1; omega
/-- The last four bytes are the checksum just if all is what is sealed. -/
theorem seal_iff {hd tl : List Nat} (h1 : ∀ y ∈ hd, y < 256) (h2 : ∀ y ∈ tl, y < 256) (hl : tl.length = 4) : sealN hd = hd ++ tl ↔ val8 tl = crcOf hd := by
  unfold sealN
  rw [List.append_cancel_left_eq]
  constructor
  · intro h; rw [← h]; exact fixed4 (crcOf_lt h1)
  · intro h; rw [← h]; exact fixed4_back hl h2

set_option maxRecDepth 100000 in
set_option maxHeartbeats 400000 in
theorem check_any (A : Option Addr) (n c : Nat) (bs : List Nat) (w : World) (h : Has w A n c (u8s bs)) (hb : ∀ x ∈ bs, x < 256) (hn : n ≤ 100000000) :
    Calls Try.prog 35 #[.slice A n c] w (Fixd w (checkN bs)) := by
  have hl : bs.length = n := by have := h.len; rw [u8s_len] at this; exact this
  by_cases h4 : n < 4
  · have HF := Lib.hid (checkN_short (bs := bs) (by omega))
    have t4 : decide ((n : Int) - 4 < 0) = true := by simp; omega
    clear h hb hl
    go_enter Try.func35, Try.ntmps35
    go_wp2
    go_ret2
    rw [HF.out]
    exact ⟨_, rfl, Own.nil _ _ _, Below.refl _ _⟩
  · have t4 : decide ((n : Int) - 4 < 0) = false := by simp; omega
    obtain ⟨b, off, rfl, _, _⟩ := h.spot (by omega)
    obtain ⟨k, hk⟩ : ∃ k, n = k + 4 := ⟨n - 4, by omega⟩
    have hcap := h.cap
    have hc0 : ¬ c = 0 := by omega
    have hhd := h.head (m := k) (by omega)
    rw [show (u8s bs).take k = u8s (bs.take k) by simp [u8s]] at hhd
    have hbk : ∀ x ∈ bs.take k, x < 256 := fun x hx => hb x (List.mem_of_mem_take hx)
    have hbt : ∀ x ∈ bs.drop k, x < 256 := fun x hx => hb x (List.mem_of_mem_drop hx)
    have hdl : (bs.drop k).length = 4 := by rw [List.length_drop]; omega
    have HI := Lib.hid (seal_iff hbk hbt hdl)
    rw [List.take_append_drop] at HI
    have HFd := Lib.hid (field_any (some ⟨b, off, none⟩) n c bs ((k : Nat) : Int) 4 w h hb (by omega) (by omega))
    rw [show field bs ((k : Nat) : Int) 4 = (val8 (bs.drop k), 0) by
      rw [show field bs ((k : Nat) : Int) 4 = (val8 ((bs.drop k).take 4), 0) from field_ok (W := 4) (by omega) (by omega), List.take_of_length_le (by omega)]] at HFd
    have hvl := val8_lt hbt
    rw [hdl] at hvl
    have HOf := Lib.hid (of_one (some ⟨b, off, none⟩) k c (bs.take k) w 25 hhd hbk (by omega))
    have hcr := crcOf_lt hbk
    have HC : Hid (∀ W, Below w.heap.size w W → Calls Try.prog 42 #[.slice (some ⟨b, off, none⟩) k c] W (Wrote W (bs.take k))) := fun W hW => clone_any _ k c (bs.take k) W (hhd.kept hW) (by omega)
    have HOk := Lib.hid (checkN_ok (bs := bs) (by omega))
    have HN := Lib.hid (checkN_sum (bs := bs) (by omega))
    rw [show bs.length - 4 = k by omega] at HOk HN
    have ek : ((n : Int) - 4) = (k : Int) := by omega
    subst hk
    have ek2 : (((k + 4 : Nat) : Int) - 4) = (k : Int) := by omega
    clear h hb hl h4 hhd hbk ek hbt hdl
    generalize bs.take k = hd at *
    generalize bs.drop k = tl at *
    generalize val8 tl = V at *
    generalize crcOf hd = X at *
    by_cases he : V = X
    · have HE := Lib.hid (HI.out.2 he)
      subst he
      go_enter Try.func35, Try.ntmps35
      go_wp2_with (first
        | (go_at_call 41; refine HFd.out.mono ?_; rintro e w' ⟨rfl, rfl⟩)
        | (go_at_call 39; refine HOf.out.mono ?_; rintro e w1 ⟨rfl, hb1⟩; have HB1 := Lib.hid hb1; clear hb1)
        | (go_at_call 42; refine (HC.out _ HB1.out).mono ?_; rintro e w2 ⟨A2, c2, rfl, hh2, ho2, hb2⟩))
      go_ret2
      rw [HOk.out HE.out]
      exact ⟨_, rfl, ho2.less HB1.out.size, new_call HB1.out hb2⟩
    · have HE := Lib.hid (fun h => he (HI.out.1 h))
      have te : ((V : Int) != (X : Int)) = true := by rw [bne_iff_ne]; omega
      go_enter Try.func35, Try.ntmps35
      go_wp2_with (first
        | (go_at_call 41; refine HFd.out.mono ?_; rintro e w' ⟨rfl, rfl⟩)
        | (go_at_call 39; refine HOf.out.mono ?_; rintro e w1 ⟨rfl, hb1⟩; have HB1 := Lib.hid hb1; clear hb1))
      go_ret2
      rw [HN.out HE.out]
      exact ⟨_, rfl, Own.nil _ _ _, HB1.out⟩
end Go.Proofs.Ytbmdgoljjffjdaa
