/- lapidaryref03.One. -/
import Derived.Test.YtbmdgoljjffjdaaFrameNums
import Derived.Outline
namespace Go.Proofs.Ytbmdgoljjffjdaa
open Go.RowKit

set_option maxRecDepth 100000 in
set_option maxHeartbeats 400000 in
theorem refOne_any (k : Int) (A : Option Addr) (n c : Nat) (bs : List Nat) (w : World) (h : Has w A n c (u8s bs)) (hb : ∀ x ∈ bs, x < 256) (hn : n ≤ 9000000000000000000) (hn2 : n ≤ 1048576 → n ≤ 90000) :
    Calls Try.prog 13 #[.agg #[.int .i64 k, .slice A n c]] w (Fixd w (oneN (k, bs))) := by
  have hl : bs.length = n := by have := h.len; rw [u8s_len] at this; exact this
  by_cases h1 : k < 1
  · have HF := Lib.hid (oneN_arg (s := (k, bs)) (Or.inl h1))
    have t1 : decide (k < 1) = true := by simpa using h1
    clear h hb hl
    go_enter Try.func13, Try.ntmps13
    go_wp2
    go_ret2
    rw [HF.out]
    exact ⟨_, rfl, Own.nil _ _ _, new_alloc (Below.refl _ _) _⟩
  · by_cases h9 : 9 < k
    · have HF := Lib.hid (oneN_arg (s := (k, bs)) (Or.inr h9))
      have t1 : decide (k < 1) = false := by simpa using h1
      have t9 : decide (9 < k) = true := by simpa using h9
      clear h hb hl
      go_enter Try.func13, Try.ntmps13
      go_wp2
      go_ret2
      rw [HF.out]
      exact ⟨_, rfl, Own.nil _ _ _, new_alloc (Below.refl _ _) _⟩
    · by_cases hlo : 1048576 < n
      · have HF := Lib.hid (oneN_long (s := (k, bs)) (by simp; omega) (by simp; omega))
        have t1 : decide (k < 1) = false := by simpa using h1
        have t9 : decide (9 < k) = false := by simpa using h9
        have tl : decide ((1048576 : Int) < (n : Int)) = true := by simp; omega
        clear h hb hl
        go_enter Try.func13, Try.ntmps13
        go_wp2
        go_ret2
        rw [HF.out]
        exact ⟨_, rfl, Own.nil _ _ _, new_alloc (Below.refl _ _) _⟩
      · have HF := Lib.hid (oneN_ok (s := (k, bs)) (by simp; omega) (by simp; omega))
        obtain ⟨K, rfl⟩ := Int.eq_ofNat_of_zero_le (show 0 ≤ k by omega)
        have HBy := Lib.hid (oneBody_byte (s := ((K : Int), bs)) (by simp; omega) hb)
        have HBl := Lib.hid (oneBody_len (s := ((K : Int), bs)) (by simp; omega))
        have HBe : Hid (oneBody ((K : Int), bs) = K :: (putN n ++ bs)) := by show _ = _; simp [oneBody, hl]
        have hpl := putN_len (n := n) (by omega)
        have HH := Lib.hid h
        have HL := Lib.hid hl
        have t1 : decide ((K : Int) < 1) = false := by simpa using h1
        have t9 : decide (9 < (K : Int)) = false := by simpa using h9
        have tl : decide ((1048576 : Int) < (n : Int)) = false := by simp; omega
        clear h hb hl
        go_enter Try.func13, Try.ntmps13
        go_wp2_with fail
        refine (refPut_any n _ (by omega)).mono ?_
        rintro e w1 ⟨A1, c1, rfl, hh1, ho1, hb1⟩
        have HH1 := Lib.hid hh1
        have HB1 := Lib.hid hb1
        have hz := hb1.size
        simp at hz
        have hcB : w1.cell? ⟨w.heap.size, 1, none⟩ = some (.slice A n c) := by
          rw [hb1.cell (p := ⟨w.heap.size, 1, none⟩) (by simp; omega)]
          rw [World.cell?_alloc_lt _ _ _ (by simp), World.cell?_alloc_at _ _ _ _ rfl]; rfl
        have HO1 : Hid (Own w1 (w.heap.size + 1) 5 (.slice (some ⟨w.heap.size + 1, 0, none⟩) 1 1) (u8s [K])) := by
          have h0 := Own.fresh (w.alloc (.cells #[.int .i64 (K : Int), .slice A n c] 33)) (w.heap.size + 1) #[.int .u8 (K : Int)] 5 (by simp) (by simp)
          have h1 := h0.keep hb1
          rw [show (w.alloc (.cells #[.int .i64 (K : Int), .slice A n c] 33)).heap.size = w.heap.size + 1 by simp] at h1
          exact h1
        have HBw := Lib.hid (new_call (new_alloc (new_alloc (Below.refl _ _) _) _) hb1)
        clear hh1 ho1 hb1
        go_wp2_with (first
          | (at_builtin
             refine wpList_join rfl _ _ 25 rfl elem8 (w.heap.size + 1) _ _ rfl HO1.out _ _ _ _ rfl HH1.out (u8s_one _) (by rw [u8s_len]; simp; omega) (by decide) (by omega) ?_
             intro v2 w2 hown2 hbel2
             clear HO1 HH1
             have hcB2 : w2.cell? ⟨w.heap.size, 1, none⟩ = some (.slice A n c) := (hbel2.cell (p := ⟨w.heap.size, 1, none⟩) (Nat.lt_succ_self _)).trans hcB
             have HO2 := Lib.hid hown2
             have HB2 := Lib.hid (HBw.out.trans (hbel2.mono (Nat.le_succ _)))
             have hz2 := Nat.le_trans hz hbel2.size
             clear hown2 hbel2)
          | (at_builtin
             refine wpList_join rfl _ _ 25 rfl elem8 (w.heap.size + 1) _ _ rfl HO2.out _ _ _ _ rfl (HH.out.kept HB2.out) (u8s_one _) (by rw [List.length_append, u8s_len, u8s_len]; simp; omega) (by decide) (by omega) ?_
             intro v3 w3 hown3 hbel3
             have e3 : u8s [K] ++ u8s (putN n) ++ u8s bs = u8s (oneBody ((K : Int), bs)) := by rw [HBe.out, ← u8s_app, ← u8s_app]; rfl
             rw [e3] at hown3
             clear e3
             have HO3 := Lib.hid hown3
             have HB3 := Lib.hid (HB2.out.trans (hbel3.mono (Nat.le_succ _)))
             clear hown3 hbel3 HO2))
        obtain ⟨A3, c3, rfl, hh3⟩ := HO3.out.has
        simp only [u8s_len] at hh3 ⊢
        refine (refSeal_any A3 _ c3 (oneBody ((K : Int), bs)) _ hh3 HBy.out (by have := HBl.out; rw [HL.out] at this; omega)).mono ?_
        rintro e w4 ⟨A4, c4, rfl, hh4, ho4, hb4⟩
        have HO4 := Lib.hid ho4
        have HB4 := Lib.hid (new_call HB3.out hb4)
        clear hh4 ho4 hb4
        go_wp2
        go_ret2
        rw [HF.out]
        exact ⟨_, rfl, HO4.out.less HB3.out.size, HB4.out⟩
end Go.Proofs.Ytbmdgoljjffjdaa
