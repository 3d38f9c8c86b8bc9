/- Of any uint64, bytes ahead and behind, and cut: VintOnce answers true: a number's bytes are read as it, and no other. Conditions: none. -/
import Derived.Test.YtkpangelcboklaaKnown01
import Derived.Test.YtkpangelcboklaaOnce
import Derived.Test.YtkpangelcboklaaAll
import Derived.Test.YtkpangelcboklaaLaw
import Derived.Deep.RegionHeld3
import Derived.Deep.QuietTactic
import Derived.BigQuiet
namespace Go.Proofs.Ytkpangelcboklaa.vintOnce
open Go.ChangeShapes Go.WideShapes Go.ChangeAt Go.RowKit

theorem getEnd_le {bs : List Nat} (h : (get bs 0).2.2 = 0) : (get bs 0).2.1 ≤ bs.length := by
  unfold get at h ⊢
  rw [if_neg (by omega)] at h ⊢
  unfold getAt at h ⊢
  simp only [Int.toNat_zero, List.drop_zero] at h ⊢
  by_cases h0 : (scan 0 0 bs).2.2 = 0
  · rw [if_pos h0]
    have := (scan_size bs 0 0 h0).2
    simp only
    omega
  · rw [if_neg h0] at h
    exact absurd h h0

set_option maxRecDepth 100000 in
set_option maxHeartbeats 1000000 in
theorem walk (N : Int) (A : Option Addr) (n c : Nat) (l : List Nat) (B : Option Addr) (m d : Nat) (r : List Nat) (z : Int) (w : World) (hN : 0 ≤ N ∧ N ≤ 18446744073709551615)
    (hA : Has w A n c (u8s l)) (ha : ∀ x ∈ l, x < 256) (hn : n ≤ 9223372036854775807) (hB : Has w B m d (u8s r)) (hb : ∀ x ∈ r, x < 256) (hm : m ≤ 9223372036854775807) (hz : 0 ≤ z ∧ z ≤ 255) :
    Calls Try.prog 9 #[.int .u64 N, .slice A n c, .slice B m d, .int .u8 z] w fun e w' => e = .returned (.bool true) ∧ Below w.heap.size w w' := by
  obtain ⟨k, rfl⟩ := Int.eq_ofNat_of_zero_le hN.1
  have hln : l.length = n := by have := hA.len; rw [u8s_len] at this; exact this
  have hlm : r.length = m := by have := hB.len; rw [u8s_len] at this; exact this
  by_cases h1 : 400 < n
  · have t : decide ((400 : Int) < (n : Int)) = true := by simp; omega
    clear hA hB ha hb hln hlm
    go_enter Try.func9, Try.ntmps9
    go_wp2_with (go_at_call 12; refine (known01 _).mono ?_; rintro e w' ⟨rfl, hb⟩)
    go_ret
    exact ⟨rfl, hb⟩
  · have t : decide ((400 : Int) < (n : Int)) = false := by simp; omega
    by_cases h2 : 400 < m
    · have t2 : decide ((400 : Int) < (m : Int)) = true := by simp; omega
      clear hA hB ha hb hln hlm
      go_enter Try.func9, Try.ntmps9
      go_wp2_with (go_at_call 12; refine (known01 _).mono ?_; rintro e w' ⟨rfl, hb⟩)
      go_ret
      exact ⟨rfl, hb⟩
    · have t2 : decide ((400 : Int) < (m : Int)) = false := by simp; omega
      have HLN := Lib.hid hln
      have HLM := Lib.hid hlm
      have HA := Lib.hid hA
      have HB := Lib.hid hB
      have Ha := Lib.hid ha
      have Hb := Lib.hid hb
      have hpos := putN_pos k
      have hlen := putN_len (n := k) (by omega)
      clear hA hB ha hb hln hlm
      go_enter Try.func9, Try.ntmps9
      go_wp2_with fail
      refine (put_one k w (by omega) _ rfl).mono ?_
      rintro e w1 ⟨A1, c1, rfl, hh1, ho1, hb1⟩
      have HW1 := Lib.hid hh1
      have HB1 := Lib.hid (new_call (new_alloc (Below.refl _ _) _) hb1)
      clear hh1 ho1 hb1
      obtain ⟨K, hK⟩ : ∃ K, (putN k).length = K := ⟨_, rfl⟩
      rw [hK] at hpos hlen HW1
      rw [hK]
      have HK := Lib.hid hK
      clear hK
      have tK : ((K : Int) == 0) = false := beq_eq_false_iff_ne.2 (by omega)
      have HA1 := Lib.hid (HA.out.kept HB1.out)
      have HBk := Lib.hid (HB.out.kept HB1.out)
      go_wp2_with (first
        | (at_builtin; refine wpList_join rfl (.tmp 35) (.tmp 36) 24 rfl elem8 w1.heap.size _ [] rfl (Own.nil _ _ _) _ _ _ _ rfl HA1.out (u8s_one _) (by simp; omega) (by decide) (Nat.le_refl _) ?_; intro v2 w2 hown2 hbel2; have HO2 := Lib.hid hown2; have HB2 := Lib.hid hbel2; clear hown2 hbel2)
        | (at_builtin; refine wpList_join rfl (.tmp 38) (.tmp 39) 24 rfl elem8 w1.heap.size _ _ rfl HO2.out _ _ _ _ rfl (HW1.out.kept HB2.out) (u8s_one _) (by simp [u8s_len, HLN.out]; omega) (by decide) HB2.out.size ?_; intro v3 w3 hown3 hbel3; have HO3 := Lib.hid hown3; have HB3 := Lib.hid (HB2.out.trans hbel3); clear hown3 hbel3)
        | (at_builtin; refine wpList_join rfl (.tmp 41) (.tmp 42) 24 rfl elem8 w1.heap.size _ _ rfl HO3.out _ _ _ _ rfl (HBk.out.kept HB3.out) (u8s_one _) (by simp [u8s_len, HLN.out, HK.out]; omega) (by decide) HB3.out.size ?_; intro v4 w4 hown4 hbel4; have HO4 := Lib.hid hown4; have HB4 := Lib.hid (HB3.out.trans hbel4); clear hown4 hbel4)
        | fail)
      have e4 : [] ++ u8s l ++ u8s (putN k) ++ u8s r = u8s (l ++ (putN k ++ r)) := by rw [u8s_app, u8s_app]; simp
      rw [e4] at HO4
      clear e4
      obtain ⟨A4, c4, hv4, hh4⟩ := HO4.out.has
      rw [u8s_len, List.length_append, List.length_append, HK.out, HLN.out, HLM.out] at hv4 hh4
      subst hv4
      have hby : ∀ x ∈ l ++ (putN k ++ r), x < 256 := by
        intro x hx
        rcases List.mem_append.1 hx with h | h
        · exact Ha.out x h
        · rcases List.mem_append.1 h with h | h
          · exact putN_byte _ x h
          · exact Hb.out x h
      have HG1 := Lib.hid (get_any A4 _ c4 _ (n : Int) w4 hh4 hby (by omega))
      have e1 := get_put k l r (by omega)
      rw [HLN.out, HK.out] at e1
      rw [e1] at HG1
      clear e1 hby hh4
      refine HG1.out.mono ?_
      rintro e w' ⟨rfl, rfl⟩
      obtain ⟨j, hj⟩ : ∃ j : Nat, z % (K : Int) = j := ⟨(z % (K : Int)).toNat, by have := Int.emod_nonneg z (show (K : Int) ≠ 0 by omega); omega⟩
      have hjK : j < K := by have := Int.emod_lt_of_pos z (show (0 : Int) < (K : Int) by omega); omega
      obtain ⟨b1, o1, hA1, _, _⟩ := HW1.out.spot (by omega)
      subst hA1
      have hcap := HW1.out.cap
      have hc0 : ¬ c1 = 0 := by omega
      have HC := Lib.hid (get_any (some ⟨b1, o1, none⟩) j c1 ((putN k).take j) 0 w4 (by
        have := ((HW1.out.kept HB4.out).head (m := j) (by omega))
        rw [show (u8s (putN k)).take j = u8s ((putN k).take j) by simp [u8s]] at this
        exact this) (fun x hx => putN_byte k x (List.mem_of_mem_take hx)) (by omega))
      rw [get_cut k j (by omega) (by rw [HK.out]; exact hjK)] at HC
      have HR := Lib.hid (get_any B m d r 0 w4 (HBk.out.kept HB4.out) Hb.out (by omega))
      have HRB := Lib.hid (get_back r Hb.out)
      have hrlt := get_lt r 0
      have HRM : Hid ((get r 0).2.2 = 0 → (get r 0).2.1 ≤ m) := fun h => by
        have := getEnd_le h
        rw [HLM.out] at this; exact this
      have HRP : Hid ((get r 0).2.2 = 0 → 1 ≤ m) := fun h => by
        rcases Nat.eq_zero_or_pos m with h0 | h0
        · have hr0 := List.eq_nil_of_length_eq_zero (show r.length = 0 by rw [HLM.out]; exact h0)
          subst hr0
          exact absurd h (by decide)
        · exact h0
      generalize get r 0 = q at *
      go_wp2_with fail
      refine HC.out.mono ?_
      rintro e w' ⟨rfl, rfl⟩
      go_wp2_with fail
      refine HR.out.mono ?_
      rintro e w' ⟨rfl, rfl⟩
      by_cases hq : q.2.2 = 0
      · have tq : (((q.2.2 : Nat) : Int) == 0) = true := by rw [hq]; rfl
        have HP := Lib.hid (HRB.out hq)
        have hqm := HRM.out hq
        have HQ := Lib.hid hq
        clear hq
        have hq1 := HRP.out HQ.out
        obtain ⟨b2, o2, rfl, hb2, hc2⟩ := HBk.out.spot (by omega)
        have hd0 : ¬ d = 0 := by have := HBk.out.cap; omega
        have hqd : q.2.1 ≤ d := by have := HBk.out.cap; omega
        have i1 : (0 : Int) ≤ ((q.2.1 : Nat) : Int) := by omega
        have i2 : ((q.2.1 : Nat) : Int) ≤ (d : Int) := by omega
        have HBq : Hid (Has w4 (some ⟨b2, o2, none⟩) q.2.1 d (u8s (putN q.1))) := by
          show Has _ _ _ _ _
          have := (HBk.out.kept HB4.out).head (m := q.2.1) (by omega)
          rw [show (u8s r).take q.2.1 = u8s (r.take q.2.1) by simp [u8s], ← HP.out] at this
          exact this
        have HZ := Lib.hid (new_call HB1.out HB4.out)
        clear hc2 HRB HRM HP HBk HB1 HB2 HB3 HB4 HO2 HO3 HO4 HW1 HA HB HA1 Ha Hb HLN HLM HQ HRP HR HC hb2
        have hPut := put_has (some ⟨w4.heap.size, 0, none⟩) 1 1 [q.1] (w4.alloc (.cells #[.int .u64 (q.1 : Int)] 26)).drew (Has.drew (by exact Has.new w4 #[.int .u64 (q.1 : Int)] _)) (by simpa using hrlt) (by decide)
        rw [putAll_one] at hPut
        have HPut := Lib.hid hPut
        clear hPut
        go_wp2
        go_region_held3 (fun _ => True) (trivial) (first
          | (go_at_call 15; refine HPut.out.mono ?_; rintro e w5 ⟨A5, c5, rfl, hh5, ho5, hb5⟩; have HH5 := Lib.hid hh5; have HB5 := Lib.hid (new_call ((Below.refl _ w4).alloc (Nat.le_refl _) (.cells #[.int .u64 (q.1 : Int)] 26)).drew hb5); clear hh5 ho5 hb5)
          | (go_at_call 14; refine (same_any _ _ _ _ _ _ (putN q.1) (putN q.1) _ HH5.out (HBq.out.kept HB5.out) (putN_byte _) (putN_byte _)).mono ?_; rintro e w' ⟨rfl, rfl⟩))
        go_wp2_with (go_at_call 12; refine (known01 _).mono ?_; rintro e w' ⟨rfl, hb⟩)
        go_ret
        exact ⟨rfl, new_call (new_call HZ.out HB5.out) hb⟩
      · have tq : (((q.2.2 : Nat) : Int) == 0) = false := beq_eq_false_iff_ne.2 (by omega)
        clear hq
        go_wp2
        go_quiet (fail)
        go_wp2_with (go_at_call 12; refine (known01 _).mono ?_; rintro e w' ⟨rfl, hb⟩)
        go_ret
        have h4 := new_call HB1.out HB4.out
        exact ⟨rfl, new_call (w1 := w4.drewN nq) ⟨h4.os, h4.tape, h4.output, h4.size, h4.block⟩ hb⟩

set_option maxRecDepth 100000 in
theorem lifted (os : Os) (started : os.Started) (H : Type) (enc : TypeId × Value → H) :
    ReturnsInHanded {} Try.checked os 9 .any (Rows.vintOnceSpec.pre6 enc Try.prog Try.f9 Rows.vintOnceRow.domain false) (Rows.vintOnceSpec.post enc Try.prog Try.f9 false true false false) := by
  refine returnsInHanded_of_change (C := Try.checked) Try.own started (by kernel_rfl) Try.func9
    (ChangeSpec.witness6 (enc := enc) (C := Try.checked) false ⟨#[], #[.int .u64 0, .slice none 0 0, .slice none 0 0, .int .u8 0], []⟩ 8 (by kernel_rfl) (by kernel_rfl) (by kernel_rfl) (by kernel_rfl)) ?_
  intro W base args ds gs before hval0 hW _ _
  have hval : ∀ (j : Nat) t v, Try.f9.params[j]? = some t → args[j]? = some v → Value.okWide Try.prog W .any base t v := hval0
  have hW' := hW
  obtain ⟨p, q, hA0, hV, rfl, _, _⟩ := hW
  have hA : DataW.TrodAll enc Try.prog W 0 (fun _ => true) true Try.f9.params.toList args.toList ds p := hA0
  rw [Try.params9] at hA hval
  obtain ⟨v0, v1, v2, v3, d0, d1, d2, d3, p0, p1, p2, p3, rfl, rfl, rfl, h0, h1, h2, h3⟩ := trodAll_four hA
  obtain ⟨rfl, rfl⟩ := trodVars_none hV
  obtain ⟨a0, rfl, rfl, rfl, w0⟩ := open_int Try.underlying26 (hval 0 26 v0 rfl rfl) h0
  obtain ⟨A1, n1, c1, bs1, rfl, hh1, hb1, hn1⟩ := open_bytes (hval 1 24 v1 rfl rfl) h1
  obtain ⟨A2, n2, c2, bs2, rfl, hh2, hb2, hn2⟩ := open_bytes (hval 2 24 v2 rfl rfl) h2
  obtain ⟨a3, rfl, rfl, rfl, w3⟩ := open_int Try.underlying5 (hval 3 5 v3 rfl rfl) h3
  exact (walk a0 A1 n1 c1 bs1 A2 n2 c2 bs2 a3 W (wf_u64 w0) hh1 hb1 hn1 hh2 hb2 hn2 (wf_u8 w3)).mono fun e W' he =>
    law_post rfl rfl (by rw [Try.params9]; intro t ht; simp at ht; rcases ht with rfl | rfl | rfl | rfl <;> exact ⟨by kernel_rfl, of_decide_eq_true (by kernel_rfl)⟩) hW' rfl he

theorem proved : Rows.VintOnceSaid :=
  OpenClaim.holds_of_wide 9 Try.f9 rfl rfl rfl rfl rfl rfl rfl ⟨rfl, rfl, rfl, rfl, rfl⟩ rfl rfl rfl rfl rfl (by kernel_rfl) Try.func9 (by kernel_rfl)
    (of_decide_eq_true (by kernel_rfl)) (by unfold Func.isWrapper; first | (rw [if_pos (by decide +kernel)]; kernel_rfl) | (rw [if_neg (by decide +kernel)]; exact ⟨rfl, rfl⟩))
    (fun os started H enc _ => lifted os started H enc)
end Go.Proofs.Ytkpangelcboklaa.vintOnce
