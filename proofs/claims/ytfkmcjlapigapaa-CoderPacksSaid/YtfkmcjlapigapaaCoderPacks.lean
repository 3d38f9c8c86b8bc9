/- Of any bytes, any number and any bytes CoderPacks answers true: bytes are packed, and unpacked, as the document says; packed and unpacked they are as they were. Conditions: none. -/
import Derived.Test.YtfkmcjlapigapaaKnown06
import Derived.Test.YtfkmcjlapigapaaLawCodes
import Derived.Test.YtfkmcjlapigapaaCoderLaw
namespace Go.Proofs.Ytfkmcjlapigapaa.coderPacks
open Go.ChangeShapes Go.WideShapes Go.ChangeAt Go.RowKit

theorem intVs_zero (n : Nat) : List.replicate n (Value.int .i64 0) = intVs (List.replicate n 0) := by simp [intVs]
set_option maxRecDepth 100000 in
set_option maxHeartbeats 2000000 in
theorem walk (A : Option Addr) (n c : Nat) (l : List Nat) (k : Int) (B : Option Addr) (nb cb : Nat) (bs : List Nat) (w : World) (hh : Has w A n c (u8s l)) (hb0 : ∀ x ∈ l, x < 256) (hby0 : n ≤ 9223372036854775807) (_hk : -9223372036854775808 ≤ k ∧ k ≤ 9223372036854775807) (hbb : Has w B nb cb (u8s bs)) (hbby : ∀ x ∈ bs, x < 256) (hnb : nb ≤ 9223372036854775807) :
    Calls Try.prog 6 #[.slice A n c, .int .i64 k, .slice B nb cb] w fun e w' => e = .returned (.bool true) ∧ Below w.heap.size w w' := by
  by_cases h1 : 200 < n
  · have t : decide ((200 : Int) < (n : Int)) = true := by simp; omega
    clear hh hb0 hby0 hbb hbby
    go_enter Try.func6, Try.ntmps6
    go_wp2_with (go_at_call 11; refine (known06 _).mono ?_; rintro e w' ⟨rfl, hb⟩)
    go_ret
    exact ⟨rfl, hb⟩
  have t1 : decide ((200 : Int) < (n : Int)) = false := by simp; omega
  by_cases h2 : 400 < nb
  · have t : decide ((400 : Int) < (nb : Int)) = true := by simp; omega
    clear hh hb0 hby0 hbb hbby
    go_enter Try.func6, Try.ntmps6
    go_wp2_with (go_at_call 11; refine (known06 _).mono ?_; rintro e w' ⟨rfl, hb⟩)
    go_ret
    exact ⟨rfl, hb⟩
  have t2 : decide ((400 : Int) < (nb : Int)) = false := by simp; omega
  by_cases h3 : 100 < k ∧ k ≤ 65536
  · have t : decide ((100 : Int) < k) = true := by simp; omega
    have t' : decide (k ≤ (65536 : Int)) = true := by simp; omega
    clear hh hb0 hby0 hbb hbby
    go_enter Try.func6, Try.ntmps6
    go_wp2_with (go_at_call 11; refine (known06 _).mono ?_; rintro e w' ⟨rfl, hb⟩)
    go_ret
    exact ⟨rfl, hb⟩
  have hl : l.length = n := by have := hh.len; rw [u8s_len] at this; exact this
  obtain ⟨b, hb⟩ := enc_codes (bs := l) (by omega) hb0
  have hun := unp_hit hb
  rw [hl] at hun
  have hlong := enc_long hb
  have HBt : Hid (∀ x ∈ b, x < 256) := by have := enc_bytes [256] (codesC l); rw [hb] at this; exact this
  have hbl : b.length ≤ 605 := by have := hlong.2.1; simp [codesC] at this; omega
  have HE := Lib.hid hb
  have HU := Lib.hid hun
  have HH := Lib.hid hh
  have HBb := Lib.hid hbb
  have HL0 := Lib.hid hb0
  have HBy := Lib.hid hbby
  have HLl := Lib.hid hl
  clear hb hun hlong hh hbb hb0 hbby hl hby0
  have HP := Lib.hid (coderPack_any A n c l w HH.out HL0.out (by omega))
  rw [HE.out] at HP
  by_cases hk0 : k < 0
  · have t3 : decide ((100 : Int) < k) = false := by simp; omega
    have t4 : decide (k < (0 : Int)) = true := by simp; omega
    have t5 : decide ((0 : Int) < k) = false := by simp; omega
    have HX : Hid (unpC k bs = ([], 2)) := if_pos hk0
    go_enter Try.func6, Try.ntmps6
    go_wp2_with fail
    refine HP.out.mono ?_
    rintro e w1 ⟨A1, c1, rfl, hh1, hb1⟩
    have HH1 := Lib.hid hh1
    have HB1 := Lib.hid hb1
    clear hh1 hb1
    have HC := Lib.hid (ref6Codes_any A n c l (w1.alloc (.cells #[.int .i64 256] 3)) ((HH.out.kept HB1.out).kept (new_alloc (Below.refl _ _) _)) HL0.out (by omega))
    have HI2 := Lib.hid (Has.one w1 (.int .i64 256) 3)
    have HH1a := Lib.hid (HH1.out.kept (new_alloc (Below.refl _ w1) (.cells #[.int .i64 256] 3)))
    have HB1a := Lib.hid (new_alloc HB1.out (.cells #[.int .i64 256] 3))
    go_wp2_with fail
    refine HC.out.mono ?_
    rintro e w2 ⟨A2, c2, rfl, hh2, hb2⟩
    have HEn := Lib.hid (ref6Enc_any (some ⟨w1.heap.size, 0, none⟩) 1 1 [256] A2 n c2 (codesC l) w2 (HI2.out.kept hb2) hh2 (by omega) (by omega))
    rw [HE.out] at HEn
    have HH1b := Lib.hid (HH1a.out.kept hb2)
    have HB2 := Lib.hid (new_call HB1a.out hb2)
    clear hh2 hb2 HC HI2 HH1 HB1 HH1a HB1a
    go_wp2_with fail
    refine HEn.out.mono ?_
    rintro e w3 ⟨A3, c3, rfl, hh3, hb3⟩
    have HH3 := Lib.hid hh3
    have HH1c := Lib.hid (HH1b.out.kept hb3)
    have HB3 := Lib.hid (new_call HB2.out hb3)
    clear hh3 hb3 HEn HH1b HB2
    have HUn := Lib.hid (coderUnpack_any (n : Int) A1 _ c1 b w3 (Or.inl (by omega)) HH1c.out HBt.out (by omega))
    rw [HU.out] at HUn
    go_wp2_with fail
    refine HUn.out.mono ?_
    rintro e w4 ⟨A4, c4, rfl, hh4, hb4⟩
    have HS1 := Lib.hid (same_any A1 A3 _ c1 _ c3 _ _ w4 (HH1c.out.kept hb4) (HH3.out.kept hb4) HBt.out HBt.out)
    rw [decide_eq_true (rfl : b = b)] at HS1
    have HB4 := Lib.hid (new_call HB3.out hb4)
    have HS2 := Lib.hid (same_any A4 A _ c4 _ c _ _ w4 hh4 (HH.out.kept HB4.out) HL0.out HL0.out)
    rw [decide_eq_true (rfl : l = l)] at HS2
    clear hh4 hb4 HUn HH3 HH1c HB3
    go_wp2_with fail
    refine HS1.out.mono ?_
    rintro e w5 ⟨rfl, rfl⟩
    go_wp2_with fail
    refine HS2.out.mono ?_
    rintro e w5 ⟨rfl, rfl⟩
    have HUk := Lib.hid (coderUnpack_any k B nb cb bs w4 (Or.inl (by omega)) (HBb.out.kept HB4.out) HBy.out (by omega))
    go_wp2_with fail
    rw [HX.out] at HUk
    refine HUk.out.mono ?_
    rintro e w6 ⟨A6, c6, rfl, _, hb6⟩
    have HB6 := Lib.hid (new_call HB4.out hb6)
    clear hb6
    go_wp2_with (go_at_call 11; refine (known06 _).mono ?_; rintro e w' ⟨rfl, hb⟩)
    go_ret
    exact ⟨rfl, new_call HB6.out hb⟩
  by_cases hk1 : 65536 < k
  · have t3 : decide ((100 : Int) < k) = true := by simp; omega
    have t3' : decide (k ≤ (65536 : Int)) = false := by simp; omega
    have t4 : decide (k < (0 : Int)) = false := by simp; omega
    have t4' : decide ((65536 : Int) < k) = true := by simp; omega
    have t5 : decide ((0 : Int) < k) = true := by simp; omega
    have HX : Hid (unpC k bs = ([], 3)) := by show _ = _; unfold unpC; rw [if_neg hk0, if_pos hk1]
    go_enter Try.func6, Try.ntmps6
    go_wp2_with fail
    refine HP.out.mono ?_
    rintro e w1 ⟨A1, c1, rfl, hh1, hb1⟩
    have HH1 := Lib.hid hh1
    have HB1 := Lib.hid hb1
    clear hh1 hb1
    have HC := Lib.hid (ref6Codes_any A n c l (w1.alloc (.cells #[.int .i64 256] 3)) ((HH.out.kept HB1.out).kept (new_alloc (Below.refl _ _) _)) HL0.out (by omega))
    have HI2 := Lib.hid (Has.one w1 (.int .i64 256) 3)
    have HH1a := Lib.hid (HH1.out.kept (new_alloc (Below.refl _ w1) (.cells #[.int .i64 256] 3)))
    have HB1a := Lib.hid (new_alloc HB1.out (.cells #[.int .i64 256] 3))
    go_wp2_with fail
    refine HC.out.mono ?_
    rintro e w2 ⟨A2, c2, rfl, hh2, hb2⟩
    have HEn := Lib.hid (ref6Enc_any (some ⟨w1.heap.size, 0, none⟩) 1 1 [256] A2 n c2 (codesC l) w2 (HI2.out.kept hb2) hh2 (by omega) (by omega))
    rw [HE.out] at HEn
    have HH1b := Lib.hid (HH1a.out.kept hb2)
    have HB2 := Lib.hid (new_call HB1a.out hb2)
    clear hh2 hb2 HC HI2 HH1 HB1 HH1a HB1a
    go_wp2_with fail
    refine HEn.out.mono ?_
    rintro e w3 ⟨A3, c3, rfl, hh3, hb3⟩
    have HH3 := Lib.hid hh3
    have HH1c := Lib.hid (HH1b.out.kept hb3)
    have HB3 := Lib.hid (new_call HB2.out hb3)
    clear hh3 hb3 HEn HH1b HB2
    have HUn := Lib.hid (coderUnpack_any (n : Int) A1 _ c1 b w3 (Or.inl (by omega)) HH1c.out HBt.out (by omega))
    rw [HU.out] at HUn
    go_wp2_with fail
    refine HUn.out.mono ?_
    rintro e w4 ⟨A4, c4, rfl, hh4, hb4⟩
    have HS1 := Lib.hid (same_any A1 A3 _ c1 _ c3 _ _ w4 (HH1c.out.kept hb4) (HH3.out.kept hb4) HBt.out HBt.out)
    rw [decide_eq_true (rfl : b = b)] at HS1
    have HB4 := Lib.hid (new_call HB3.out hb4)
    have HS2 := Lib.hid (same_any A4 A _ c4 _ c _ _ w4 hh4 (HH.out.kept HB4.out) HL0.out HL0.out)
    rw [decide_eq_true (rfl : l = l)] at HS2
    clear hh4 hb4 HUn HH3 HH1c HB3
    go_wp2_with fail
    refine HS1.out.mono ?_
    rintro e w5 ⟨rfl, rfl⟩
    go_wp2_with fail
    refine HS2.out.mono ?_
    rintro e w5 ⟨rfl, rfl⟩
    have HUk := Lib.hid (coderUnpack_any k B nb cb bs w4 (Or.inr hk1) (HBb.out.kept HB4.out) HBy.out (by omega))
    go_wp2_with fail
    rw [HX.out] at HUk
    refine HUk.out.mono ?_
    rintro e w6 ⟨A6, c6, rfl, _, hb6⟩
    have HB6 := Lib.hid (new_call HB4.out hb6)
    clear hb6
    go_wp2_with (go_at_call 11; refine (known06 _).mono ?_; rintro e w' ⟨rfl, hb⟩)
    go_ret
    exact ⟨rfl, new_call HB6.out hb⟩
  obtain ⟨K, rfl⟩ := Int.eq_ofNat_of_zero_le (show 0 ≤ k by omega)
  have t3 : decide ((100 : Int) < (K : Int)) = false := by simp; omega
  have t4' : decide ((65536 : Int) < (K : Int)) = false := by simp; omega
  have t4 : decide ((K : Int) < (0 : Int)) = false := by simp
  obtain ⟨u1, u2, u3, u4⟩ := unp_is (n := K) (by omega) bs
  have HU1 := Lib.hid u1
  have HU2 := Lib.hid u2
  have HU3 := Lib.hid u3
  clear u1 u2 u3
  go_enter Try.func6, Try.ntmps6
  go_wp2_with fail
  refine HP.out.mono ?_
  rintro e w1 ⟨A1, c1, rfl, hh1, hb1⟩
  have HH1 := Lib.hid hh1
  have HB1 := Lib.hid hb1
  clear hh1 hb1
  have HC := Lib.hid (ref6Codes_any A n c l (w1.alloc (.cells #[.int .i64 256] 3)) ((HH.out.kept HB1.out).kept (new_alloc (Below.refl _ _) _)) HL0.out (by omega))
  have HI2 := Lib.hid (Has.one w1 (.int .i64 256) 3)
  have HH1a := Lib.hid (HH1.out.kept (new_alloc (Below.refl _ w1) (.cells #[.int .i64 256] 3)))
  have HB1a := Lib.hid (new_alloc HB1.out (.cells #[.int .i64 256] 3))
  go_wp2_with fail
  refine HC.out.mono ?_
  rintro e w2 ⟨A2, c2, rfl, hh2, hb2⟩
  have HEn := Lib.hid (ref6Enc_any (some ⟨w1.heap.size, 0, none⟩) 1 1 [256] A2 n c2 (codesC l) w2 (HI2.out.kept hb2) hh2 (by omega) (by omega))
  rw [HE.out] at HEn
  have HH1b := Lib.hid (HH1a.out.kept hb2)
  have HB2 := Lib.hid (new_call HB1a.out hb2)
  clear hh2 hb2 HC HI2 HH1 HB1 HH1a HB1a
  go_wp2_with fail
  refine HEn.out.mono ?_
  rintro e w3 ⟨A3, c3, rfl, hh3, hb3⟩
  have HH3 := Lib.hid hh3
  have HH1c := Lib.hid (HH1b.out.kept hb3)
  have HB3 := Lib.hid (new_call HB2.out hb3)
  clear hh3 hb3 HEn HH1b HB2
  have HUn := Lib.hid (coderUnpack_any (n : Int) A1 _ c1 b w3 (Or.inl (by omega)) HH1c.out HBt.out (by omega))
  rw [HU.out] at HUn
  go_wp2_with fail
  refine HUn.out.mono ?_
  rintro e w4 ⟨A4, c4, rfl, hh4, hb4⟩
  have HS1 := Lib.hid (same_any A1 A3 _ c1 _ c3 _ _ w4 (HH1c.out.kept hb4) (HH3.out.kept hb4) HBt.out HBt.out)
  rw [decide_eq_true (rfl : b = b)] at HS1
  have HB4 := Lib.hid (new_call HB3.out hb4)
  have HS2 := Lib.hid (same_any A4 A _ c4 _ c _ _ w4 hh4 (HH.out.kept HB4.out) HL0.out HL0.out)
  rw [decide_eq_true (rfl : l = l)] at HS2
  clear hh4 hb4 HUn HH3 HH1c HB3
  go_wp2_with fail
  refine HS1.out.mono ?_
  rintro e w5 ⟨rfl, rfl⟩
  go_wp2_with fail
  refine HS2.out.mono ?_
  rintro e w5 ⟨rfl, rfl⟩
  have HUk := Lib.hid (coderUnpack_any (K : Int) B nb cb bs w4 (Or.inl (by omega)) (HBb.out.kept HB4.out) HBy.out (by omega))
  go_wp2_with fail
  refine HUk.out.mono ?_
  rintro e w6 ⟨A6, c6, rfl, hh6, hb6⟩
  have HH6 := Lib.hid hh6
  have HB6 := Lib.hid (new_call HB4.out hb6)
  clear hh6 hb6 HUk HS1 HS2 HB4
  rw [HU2.out]
  generalize hq : (unpC (K : Int) bs).1 = pp at *
  clear hq
  have HI6 := Lib.hid (Has.one w6 (.int .i64 256) 3)
  have HH6a := Lib.hid (HH6.out.kept (new_alloc (Below.refl _ w6) (.cells #[.int .i64 256] 3)))
  have HB6a := Lib.hid (new_alloc HB6.out (.cells #[.int .i64 256] 3))
  have hz6 := (new_alloc (Below.refl _ w6) (.cells #[.int .i64 256] 3)).size
  go_wp2_with (at_make
               refine wpList_made rfl _ _ 22 rfl elemI (.int .i64 0) (by kernel_rfl) rfl (w6.alloc (.cells #[.int .i64 256] 3)).heap.size .i64 .i64 _ _ K rfl rfl (by first | rfl | omega) (by first | rfl | omega) (by omega) (by decide) (Nat.le_refl _) ?_
               intro w7 hown7 hbel7
               rw [intVs_zero] at hown7
               have HM7 := Lib.hid hown7
               have HI7 := Lib.hid (HI6.out.kept hbel7)
               have HH7 := Lib.hid (HH6a.out.kept hbel7)
               have HB7 := Lib.hid (new_call HB6a.out hbel7)
               clear hown7 hbel7)
  have HM8 : Hid (Has w7 (some ⟨w6.heap.size + 1, 0, none⟩) K K (intVs (List.replicate K 0))) := by
    obtain ⟨Am, cm, em, hm⟩ := HM7.out.has
    rw [intVs_len, List.length_replicate] at em hm
    rw [show (w6.alloc (.cells #[.int .i64 256] 3)).heap.size = w6.heap.size + 1 by simp] at em
    cases em
    exact hm
  have HDc := Lib.hid (ref6Dec_any (some ⟨w6.heap.size, 0, none⟩) 1 1 [256] (some ⟨w6.heap.size + 1, 0, none⟩) K K (List.replicate K 0) B nb cb bs w7 HI7.out HM8.out (HBb.out.kept HB7.out) HBy.out (by omega) (by omega) (by omega))
  clear HM7 HI6 HH6 HB6 HH6a HB6a HI7
  refine HDc.out.mono ?_
  rintro e w8 ⟨A8, c8, rfl, hh8, hb8⟩
  have HH8 := Lib.hid hh8
  have HH7a := Lib.hid (HH7.out.kept hb8)
  have HB8 := Lib.hid (new_call HB7.out hb8)
  clear hh8 hb8 HH7 HB7 HDc HM8
  rw [← HU1.out] at HH8 ⊢
  generalize (decAll [256] (List.replicate K 0) bs).2 = er at *
  have hcl : (codesC pp).length = pp.length := by simp [codesC]
  rw [hcl] at HH8 ⊢
  clear hcl
  have HCo := Lib.hid (ref6Codes_any A6 pp.length c6 pp w8 HH7a.out HU3.out (by omega))
  go_wp2_with fail
  refine HCo.out.mono ?_
  rintro e w9 ⟨A9, c9, rfl, hh9, hb9⟩
  have HSm := Lib.hid (ref6Same_any A9 pp.length c9 _ A8 pp.length c8 _ w9 hh9 (HH8.out.kept hb9) (by omega))
  rw [decide_eq_true (rfl : codesC pp = codesC pp)] at HSm
  have HB9 := Lib.hid (new_call HB8.out hb9)
  clear hh9 hb9 HCo HH8 HB8
  go_wp2_with fail
  refine HSm.out.mono ?_
  rintro e w10 ⟨rfl, q, rfl⟩
  have HB10 := Lib.hid (new_call HB9.out (quiet_below w9 q))
  generalize w9.drewN q = w10 at *
  go_wp2_with (go_at_call 11; refine (known06 _).mono ?_; rintro e w' ⟨rfl, hb⟩)
  go_ret
  exact ⟨rfl, new_call HB10.out hb⟩

set_option maxRecDepth 100000 in
theorem lifted (os : Os) (started : os.Started) (H : Type) (enc : TypeId × Value → H) :
    ReturnsInHanded {} Try.checked os 6 .any (Rows.coderPacksSpec.pre6 enc Try.prog Try.f6 Rows.coderPacksRow.domain false) (Rows.coderPacksSpec.post enc Try.prog Try.f6 false true false false) := by
  refine returnsInHanded_of_change (C := Try.checked) Try.own started (by kernel_rfl) Try.func6
    (ChangeSpec.witness6 (enc := enc) (C := Try.checked) false ⟨#[], #[.slice none 0 0, .int .i64 0, .slice none 0 0], []⟩ 8 (by kernel_rfl) (by kernel_rfl) (by kernel_rfl) (by kernel_rfl)) ?_
  intro W base args ds gs before hval0 hW _ _
  have hval : ∀ (j : Nat) t v, Try.f6.params[j]? = some t → args[j]? = some v → Value.okWide Try.prog W .any base t v := hval0
  have hW' := hW
  obtain ⟨p, q, hA0, hV, rfl, _, _⟩ := hW
  have hA : DataW.TrodAll enc Try.prog W 0 (fun _ => true) true Try.f6.params.toList args.toList ds p := hA0
  rw [Try.params6] at hA hval
  obtain ⟨v0, v1, v2, d0, d1, d2, p0, p1, p2, rfl, rfl, rfl, h0, h1, h2⟩ := trodAll_three hA
  obtain ⟨rfl, rfl⟩ := trodVars_none hV
  obtain ⟨A0, n0, c0, bs0, rfl, hh0, hb0, hn0⟩ := open_bytes (hval 0 25 v0 rfl rfl) h0
  obtain ⟨a1, rfl, rfl, rfl, w1⟩ := open_int Try.underlying3 (hval 1 3 v1 rfl rfl) h1
  obtain ⟨A2, n2, c2, bs2, rfl, hh2, hb2, hn2⟩ := open_bytes (hval 2 25 v2 rfl rfl) h2
  exact (walk A0 n0 c0 bs0 a1 A2 n2 c2 bs2 W hh0 hb0 hn0 (wf_i64 w1) hh2 hb2 hn2).mono fun e W' he =>
    law_post rfl rfl (by rw [Try.params6]; intro t ht; simp at ht; rcases ht with rfl | rfl | rfl <;> exact ⟨by kernel_rfl, of_decide_eq_true (by kernel_rfl)⟩) hW' rfl he

theorem proved : Rows.CoderPacksSaid :=
  OpenClaim.holds_of_wide 6 Try.f6 rfl rfl rfl rfl rfl rfl rfl ⟨rfl, rfl, rfl, rfl, rfl⟩ rfl rfl rfl rfl rfl (by kernel_rfl) Try.func6 (by kernel_rfl)
    (of_decide_eq_true (by kernel_rfl)) (by unfold Func.isWrapper; first | (rw [if_pos (by decide +kernel)]; kernel_rfl) | (rw [if_neg (by decide +kernel)]; exact ⟨rfl, rfl⟩))
    (fun os started H enc _ => lifted os started H enc)
end Go.Proofs.Ytfkmcjlapigapaa.coderPacks
