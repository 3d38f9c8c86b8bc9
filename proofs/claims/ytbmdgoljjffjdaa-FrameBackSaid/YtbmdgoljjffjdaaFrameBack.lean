/- Of any sections, any bytes, any cut and any byte FrameBack answers true: sections are read as they were, cut short they are missing some, with a byte behind they are none; bytes that are sections are their bytes. Conditions: none. -/
import Derived.Test.YtbmdgoljjffjdaaKnown03
import Derived.Test.YtbmdgoljjffjdaaLawSecs
namespace Go.Proofs.Ytbmdgoljjffjdaa.frameBack
open Go.ChangeShapes Go.WideShapes Go.ChangeAt Go.RowKit

theorem short_of {l : List Sec} (h : longB l = false) : Short l 3000 := by
  have := of_decide_eq_false h
  exact ⟨by omega, by omega⟩
theorem enc_few {l : List Sec} (h : (encN l).2 = 0) : l.length ≤ 9 ∧ ∀ s ∈ l, s.2.length ≤ 1048576 := by
  by_cases h1 : (onesN l).2 = 0
  · cases h2 : risesB l with
    | true => exact few h1 h2
    | false => unfold encN at h; rw [if_neg (by simp [h1]), if_pos h2] at h; cases h
  · unfold encN at h; rw [if_pos h1] at h; exact absurd h h1
theorem enc_len (l : List Sec) : (encN l).1.length ≤ (l.map fun s => s.2.length).sum + 15 * l.length + 6 := by
  have := onesN_len l
  unfold encN
  repeat' split
  all_goals simp only [List.length_append, List.length_cons, List.length_nil, headN]
  all_goals omega
theorem enc_pos {l : List Sec} (h : (encN l).2 = 0) : 6 ≤ (encN l).1.length := by
  unfold encN at h ⊢
  repeat' split
  all_goals simp_all [headN]
theorem one_holds {s : Sec} (h : (oneN s).2 = 0) : s.2.length ≤ (oneN s).1.length := by
  by_cases h1 : s.1 < 1 ∨ 9 < s.1
  · rw [oneN_arg h1] at h; cases h
  · by_cases h2 : 1048576 < s.2.length
    · rw [oneN_long h1 h2] at h; cases h
    · rw [oneN_ok h1 h2, sealN_len]
      simp only [oneBody, List.length_cons, List.length_append]; omega
theorem ones_holds {l : List Sec} (h : (onesN l).2 = 0) : (l.map fun s => s.2.length).sum ≤ (onesN l).1.length := by
  induction l with
  | nil => simp
  | cons s l ih =>
    by_cases h1 : (oneN s).2 = 0
    · by_cases h2 : (onesN l).2 = 0
      · have a := one_holds h1
        have b := ih h2
        simp only [onesN, h1, h2, ne_eq, not_true_eq_false, if_false, List.map_cons, List.sum_cons, List.length_append]
        omega
      · simp [onesN, h1, h2] at h
    · simp [onesN, h1] at h
theorem enc_holds {l : List Sec} (h : (encN l).2 = 0) : (l.map fun s => s.2.length).sum ≤ (encN l).1.length := by
  by_cases h1 : (onesN l).2 = 0
  · have := ones_holds h1
    unfold encN at h ⊢
    repeat' split
    all_goals simp_all [headN]
    omega
  · unfold encN at h; rw [if_pos h1] at h; exact absurd h h1
theorem dec_len (bs : List Nat) (hb : ∀ x ∈ bs, x < 256) : (decN bs).1.length ≤ bs.length := by
  have h := (fold_ok hb st0_ok).l
  unfold decN closeN
  repeat' split
  all_goals simp
  omega
theorem dec_short {bs : List Nat} (hb : ∀ x ∈ bs, x < 256) (hl : bs.length ≤ 1200) (h : (decN bs).2 = 0) : Short (decN bs).1 3000 := by
  have e := (dec_back (res := (decN bs).1) hb (by rw [← h])).1
  have a := enc_holds (l := (decN bs).1) (by rw [e])
  have b := dec_len bs hb
  rw [e] at a
  exact ⟨by omega, by simp only at a; omega⟩
set_option maxRecDepth 100000 in
set_option maxHeartbeats 2000000 in
theorem walk (A : Option Addr) (n c : Nat) (l : List Sec) (B : Option Addr) (m d : Nat) (bs : List Nat) (cu mo : Int) (w : World) (hh : Secs w A n c l) (hb : ∀ s ∈ l, ∀ x ∈ s.2, x < 256) (_hk : ∀ s ∈ l, -9223372036854775808 ≤ s.1 ∧ s.1 ≤ 9223372036854775807) (hn0 : n ≤ 9223372036854775807) (hs0 : ∀ s ∈ l, s.2.length ≤ 9223372036854775807)
    (hh2 : Has w B m d (u8s bs)) (hbs : ∀ x ∈ bs, x < 256) (hm : m ≤ 9223372036854775807) (hcu : 0 ≤ cu ∧ cu ≤ 65535) (hmo : 0 ≤ mo ∧ mo ≤ 255) :
    Calls Try.prog 5 #[.slice A n c, .slice B m d, .int .u16 cu, .int .u8 mo] w fun e w' => e = .returned (.bool true) ∧ Below w.heap.size w w' := by
  obtain ⟨q, rfl⟩ := Int.eq_ofNat_of_zero_le hcu.1
  obtain ⟨y, rfl⟩ := Int.eq_ofNat_of_zero_le hmo.1
  have HLo := Lib.hid (long_all A n c l w hh hn0)
  cases hlo : longW l with
  | true =>
    rw [hlo] at HLo
    clear hh hb hlo hh2 hbs hs0
    go_enter Try.func5, Try.ntmps5
    go_wp2_with (first
      | (go_at_call 8; refine HLo.out.mono ?_; rintro e w' ⟨rfl, rfl⟩)
      | (go_at_call 9; refine (known03 _).mono ?_; rintro e w' ⟨rfl, hb⟩))
    go_ret
    exact ⟨rfl, hb⟩
  | false =>
  rw [hlo] at HLo
  by_cases hl : 1200 < m
  · have t : decide ((1200 : Int) < (m : Int)) = true := by simp; omega
    clear hh hb hlo hh2 hbs hs0
    go_enter Try.func5, Try.ntmps5
    go_wp2_with (first
      | (go_at_call 8; refine HLo.out.mono ?_; rintro e w' ⟨rfl, rfl⟩)
      | (go_at_call 9; refine (known03 _).mono ?_; rintro e w' ⟨rfl, hb⟩))
    go_ret
    exact ⟨rfl, hb⟩
  have t : decide ((1200 : Int) < (m : Int)) = false := by simp; omega
  have hlen : bs.length = m := by have := hh2.len; rw [u8s_len] at this; exact this
  have HSh : Hid ((encN l).2 = 0 → Short l 3000) := fun he => by
    have hg := enc_few he
    have h1 := sum_le hg.2
    have h2 := Nat.mul_le_mul_right 1048576 hg.1
    rw [longW_small (by omega)] at hlo
    exact short_of hlo
  have HH := Lib.hid hh
  have HL := Lib.hid hh.len
  have HB := Lib.hid hb
  have HE := Lib.hid (frameEnc_all A n c l w hh hb hn0 hs0)
  have HXb := Lib.hid (encN_byte hb)
  have HH2 := Lib.hid hh2
  have HBs := Lib.hid hbs
  have HD : Hid (∀ W, Below w.heap.size w W → Calls Try.prog 15 #[.slice B m d] W (Secd W (decN bs))) := fun W hW => frameDec_any B m d bs W (hh2.kept hW) hbs (by omega)
  have HDs := Lib.hid (dec_short (bs := bs) hbs (by omega))
  have HDn := Lib.hid (dec_none (bs := bs))
  have HDb := Lib.hid (fun (h : (decN bs).2 = 0) => dec_back (res := (decN bs).1) hbs (show decN bs = ((decN bs).1, 0) by rw [← h]))
  clear hh hb hlo hh2 hbs hs0
  generalize decN bs = r at *
  have HP := Lib.hid (enc_pos (l := l))
  have HD1 := Lib.hid (dec_enc (l := l))
  have HD2 := Lib.hid (fun h => dec_more (l := l) h y)
  have HD3 := Lib.hid (fun h (q : Nat) hq => dec_cut (l := l) h (q := q) hq)
  by_cases he : (encN l).2 = 0
  · have hx6 := HP.out he
    have hsh := HSh.out he
    have hn : n ≤ 3000 := by rw [← HL.out]; exact hsh.num
    have hXl : (encN l).1.length ≤ 48006 := by have := enc_len l; have := hsh.num; have := hsh.all; omega
    have HD1 := Lib.hid (HD1.out he)
    have HD2 := Lib.hid (HD2.out he)
    have HD3 := Lib.hid (HD3.out he (q % (encN l).1.length) (Nat.mod_lt _ (by omega)))
    rw [show encN l = ((encN l).1, 0) by rw [← he]] at HE
    clear HP he HSh hsh hn0
    generalize (encN l).1 = X at *
    go_enter Try.func5, Try.ntmps5
    go_wp2_with (go_at_call 8; refine HLo.out.mono ?_; rintro e w' ⟨rfl, rfl⟩)
    refine HE.out.mono ?_
    rintro e w1 ⟨v1, rfl, ho1, hb1⟩
    obtain ⟨A1, c1, rfl, hh1⟩ := ho1.has
    simp only [u8s_len] at hh1 ⊢
    obtain ⟨g1, o1, rfl, _, _⟩ := hh1.spot (show 0 < X.length by omega)
    have HX1 := Lib.hid hh1
    have hcap := hh1.cap
    have HB1 := Lib.hid hb1
    have tx : ((X.length : Int) == 0) = false := by rw [beq_eq_false_iff_ne]; omega
    obtain ⟨p, hp⟩ : ∃ p, q % X.length = p := ⟨_, rfl⟩
    have qp : (q : Int) % (X.length : Int) = (p : Int) := by rw [← hp, Int.natCast_emod]
    have hpl : p < X.length := by rw [← hp]; exact Nat.mod_lt _ (by omega)
    rw [hp] at HD3
    have hpc : p ≤ c1 := by omega
    clear ho1 hh1 hb1 hp
    go_wp2_with fail
    refine (frameDec_any _ _ _ X _ HX1.out HXb.out (by omega)).mono ?_
    rintro e w2 ⟨A2, c2, rfl, hs2, hb2⟩
    rw [HD1.out] at hs2 ⊢
    have HS2 := Lib.hid hs2
    have HX2 := Lib.hid (HX1.out.kept hb2)
    have HB2 := Lib.hid (new_call HB1.out hb2)
    clear hs2 hb2
    go_wp2_with fail
    have hpt := HX2.out.head (m := p) (by omega)
    rw [show (u8s X).take p = u8s (X.take p) by simp [u8s]] at hpt
    refine (frameDec_any _ _ _ (X.take p) _ hpt (fun x hx => HXb.out x (List.mem_of_mem_take hx)) (by omega)).mono ?_
    rintro e w3 ⟨A3, c3, rfl, _, hb3⟩
    rw [HD3.out]
    have HS3 := Lib.hid (HS2.out.kept hb3)
    have HX3 := Lib.hid (HX2.out.kept hb3)
    have HB3 := Lib.hid (new_call HB2.out hb3)
    clear hb3 hpt
    go_wp2_with fail
    refine (copy_any _ _ _ X _ HX3.out (by omega)).mono ?_
    rintro e w4 ⟨A4, c4, rfl, hh4, ho4, hb4⟩
    have HO4 := Lib.hid ho4
    have HN4 := Lib.hid hb4
    have hz4 := hb4.size
    clear hh4 ho4 hb4
    go_wp2_with (at_builtin; refine wpList_join rfl _ _ 25 rfl elem8 w3.heap.size _ _ rfl (HO4.out.alloc _) _ 1 1 (u8s [y]) rfl (Has.one _ _ _) (u8s_one _) (by rw [u8s_len]; omega) (by decide) (by simp; omega) ?_; intro v5 w5 ho5 hb5)
    rw [← u8s_app] at ho5
    obtain ⟨A5, c5, rfl, hh5⟩ := ho5.has
    simp only [u8s_len] at hh5 ⊢
    have HN5 := Lib.hid ((new_alloc HN4.out _).trans hb5)
    have HS5 := Lib.hid (HS3.out.kept HN5.out)
    have HB5 := Lib.hid (new_call HB3.out HN5.out)
    have hlx : (X ++ [y]).length ≤ 90000 := by simp; omega
    have HMb : Hid (∀ x ∈ X ++ [y], x < 256) := fun x hx => by
      rcases List.mem_append.1 hx with h | h
      · exact HXb.out x h
      · simp at h; omega
    refine (frameDec_any _ _ _ (X ++ [y]) _ hh5 HMb.out hlx).mono ?_
    rintro e w6 ⟨A6, c6, rfl, _, hb6⟩
    rw [HD2.out]
    have HS6 := Lib.hid (HS5.out.kept hb6)
    have HB6 := Lib.hid (new_call HB5.out hb6)
    clear ho5 hb5 hh5 hb6
    go_wp2_with fail
    refine (refSame3_any _ _ _ _ _ _ l l _ HS6.out (HH.out.kept HB6.out) HB.out HB.out (by rw [HL.out]; omega) (by omega)).mono ?_
    rintro e w7 ⟨rfl, hb7⟩
    have HB7 := Lib.hid (new_call HB6.out hb7)
    clear hb7
    go_wp2_with fail
    refine (HD.out _ HB7.out).mono ?_
    rintro e z2 ⟨Z2, e2, rfl, hs2, hb2⟩
    have HBq := Lib.hid (new_call HB7.out hb2)
    have HSx := Lib.hid hs2
    clear hs2 hb2
    by_cases hf : r.2 = 0
    · have HEn : Hid (Calls Try.prog 10 #[.slice Z2 r.1.length e2] z2 (Fixd z2 (bs, 0))) := by
        have h := frameEnc_any Z2 _ e2 r.1 z2 HSx.out (HDb.out hf).2 (HDs.out hf)
        rw [(HDb.out hf).1] at h
        exact h
      have tf : ((r.2 : Int) != 0) = false := by rw [hf]; rfl
      clear HDb HDs HDn hf
      go_wp2_with fail
      refine HEn.out.mono ?_
      rintro e z3 ⟨v3, rfl, ho3, hb3⟩
      obtain ⟨Z3, e3, rfl, hh3⟩ := ho3.has
      have HH3 := Lib.hid hh3
      have HBr := Lib.hid (new_call HBq.out hb3)
      clear ho3 hh3 hb3
      go_wp2_with (first
        | (go_at_call 14; refine (same_any _ _ _ _ _ _ bs bs _ HH3.out (HH2.out.kept HBr.out) HBs.out HBs.out).mono ?_; rintro e w' ⟨rfl, rfl⟩)
        | (go_at_call 9; refine (known03 _).mono ?_; rintro e w' ⟨rfl, hb⟩))
      go_ret
      exact ⟨rfl, new_call HBr.out hb⟩
    · have tf : ((r.2 : Int) != 0) = true := by rw [bne_iff_ne]; omega
      have tl : ((r.1.length : Int) == 0) = true := by rw [HDn.out hf]; rfl
      clear HDb HDs HDn hf
      go_wp2_with (go_at_call 9; refine (known03 _).mono ?_; rintro e w' ⟨rfl, hb⟩)
      go_ret
      exact ⟨rfl, new_call HBq.out hb⟩
  · have te : (((encN l).2 : Int) == 0) = false := by rw [beq_eq_false_iff_ne]; omega
    clear HP HD1 HD2 HD3 he HXb HSh
    generalize encN l = X at *
    go_enter Try.func5, Try.ntmps5
    go_wp2_with (go_at_call 8; refine HLo.out.mono ?_; rintro e w' ⟨rfl, rfl⟩)
    refine HE.out.mono ?_
    rintro e w1 ⟨v1, rfl, ho1, hb1⟩
    obtain ⟨A1, c1, rfl, _⟩ := ho1.has
    have HB1 := Lib.hid hb1
    clear ho1 hb1
    go_wp2_with fail
    refine (HD.out _ HB1.out).mono ?_
    rintro e z2 ⟨Z2, e2, rfl, hs2, hb2⟩
    have HBq := Lib.hid (new_call HB1.out hb2)
    have HS2 := Lib.hid hs2
    clear hs2 hb2
    by_cases hf : r.2 = 0
    · have HEn : Hid (Calls Try.prog 10 #[.slice Z2 r.1.length e2] z2 (Fixd z2 (bs, 0))) := by
        have h := frameEnc_any Z2 _ e2 r.1 z2 HS2.out (HDb.out hf).2 (HDs.out hf)
        rw [(HDb.out hf).1] at h
        exact h
      have tf : ((r.2 : Int) != 0) = false := by rw [hf]; rfl
      clear HDb HDs HDn hf
      go_wp2_with fail
      refine HEn.out.mono ?_
      rintro e z3 ⟨v3, rfl, ho3, hb3⟩
      obtain ⟨Z3, e3, rfl, hh3⟩ := ho3.has
      have HH3 := Lib.hid hh3
      have HBr := Lib.hid (new_call HBq.out hb3)
      clear ho3 hh3 hb3
      go_wp2_with (first
        | (go_at_call 14; refine (same_any _ _ _ _ _ _ bs bs _ HH3.out (HH2.out.kept HBr.out) HBs.out HBs.out).mono ?_; rintro e w' ⟨rfl, rfl⟩)
        | (go_at_call 9; refine (known03 _).mono ?_; rintro e w' ⟨rfl, hb⟩))
      go_ret
      exact ⟨rfl, new_call HBr.out hb⟩
    · have tf : ((r.2 : Int) != 0) = true := by rw [bne_iff_ne]; omega
      have tl : ((r.1.length : Int) == 0) = true := by rw [HDn.out hf]; rfl
      clear HDb HDs HDn hf
      go_wp2_with (go_at_call 9; refine (known03 _).mono ?_; rintro e w' ⟨rfl, hb⟩)
      go_ret
      exact ⟨rfl, new_call HBq.out hb⟩

set_option maxRecDepth 100000 in
theorem lifted (os : Os) (started : os.Started) (H : Type) (enc : TypeId × Value → H) :
    ReturnsInHanded {} Try.checked os 5 .any (Rows.frameBackSpec.pre6 enc Try.prog Try.f5 Rows.frameBackRow.domain false) (Rows.frameBackSpec.post enc Try.prog Try.f5 false true false false) := by
  refine returnsInHanded_of_change (C := Try.checked) Try.own started (by kernel_rfl) Try.func5
    (ChangeSpec.witness6 (enc := enc) (C := Try.checked) false ⟨#[], #[.slice none 0 0, .slice none 0 0, .int .u16 0, .int .u8 0], []⟩ 8 (by kernel_rfl) (by kernel_rfl) (by kernel_rfl) (by kernel_rfl)) ?_
  intro W base args ds gs before hval0 hW _ _
  have hval : ∀ (j : Nat) t v, Try.f5.params[j]? = some t → args[j]? = some v → Value.okWide Try.prog W .any base t v := hval0
  have hW' := hW
  obtain ⟨p, q, hA0, hV, rfl, _, _⟩ := hW
  have hA : DataW.TrodAll enc Try.prog W 0 (fun _ => true) true Try.f5.params.toList args.toList ds p := hA0
  rw [Try.params5] at hA hval
  obtain ⟨v0, v1, v2, v3, d0, d1, d2, d3, p0, p1, p2, p3, rfl, rfl, rfl, h0, h1, h2, h3⟩ := trodAll_four hA
  obtain ⟨rfl, rfl⟩ := trodVars_none hV
  obtain ⟨A0, n0, c0, ls0, rfl, hh0, hb0, hk0, hu0, hn0, hl0⟩ := open_secs (hval 0 22 v0 rfl rfl) h0
  obtain ⟨A1, n1, c1, bs1, rfl, hh1, hb1, hn1⟩ := open_bytes (hval 1 25 v1 rfl rfl) h1
  obtain ⟨a2, rfl, rfl, rfl, w2⟩ := open_int Try.underlying42 (hval 2 42 v2 rfl rfl) h2
  obtain ⟨a3, rfl, rfl, rfl, w3⟩ := open_int Try.underlying5 (hval 3 5 v3 rfl rfl) h3
  exact (walk A0 n0 c0 ls0 A1 n1 c1 bs1 a2 a3 W hh0 hb0 hk0 hn0 hl0 hh1 hb1 hn1 (wf_u16 w2) (wf_u8 w3)).mono fun e W' he =>
    law_post rfl rfl (by rw [Try.params5]; intro t ht; simp at ht; rcases ht with rfl | rfl | rfl | rfl <;> exact ⟨by kernel_rfl, of_decide_eq_true (by kernel_rfl)⟩) hW' rfl he

theorem proved : Rows.FrameBackSaid :=
  OpenClaim.holds_of_wide 5 Try.f5 rfl rfl rfl rfl rfl rfl rfl ⟨rfl, rfl, rfl, rfl, rfl⟩ rfl rfl rfl rfl rfl (by kernel_rfl) Try.func5 (by kernel_rfl)
    (of_decide_eq_true (by kernel_rfl)) (by unfold Func.isWrapper; first | (rw [if_pos (by decide +kernel)]; kernel_rfl) | (rw [if_neg (by decide +kernel)]; exact ⟨rfl, rfl⟩))
    (fun os started H enc _ => lifted os started H enc)
end Go.Proofs.Ytbmdgoljjffjdaa.frameBack
