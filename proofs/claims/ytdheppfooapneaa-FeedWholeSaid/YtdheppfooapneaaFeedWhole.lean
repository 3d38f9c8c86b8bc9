/- Of any bytes and any places FeedWhole answers true: in whatever chunks the bytes come, what is told at the end is what is told of them at once. Conditions: none. -/
import Derived.Test.YtdheppfooapneaaKnown04
import Derived.Test.YtdheppfooapneaaFrameGo
import Derived.Test.YtdheppfooapneaaFrameRef
import Derived.Test.YtdheppfooapneaaFeedRef
import Derived.Test.YtdheppfooapneaaLaw
namespace Go.Proofs.Ytdheppfooapneaa.feedWhole
open Go.ChangeShapes Go.WideShapes Go.ChangeAt Go.RowKit

set_option maxRecDepth 100000 in
set_option maxHeartbeats 2000000 in
theorem walk (A : Option Addr) (n c : Nat) (bs : List Nat) (B : Option Addr) (m d : Nat) (at_ : List Nat) (w : World) (hh : Has w A n c (u8s bs)) (hb : ∀ x ∈ bs, x < 256) (hn : n ≤ 9223372036854775807) (hh2 : Has w B m d (u8s at_)) (hb2 : ∀ x ∈ at_, x < 256) (hm : m ≤ 9223372036854775807) :
    Calls Try.prog 4 #[.slice A n c, .slice B m d] w fun e w' => e = .returned (.bool true) ∧ Below w.heap.size w w' := by
  by_cases hl : 1200 < n
  · have t : decide ((1200 : Int) < (n : Int)) = true := by simp; omega
    clear hh hb hh2 hb2
    go_enter Try.func4, Try.ntmps4
    go_wp2_with (go_at_call 7; refine (known04 _).mono ?_; rintro e w' ⟨rfl, hb⟩)
    go_ret
    exact ⟨rfl, hb⟩
  have t : decide ((1200 : Int) < (n : Int)) = false := by simp; omega
  by_cases hl2 : 60 < m
  · have t2 : decide ((60 : Int) < (m : Int)) = true := by simp; omega
    clear hh hb hh2 hb2
    go_enter Try.func4, Try.ntmps4
    go_wp2_with (go_at_call 7; refine (known04 _).mono ?_; rintro e w' ⟨rfl, hb⟩)
    go_ret
    exact ⟨rfl, hb⟩
  have t2 : decide ((60 : Int) < (m : Int)) = false := by simp; omega
  have HL : Hid (bs.length = n) := by have := hh.len; rw [u8s_len] at this; exact this
  have hlm : at_.length = m := by have := hh2.len; rw [u8s_len] at this; exact this
  have HH := Lib.hid hh
  have HH2 := Lib.hid hh2
  have HA := Lib.hid hb2
  have HD : Hid (∀ W, Below w.heap.size w W → Calls Try.prog 18 #[.slice A n c] W (Secd W (decN bs))) := fun W hW => frameDec_any A n c bs W (hh.kept hW) hb (by omega)
  have HDb := Lib.hid (dec_byte hb)
  have hdl := dec_num bs hb
  rw [HL.out] at hdl
  have HCf := Lib.hid (cutN_flat at_ bs)
  have hcl := cutN_len at_ bs
  rw [hlm] at hcl
  have HCb : Hid (∀ l ∈ cutN bs at_, ∀ x ∈ l, x < 256) := fun l hl x hx => hb x (by rw [← HCf.out]; exact List.mem_flatten.2 ⟨l, hl, hx⟩)
  have HCs : Hid (∀ i, ((cutN bs at_).take i).flatten.length ≤ n) := fun i => by
    have e : (cutN bs at_).flatten = ((cutN bs at_).take i).flatten ++ ((cutN bs at_).drop i).flatten := by rw [← List.flatten_append, List.take_append_drop]
    have := congrArg List.length e
    rw [HCf.out, HL.out, List.length_append] at this
    omega
  have HBy := Lib.hid hb
  clear hh hb hh2 hb2 hlm
  go_enter Try.func4, Try.ntmps4
  go_wp2_with fail
  refine (feedNew_any _).mono ?_
  rintro e w1 ⟨p, S1, rfl, hf1, hS1, hb1⟩
  have HF1 := Lib.hid hf1
  have HS1 := Lib.hid hS1
  have HB1 := Lib.hid hb1
  clear hf1 hS1 hb1
  go_wp2_with fail
  refine (feedNew_any _).mono ?_
  rintro e w2 ⟨q, T, rfl, hf2, hT2, hb2⟩
  have HG2 := Lib.hid hf2
  have HF2 := Lib.hid (HF1.out.chg (D := fun _ => False) (Chg.of_below hb2) (fun _ _ h => h))
  have hz1 := HB1.out.size
  have hz2 := hb2.size
  have HT : Hid (∀ k, T k → w.heap.size ≤ k) := fun k hk => by have := hT2 k hk; omega
  have HN : Hid (∀ k, S1 k → ¬ T k) := fun k hk h => by have := hT2 k h; have := HF1.out.sit k hk; omega
  have HB2 := Lib.hid (new_call HB1.out hb2)
  have HU2 : Hid (∀ k, (S1 k ∨ T k) → w.heap.size ≤ k) := fun k hk => by
    rcases hk with hk | hk
    · exact HS1.out k hk
    · exact HT.out k hk
  have HSit : Hid (Sit (fun k => S1 k ∨ T k) w2.heap.size) := fun k hk => by
    rcases hk with hk | hk
    · exact HF2.out.sit k hk
    · exact HG2.out.sit k hk
  clear hf2 hT2 hb2 HF1 HB1
  go_wp2_with fail
  refine (refCut_any A n c bs B m d at_ w2 (fun k => S1 k ∨ T k) HSit.out (Rob.old Has.stays HH.out HB2.out HU2.out) (HH2.out.kept HB2.out) HA.out (by omega) (by omega)).mono ?_
  rintro e w3 ⟨A3, c3, rfl, hp3, hb3⟩
  have HP3 := Lib.hid hp3
  have HF3 := Lib.hid (HF2.out.chg (D := fun _ => False) (Chg.of_below hb3) (fun _ _ h => h))
  have HG3 := Lib.hid (HG2.out.chg (D := fun _ => False) (Chg.of_below hb3) (fun _ _ h => h))
  have HB3 := Lib.hid (new_call HB2.out hb3)
  clear hp3 hb3 HF2 HG2 HB2 HSit
  generalize cutN bs at_ = ls at *
  obtain ⟨L, hL⟩ : ∃ L, ls.length = L := ⟨_, rfl⟩
  rw [hL] at HP3 hcl ⊢
  have HLs := Lib.hid hL
  have hL61 : L ≤ 61 := by omega
  clear hL hcl
  go_wp2
  go_loopg [8] L (fun g s8 wx => ∃ (i : Nat) (S : Nat → Prop), i + g = L ∧ s8 = .int .i64 i ∧ Hid (Fdr wx p S ((ls.take i).flatten.foldl stepN st0) false) ∧ Hid (Fdr wx q T st0 false) ∧ Hid (∀ k, S k → w.heap.size ≤ k) ∧ Hid (∀ k, S k → ¬ T k) ∧ Hid (PartsR (fun k => S k ∨ T k) wx A3 L c3 ls) ∧ Hid (Below w.heap.size w wx))
  case atStart => exact ⟨0, S1, by omega, rfl, HF3, HG3, HS1, HN, HP3, HB3⟩
  case round =>
    obtain ⟨i, S, hig, rfl, HF, HG, HS, HN, HP, HB⟩ := hrel
    clear HF3 HG3 HS1 HP3 HB3 HU2
    have hz := HB.out.size
    by_cases hi : i < L
    · have hil : i < ls.length := by rw [HLs.out]; exact hi
      have ti : decide ((i : Int) < (L : Int)) = true := by simp; omega
      obtain ⟨b, off, A', n', c', rfl, hcell, hrow⟩ := HP.out.row hil
      have HPt := Lib.hid (Rob.parts1 (hrow.less (D := S) fun k hk => Or.inl hk) HF.out.sit 22 _ rfl)
      have HFd : Hid ([ls[i]].flatten.foldl stepN ((ls.take i).flatten.foldl stepN st0) = (ls.take (i + 1)).flatten.foldl stepN st0) := by
        show _ = _
        rw [List.take_succ_eq_append_getElem hil, List.flatten_append, List.foldl_append]
      have hx8 := HCb.out _ (List.getElem_mem hil)
      have hb0 : ∀ x ∈ (ls.take i).flatten, x < 256 := fun x hx => by
        obtain ⟨l, h1, h2⟩ := List.mem_flatten.1 hx
        exact HCb.out l (List.mem_of_mem_take h1) x h2
      have hall := (fold_ok hb0 st0_ok).all
      have hc1 := HCs.out i
      have hc2 := HCs.out (i + 1)
      rw [List.take_succ_eq_append_getElem hil, List.flatten_append, List.length_append] at hc2
      simp only [List.flatten_cons, List.flatten_nil, List.append_nil] at hc2
      have HF2 := Lib.hid (HF.out.chg (w' := wr.alloc (.cells #[.slice A' n' c'] 22)) (D := fun _ => False) (Chg.of_below (new_alloc (Below.refl _ _) _)) (fun _ _ h => h))
      have HX8 := Lib.hid hx8
      clear hrow hb0 hx8
      generalize ls[i] = x at *
      generalize (ls.take i).flatten = pre at *
      go_wp2_with (go_at_call 10
                   refine (feedFeed_any p S _ _ 1 1 [x] _ HF2.out HPt.out (by simpa using HX8.out) (by decide) (by simp; omega)).mono ?_
                   rintro e w4 ⟨S4, rfl, hf4, hc4, hs4⟩
                   rw [HFd.out] at hf4
                   have HF4 := Lib.hid hf4
                   have hA : Below wr.heap.size wr (wr.alloc (.cells #[.slice A' n' c'] 22)) := new_alloc (Below.refl _ _) _
                   have hcc : Chg S wr w4 := (Chg.of_below hA).then_ hc4 fun _ _ h => h
                   have hs4' : ∀ k, S4 k → S k ∨ wr.heap.size ≤ k := fun k hk => by
                     rcases hs4 k hk with h | h
                     · exact Or.inl h
                     · exact Or.inr (Nat.le_trans hA.size h)
                   have HS4 : Hid (∀ k, S4 k → w.heap.size ≤ k) := fun k hk => by
                     rcases hs4' k hk with h | h
                     · exact HS.out k h
                     · omega
                   have HN4 : Hid (∀ k, S4 k → ¬ T k) := fun k hk ht => by
                     rcases hs4' k hk with h | h
                     · exact HN.out k h ht
                     · have := HG.out.sit k ht; omega
                   have HG4 := Lib.hid (HG.out.chg hcc fun k hk h => HN.out k h hk)
                   have HP4 := Lib.hid (HP.out.chg (D' := fun k => S4 k ∨ T k) (hcc.wide fun _ _ h => Or.inl h) fun k hk h => by
                     rcases h with h | h
                     · rcases hs4' k h with h | h
                       · exact Or.inl h
                       · omega
                     · exact Or.inr h)
                   have HB4 : Hid (Below w.heap.size w w4) := HB.out.trans (hcc.below HS.out hz)
                   clear hf4 hc4 hs4 hA hcc hs4')
      go_roundg (gk - 1)
      case measure => omega
      case rel => exact ⟨i + 1, S4, by omega, by go_num, HF4, HG4, HS4, HN4, HP4, HB4⟩
    · have ti : decide ((i : Int) < (L : Int)) = false := by simp; omega
      have hE : (ls.take i).flatten = bs := by rw [List.take_of_length_le (by rw [HLs.out]; omega), HCf.out]
      rw [hE] at HF
      clear hE
      have HFeed := Lib.hid (feedFeed_any q T st0 A3 L c3 ls wr HG.out (HP.out.rob.less fun k hk => Or.inr hk) HCb.out (by omega) (by rw [HCf.out, HL.out]; simp [st0]; omega))
      rw [HCf.out] at HFeed
      go_wp2_with fail
      refine HFeed.out.mono ?_
      rintro e w4 ⟨T4, rfl, hg4, hc4, ht4⟩
      have HG4 := Lib.hid hg4
      have hz4 := hc4.size
      have HF4 := Lib.hid (HF.out.chg hc4 fun k hk h => HN.out k hk h)
      have HN4 : Hid (∀ k, S k → ¬ T4 k) := fun k hk h => by
        rcases ht4 k h with h | h
        · exact HN.out k hk h
        · have := HF.out.sit k hk; omega
      have HT4 : Hid (∀ k, T4 k → w.heap.size ≤ k) := fun k hk => by
        rcases ht4 k hk with h | h
        · exact HT.out k h
        · omega
      have HB4 : Hid (Below w.heap.size w w4) := HB.out.trans (hc4.below HT.out hz)
      clear hg4 hc4 ht4 HFeed HF HG HP HB HN HT
      go_wp2_with fail
      refine (feedClose_any p S _ w4 HF4.out).mono ?_
      rintro e w5 ⟨S5, R5, A5, c5, rfl, hx5, hr5, hf5, hc5, hs5⟩
      rw [show closeN (bs.foldl stepN st0) = decN bs from rfl] at hx5 ⊢
      have HF5 := Lib.hid hf5
      have HX5 := Lib.hid (hx5 T4 fun k hk h => by
        rcases hr5 k h with h | h
        · exact HN4.out k h hk
        · have := HG4.out.sit k hk; omega)
      have HG5 := Lib.hid (HG4.out.chg hc5 fun k hk h => HN4.out k h hk)
      have HN5 : Hid (∀ k, S5 k → ¬ T4 k) := fun k hk h => by
        rcases hs5 k hk with h' | h'
        · exact HN4.out k h' h
        · have := HG4.out.sit k h; omega
      have HB5 : Hid (Below w.heap.size w w5) := HB4.out.trans (hc5.below HS.out HB4.out.size)
      clear hx5 hr5 hf5 hc5 hs5 HG4 HF4 HN4 HB4
      go_wp2_with fail
      refine (feedClose_any q T4 _ w5 HG5.out).mono ?_
      rintro e w6 ⟨T6, R6, A6, c6, rfl, hy6, _, hg6, hc6, _⟩
      rw [show closeN (bs.foldl stepN st0) = decN bs from rfl] at hy6 ⊢
      have HY6 := Lib.hid (hy6 (fun _ => False) fun _ h => h.elim).here
      have HX6 := Lib.hid (Rob.chg (G' := fun _ => False) Secs.stays HX5.out hc6 fun _ _ h => h.elim).here
      have HF6 := Lib.hid (HF5.out.chg hc6 fun k hk h => HN5.out k hk h)
      have HG6 := Lib.hid hg6
      have HB6 : Hid (Below w.heap.size w w6) := HB5.out.trans (hc6.below HT4.out HB5.out.size)
      clear hy6 hg6 hc6 HG5 HF5 HX5 HB5
      generalize hr : decN bs = r at *
      clear hr
      generalize bs.foldl stepN st0 = st at *
      go_wp2_with fail
      refine (HD.out _ HB6.out).mono ?_
      rintro e w7 ⟨A7, c7, rfl, hs7, hb7⟩
      have HZ7 := Lib.hid hs7
      have HX7 := Lib.hid (HX6.out.kept hb7)
      have HY7 := Lib.hid (HY6.out.kept hb7)
      have HF7 := Lib.hid (HF6.out.chg (D := fun _ => False) (Chg.of_below hb7) (fun _ _ h => h))
      have HG7 := Lib.hid (HG6.out.chg (D := fun _ => False) (Chg.of_below hb7) (fun _ _ h => h))
      have HB7 := Lib.hid (new_call HB6.out hb7)
      clear hs7 hb7 HX6 HY6 HF6 HG6 HB6
      go_wp2_with fail
      refine (refSame3_any _ _ _ _ _ _ r.1 r.1 _ HX7.out HZ7.out HDb.out HDb.out (by omega) (by omega)).mono ?_
      rintro e w8 ⟨rfl, hb8⟩
      simp only [decide_true]
      have HY8 := Lib.hid (HY7.out.kept hb8)
      have HZ8 := Lib.hid (HZ7.out.kept hb8)
      have HF8 := Lib.hid (HF7.out.chg (D := fun _ => False) (Chg.of_below hb8) (fun _ _ h => h))
      have HG8 := Lib.hid (HG7.out.chg (D := fun _ => False) (Chg.of_below hb8) (fun _ _ h => h))
      have HB8 := Lib.hid (new_call HB7.out hb8)
      clear hb8 HY7 HZ7 HF7 HG7 HB7
      go_wp2_with fail
      refine (refSame3_any _ _ _ _ _ _ r.1 r.1 _ HY8.out HZ8.out HDb.out HDb.out (by omega) (by omega)).mono ?_
      rintro e w9 ⟨rfl, hb9⟩
      simp only [decide_true]
      have HF9 := Lib.hid (HF8.out.chg (D := fun _ => False) (Chg.of_below hb9) (fun _ _ h => h))
      have HG9 := Lib.hid (HG8.out.chg (D := fun _ => False) (Chg.of_below hb9) (fun _ _ h => h))
      have HB9 := Lib.hid (new_call HB8.out hb9)
      clear hb9 HF8 HG8 HB8
      go_wp2_with fail
      refine (feedTaken_any p _ _ true w9 HF9.out).mono ?_
      rintro e w10 ⟨rfl, hb10⟩
      have HG10 := Lib.hid (HG9.out.chg (D := fun _ => False) (Chg.of_below hb10) (fun _ _ h => h))
      have HB10 := Lib.hid (new_call HB9.out hb10)
      clear hb10 HF9 HG9 HB9
      go_wp2_with fail
      refine (feedTaken_any q _ _ true w10 HG10.out).mono ?_
      rintro e w11 ⟨rfl, hb11⟩
      have HB11 := Lib.hid (new_call HB10.out hb11)
      clear hb11 HG10 HB10
      go_wp2_with (go_at_call 7; refine (known04 _).mono ?_; rintro e w' ⟨rfl, hb⟩)
      go_ret
      exact ⟨rfl, new_call HB11.out hb⟩

set_option maxRecDepth 100000 in
theorem lifted (os : Os) (started : os.Started) (H : Type) (enc : TypeId × Value → H) :
    ReturnsInHanded {} Try.checked os 4 .any (Rows.feedWholeSpec.pre6 enc Try.prog Try.f4 Rows.feedWholeRow.domain false) (Rows.feedWholeSpec.post enc Try.prog Try.f4 false true false false) := by
  refine returnsInHanded_of_change (C := Try.checked) Try.own started (by kernel_rfl) Try.func4
    (ChangeSpec.witness6 (enc := enc) (C := Try.checked) false ⟨#[], #[.slice none 0 0, .slice none 0 0], []⟩ 8 (by kernel_rfl) (by kernel_rfl) (by kernel_rfl) (by kernel_rfl)) ?_
  intro W base args ds gs before hval0 hW _ _
  have hval : ∀ (j : Nat) t v, Try.f4.params[j]? = some t → args[j]? = some v → Value.okWide Try.prog W .any base t v := hval0
  have hW' := hW
  obtain ⟨p, q, hA0, hV, rfl, _, _⟩ := hW
  have hA : DataW.TrodAll enc Try.prog W 0 (fun _ => true) true Try.f4.params.toList args.toList ds p := hA0
  rw [Try.params4] at hA hval
  obtain ⟨v0, v1, d0, d1, p0, p1, rfl, rfl, rfl, h0, h1⟩ := trodAll_two hA
  obtain ⟨rfl, rfl⟩ := trodVars_none hV
  obtain ⟨A0, n0, c0, bs0, rfl, hh0, hb0, hn0⟩ := open_bytes (hval 0 22 v0 rfl rfl) h0
  obtain ⟨A1, n1, c1, bs1, rfl, hh1, hb1, hn1⟩ := open_bytes (hval 1 22 v1 rfl rfl) h1
  exact (walk A0 n0 c0 bs0 A1 n1 c1 bs1 W hh0 hb0 hn0 hh1 hb1 hn1).mono fun e W' he =>
    law_post rfl rfl (by rw [Try.params4]; intro t ht; simp at ht; subst ht; exact ⟨by kernel_rfl, of_decide_eq_true (by kernel_rfl)⟩) hW' rfl he

theorem proved : Rows.FeedWholeSaid :=
  OpenClaim.holds_of_wide 4 Try.f4 rfl rfl rfl rfl rfl rfl rfl ⟨rfl, rfl, rfl, rfl, rfl⟩ rfl rfl rfl rfl rfl (by kernel_rfl) Try.func4 (by kernel_rfl)
    (of_decide_eq_true (by kernel_rfl)) (by unfold Func.isWrapper; first | (rw [if_pos (by decide +kernel)]; kernel_rfl) | (rw [if_neg (by decide +kernel)]; exact ⟨rfl, rfl⟩))
    (fun os started H enc _ => lifted os started H enc)
end Go.Proofs.Ytdheppfooapneaa.feedWhole
