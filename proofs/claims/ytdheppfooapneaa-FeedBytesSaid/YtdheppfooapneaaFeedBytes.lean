/- Of any bytes FeedBytes answers true: byte by byte it is told what is told of them at once. Conditions: none. -/
import Derived.Test.YtdheppfooapneaaKnown04
import Derived.Test.YtdheppfooapneaaFrameGo
import Derived.Test.YtdheppfooapneaaFrameRef
import Derived.Test.YtdheppfooapneaaLaw
import Derived.Test.YtdheppfooapneaaFeedRef
namespace Go.Proofs.Ytdheppfooapneaa.feedBytes
open Go.ChangeShapes Go.WideShapes Go.ChangeAt Go.RowKit

set_option maxRecDepth 100000 in
set_option maxHeartbeats 1000000 in
theorem walk (A : Option Addr) (n c : Nat) (bs : List Nat) (w : World) (hh : Has w A n c (u8s bs)) (hb : ∀ x ∈ bs, x < 256) (hn : n ≤ 9223372036854775807) :
    Calls Try.prog 5 #[.slice A n c] w fun e w' => e = .returned (.bool true) ∧ Below w.heap.size w w' := by
  by_cases hl : 700 < n
  · have t : decide ((700 : Int) < (n : Int)) = true := by simp; omega
    clear hh hb
    go_enter Try.func5, Try.ntmps5
    go_wp2_with (go_at_call 7; refine (known04 _).mono ?_; rintro e w' ⟨rfl, hb⟩)
    go_ret
    exact ⟨rfl, hb⟩
  have t : decide ((700 : Int) < (n : Int)) = false := by simp; omega
  have HL : Hid (bs.length = n) := by have := hh.len; rw [u8s_len] at this; exact this
  have HH := Lib.hid hh
  have HBy := Lib.hid hb
  have HD : Hid (∀ W, Below w.heap.size w W → Calls Try.prog 18 #[.slice A n c] W (Secd W (decN bs))) := fun W hW => frameDec_any A n c bs W (hh.kept hW) hb (by omega)
  have HDb := Lib.hid (dec_byte hb)
  have hdl := dec_num bs hb
  rw [HL.out] at hdl
  clear hh hb
  go_enter Try.func5, Try.ntmps5
  go_wp2_with fail
  refine (feedNew_any _).mono ?_
  rintro e w1 ⟨p, S1, rfl, hf1, hS1, hb1⟩
  have HF1 := Lib.hid hf1
  have HS1 := Lib.hid hS1
  have HB1 := Lib.hid hb1
  clear hf1 hS1 hb1
  go_wp2
  go_loopg [4] n (fun g s4 wx => ∃ (i : Nat) (S : Nat → Prop), i + g = n ∧ s4 = .int .i64 i ∧ Hid (Fdr wx p S ((bs.take i).foldl stepN st0) false) ∧ Hid (∀ k, S k → w.heap.size ≤ k) ∧ Hid (Below w.heap.size w wx))
  case atStart => exact ⟨0, S1, by omega, rfl, HF1, HS1, HB1⟩
  case round =>
    obtain ⟨i, S, hig, rfl, HF, HS, HB⟩ := hrel
    clear HF1 HS1 HB1
    by_cases hi : i < n
    · have hil : i < bs.length := by rw [HL.out]; exact hi
      have ti : decide ((i : Int) < (n : Int)) = true := by simp; omega
      obtain ⟨b, off, rfl, _, _⟩ := HH.out.spot (by omega)
      have hcap := HH.out.cap
      have hp := HH.out.part (k := i) (m := i + 1) (by omega) (by omega)
      rw [if_neg (by omega), Nat.add_sub_cancel_left, show ((u8s bs).drop i).take 1 = u8s [bs[i]] by rw [List.drop_eq_getElem_cons (by rw [u8s_len]; exact hil)]; simp [u8s]] at hp
      have e : (⟨b, off, none⟩ : Addr).add i = ⟨b, off + i, none⟩ := Addr.add_mid _ _ _
      simp only [Option.map_some, e] at hp
      have HP := Lib.hid (Rob.parts1 (Rob.old (D := S) Has.stays hp HB.out HS.out) HF.out.sit 22 _ rfl)
      have HFd : Hid ([[bs[i]]].flatten.foldl stepN ((bs.take i).foldl stepN st0) = (bs.take (i + 1)).foldl stepN st0) := by
        show _ = _
        rw [List.take_succ_eq_append_getElem hil, List.foldl_append]; rfl
      have hx8 := HBy.out _ (List.getElem_mem hil)
      have hall := (fold_ok (bs := bs.take i) (fun x hx => HBy.out x (List.mem_of_mem_take hx)) st0_ok).all
      rw [List.length_take] at hall
      have HF2 := Lib.hid (HF.out.chg (w' := wr.alloc (.cells #[.slice (some ⟨b, off + i, none⟩) 1 (c - i)] 22)) (D := fun _ => False) (Chg.of_below (new_alloc (Below.refl _ _) _)) (fun _ _ h => h))
      clear hp e
      generalize bs[i] = x at *
      go_wp2_with (go_at_call 10
                   refine (feedFeed_any p S _ _ 1 1 [[x]] _ HF2.out HP.out (by simpa using hx8) (by decide) (by simp; omega)).mono ?_
                   rintro e w2 ⟨S2, rfl, hf2, hc2, hs2⟩
                   rw [HFd.out] at hf2
                   have hz := HB.out.size
                   have HF3 := Lib.hid hf2
                   have HS3 : Hid (∀ k, S2 k → w.heap.size ≤ k) := fun k hk => by
                     rcases hs2 k hk with h | h
                     · exact HS.out k h
                     · simp at h; omega
                   have HB3 : Hid (Below w.heap.size w w2) := (new_alloc HB.out _).trans (hc2.below HS.out (by simp; omega))
                   clear hf2 hc2 hs2)
      go_roundg (gk - 1)
      case measure => omega
      case rel => exact ⟨i + 1, S2, by omega, by go_num, HF3, HS3, HB3⟩
    · have ti : decide ((i : Int) < (n : Int)) = false := by simp; omega
      have HE : Hid ((bs.take i).foldl stepN st0 = bs.foldl stepN st0) := by show _ = _; rw [List.take_of_length_le (by rw [HL.out]; omega)]
      rw [HE.out] at HF
      have HC := Lib.hid (feedClose_any p S _ wr HF.out)
      rw [show closeN (bs.foldl stepN st0) = decN bs from rfl] at HC
      clear HF HE
      generalize decN bs = r at *
      go_wp2_with fail
      refine HC.out.mono ?_
      rintro e w2 ⟨S2, R2, A2, c2, rfl, hr2, _, hf2, hc2, hs2⟩
      have HR2 := Lib.hid (hr2 (fun _ => False) (fun _ h => h.elim))
      have HB2 : Hid (Below w.heap.size w w2) := HB.out.trans (hc2.below HS.out HB.out.size)
      clear hr2 hf2 hc2 hs2 HC
      go_wp2_with fail
      refine (HD.out _ HB2.out).mono ?_
      rintro e w3 ⟨A3, c3, rfl, hs3, hb3⟩
      have HS3 := Lib.hid hs3
      have HR3 := Lib.hid (Secs.stays _ _ hb3 HR2.out.here)
      have HB3 := Lib.hid (new_call HB2.out hb3)
      clear hs3 hb3
      go_wp2_with fail
      refine (refSame3_any _ _ _ _ _ _ r.1 r.1 _ HR3.out HS3.out HDb.out HDb.out (by omega) (by omega)).mono ?_
      rintro e w4 ⟨rfl, hb4⟩
      have HB4 := Lib.hid (new_call HB3.out hb4)
      clear hb4
      simp only [decide_true]
      go_wp2_with (go_at_call 7; refine (known04 _).mono ?_; rintro e w' ⟨rfl, hb⟩)
      go_ret
      exact ⟨rfl, new_call HB4.out hb⟩

set_option maxRecDepth 100000 in
theorem lifted (os : Os) (started : os.Started) (H : Type) (enc : TypeId × Value → H) :
    ReturnsInHanded {} Try.checked os 5 .any (Rows.feedBytesSpec.pre6 enc Try.prog Try.f5 Rows.feedBytesRow.domain false) (Rows.feedBytesSpec.post enc Try.prog Try.f5 false true false false) := by
  refine returnsInHanded_of_change (C := Try.checked) Try.own started (by kernel_rfl) Try.func5
    (ChangeSpec.witness6 (enc := enc) (C := Try.checked) false ⟨#[], #[.slice none 0 0], []⟩ 8 (by kernel_rfl) (by kernel_rfl) (by kernel_rfl) (by kernel_rfl)) ?_
  intro W base args ds gs before hval0 hW _ _
  have hval : ∀ (j : Nat) t v, Try.f5.params[j]? = some t → args[j]? = some v → Value.okWide Try.prog W .any base t v := hval0
  have hW' := hW
  obtain ⟨p, q, hA0, hV, rfl, _, _⟩ := hW
  have hA : DataW.TrodAll enc Try.prog W 0 (fun _ => true) true Try.f5.params.toList args.toList ds p := hA0
  rw [Try.params5] at hA hval
  obtain ⟨v0, d0, rfl, rfl, h0⟩ := trodAll_one hA
  obtain ⟨rfl, rfl⟩ := trodVars_none hV
  obtain ⟨A0, n0, c0, bs0, rfl, hh0, hb0, hn0⟩ := open_bytes (hval 0 22 v0 rfl rfl) h0
  exact (walk A0 n0 c0 bs0 W hh0 hb0 hn0).mono fun e W' he =>
    law_post rfl rfl (by rw [Try.params5]; intro t ht; simp at ht; subst ht; exact ⟨by kernel_rfl, of_decide_eq_true (by kernel_rfl)⟩) hW' rfl he

theorem proved : Rows.FeedBytesSaid :=
  OpenClaim.holds_of_wide 5 Try.f5 rfl rfl rfl rfl rfl rfl rfl ⟨rfl, rfl, rfl, rfl, rfl⟩ rfl rfl rfl rfl rfl (by kernel_rfl) Try.func5 (by kernel_rfl)
    (of_decide_eq_true (by kernel_rfl)) (by unfold Func.isWrapper; first | (rw [if_pos (by decide +kernel)]; kernel_rfl) | (rw [if_neg (by decide +kernel)]; exact ⟨rfl, rfl⟩))
    (fun os started H enc _ => lifted os started H enc)
end Go.Proofs.Ytdheppfooapneaa.feedBytes
