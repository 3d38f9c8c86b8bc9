/- Of any number and any rows of 64 bits GridPoints answers true: of any floating numbers the points, or the first thing that is wrong, is what the chapter says. Conditions: none. -/
import Derived.Test.YtilekfappdlooaaKnown07
import Derived.Test.YtilekfappdlooaaLaw
import Derived.Test.YtilekfappdlooaaGridLaw
namespace Go.Proofs.Ytilekfappdlooaa.gridPoints
open Go.ChangeShapes Go.WideShapes Go.ChangeAt Go.RowKit

theorem elemF : Elem Try.prog 45 23 8 := by
  have h : (Try.prog.info? 23).map (fun i => (i.zero, i.size, i.bytes)) = some (some (.float .f64 0), 1, 8) := by kernel_rfl
  obtain ⟨i, h1, h2, h3, h4⟩ := info_parts h
  exact ⟨Try.underlying45, i, _, h1, h2, h3, h4, rfl⟩
theorem f64s_one (l : List Nat) : ∀ u ∈ f64s l, u.oneCell' = true := by
  intro u hu
  obtain ⟨x, _, rfl⟩ := List.mem_map.1 hu
  rfl
theorem f64s_app (l r : List Nat) : f64s (l ++ r) = f64s l ++ f64s r := by simp [f64s]
theorem ptsA_len (up : Int) : ∀ (n : Nat) (l : List Nat) (acc : List Pt), l.length ≤ n → (ptsA up acc l).1.length ≤ acc.length + l.length := by
  intro n
  induction n with
  | zero =>
    intro l acc h
    cases l with
    | nil => simp [ptsA]
    | cons a l => simp at h
  | succ n ih =>
    intro l acc h
    match l with
    | [] => simp [ptsA]
    | [a] => simp [ptsA]
    | a :: b :: l =>
      rw [ptsA]
      split
      · simp
      · split
        · simp
        · have := ih l (acc ++ [((scaledF a up).1, (scaledF b up).1)]) (by simp at h; omega)
          simp at this ⊢
          omega
set_option maxRecDepth 100000 in
set_option maxHeartbeats 1000000 in
theorem walk (a0 : Int) (A : Option Addr) (n c : Nat) (l : List Nat) (w : World) (_h0 : -9223372036854775808 ≤ a0 ∧ a0 ≤ 9223372036854775807) (hh : Has w A n c (u64s l)) (hl : ∀ x ∈ l, x < 18446744073709551616) (hn : n ≤ 9223372036854775807) :
    Calls Try.prog 7 #[.int .i64 a0, .slice A n c] w fun e w' => e = .returned (.bool true) ∧ Below w.heap.size w w' := by
  by_cases h60 : 60 < n
  · have t : decide ((60 : Int) < (n : Int)) = true := by simp; omega
    clear hh hl
    go_enter Try.func7, Try.ntmps7
    go_wp2_with (go_at_call 16; refine (known07 _).mono ?_; rintro e w' ⟨rfl, hb⟩)
    go_ret
    exact ⟨rfl, hb⟩
  have t60 : decide ((60 : Int) < (n : Int)) = false := by simp; omega
  have HLen : Hid (l.length = n) := by have := hh.len; rw [u64s_len] at this; exact this
  have HH := Lib.hid hh
  have HBy := Lib.hid hl
  clear hh hl
  go_enter Try.func7, Try.ntmps7
  go_wp2
  go_loopg [5, 6] n (fun g s5 s6 wx => ∃ i : Nat, i + g = n ∧ s6 = .int .i64 i ∧ Hid (Own wx w.heap.size 23 s5 (f64s (l.take i))) ∧ Hid (Below w.heap.size w wx))
  case atStart => exact ⟨0, by omega, rfl, Own.nil _ _ _, Below.refl _ _⟩
  case round =>
    obtain ⟨i, hig, rfl, HO, HB⟩ := hrel
    have hz := HB.out.size
    by_cases hi : i < n
    · have ti : decide ((i : Int) < (n : Int)) = true := by simp; omega
      have hil : i < l.length := by rw [HLen.out]; exact hi
      obtain ⟨b, off, rfl, hlt, hc⟩ := (HH.out.kept HB.out).spot (by omega)
      have hcell := hc i _ (u64s_at hil)
      have HS : Hid (f64s (l.take i) ++ f64s [l[i]] = f64s (l.take (i + 1))) := by show _ = _; rw [← f64s_app, List.take_succ_eq_append_getElem hil]
      have hlen : (f64s (l.take i)).length ≤ 60 := by rw [f64s_len, List.length_take]; omega
      clear hc
      generalize l[i] = x at *
      clear hil
      have hfr : ∀ W, (callFunc 12 #[.int .u64 (x : Int)]).run Try.prog W = .ok (.value (.float .f64 x)) W := fun W => from_run x W
      go_wp2_with (at_builtin
                   refine wpList_join rfl _ _ 45 rfl elemF w.heap.size _ _ rfl (HO.out.alloc _) _ 1 1 (f64s [x]) rfl (Has.one _ _ _) (f64s_one _) (by omega) (by decide) (Nat.le_trans hz (new_alloc (Below.refl _ wr) _).size) ?_
                   intro v2 w2 hown2 hbel2
                   rw [HS.out] at hown2
                   have HO2 := Lib.hid hown2
                   have HB2 := Lib.hid ((new_alloc HB.out _).trans hbel2)
                   clear hown2 hbel2)
      go_roundg (gk - 1)
      case measure => omega
      case rel => exact ⟨i + 1, by omega, by go_num, HO2, HB2⟩
    · have ti : decide ((i : Int) < (n : Int)) = false := by simp; omega
      rw [List.take_of_length_le (by rw [HLen.out]; omega)] at HO
      obtain ⟨A5, c5, hv5, hh5⟩ := HO.out.has
      rw [f64s_len, HLen.out] at hv5 hh5
      subst hv5
      have HX := Lib.hid hh5
      have HP := Lib.hid (gridPoints_any a0 A5 n c5 l wr hh5 HBy.out (by omega))
      have hpl : (pointsF a0 l).1.length ≤ 100 := by
        unfold pointsF
        split
        · simp
        · have h1 := ptsA_len a0 l.length l [] (Nat.le_refl _)
          have h2 := HLen.out
          simp only [List.length_nil] at h1
          omega
      have HQ := Lib.hid (fun W (hW : Below wr.heap.size wr W) => ref7Points_any a0 A5 n c5 l W (HX.out.kept hW) HBy.out (by omega))
      clear hh5 HO
      generalize pointsF a0 l = r at *
      obtain ⟨rl, re⟩ := r
      simp only at hpl
      go_wp2_with fail
      refine HP.out.mono ?_
      rintro e w1 ⟨A1, c1, rfl, hh1, hb1⟩
      have HH1 := Lib.hid hh1
      have HB1 := Lib.hid hb1
      have HQ1 := Lib.hid (HQ.out w1 hb1)
      clear hh1 hb1 HP HQ
      go_wp2_with fail
      refine HQ1.out.mono ?_
      rintro e w2 ⟨A2, c2, rfl, hh2, hb2⟩
      simp only at hh2
      have HSm := Lib.hid (ref7SamePts_any A1 rl.length c1 rl A2 rl.length c2 rl w2 (HH1.out.kept hb2) hh2 (by omega))
      rw [decide_eq_true (rfl : rl = rl)] at HSm
      have HB2 := Lib.hid (new_call (new_call HB.out HB1.out) hb2)
      clear hh2 hb2 HQ1 HH1
      go_wp2_with fail
      refine HSm.out.mono ?_
      rintro e w3 ⟨rfl, q, rfl⟩
      have HB3 := Lib.hid (new_call HB2.out (quiet_below7 w2 q))
      generalize w2.drewN q = w3 at *
      go_wp2_with (go_at_call 16; refine (known07 _).mono ?_; rintro e w' ⟨rfl, hbk⟩)
      go_ret
      exact ⟨rfl, new_call HB3.out hbk⟩

set_option maxRecDepth 100000 in
theorem lifted (os : Os) (started : os.Started) (H : Type) (enc : TypeId × Value → H) :
    ReturnsInHanded {} Try.checked os 7 .any (Rows.gridPointsSpec.pre6 enc Try.prog Try.f7 Rows.gridPointsRow.domain false) (Rows.gridPointsSpec.post enc Try.prog Try.f7 false true false false) := by
  refine returnsInHanded_of_change (C := Try.checked) Try.own started (by kernel_rfl) Try.func7
    (ChangeSpec.witness6 (enc := enc) (C := Try.checked) false ⟨#[], #[.int .i64 0, .slice none 0 0], []⟩ 8 (by kernel_rfl) (by kernel_rfl) (by kernel_rfl) (by kernel_rfl)) ?_
  intro W base args ds gs before hval0 hW _ _
  have hval : ∀ (j : Nat) t v, Try.f7.params[j]? = some t → args[j]? = some v → Value.okWide Try.prog W .any base t v := hval0
  have hW' := hW
  obtain ⟨p, q, hA0, hV, rfl, _, _⟩ := hW
  have hA : DataW.TrodAll enc Try.prog W 0 (fun _ => true) true Try.f7.params.toList args.toList ds p := hA0
  rw [Try.params7] at hA hval
  obtain ⟨v0, v1, d0, d1, p0, p1, rfl, rfl, rfl, h0, h1⟩ := trodAll_two hA
  obtain ⟨rfl, rfl⟩ := trodVars_none hV
  obtain ⟨a0, rfl, rfl, rfl, w0⟩ := open_int Try.underlying3 (hval 0 3 v0 rfl rfl) h0
  obtain ⟨A1, n1, c1, bs1, rfl, hh1, hb1, hn1⟩ := open_words (hval 1 44 v1 rfl rfl) h1
  exact (walk a0 A1 n1 c1 bs1 W (wf_i64 w0) hh1 hb1 hn1).mono fun e W' he =>
    law_post rfl rfl (by rw [Try.params7]; intro t ht; simp at ht; rcases ht with rfl | rfl <;> exact ⟨by kernel_rfl, of_decide_eq_true (by kernel_rfl)⟩) hW' rfl he

theorem proved : Rows.GridPointsSaid :=
  OpenClaim.holds_of_wide 7 Try.f7 rfl rfl rfl rfl rfl rfl rfl ⟨rfl, rfl, rfl, rfl, rfl⟩ rfl rfl rfl rfl rfl (by kernel_rfl) Try.func7 (by kernel_rfl)
    (of_decide_eq_true (by kernel_rfl)) (by unfold Func.isWrapper; first | (rw [if_pos (by decide +kernel)]; kernel_rfl) | (rw [if_neg (by decide +kernel)]; exact ⟨rfl, rfl⟩))
    (fun os started H enc _ => lifted os started H enc)
end Go.Proofs.Ytilekfappdlooaa.gridPoints
