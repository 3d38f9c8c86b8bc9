/- Of any number of symbols, any symbols that came and any symbol that comes ModelGrows answers true: who came has a greater share than before, unless all were halved; who did not has no greater one. Conditions: none. -/
import Derived.Test.YtpflaejojfoeaaaKnown05
import Derived.Test.YtpflaejojfoeaaaLaw
namespace Go.Proofs.Ytpflaejojfoeaaa.modelGrows
open Go.ChangeShapes Go.WideShapes Go.ChangeAt Go.RowKit

theorem count_plain {c : List Nat} {s : Nat} (hs : s < c.length) (h : ¬ 8192 < c.sum + 32) : countN c s = c.set s (c[s] + 32) ∧ (countN c s).sum = c.sum + 32 := by
  have hg : c.getD s 0 = c[s] := by simp [List.getElem?_eq_getElem hs]
  have hsum := set_sum (v := c[s] + 32) hs
  have e : countN c s = c.set s (c[s] + 32) := by unfold countN; rw [hg, if_neg (by omega)]
  exact ⟨e, by rw [e]; omega⟩
theorem count_half {c : List Nat} {s : Nat} (hs : s < c.length) (h : 8192 < c.sum + 32) : countN c s = halveN (c.set s (c[s] + 32)) := by
  have hg : c.getD s 0 = c[s] := by simp [List.getElem?_eq_getElem hs]
  have hsum := set_sum (v := c[s] + 32) hs
  unfold countN; rw [hg, if_pos (by omega)]
theorem next_ne {z K : Nat} (h : 2 ≤ K) : z % K ≠ (z + 1) % K := by
  intro e
  have h1 := Nat.sub_mod_eq_zero_of_mod_eq e.symm
  rw [Nat.add_sub_cancel_left, Nat.mod_eq_of_lt (by omega)] at h1
  cases h1
set_option maxRecDepth 100000 in
set_option maxHeartbeats 1000000 in
theorem walk (a0 : Int) (A : Option Addr) (m c : Nat) (l : List Nat) (b0 : Int) (w : World) (ha : 0 ≤ a0 ∧ a0 ≤ 255) (hh : Has w A m c (u16s l)) (hl : ∀ x ∈ l, x < 65536) (hm : m ≤ 9223372036854775807) (hb0 : 0 ≤ b0 ∧ b0 ≤ 255) :
    Calls Try.prog 8 #[.int .u8 a0, .slice A m c, .int .u8 b0] w fun e w' => e = .returned (.bool true) ∧ Below w.heap.size w w' := by
  obtain ⟨N, rfl⟩ := Int.eq_ofNat_of_zero_le ha.1
  obtain ⟨z, rfl⟩ := Int.eq_ofNat_of_zero_le hb0.1
  by_cases hlo : 900 < m
  · have t : decide ((900 : Int) < (m : Int)) = true := by simp; omega
    clear hh hl
    go_enter Try.func8, Try.ntmps8
    go_wp2_with (go_at_call 10; refine (known05 _).mono ?_; rintro e w' ⟨rfl, hb⟩)
    go_ret
    exact ⟨rfl, hb⟩
  have t : decide ((900 : Int) < (m : Int)) = false := by simp; omega
  obtain ⟨K, hK⟩ : ∃ K : Nat, (1 : Int) + (N : Int) = (K : Int) := ⟨1 + N, by simp⟩
  have hK1 : 1 ≤ K := by omega
  have hK2 : K ≤ 256 := by omega
  have HCt := Lib.hid (counted_any K A m c l w hh hl (by omega) hK1 hK2)
  have HCs := Lib.hid (cntd_ok hK1 hK2 l)
  have HCl := Lib.hid (cntd_len K l)
  clear hh hl
  go_enter Try.func8, Try.ntmps8
  go_wp2_with fail
  refine HCt.out.mono ?_
  rintro e w1 ⟨p, S, A1, c1, rfl, hf1, hr1, hS1, hb1⟩
  have HF1 := Lib.hid hf1
  have HR1 := Lib.hid hr1
  have HS1 := Lib.hid hS1
  have HB1 := Lib.hid hb1
  clear hf1 hr1 hS1 hb1 HCt
  clear HR1
  have hsum := HCs.out.sum
  generalize cntd K l = cs at *
  obtain ⟨i, hi⟩ : ∃ i, z % K = i := ⟨_, rfl⟩
  obtain ⟨j, hj⟩ : ∃ j, (z + 1) % K = j := ⟨_, rfl⟩
  have hiK : i < K := by rw [← hi]; exact Nat.mod_lt _ (by omega)
  have hjK : j < K := by rw [← hj]; exact Nat.mod_lt _ (by omega)
  have HNe : Hid (2 ≤ K → i ≠ j) := fun h => by rw [← hi, ← hj]; exact next_ne h
  have qi : (z : Int) % (K : Int) = (i : Int) := by rw [← hi, Int.natCast_emod]
  have qj : ((z : Int) + 1) % (K : Int) = (j : Int) := by rw [← hj]; simp
  have hil : i < cs.length := by rw [HCl.out]; exact hiK
  have hjl : j < cs.length := by rw [HCl.out]; exact hjK
  have hK0 : ¬ (K : Int) = 0 := by omega
  have HSi := Lib.hid (share_in hil)
  have HSj := Lib.hid (share_in hjl)
  have HC1 := Lib.hid (countAll_one (cs := cs) (s := i) hil)
  have HCs2 := Lib.hid (HCs.out.count hil)
  have hl2 : (countN cs i).length = K := by rw [countN_len, HCl.out]
  have HSi2 := Lib.hid (share_in (c := countN cs i) (s := i) (by rw [hl2]; exact hiK))
  have HSj2 := Lib.hid (share_in (c := countN cs i) (s := j) (by rw [hl2]; exact hjK))
  have hcase : (cs.sum + 32 ≤ 8192 ∧ (countN cs i).sum = cs.sum + 32 ∧ (countN cs i)[i]'(by rw [hl2]; exact hiK) = cs[i] + 32 ∧ (2 ≤ K → (countN cs i)[j]'(by rw [hl2]; exact hjK) = cs[j])) ∨
      (8192 < cs.sum + 32 ∧ (countN cs i)[i]'(by rw [hl2]; exact hiK) = (cs[i] + 33) / 2 ∧ (2 ≤ K → (countN cs i)[j]'(by rw [hl2]; exact hjK) = (cs[j] + 1) / 2)) := by
    by_cases h : 8192 < cs.sum + 32
    · right
      have e := count_half hil h
      refine ⟨h, ?_, fun h2 => ?_⟩
      · simp only [e, halveN, List.getElem_map, List.getElem_set_self]
      · simp only [e, halveN, List.getElem_map, List.getElem_set_ne (HNe.out h2)]
    · left
      obtain ⟨e, e2⟩ := count_plain hil h
      refine ⟨by omega, e2, ?_, fun h2 => ?_⟩
      · simp only [e, List.getElem_set_self]
      · simp only [e, List.getElem_set_ne (HNe.out h2)]
  have hxa : cs[i] ≤ cs.sum := by have := sum_snoc5 hil; have := sum_take5 cs (i + 1); omega
  have hxb : cs[j] ≤ cs.sum := by have := sum_snoc5 hjl; have := sum_take5 cs (j + 1); omega
  have hsu2 := HCs2.out.sum
  clear hi hj
  generalize (countN cs i)[i]'_ = x2 at *
  generalize (countN cs i)[j]'_ = y2 at *
  generalize ((countN cs i).take i).sum = u1 at *
  generalize ((countN cs i).take j).sum = u2 at *
  generalize cs[i] = x at *
  generalize cs[j] = y at *
  generalize (cs.take i).sum = u3 at *
  generalize (cs.take j).sum = u4 at *
  clear hl2
  have HTo := Lib.hid (fun W h => modelTotal_any p S cs W h HCs.out)
  have HTo2 := Lib.hid (fun S' W h => modelTotal_any p S' (countN cs i) W h HCs2.out)
  generalize cs.sum = tot at *
  generalize (countN cs i).sum = tot2 at *
  go_wp2_with fail
  refine (HTo.out w1 HF1.out).mono ?_
  rintro e w2 ⟨rfl, hb2⟩
  have HF2 := Lib.hid (HF1.out.chg (D := fun _ => False) (Chg.of_below hb2) (fun _ _ h => h))
  have HB2 := Lib.hid (new_call HB1.out hb2)
  clear hb2 HF1 HB1
  go_wp2_with fail
  refine (modelShare_any p S cs _ w2 HF2.out HCs.out).mono ?_
  rintro e w3 ⟨rfl, hb3⟩
  rw [HSi.out]
  have HF3 := Lib.hid (HF2.out.chg (D := fun _ => False) (Chg.of_below hb3) (fun _ _ h => h))
  have HB3 := Lib.hid (new_call HB2.out hb3)
  clear hb3 HF2 HB2
  go_wp2_with fail
  refine (modelShare_any p S cs _ w3 HF3.out HCs.out).mono ?_
  rintro e w4 ⟨rfl, hb4⟩
  rw [HSj.out]
  have HF4 := Lib.hid (HF3.out.chg (D := fun _ => False) (Chg.of_below hb4) (fun _ _ h => h))
  have HB4 := Lib.hid (new_call HB3.out hb4)
  clear hb4 HF3 HB3
  have hz := HB4.out.size
  have HO1 := Lib.hid (one_rob (D := S) (w := w4) (i : Int) HF4.out.sit 3 _ rfl)
  have HFx := Lib.hid (HF4.out.chg (w' := w4.alloc (.cells #[.int .i64 (i : Int)] 3)) (D := fun _ => False) (Chg.of_below (new_alloc (Below.refl _ _) _)) (fun _ _ h => h))
  go_wp2_with fail
  refine (modelCount_any p S cs _ 1 1 [(i : Int)] _ HFx.out HCs.out HO1.out (by decide)).mono ?_
  rintro e w5 ⟨S5, rfl, hf5, hc5, hs5⟩
  rw [HC1.out] at hf5 ⊢
  have HF5 := Lib.hid hf5
  have HB5 : Hid (Below w.heap.size w w5) := (new_alloc HB4.out _).trans (hc5.below HS1.out (by simp; omega))
  clear hf5 hc5 hs5 HO1 HFx HF4 HB4
  go_wp2_with fail
  refine (modelShare_any p S5 (countN cs i) _ w5 HF5.out HCs2.out).mono ?_
  rintro e w6 ⟨rfl, hb6⟩
  rw [HSi2.out]
  have HF6 := Lib.hid (HF5.out.chg (D := fun _ => False) (Chg.of_below hb6) (fun _ _ h => h))
  have HB6 := Lib.hid (new_call HB5.out hb6)
  clear hb6 HF5 HB5
  go_wp2_with fail
  refine (modelShare_any p S5 (countN cs i) _ w6 HF6.out HCs2.out).mono ?_
  rintro e w7 ⟨rfl, hb7⟩
  rw [HSj2.out]
  have HF7 := Lib.hid (HF6.out.chg (D := fun _ => False) (Chg.of_below hb7) (fun _ _ h => h))
  have HB7 := Lib.hid (new_call HB6.out hb7)
  clear hb7 HF6 HB6
  have HTt := Lib.hid (HTo2.out S5 w7 HF7.out)
  go_wp2_with fail
  refine HTt.out.mono ?_
  rintro e w8 ⟨rfl, hb8⟩
  have HF8 := Lib.hid (HF7.out.chg (D := fun _ => False) (Chg.of_below hb8) (fun _ _ h => h))
  have HB8 := Lib.hid (new_call HB7.out hb8)
  clear hb8 HF7 HB7
  have HK1 : Hid (K = 1 ∨ 2 ≤ K) := by show _ ∨ _; omega
  rcases hcase with ⟨h1, h2, h3, h4⟩ | ⟨h1, h3, h4⟩
  · have t1 : decide ((tot2 : Int) ≤ (tot : Int)) = false := by simp; omega
    have t1' : decide (tot2 ≤ tot) = false := by simp; omega
    have t2 : decide ((tot : Int) + 32 ≤ 8192) = true := by simp; omega
    have t3 : ((x2 : Int) == (x : Int) + 32) = true := by rw [beq_iff_eq]; omega
    have t4 : ((tot2 : Int) == (tot : Int) + 32) = true := by rw [beq_iff_eq]; omega
    have HTt := Lib.hid (HTo2.out S5 w8 HF8.out)
    rcases HK1.out with hk | hk
    · have tk : ((K : Int) == 1) = true := by rw [hk]; rfl
      clear h1 h2 h3 h4 hk HK1
      go_wp2_with fail
      refine HTt.out.mono ?_
      rintro e w9 ⟨rfl, hb9⟩
      have HF9 := Lib.hid (HF8.out.chg (D := fun _ => False) (Chg.of_below hb9) (fun _ _ h => h))
      have HB9 := Lib.hid (new_call HB8.out hb9)
      clear hb9 HF8 HB8
      go_wp2_with (go_at_call 10; refine (known05 _).mono ?_; rintro e w' ⟨rfl, hb⟩)
      go_ret
      exact ⟨rfl, new_call HB9.out hb⟩
    · have tk : ((K : Int) == 1) = false := by rw [beq_eq_false_iff_ne]; omega
      have t5 : ((y2 : Int) == (y : Int)) = true := by rw [beq_iff_eq]; have := h4 hk; omega
      clear h1 h2 h3 h4 hk HK1
      go_wp2_with fail
      refine HTt.out.mono ?_
      rintro e w9 ⟨rfl, hb9⟩
      have HF9 := Lib.hid (HF8.out.chg (D := fun _ => False) (Chg.of_below hb9) (fun _ _ h => h))
      have HB9 := Lib.hid (new_call HB8.out hb9)
      clear hb9 HF8 HB8
      go_wp2_with (go_at_call 10; refine (known05 _).mono ?_; rintro e w' ⟨rfl, hb⟩)
      go_ret
      exact ⟨rfl, new_call HB9.out hb⟩
  · have t2 : decide ((tot : Int) + 32 ≤ 8192) = false := by simp; omega
    have t3 : ((x2 : Int) == ((x : Int) + 33) / 2) = true := by rw [beq_iff_eq]; omega
    have t0 : decide (tot2 ≤ tot) = true ∨ decide (tot2 ≤ tot) = false := by cases decide (tot2 ≤ tot) <;> simp
    rcases HK1.out with hk | hk
    · have tk : ((K : Int) == 1) = true := by rw [hk]; rfl
      clear h1 h3 h4 hk HK1
      rcases t0 with t1 | t1
      all_goals
        go_wp2_with (go_at_call 10; refine (known05 _).mono ?_; rintro e w' ⟨rfl, hb⟩)
        go_ret
        exact ⟨rfl, new_call HB8.out hb⟩
    · have tk : ((K : Int) == 1) = false := by rw [beq_eq_false_iff_ne]; omega
      have t5 : ((y2 : Int) == ((y : Int) + 1) / 2) = true := by rw [beq_iff_eq]; have := h4 hk; omega
      clear h1 h3 h4 hk HK1
      rcases t0 with t1 | t1
      all_goals
        go_wp2_with (go_at_call 10; refine (known05 _).mono ?_; rintro e w' ⟨rfl, hb⟩)
        go_ret
        exact ⟨rfl, new_call HB8.out hb⟩

set_option maxRecDepth 100000 in
theorem lifted (os : Os) (started : os.Started) (H : Type) (enc : TypeId × Value → H) :
    ReturnsInHanded {} Try.checked os 8 .any (Rows.modelGrowsSpec.pre6 enc Try.prog Try.f8 Rows.modelGrowsRow.domain false) (Rows.modelGrowsSpec.post enc Try.prog Try.f8 false true false false) := by
  refine returnsInHanded_of_change (C := Try.checked) Try.own started (by kernel_rfl) Try.func8
    (ChangeSpec.witness6 (enc := enc) (C := Try.checked) false ⟨#[], #[.int .u8 0, .slice none 0 0, .int .u8 0], []⟩ 8 (by kernel_rfl) (by kernel_rfl) (by kernel_rfl) (by kernel_rfl)) ?_
  intro W base args ds gs before hval0 hW _ _
  have hval : ∀ (j : Nat) t v, Try.f8.params[j]? = some t → args[j]? = some v → Value.okWide Try.prog W .any base t v := hval0
  have hW' := hW
  obtain ⟨p, q, hA0, hV, rfl, _, _⟩ := hW
  have hA : DataW.TrodAll enc Try.prog W 0 (fun _ => true) true Try.f8.params.toList args.toList ds p := hA0
  rw [Try.params8] at hA hval
  obtain ⟨v0, v1, v2, d0, d1, d2, p0, p1, p2, rfl, rfl, rfl, h0, h1, h2⟩ := trodAll_three hA
  obtain ⟨rfl, rfl⟩ := trodVars_none hV
  obtain ⟨a0, rfl, rfl, rfl, w0⟩ := open_int Try.underlying5 (hval 0 5 v0 rfl rfl) h0
  obtain ⟨A1, n1, c1, bs1, rfl, hh1, hb1, hn1⟩ := open_shorts (hval 1 22 v1 rfl rfl) h1
  obtain ⟨a2, rfl, rfl, rfl, w2⟩ := open_int Try.underlying5 (hval 2 5 v2 rfl rfl) h2
  exact (walk a0 A1 n1 c1 bs1 a2 W (wf_u8 w0) hh1 hb1 hn1 (wf_u8 w2)).mono fun e W' he =>
    law_post rfl rfl (by rw [Try.params8]; intro t ht; simp at ht; rcases ht with rfl | rfl | rfl <;> exact ⟨by kernel_rfl, of_decide_eq_true (by kernel_rfl)⟩) hW' rfl he

theorem proved : Rows.ModelGrowsSaid :=
  OpenClaim.holds_of_wide 8 Try.f8 rfl rfl rfl rfl rfl rfl rfl ⟨rfl, rfl, rfl, rfl, rfl⟩ rfl rfl rfl rfl rfl (by kernel_rfl) Try.func8 (by kernel_rfl)
    (of_decide_eq_true (by kernel_rfl)) (by unfold Func.isWrapper; first | (rw [if_pos (by decide +kernel)]; kernel_rfl) | (rw [if_neg (by decide +kernel)]; exact ⟨rfl, rfl⟩))
    (fun os started H enc _ => lifted os started H enc)
end Go.Proofs.Ytpflaejojfoeaaa.modelGrows
