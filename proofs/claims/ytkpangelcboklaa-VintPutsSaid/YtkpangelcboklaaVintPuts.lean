/- Of any numbers: VintPuts answers true: vint.Put writes the bytes that the document does, one behind the other. Conditions: none. -/
import Derived.Test.YtkpangelcboklaaKnown01
import Derived.Test.YtkpangelcboklaaRefPut
import Derived.Test.YtkpangelcboklaaLaw
namespace Go.Proofs.Ytkpangelcboklaa.vintPuts
open Go.ChangeShapes Go.WideShapes Go.ChangeAt Go.RowKit

set_option maxRecDepth 100000 in
set_option maxHeartbeats 1000000 in
theorem walk (A : Option Addr) (n c : Nat) (l : List Nat) (w : World) (hh : Has w A n c (u64s l)) (hl : ∀ x ∈ l, x < 18446744073709551616) (hn : n ≤ 9223372036854775807) :
    Calls Try.prog 3 #[.slice A n c] w fun e w' => e = .returned (.bool true) ∧ Below w.heap.size w w' := by
  by_cases hbig : 400 < n
  · have t : decide ((400 : Int) < (n : Int)) = true := by simp; omega
    clear hh hl
    go_enter Try.func3, Try.ntmps3
    go_wp2_with (go_at_call 12; refine (known01 _).mono ?_; rintro e w' ⟨rfl, hb⟩)
    go_ret
    exact ⟨rfl, hb⟩
  · have t : decide ((400 : Int) < (n : Int)) = false := by simp; omega
    have hn4 : n ≤ 400 := by omega
    have HH : Aside (Has w A n c (u64s l)) := hh
    have HL : Aside (∀ x ∈ l, x < 18446744073709551616) := hl
    have HN : Aside (l.length = n) := by have := hh.len; rw [u64s_len] at this; exact this
    clear hh hl hbig hn
    go_enter Try.func3, Try.ntmps3
    go_wp2
    go_loopg [3, 4] n (fun g s3 s4 wx => ∃ k : Nat, k + g = n ∧ s4 = .int .i64 k ∧ Own wx w.heap.size 5 s3 (u8s (putAll (l.take k))) ∧ Below w.heap.size w wx)
    case atStart => exact ⟨0, by omega, rfl, Own.nil _ _ _, Below.refl _ _⟩
    case round =>
      obtain ⟨k, hkg, rfl, hown, hbel⟩ := hrel
      by_cases hk : k < n
      · have hkl : k < l.length := by have := HN.out; omega
        obtain ⟨b, off, rfl, hbs, hcell⟩ := (HH.out.kept hbel).spot (by omega)
        have hcl := hcell k _ (u64s_at hkl)
        obtain ⟨N, hN⟩ : ∃ N, l[k] = N := ⟨_, rfl⟩
        have hN64 : N < 18446744073709551616 := by rw [← hN]; exact HL.out _ (List.getElem_mem hkl)
        have HT : Aside (putAll (l.take (k + 1)) = putAll (l.take k) ++ putN N) := by rw [← hN]; exact putAll_take hkl
        rw [hN] at hcl
        have hpl : (putAll (l.take k)).length ≤ 10 * n := by
          have := putAll_len (l := l.take k) fun x hx => HL.out x (List.mem_of_mem_take hx)
          rw [List.length_take] at this; omega
        have hnp := putN_len hN64
        have HO := Lib.hid hown
        have HB := Lib.hid hbel
        clear hN hcell hkl hown hbel
        go_wp2_with (first
          | (go_at_call 13; refine (refPut_any N _ hN64).mono ?_; rintro e w1 ⟨A1, c1, rfl, hh1, ho1, hb1⟩; have HW := Lib.hid hh1; have HB1 := Lib.hid hb1; clear hh1 ho1 hb1)
          | (at_builtin; refine wpList_join rfl _ _ 24 rfl elem8 w.heap.size _ _ rfl (HO.out.keep HB1.out) _ _ _ _ rfl HW.out (u8s_one _) (by rw [u8s_len]; omega) (by decide) (Nat.le_trans HB.out.size HB1.out.size) ?_; intro v' w' hown' hbel'))
        have R1 : Own w' w.heap.size 5 v' (u8s (putAll (l.take (k + 1)))) := by rw [HT.out, u8s_app]; exact hown'
        have R2 : Below w.heap.size w w' := (new_call HB.out HB1.out).trans hbel'
        clear hown' hbel'
        go_wp2
        go_roundg (gk - 1)
        case measure => omega
        case rel => exact ⟨k + 1, by omega, by go_num, R1, R2⟩
      · have hz : ¬ ((k : Int) < (n : Int)) := by omega
        have hlk : l.take k = l := List.take_of_length_le (by have := HN.out; omega)
        rw [hlk] at hown
        obtain ⟨A2, c2, rfl, hh2⟩ := hown.has
        rw [u8s_len] at hh2
        have HB := Lib.hid hbel
        have HP := Lib.hid (put_has A n c l wr (HH.out.kept hbel) HL.out (by omega))
        have HH2 := Lib.hid hh2
        clear hlk hown hbel hh2
        go_wp2_with (first
          | (go_at_call 15; refine HP.out.mono ?_; rintro e w1 ⟨A1, c1, rfl, hh1, ho1, hb1⟩; have HW := Lib.hid hh1; have HB1 := Lib.hid hb1; clear hh1 ho1 hb1)
          | (go_at_call 14; refine (same_any _ _ _ _ _ _ (putAll l) (putAll l) _ HW.out (by rw [u8s_len]; exact HH2.out.kept HB1.out) (putAll_byte l) (putAll_byte l)).mono ?_; rintro e w' ⟨rfl, rfl⟩)
          | (go_at_call 12; refine (known01 _).mono ?_; rintro e w' ⟨rfl, hb⟩))
        go_ret
        exact ⟨rfl, new_call (new_call HB.out HB1.out) hb⟩

set_option maxRecDepth 100000 in
theorem lifted (os : Os) (started : os.Started) (H : Type) (enc : TypeId × Value → H) :
    ReturnsInHanded {} Try.checked os 3 .any (Rows.vintPutsSpec.pre6 enc Try.prog Try.f3 Rows.vintPutsRow.domain false) (Rows.vintPutsSpec.post enc Try.prog Try.f3 false true false false) := by
  refine returnsInHanded_of_change (C := Try.checked) Try.own started (by kernel_rfl) Try.func3
    (ChangeSpec.witness6 (enc := enc) (C := Try.checked) false ⟨#[], #[.slice none 0 0], []⟩ 8 (by kernel_rfl) (by kernel_rfl) (by kernel_rfl) (by kernel_rfl)) ?_
  intro W base args ds gs before hval0 hW _ _
  have hval : ∀ (j : Nat) t v, Try.f3.params[j]? = some t → args[j]? = some v → Value.okWide Try.prog W .any base t v := hval0
  have hW' := hW
  obtain ⟨p, q, hA0, hV, rfl, _, _⟩ := hW
  have hA : DataW.TrodAll enc Try.prog W 0 (fun _ => true) true Try.f3.params.toList args.toList ds p := hA0
  rw [Try.params3] at hA hval
  obtain ⟨v0, d0, rfl, rfl, h0⟩ := trodAll_one hA
  obtain ⟨rfl, rfl⟩ := trodVars_none hV
  obtain ⟨A0, n0, c0, bs0, rfl, hh0, hb0, hn0⟩ := open_words (hval 0 22 v0 rfl rfl) h0
  exact (walk A0 n0 c0 bs0 W hh0 hb0 hn0).mono fun e W' he =>
    law_post rfl rfl (by rw [Try.params3]; intro t ht; simp at ht; subst ht; exact ⟨by kernel_rfl, of_decide_eq_true (by kernel_rfl)⟩) hW' rfl he

theorem proved : Rows.VintPutsSaid :=
  OpenClaim.holds_of_wide 3 Try.f3 rfl rfl rfl rfl rfl rfl rfl ⟨rfl, rfl, rfl, rfl, rfl⟩ rfl rfl rfl rfl rfl (by kernel_rfl) Try.func3 (by kernel_rfl)
    (of_decide_eq_true (by kernel_rfl)) (by unfold Func.isWrapper; first | (rw [if_pos (by decide +kernel)]; kernel_rfl) | (rw [if_neg (by decide +kernel)]; exact ⟨rfl, rfl⟩))
    (fun os started H enc _ => lifted os started H enc)
end Go.Proofs.Ytkpangelcboklaa.vintPuts
