/- Of any bytes: VintAll answers true: they are the numbers that the document says, to the end, or none. Conditions: none. -/
import Derived.Test.YtkpangelcboklaaKnown01
import Derived.Test.YtkpangelcboklaaAll
import Derived.Test.YtkpangelcboklaaLaw
import Derived.Deep.QuietTactic
import Derived.BigQuiet
namespace Go.Proofs.Ytkpangelcboklaa.vintAll
open Go.ChangeShapes Go.WideShapes Go.ChangeAt Go.RowKit

set_option maxRecDepth 100000 in
set_option maxHeartbeats 1000000 in
theorem walk (A : Option Addr) (n c : Nat) (bs : List Nat) (w : World) (hh : Has w A n c (u8s bs)) (hb : ∀ x ∈ bs, x < 256) (hn : n ≤ 9223372036854775807) :
    Calls Try.prog 5 #[.slice A n c] w fun e w' => e = .returned (.bool true) ∧ Below w.heap.size w w' := by
  by_cases hl : 4000 < n
  · have t : decide ((4000 : Int) < (n : Int)) = true := by simp; omega
    clear hh hb
    go_enter Try.func5, Try.ntmps5
    go_wp2_with (go_at_call 12; refine (known01 _).mono ?_; rintro e w' ⟨rfl, hb⟩)
    go_ret
    exact ⟨rfl, hb⟩
  · have t : decide ((4000 : Int) < (n : Int)) = false := by simp; omega
    have HX := Lib.hid (all_any A n c bs w hh hb (by omega))
    have HY : Hid (∀ W, Below w.heap.size w W → Calls Try.prog 19 #[.slice A n c] W (Alld W (allF (n + 1) bs 0 []))) :=
      fun W hW => refAll_any A n c bs W (hh.kept hW) hb (by omega)
    have HL : Hid ((allF (n + 1) bs 0 []).1.length ≤ 9223372036854775807) := by
      have h1 := allF_len (n + 1) bs 0 [] (by simp) (by omega)
      have h2 := hh.len
      rw [u8s_len] at h2
      show _ ≤ _
      omega
    clear hh hb
    generalize allF (n + 1) bs 0 [] = q at *
    have hql := HL.out
    go_enter Try.func5, Try.ntmps5
    go_wp2_with fail
    refine HX.out.mono ?_
    rintro e w1 ⟨v1, rfl, ho1, hb1⟩
    obtain ⟨A1, c1, rfl, hh1⟩ := ho1.has
    rw [u64s_len] at hh1
    have HB1 := Lib.hid hb1
    have HH1 := Lib.hid hh1
    clear hb1 ho1 hh1
    go_wp2_with fail
    refine (HY.out _ HB1.out).mono ?_
    rintro e w2 ⟨v2, rfl, ho2, hb2⟩
    obtain ⟨A2, c2, rfl, hh2⟩ := ho2.has
    rw [u64s_len] at hh2
    have HB2 := Lib.hid hb2
    have HH2 := Lib.hid hh2
    have HH1' := Lib.hid (HH1.out.kept hb2)
    clear hb2 ho2 hh2 HH1
    have HW := Lib.hid (new_call HB1.out HB2.out)
    rw [u64s_len]
    generalize q.1 = l at *
    generalize hm : l.length = m at *
    have HM := Lib.hid hm
    clear hm
    go_wp2
    go_loopg [7] m (fun g s7 wx => ∃ i : Nat, i + g = m ∧ s7 = .int .i64 i ∧ Below w2.heap.size w2 wx)
    case atStart => exact ⟨0, by omega, rfl, Below.refl _ _⟩
    case round =>
      obtain ⟨i, hig, rfl, hbel⟩ := hrel
      by_cases hi : i < m
      · have hil : i < l.length := by rw [HM.out]; exact hi
        obtain ⟨b1, o1, rfl, _, hc1⟩ := (HH1'.out.kept hbel).spot (by omega)
        obtain ⟨b2, o2, rfl, _, hc2⟩ := (HH2.out.kept hbel).spot (by omega)
        have hx1 := hc1 i _ (u64s_at hil)
        have hx2 := hc2 i _ (u64s_at hil)
        have HBx := Lib.hid hbel
        clear hc1 hc2 hbel
        generalize l[i] = x at *
        clear hil
        go_wp2
        go_quiet (fail)
        go_wp2
        go_roundg (gk - 1)
        case measure => omega
        case rel => exact ⟨i + 1, by omega, by go_num, HBx.out.trans ⟨rfl, rfl, rfl, Nat.le_refl _, fun _ _ => rfl⟩⟩
      · have HBx := Lib.hid hbel
        clear hbel
        go_wp2_with (go_at_call 12; refine (known01 _).mono ?_; rintro e w' ⟨rfl, hb⟩)
        go_ret
        exact ⟨rfl, new_call (new_call HW.out HBx.out) hb⟩

set_option maxRecDepth 100000 in
theorem lifted (os : Os) (started : os.Started) (H : Type) (enc : TypeId × Value → H) :
    ReturnsInHanded {} Try.checked os 5 .any (Rows.vintAllSpec.pre6 enc Try.prog Try.f5 Rows.vintAllRow.domain false) (Rows.vintAllSpec.post enc Try.prog Try.f5 false true false false) := by
  refine returnsInHanded_of_change (C := Try.checked) Try.own started (by kernel_rfl) Try.func5
    (ChangeSpec.witness6 (enc := enc) (C := Try.checked) false ⟨#[], #[.slice none 0 0], []⟩ 8 (by kernel_rfl) (by kernel_rfl) (by kernel_rfl) (by kernel_rfl)) ?_
  intro W base args ds gs before hval0 hW _ _
  have hval : ∀ (j : Nat) t v, Try.f5.params[j]? = some t → args[j]? = some v → Value.okWide Try.prog W .any base t v := hval0
  have hW' := hW
  obtain ⟨p, q, hA0, hV, rfl, _, _⟩ := hW
  have hA : DataW.TrodAll enc Try.prog W 0 (fun _ => true) true Try.f5.params.toList args.toList ds p := hA0
  rw [Try.params5] at hA hval
  obtain ⟨v0, d0, rfl, rfl, h0⟩ := trodAll_one hA
  obtain ⟨rfl, rfl⟩ := trodVars_none hV
  obtain ⟨A0, n0, c0, bs0, rfl, hh0, hb0, hn0⟩ := open_bytes (hval 0 24 v0 rfl rfl) h0
  exact (walk A0 n0 c0 bs0 W hh0 hb0 hn0).mono fun e W' he =>
    law_post rfl rfl (by rw [Try.params5]; intro t ht; simp at ht; subst ht; exact ⟨by kernel_rfl, of_decide_eq_true (by kernel_rfl)⟩) hW' rfl he

theorem proved : Rows.VintAllSaid :=
  OpenClaim.holds_of_wide 5 Try.f5 rfl rfl rfl rfl rfl rfl rfl ⟨rfl, rfl, rfl, rfl, rfl⟩ rfl rfl rfl rfl rfl (by kernel_rfl) Try.func5 (by kernel_rfl)
    (of_decide_eq_true (by kernel_rfl)) (by unfold Func.isWrapper; first | (rw [if_pos (by decide +kernel)]; kernel_rfl) | (rw [if_neg (by decide +kernel)]; exact ⟨rfl, rfl⟩))
    (fun os started H enc _ => lifted os started H enc)
end Go.Proofs.Ytkpangelcboklaa.vintAll
