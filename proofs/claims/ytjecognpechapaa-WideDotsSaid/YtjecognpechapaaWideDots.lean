/- Of any whole numbers WideDots answers true: of any words the sum of the products of every two is what the chapter says. Conditions: none. -/
import Derived.Test.YtjecognpechapaaKnown08
import Derived.Test.YtjecognpechapaaLaw
import Derived.Test.YtjecognpechapaaLawInts
namespace Go.Proofs.Ytjecognpechapaa.wideDots
open Go.ChangeShapes Go.WideShapes Go.ChangeAt Go.RowKit

set_option maxRecDepth 100000 in
set_option maxHeartbeats 1000000 in
theorem walk (A : Option Addr) (n c : Nat) (l : List Int) (w : World) (h : Has w A n c (intVs l)) (hl : ∀ x ∈ l, -9223372036854775808 ≤ x ∧ x ≤ 9223372036854775807) (hn : n ≤ 9223372036854775807) :
    Calls Try.prog 5 #[.slice A n c] w fun e w' => e = .returned (.bool true) ∧ Below w.heap.size w w' := by
  by_cases h60 : 60 < n
  · have t : decide ((60 : Int) < (n : Int)) = true := by simp; omega
    clear h hl
    go_enter Try.func5, Try.ntmps5
    go_wp2_with (go_at_call 16; refine (known08 _).mono ?_; rintro e w9 ⟨rfl, hb9⟩)
    go_ret
    exact ⟨rfl, hb9⟩
  · have t : decide ((60 : Int) < (n : Int)) = false := by simp; omega
    have HD := Lib.hid (wideDot_any A n c l w h hl (by omega))
    have HR := Lib.hid (fun W (hW : Below w.heap.size w W) => ref8Dot_any A n c l W (h.kept hW) hl (by omega))
    clear h hl
    generalize dotR l = r at *
    obtain ⟨x, k⟩ := r
    simp only at HD HR
    unfold numV at HD
    go_enter Try.func5, Try.ntmps5
    go_wp2_with (go_at_call 25; refine HD.out.mono ?_; rintro e w1 ⟨rfl, hb1⟩; have HB1 := Lib.hid (new_alloc hb1 (.cells #[.int .i64 (hiW x), .int .u64 (loW x)] 25)); have HN1 := Lib.hid (Blk.new w1 25 #[.int .i64 (hiW x), .int .u64 (loW x)]); have HRw := Lib.hid (HR.out _ HB1.out); clear hb1)
    refine HRw.out.mono ?_
    rintro e w2 ⟨A2, c2, rfl, hh2, hb2⟩
    have HB2 := Lib.hid (new_alloc (new_call HB1.out hb2) (.cells #[.slice A2 8 c2] 29))
    have HN2 := Lib.hid ((HN1.out.below hb2 HN1.out.lt).alloc (.cells #[.slice A2 8 c2] 29))
    have HI := Lib.hid (lawIs_any x A2 c2 x (w2.alloc (.cells #[.slice A2 8 c2] 29)) (hh2.alloc _) (Cong.refl _))
    have c0 : (w2.alloc (.cells #[.slice A2 8 c2] 29)).cell? ⟨w1.heap.size, 0, none⟩ = some (.int .i64 (hiW x)) := HN2.out.cell 0
    have c1 : (w2.alloc (.cells #[.slice A2 8 c2] 29)).cell? ⟨w1.heap.size, 1, none⟩ = some (.int .u64 (loW x)) := HN2.out.cell 1
    clear hh2 hb2 HB1 HN1 HRw HD HR
    go_wp2_with fail
    refine HI.out.mono ?_
    rintro e w3 ⟨rfl, hb3⟩
    have HB3 := Lib.hid (new_call HB2.out hb3)
    clear hb3
    go_wp2_with fail
    refine (known08 _).mono ?_
    rintro e w9 ⟨rfl, hb9⟩
    have HB9 := Lib.hid (new_call HB3.out hb9)
    go_wp2
    go_ret
    exact ⟨rfl, HB9.out⟩

set_option maxRecDepth 100000 in
theorem lifted (os : Os) (started : os.Started) (H : Type) (enc : TypeId × Value → H) :
    ReturnsInHanded {} Try.checked os 5 .any (Rows.wideDotsSpec.pre6 enc Try.prog Try.f5 Rows.wideDotsRow.domain false) (Rows.wideDotsSpec.post enc Try.prog Try.f5 false true false false) := by
  refine returnsInHanded_of_change (C := Try.checked) Try.own started (by kernel_rfl) Try.func5
    (ChangeSpec.witness6 (enc := enc) (C := Try.checked) false ⟨#[], #[.slice none 0 0], []⟩ 8 (by kernel_rfl) (by kernel_rfl) (by kernel_rfl) (by kernel_rfl)) ?_
  intro W base args ds gs before hval0 hW _ _
  have hval : ∀ (j : Nat) t v, Try.f5.params[j]? = some t → args[j]? = some v → Value.okWide Try.prog W .any base t v := hval0
  have hW' := hW
  obtain ⟨p, q, hA0, hV, rfl, _, _⟩ := hW
  have hA : DataW.TrodAll enc Try.prog W 0 (fun _ => true) true Try.f5.params.toList args.toList ds p := hA0
  rw [Try.params5] at hA hval
  obtain ⟨v0, d0, rfl, rfl, h0⟩ := trodAll_one hA
  obtain ⟨rfl, rfl⟩ := trodVars_none hV
  obtain ⟨A0, n0, c0, bs0, rfl, hh0, hb0, hn0⟩ := open_intsl (hval 0 27 v0 rfl rfl) h0
  exact (walk A0 n0 c0 bs0 W hh0 hb0 hn0).mono fun e W' he =>
    law_post rfl rfl (by rw [Try.params5]; intro t ht; simp at ht; subst ht; exact ⟨by kernel_rfl, of_decide_eq_true (by kernel_rfl)⟩) hW' rfl he

theorem proved : Rows.WideDotsSaid :=
  OpenClaim.holds_of_wide 5 Try.f5 rfl rfl rfl rfl rfl rfl rfl ⟨rfl, rfl, rfl, rfl, rfl⟩ rfl rfl rfl rfl rfl (by kernel_rfl) Try.func5 (by kernel_rfl)
    (of_decide_eq_true (by kernel_rfl)) (by unfold Func.isWrapper; first | (rw [if_pos (by decide +kernel)]; kernel_rfl) | (rw [if_neg (by decide +kernel)]; exact ⟨rfl, rfl⟩))
    (fun os started H enc _ => lifted os started H enc)
end Go.Proofs.Ytjecognpechapaa.wideDots
