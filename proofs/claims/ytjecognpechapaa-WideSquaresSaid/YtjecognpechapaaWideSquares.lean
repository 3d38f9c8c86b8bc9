/- Of any two numbers of 32 bits WideSquares answers true: no square is less than nothing; a difference of squares is a product of a sum and a difference. Conditions: none. -/
import Derived.Test.YtjecognpechapaaKnown08
import Derived.Test.YtjecognpechapaaLaw
namespace Go.Proofs.Ytjecognpechapaa.wideSquares
open Go.ChangeShapes Go.WideShapes Go.ChangeAt Go.RowKit

theorem sq_in {x : Int} (hx : -4294967296 ≤ x ∧ x ≤ 4294967296) {y : Int} (hy : -4294967296 ≤ y ∧ y ≤ 4294967296) : inW (x * y) ∧ -18446744073709551616 ≤ x * y ∧ x * y ≤ 18446744073709551616 := by
  have h : (x * y).natAbs ≤ 4294967296 * 4294967296 := by
    rw [Int.natAbs_mul]
    exact Nat.mul_le_mul (by omega) (by omega)
  unfold inW
  omega
set_option maxRecDepth 100000 in
set_option maxHeartbeats 1000000 in
theorem walk (x y : Int) (w : World) (hx : -2147483648 ≤ x ∧ x ≤ 2147483647) (hy : -2147483648 ≤ y ∧ y ≤ 2147483647) :
    Calls Try.prog 10 #[.int .i32 x, .int .i32 y] w fun e w' => e = .returned (.bool true) ∧ Below w.heap.size w w' := by
  have i1 : i64W x := by unfold i64W; omega
  have i2 : i64W y := by unfold i64W; omega
  have HMx := Lib.hid (fun W => wideMul_any x x W i1 i1)
  have HMy := Lib.hid (fun W => wideMul_any y y W i2 i2)
  have HMp := Lib.hid (fun W => wideMul_any (x + y) (x - y) W (by unfold i64W; omega) (by unfold i64W; omega))
  obtain ⟨b1, b2, b3⟩ := sq_in (x := x) (y := x) (by omega) (by omega)
  have hsq : 0 ≤ x * x := by
    rcases Int.le_total 0 x with h | h
    · exact Int.mul_nonneg h h
    · have := Int.mul_nonneg (show 0 ≤ -x by omega) (show 0 ≤ -x by omega)
      rw [Int.neg_mul_neg] at this
      exact this
  have HN := Lib.hid (fun W => wideNegC_any (y * y) W)
  have HA := Lib.hid (fun V => wideAddC_any (x * x) (-(y * y)) V)
  have HS := Lib.hid (fun W => wideSignC_any (x * x) W b1)
  have hcs : 0 ≤ cmpI (x * x) 0 := by unfold cmpI; rw [if_neg (by omega)]; split <;> decide
  have hdt : dotR [x, x, y, -y] = (x * x + -(y * y), 0) := by
    unfold dotR
    rw [if_neg (by simp)]
    simp only [dotI]
    rw [Int.mul_neg, Int.add_zero]
  have HD := Lib.hid (fun (V : World) (g : Nat) (hg : g = V.heap.size) => wideDot_any (some ⟨g, 0, none⟩) 4 4 [x, x, y, -y] (V.alloc (.cells #[.int .i64 x, .int .i64 x, .int .i64 y, .int .i64 (-y)] 3)) (Has.new_at V #[.int .i64 x, .int .i64 x, .int .i64 y, .int .i64 (-y)] 3 g hg) (by
    intro z hz
    simp at hz
    unfold i64W
    omega) (by decide))
  rw [hdt] at HD
  have hpq : (x + y) * (x - y) = x * x + -(y * y) := by
    rw [Int.add_mul, Int.mul_sub, Int.mul_sub, Int.mul_comm y x]
    omega
  rw [hpq] at HMp
  have hny : i64W (-y) := by unfold i64W; omega
  unfold numV at HMx HMy HMp HN HA HS HD
  generalize cmpI (x * x) 0 = k at *
  generalize x * x = p at *
  generalize y * y = q at *
  have tk : decide (0 ≤ k) = true := by simpa using hcs
  clear b1 b2 b3 hsq hdt hpq hny i1 i2
  go_enter Try.func10, Try.ntmps10
  go_wp2_with fail
  refine (HMx.out _).mono ?_
  rintro e w1 ⟨rfl, hb1⟩
  have HB1 := Lib.hid hb1
  clear hb1
  go_wp2_with fail
  refine (HMy.out _).mono ?_
  rintro e w2 ⟨rfl, hb2⟩
  have HB2 := Lib.hid (new_call HB1.out hb2)
  clear hb2 HB1
  go_wp2_with fail
  refine (HN.out _).mono ?_
  rintro e w3 ⟨rfl, hb3⟩
  have HB3 := Lib.hid (new_call HB2.out hb3)
  clear hb3 HB2
  go_wp2_with fail
  refine (HA.out _).mono ?_
  rintro e w4 ⟨rfl, hb4⟩
  have HB4 := Lib.hid (new_alloc (new_call HB3.out hb4) (.cells #[.int .i64 (hiW (p + -q)), .int .u64 (loW (p + -q))] 25))
  have HK4 := Lib.hid (Blk.new w4 25 #[.int .i64 (hiW (p + -q)), .int .u64 (loW (p + -q))])
  clear hb4 HB3
  go_wp2_with fail
  refine (HMp.out _).mono ?_
  rintro e w5 ⟨rfl, hb5⟩
  have HB5 := Lib.hid (new_alloc (new_call HB4.out hb5) (.cells #[.int .i64 (hiW (p + -q)), .int .u64 (loW (p + -q))] 25))
  have HK5 := Lib.hid ((HK4.out.below hb5 HK4.out.lt).alloc (.cells #[.int .i64 (hiW (p + -q)), .int .u64 (loW (p + -q))] 25))
  have HL5 := Lib.hid (Blk.new w5 25 #[.int .i64 (hiW (p + -q)), .int .u64 (loW (p + -q))])
  clear hb5 HB4 HK4
  go_wp2_with fail
  refine (HD.out (w5.alloc (.cells #[.int .i64 (hiW (p + -q)), .int .u64 (loW (p + -q))] 25)) (w5.heap.size + 1) (Array.size_push _).symm).mono ?_
  rintro e w6 ⟨rfl, hb6⟩
  have hb7 := new_call (new_alloc (Below.refl _ _) _) hb6
  have HB6 := Lib.hid (new_alloc (new_call HB5.out hb7) (.cells #[.int .i64 (hiW (p + -q)), .int .u64 (loW (p + -q))] 25))
  have HK6 := Lib.hid ((HK5.out.below hb7 HK5.out.lt).alloc (.cells #[.int .i64 (hiW (p + -q)), .int .u64 (loW (p + -q))] 25))
  have HL6 := Lib.hid ((HL5.out.below hb7 HL5.out.lt).alloc (.cells #[.int .i64 (hiW (p + -q)), .int .u64 (loW (p + -q))] 25))
  have HM6 := Lib.hid (Blk.new w6 25 #[.int .i64 (hiW (p + -q)), .int .u64 (loW (p + -q))])
  clear hb6 hb7 HB5 HK5 HL5
  go_wp2_with fail
  refine (HMx.out _).mono ?_
  rintro e w7 ⟨rfl, hb7⟩
  have HB7 := Lib.hid (new_call HB6.out hb7)
  have HK7 := Lib.hid (HK6.out.below hb7 HK6.out.lt)
  have HL7 := Lib.hid (HL6.out.below hb7 HL6.out.lt)
  have HM7 := Lib.hid (HM6.out.below hb7 HM6.out.lt)
  clear hb7 HB6 HK6 HL6 HM6
  go_wp2_with fail
  refine (HS.out _).mono ?_
  rintro e w8 ⟨rfl, hb8⟩
  have HB8 := Lib.hid (new_call HB7.out hb8)
  have HK8 := Lib.hid (HK7.out.below hb8 HK7.out.lt)
  have HL8 := Lib.hid (HL7.out.below hb8 HL7.out.lt)
  have HM8 := Lib.hid (HM7.out.below hb8 HM7.out.lt)
  have k0 : w8.cell? ⟨w4.heap.size, 0, none⟩ = some (.int .i64 (hiW (p + -q))) := HK8.out.cell 0
  have k1 : w8.cell? ⟨w4.heap.size, 1, none⟩ = some (.int .u64 (loW (p + -q))) := HK8.out.cell 1
  have l0 : w8.cell? ⟨w5.heap.size, 0, none⟩ = some (.int .i64 (hiW (p + -q))) := HL8.out.cell 0
  have l1 : w8.cell? ⟨w5.heap.size, 1, none⟩ = some (.int .u64 (loW (p + -q))) := HL8.out.cell 1
  have m0 : w8.cell? ⟨w6.heap.size, 0, none⟩ = some (.int .i64 (hiW (p + -q))) := HM8.out.cell 0
  have m1 : w8.cell? ⟨w6.heap.size, 1, none⟩ = some (.int .u64 (loW (p + -q))) := HM8.out.cell 1
  clear hb8 HB7 HK7 HL7 HM7
  go_wp2_with fail
  refine (known08 _).mono ?_
  rintro e w9 ⟨rfl, hb9⟩
  have HB9 := Lib.hid (new_call HB8.out hb9)
  go_wp2
  go_ret
  exact ⟨rfl, HB9.out⟩

set_option maxRecDepth 100000 in
theorem lifted (os : Os) (started : os.Started) (H : Type) (enc : TypeId × Value → H) :
    ReturnsInHanded {} Try.checked os 10 .any (Rows.wideSquaresSpec.pre6 enc Try.prog Try.f10 Rows.wideSquaresRow.domain false) (Rows.wideSquaresSpec.post enc Try.prog Try.f10 false true false false) := by
  refine returnsInHanded_of_change (C := Try.checked) Try.own started (by kernel_rfl) Try.func10
    (ChangeSpec.witness6 (enc := enc) (C := Try.checked) false ⟨#[], #[.int .i32 0, .int .i32 0], []⟩ 8 (by kernel_rfl) (by kernel_rfl) (by kernel_rfl) (by kernel_rfl)) ?_
  intro W base args ds gs before hval0 hW _ _
  have hval : ∀ (j : Nat) t v, Try.f10.params[j]? = some t → args[j]? = some v → Value.okWide Try.prog W .any base t v := hval0
  have hW' := hW
  obtain ⟨p, q, hA0, hV, rfl, _, _⟩ := hW
  have hA : DataW.TrodAll enc Try.prog W 0 (fun _ => true) true Try.f10.params.toList args.toList ds p := hA0
  rw [Try.params10] at hA hval
  obtain ⟨v0, v1, d0, d1, p0, p1, rfl, rfl, rfl, h0, h1⟩ := trodAll_two hA
  obtain ⟨rfl, rfl⟩ := trodVars_none hV
  obtain ⟨a0, rfl, rfl, rfl, w0⟩ := open_int Try.underlying21 (hval 0 21 v0 rfl rfl) h0
  obtain ⟨a1, rfl, rfl, rfl, w1⟩ := open_int Try.underlying21 (hval 1 21 v1 rfl rfl) h1
  exact (walk a0 a1 W (wf_i32 w0) (wf_i32 w1)).mono fun e W' he =>
    law_post rfl rfl (by rw [Try.params10]; intro t ht; simp at ht; subst ht; exact ⟨by kernel_rfl, of_decide_eq_true (by kernel_rfl)⟩) hW' rfl he

theorem proved : Rows.WideSquaresSaid :=
  OpenClaim.holds_of_wide 10 Try.f10 rfl rfl rfl rfl rfl rfl rfl ⟨rfl, rfl, rfl, rfl, rfl⟩ rfl rfl rfl rfl rfl (by kernel_rfl) Try.func10 (by kernel_rfl)
    (of_decide_eq_true (by kernel_rfl)) (by unfold Func.isWrapper; first | (rw [if_pos (by decide +kernel)]; kernel_rfl) | (rw [if_neg (by decide +kernel)]; exact ⟨rfl, rfl⟩))
    (fun os started H enc _ => lifted os started H enc)
end Go.Proofs.Ytjecognpechapaa.wideSquares
