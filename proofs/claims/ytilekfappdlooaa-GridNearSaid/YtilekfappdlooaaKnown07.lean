/- math's Inf, NaN, Copysign, as the laws call them; lapidarylaw07.known. -/
import Derived.Test.YtilekfappdlooaaGridCode
namespace Go.Proofs.Ytilekfappdlooaa
open Go.RowKit

theorem nan_any (w : World) : Calls Try.prog 40 #[] w fun e w' => e = .returned (.float .f64 9221120237041090561) ∧ w = w' := by
  have h1 := fun W => from_run 9221120237041090561 W
  go_enter Try.func40, Try.ntmps40
  go_wp2
  go_ret
  exact ⟨rfl, rfl⟩
theorem negNought_any (w : World) : Calls Try.prog 30 #[.float .f64 0, .float .f64 13830554455654793216] w fun e w' => e = .returned (.float .f64 9223372036854775808) ∧ w = w' := by
  have h1 := fun W => bits_run 0 W
  have h2 := fun W => bits_run 13830554455654793216 W
  have h3 := fun W => from_run 9223372036854775808 W
  have e1 : bits .andNot .u64 0 9223372036854775808 = 0 := by decide +kernel
  have e2 : bits .and .u64 13830554455654793216 9223372036854775808 = 9223372036854775808 := by decide +kernel
  have e3 : bits .or .u64 0 9223372036854775808 = 9223372036854775808 := by decide +kernel
  go_enter Try.func30, Try.ntmps30
  go_wp2
  go_ret
  exact ⟨rfl, rfl⟩
theorem k7_three : scaledF 4613937818241073152 0 = (3, 0) := by decide +kernel
theorem k7_nought : scaledF 9223372036854775808 0 = (0, 71) := by decide +kernel
theorem k7_quarters : scaledF 4604930618986332160 2 = (3, 0) := by decide +kernel
theorem k7_nan : scaledF 9221120237041090561 0 = (0, 70) := by decide +kernel
theorem k7_two : roundF 4612811918334230528 = (2, 0) := by decide +kernel
theorem k7_four : roundF 13838435755002691584 = (-4, 0) := by decide +kernel
set_option maxRecDepth 100000 in
set_option maxHeartbeats 400000 in
theorem known07 (w : World) : Calls Try.prog 16 #[] w fun e w' => e = .returned (.bool true) ∧ Below w.heap.size w w' := by
  have HN := Lib.hid (fun W => negNought_any W)
  have HNa := Lib.hid (fun W => nan_any W)
  go_enter Try.func16, Try.ntmps16
  have H1 := Lib.hid (gridInt_any 4613937818241073152 w (by decide))
  rw [k7_three] at H1
  go_wp2_with fail
  refine H1.out.mono ?_
  rintro e w1 ⟨rfl, hb1⟩
  have HB1 := Lib.hid (hb1)
  clear hb1 H1
  go_wp2_with fail
  refine (HN.out w1).mono ?_
  rintro e w' ⟨rfl, rfl⟩
  have H2 := Lib.hid (gridInt_any 9223372036854775808 w1 (by decide))
  rw [k7_nought] at H2
  go_wp2_with fail
  refine H2.out.mono ?_
  rintro e w2 ⟨rfl, hb2⟩
  have HB2 := Lib.hid (new_call HB1.out hb2)
  clear hb2 H2
  have H3 := Lib.hid (gridScaled_any 4604930618986332160 2 w2 (by decide))
  rw [k7_quarters] at H3
  go_wp2_with fail
  refine H3.out.mono ?_
  rintro e w3 ⟨rfl, hb3⟩
  have HB3 := Lib.hid (new_call HB2.out hb3)
  clear hb3 H3
  have H4 := Lib.hid (gridRound_any 4612811918334230528 w3 (by decide))
  rw [k7_two] at H4
  go_wp2_with fail
  refine H4.out.mono ?_
  rintro e w4 ⟨rfl, hb4⟩
  have HB4 := Lib.hid (new_call HB3.out hb4)
  clear hb4 H4
  have H5 := Lib.hid (gridRound_any 13838435755002691584 w4 (by decide))
  rw [k7_four] at H5
  go_wp2_with fail
  refine H5.out.mono ?_
  rintro e w5 ⟨rfl, hb5⟩
  have HB5 := Lib.hid (new_call HB4.out hb5)
  clear hb5 H5
  go_wp2_with fail
  refine (HNa.out w5).mono ?_
  rintro e w' ⟨rfl, rfl⟩
  have H6 := Lib.hid (gridInt_any 9221120237041090561 w5 (by decide))
  rw [k7_nan] at H6
  go_wp2_with fail
  refine H6.out.mono ?_
  rintro e w6 ⟨rfl, hb6⟩
  have HB6 := Lib.hid (new_call HB5.out hb6)
  clear hb6 H6
  go_wp2
  go_ret
  exact ⟨rfl, HB6.out⟩
end Go.Proofs.Ytilekfappdlooaa
