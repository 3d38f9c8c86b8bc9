/- Layer 8: what the chapter's examples fix, and the law's own comparison. -/
import Derived.Test.YtjecognpechapaaWideCode
namespace Go.Proofs.Ytjecognpechapaa
open Go.RowKit

theorem num_is {x h l : Int} (h1 : hiW x = h) (h2 : loW x = l) : numV x = .agg #[.int .i64 h, .int .u64 l] := by unfold numV; rw [h1, h2]
set_option maxRecDepth 100000 in
theorem lawIs_any (p : Int) (A : Option Addr) (c : Nat) (x : Int) (w : World) (hA : Has w A 8 c (intVs (digI 8 x))) (hc : Cong p x) :
    Calls Try.prog 11 #[numV p, .agg #[.slice A 8 c]] w fun e w' => e = .returned (.bool true) ∧ Below w.heap.size w w' := by
  have hcx : Cong x (valW (hiW p) (loW p)) := hc.symm.trans (cong_num p)
  have hb1 := new_alloc (new_alloc (Below.refl w.heap.size w) (.cells #[.int .i64 (hiW p), .int .u64 (loW p)] 25)) (.cells #[.slice A 8 c] 29)
  have HI := Lib.hid (ref8Is_any A c x (hiW p) (loW p) _ (hA.kept hb1) (hi_in p) (lo_in p) hcx)
  have HB := Lib.hid hb1
  unfold numV
  clear hA hc hcx hb1
  go_enter Try.func11, Try.ntmps11
  go_wp2_with fail
  refine HI.out.mono ?_
  rintro e w2 ⟨rfl, hb2⟩
  go_wp2
  go_ret
  exact ⟨rfl, new_call HB.out hb2⟩
set_option maxRecDepth 100000 in
set_option maxHeartbeats 400000 in
theorem known08 (w : World) : Calls Try.prog 16 #[] w fun e w' => e = .returned (.bool true) ∧ Below w.heap.size w w' := by
  have HD := Lib.hid (wideDot_any (some ⟨w.heap.size, 0, none⟩) 1 1 [1] (w.alloc (.cells #[.int .i64 1] 3)) (Has.one _ _ _) (by intro x hx; obtain rfl := List.mem_singleton.1 hx; unfold i64W; decide) (by decide))
  rw [show dotR [1] = (0, 2) from rfl] at HD
  have HM1 := Lib.hid (fun W => wideMul_any (-1) 1 W (by unfold i64W; decide) (by unfold i64W; decide))
  have HM2 := Lib.hid (fun W => wideMul_any 4611686018427387904 4 W (by unfold i64W; decide) (by unfold i64W; decide))
  rw [show numV (-1 * 1) = .agg #[.int .i64 (-1), .int .u64 18446744073709551615] from num_is (by unfold hiW wrap64; omega) (by unfold loW; omega)] at HM1
  rw [show numV (4611686018427387904 * 4) = .agg #[.int .i64 1, .int .u64 0] from num_is (by unfold hiW wrap64; omega) (by unfold loW; omega)] at HM2
  have HO := Lib.hid (fun W => wideOf_any (-5) W (by unfold i64W; decide))
  rw [show numV (-5) = .agg #[.int .i64 (-1), .int .u64 18446744073709551611] from num_is (by unfold hiW wrap64; omega) (by unfold loW; omega)] at HO
  have HS := Lib.hid (fun W => wideSign_any (-1) 18446744073709551611 W (by unfold i64W; decide) (by unfold u64W; decide))
  rw [show cmpI (valW (-1) 18446744073709551611) 0 = -1 from by decide] at HS
  unfold numV at HD
  obtain ⟨kz, ks⟩ := zero_of_info numInfo
  have HB0 := Lib.hid (new_alloc (Below.refl w.heap.size w) (.cells #[.int .i64 1] 3))
  go_enter Try.func16, Try.ntmps16
  go_wp2_with fail
  refine HD.out.mono ?_
  rintro e w1 ⟨rfl, hb1⟩
  have HB1 := Lib.hid (new_alloc (new_call HB0.out hb1) (.cells #[.int .i64 (hiW 0), .int .u64 (loW 0)] 25))
  clear hb1 HB0 HD
  go_wp2_with fail
  refine (HM1.out _).mono ?_
  rintro e w2 ⟨rfl, hb2⟩
  have HB2 := Lib.hid (new_call HB1.out hb2)
  clear hb2 HB1
  go_wp2_with fail
  refine (HM2.out _).mono ?_
  rintro e w3 ⟨rfl, hb3⟩
  have HB3 := Lib.hid (new_call HB2.out hb3)
  clear hb3 HB2
  go_wp2_with fail
  refine (HO.out _).mono ?_
  rintro e w4 ⟨rfl, hb4⟩
  have HB4 := Lib.hid (new_call HB3.out hb4)
  clear hb4 HB3
  go_wp2_with fail
  refine (HS.out _).mono ?_
  rintro e w5 ⟨rfl, hb5⟩
  have HB5 := Lib.hid (new_call HB4.out hb5)
  clear hb5 HB4
  go_wp2
  go_ret
  exact ⟨rfl, HB5.out⟩
theorem num_back {x : Int} (h : inW x) : valW (hiW x) (loW x) = x := by
  unfold inW at h
  unfold valW hiW loW wrap64
  omega
theorem wideNegC_any (x : Int) (w : World) : Calls Try.prog 20 #[numV x] w fun e w' => e = .returned (numV (-x)) ∧ Below w.heap.size w w' := by
  refine (wideNeg_any (hiW x) (loW x) w (hi_in x) (lo_in x)).mono ?_
  rintro e w' ⟨rfl, hb⟩
  rw [numV_cong (cong_num x).neg.symm]
  exact ⟨rfl, hb⟩
theorem wideCmpC_any (x y : Int) (w : World) (hx : inW x) (hy : inW y) : Calls Try.prog 22 #[numV x, numV y] w fun e w' => e = .returned (.int .i64 (cmpI x y)) ∧ Below w.heap.size w w' := by
  have h := wideCmp_any (hiW x) (loW x) (hiW y) (loW y) w (hi_in x) (lo_in x) (hi_in y) (lo_in y)
  rw [num_back hx, num_back hy] at h
  exact h
theorem wideSignC_any (x : Int) (w : World) (hx : inW x) : Calls Try.prog 24 #[numV x] w fun e w' => e = .returned (.int .i64 (cmpI x 0)) ∧ Below w.heap.size w w' := by
  have h := wideSign_any (hiW x) (loW x) w (hi_in x) (lo_in x)
  rw [num_back hx] at h
  exact h
theorem wideIntC_any (x : Int) (w : World) (hx : inW x) : Calls Try.prog 27 #[numV x] w fun e w' => e = .returned (.tuple #[.int .i64 (intR x).1, .bool (intR x).2]) ∧ Below w.heap.size w w' := by
  have h := wideInt_any (hiW x) (loW x) w (hi_in x) (lo_in x)
  rw [num_back hx] at h
  exact h
end Go.Proofs.Ytjecognpechapaa
