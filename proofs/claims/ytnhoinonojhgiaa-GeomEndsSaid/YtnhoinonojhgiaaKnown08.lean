/- Layer 8: what the chapter's examples fix, and the law's own comparison. -/
import Derived.Test.YtnhoinonojhgiaaWideCode
namespace Go.Proofs.Ytnhoinonojhgiaa
open Go.RowKit

theorem num_is {x h l : Int} (h1 : hiW x = h) (h2 : loW x = l) : numV x = .agg #[.int .i64 h, .int .u64 l] := by unfold numV; rw [h1, h2]
theorem num_back {x : Int} (h : inW x) : valW (hiW x) (loW x) = x := by
  unfold inW at h
  unfold valW hiW loW wrap64
  omega
theorem wideNegC_any (x : Int) (w : World) : Calls Try.prog 26 #[numV x] w fun e w' => e = .returned (numV (-x)) ∧ Below w.heap.size w w' := by
  refine (wideNeg_any (hiW x) (loW x) w (hi_in x) (lo_in x)).mono ?_
  rintro e w' ⟨rfl, hb⟩
  rw [numV_cong (cong_num x).neg.symm]
  exact ⟨rfl, hb⟩
theorem wideCmpC_any (x y : Int) (w : World) (hx : inW x) (hy : inW y) : Calls Try.prog 46 #[numV x, numV y] w fun e w' => e = .returned (.int .i64 (cmpI x y)) ∧ Below w.heap.size w w' := by
  have h := wideCmp_any (hiW x) (loW x) (hiW y) (loW y) w (hi_in x) (lo_in x) (hi_in y) (lo_in y)
  rw [num_back hx, num_back hy] at h
  exact h
theorem wideSignC_any (x : Int) (w : World) (hx : inW x) : Calls Try.prog 25 #[numV x] w fun e w' => e = .returned (.int .i64 (cmpI x 0)) ∧ Below w.heap.size w w' := by
  have h := wideSign_any (hiW x) (loW x) w (hi_in x) (lo_in x)
  rw [num_back hx] at h
  exact h
end Go.Proofs.Ytnhoinonojhgiaa
