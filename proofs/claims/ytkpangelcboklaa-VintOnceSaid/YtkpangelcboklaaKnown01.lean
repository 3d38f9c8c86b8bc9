/- lapidarylaw01.known: what the chapter's examples fix. -/
import Derived.Test.YtkpangelcboklaaZig
import Derived.Test.YtkpangelcboklaaSame
import Derived.Test.YtkpangelcboklaaGet
import Derived.Test.YtkpangelcboklaaPut
import Derived.Test.YtkpangelcboklaaFixed
import Derived.Outline
namespace Go.Proofs.Ytkpangelcboklaa
open Go.RowKit

set_option maxRecDepth 100000 in
set_option maxHeartbeats 400000 in
theorem known01 (w : World) : Calls Try.prog 12 #[] w fun e w' => e = .returned (.bool true) ∧ Below w.heap.size w w' := by
  have kg : get [172, 130, 0] 0 = (0, 0, 11) := by decide
  have kf : fixed 258 3 = ([2, 1, 0], 0) := by decide
  have kp : putAll [300] = [172, 2] := by rw [putAll_one, putN_big (by decide), putN_small (by decide)]
  have kz : zig (-3) = 5 := by decide
  have ka : zag 5 = -3 := by decide
  go_enter Try.func12, Try.ntmps12
  go_wp2_with fail
  refine (get_any _ 3 3 [172, 130, 0] _ _ (by exact Has.new _ _ _) (by decide) (by decide)).mono ?_
  rintro e w1 ⟨rfl, rfl⟩
  go_wp2_with fail
  refine (fixed_any 258 3 _ (by decide)).mono ?_
  rintro e w1 ⟨v, rfl, hown, hbel⟩
  rw [kf] at hown
  obtain ⟨A1, c1, rfl, hh1⟩ := hown.has
  go_wp2_with fail
  refine (put_any _ 1 1 [300] _ (by exact Has.new _ _ _) (by decide) (by decide)).mono ?_
  rintro e w2 ⟨v2, rfl, hown2, hbel2⟩
  rw [kp] at hown2
  obtain ⟨A2, c2, rfl, hh2⟩ := hown2.has
  have hh3 := hh1.kept (new_call (new_alloc (Below.refl _ _) _) hbel2)
  clear hown hown2
  go_wp2_with fail
  refine (same_any _ _ _ _ _ _ [172, 2] [172, 2] _ (hh2.alloc _) (by exact Has.new _ _ _) (by decide) (by decide)).mono ?_
  rintro e w3 ⟨rfl, rfl⟩
  go_wp2_with fail
  refine (zig_any (-3) _ (by decide) (by decide)).mono ?_
  rintro e w3 ⟨rfl, rfl⟩
  go_wp2_with fail
  refine (zag_any 5 _ (by decide) (by decide)).mono ?_
  rintro e w3 ⟨rfl, rfl⟩
  go_wp2_with fail
  refine (same_any _ _ _ _ _ _ [2, 1, 0] [2, 1, 0] _ ((hh3.alloc _).alloc _) (by exact Has.new_at _ _ _ _ (by simp)) (by decide) (by decide)).mono ?_
  rintro e w3 ⟨rfl, rfl⟩
  go_wp2
  go_ret
  refine ⟨rfl, ?_⟩
  exact new_alloc (new_alloc (new_call (new_alloc (new_call (new_alloc (Below.refl _ _) _) hbel) _) hbel2) _) _
end Go.Proofs.Ytkpangelcboklaa
