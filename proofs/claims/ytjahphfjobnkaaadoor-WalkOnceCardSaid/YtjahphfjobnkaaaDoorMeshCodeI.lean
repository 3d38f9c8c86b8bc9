/- The landed mesh: edges in order: how two stand. -/
import Derived.Test.YtjahphfjobnkaaaDoorMeshCodeH
import Derived.Test.YtjahphfjobnkaaaDoorSortLaid
import Derived.Shelf.SlSortCmp.NoneTotal
namespace Go.Proofs.YtjahphfjobnkaaaDoor
open Go.RowKit

def cmpI3 (x y : Int) : Int := if x < y then -1 else if y < x then 1 else 0
theorem cmpI3_ways (x y : Int) : (decide (x < y) = true ∧ cmpI3 x y = -1) ∨ (decide (x < y) = false ∧ decide (y < x) = true ∧ cmpI3 x y = 1) ∨ (decide (x < y) = false ∧ decide (y < x) = false ∧ cmpI3 x y = 0) := by
  unfold cmpI3
  by_cases h1 : x < y
  · exact Or.inl ⟨decide_eq_true h1, if_pos h1⟩
  · by_cases h2 : y < x
    · exact Or.inr (Or.inl ⟨decide_eq_false h1, decide_eq_true h2, by rw [if_neg h1, if_pos h2]⟩)
    · exact Or.inr (Or.inr ⟨decide_eq_false h1, decide_eq_false h2, by rw [if_neg h1, if_neg h2]⟩)
set_option maxRecDepth 100000 in
theorem cmpInt_any (x y : Int) (w : World) : Calls Tryd.prog 76 #[.int .i64 x, .int .i64 y] w fun e w' => e = .returned (.int .i64 (cmpI3 x y)) ∧ w = w' := by
  have b1 : (x != x) = false := by simp
  have b2 : (y != y) = false := by simp
  rcases cmpI3_ways x y with ⟨d1, hr⟩ | ⟨d1, d2, hr⟩ | ⟨d1, d2, hr⟩
  all_goals
    rw [hr]
    clear hr
    go_enter Tryd.func76, Tryd.ntmps76
    go_wp2
    go_ret
    exact ⟨rfl, rfl⟩
def cmpE (d e : D2) : Int := if cmpI3 d.1 e.1 ≠ 0 then cmpI3 d.1 e.1 else cmpI3 d.2 e.2
set_option maxRecDepth 100000 in
set_option maxHeartbeats 800000 in
theorem cmpRow_any (g h : Nat) (x1 x2 y1 y2 : Int) (w : World) (cx1 : w.cell? ⟨g, 0, none⟩ = some (.int .i64 x1)) (cx2 : w.cell? ⟨g, 1, none⟩ = some (.int .i64 x2)) (cy1 : w.cell? ⟨h, 0, none⟩ = some (.int .i64 y1)) (cy2 : w.cell? ⟨h, 1, none⟩ = some (.int .i64 y2)) :
    Calls Tryd.prog 56 #[.slice (some ⟨g, 0, none⟩) 2 2, .slice (some ⟨h, 0, none⟩) 2 2] w fun e w' => e = .returned (.int .i64 (cmpE (x1, x2) (y1, y2))) ∧ w = w' := by
  have HC1 := Lib.hid (cmpInt_any x1 y1 w)
  have HC2 := Lib.hid (cmpInt_any x2 y2 w)
  have HE : Hid (cmpE (x1, x2) (y1, y2) = if cmpI3 x1 y1 ≠ 0 then cmpI3 x1 y1 else cmpI3 x2 y2) := rfl
  generalize cmpE (x1, x2) (y1, y2) = r at *
  generalize cmpI3 x1 y1 = c1 at *
  generalize cmpI3 x2 y2 = c2 at *
  by_cases h1 : c1 = 0
  · have b1 : (c1 != 0) = false := by simpa using h1
    have HR : Hid (r = c2) := by show _ = _; rw [HE.out, if_neg (by simpa using h1)]
    clear HE h1
    by_cases h2 : c2 = 0
    · have b2 : (c2 != 0) = false := by simpa using h2
      have HR2 : Hid (r = 0) := HR.out.trans h2
      clear HR h2
      go_enter Tryd.func56, Tryd.ntmps56
      go_wp2
      refine wp_loop_rounds 3 ?_
      rw [rounds_succ]
      go_wp2_with fail
      refine HC1.out.mono ?_
      rintro e w1 ⟨rfl, rfl⟩
      go_wp2
      rw [rounds_succ]
      go_wp2_with fail
      refine HC2.out.mono ?_
      rintro e w1 ⟨rfl, rfl⟩
      go_wp2
      rw [rounds_succ]
      go_wp2
      go_ret
      exact ⟨by rw [HR2.out]; rfl, rfl⟩
    · have b2 : (c2 != 0) = true := by simpa using h2
      clear h2
      go_enter Tryd.func56, Tryd.ntmps56
      go_wp2
      refine wp_loop_rounds 3 ?_
      rw [rounds_succ]
      go_wp2_with fail
      refine HC1.out.mono ?_
      rintro e w1 ⟨rfl, rfl⟩
      go_wp2
      rw [rounds_succ]
      go_wp2_with fail
      refine HC2.out.mono ?_
      rintro e w1 ⟨rfl, rfl⟩
      go_wp2
      go_ret
      exact ⟨by rw [HR.out]; rfl, rfl⟩
  · have b1 : (c1 != 0) = true := by simpa using h1
    have HR : Hid (r = c1) := by show _ = _; rw [HE.out, if_pos (by simpa using h1)]
    clear HE h1
    go_enter Tryd.func56, Tryd.ntmps56
    go_wp2
    refine wp_loop_rounds 3 ?_
    rw [rounds_succ]
    go_wp2_with fail
    refine HC1.out.mono ?_
    rintro e w1 ⟨rfl, rfl⟩
    go_wp2
    go_ret
    exact ⟨by rw [HR.out]; rfl, rfl⟩
set_option maxRecDepth 100000 in
theorem byVertices_any (x y : D2) (w : World) : Calls Tryd.prog 37 #[.agg #[.int .i64 x.1, .int .i64 x.2], .agg #[.int .i64 y.1, .int .i64 y.2]] w fun e w' => e = .returned (.int .i64 (cmpE x y)) ∧ w' = ((w.alloc (.cells #[.int .i64 x.1, .int .i64 x.2] 79)).alloc (.cells #[.int .i64 y.1, .int .i64 y.2] 79)).drew := by
  obtain ⟨x1, x2⟩ := x
  obtain ⟨y1, y2⟩ := y
  have HA := Lib.hid ((Blk.new w 79 #[.int .i64 x1, .int .i64 x2]).alloc (.cells #[.int .i64 y1, .int .i64 y2] 79))
  have HB : Hid (Blk ((w.alloc (.cells #[.int .i64 x1, .int .i64 x2] 79)).alloc (.cells #[.int .i64 y1, .int .i64 y2] 79)) (w.heap.size + 1) 79 #[.int .i64 y1, .int .i64 y2]) := by
    have h := Blk.new (w.alloc (.cells #[.int .i64 x1, .int .i64 x2] 79)) 79 #[.int .i64 y1, .int .i64 y2]
    rw [show (w.alloc (.cells #[.int .i64 x1, .int .i64 x2] 79)).heap.size = w.heap.size + 1 from Array.size_push _] at h
    exact h
  have HC := Lib.hid (cmpRow_any w.heap.size (w.heap.size + 1) x1 x2 y1 y2 ((w.alloc (.cells #[.int .i64 x1, .int .i64 x2] 79)).alloc (.cells #[.int .i64 y1, .int .i64 y2] 79)).drew (HA.out.cell 0) (HA.out.cell 1) (HB.out.cell 0) (HB.out.cell 1))
  generalize cmpE (x1, x2) (y1, y2) = r at *
  go_enter Tryd.func37, Tryd.ntmps37
  go_wp2
  go_region_with (go_at_call 56; refine HC.out.mono ?_; rintro e w' ⟨rfl, rfl⟩)
  all_goals
    go_wp2
    go_ret
    exact ⟨rfl, rfl⟩
end Go.Proofs.YtjahphfjobnkaaaDoor
