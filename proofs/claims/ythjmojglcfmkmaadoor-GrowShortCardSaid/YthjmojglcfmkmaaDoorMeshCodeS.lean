/- The landed mesh: a piece's number spread. -/
import Derived.Test.YthjmojglcfmkmaaDoorMeshCodeR
namespace Go.Proofs.YthjmojglcfmkmaaDoor
open Go.RowKit

theorem sp_start {w : World} {Gp m i N : Nat} {f : Nat → Nat} (hk : Blk w Gp 3 (rowA (numTo f N) m)) : SpW w Gp m (putI (numTo f N) i N) (.slice (some ⟨w.heap.size, 0, none⟩) 1 1) [i] ((w.setCell ⟨Gp, i, none⟩ (.int .i64 (N : Int))).alloc (.cells #[.int .i64 (i : Int)] 3)) := by
  have h0 : SpW w Gp m (numTo f N) (.slice none 0 0) [] w := ⟨Chg.refl _ _, hk, Own.nil _ _ _, hk.lt⟩
  have h1 := (h0.put i N).next (new_alloc (Below.refl _ _) (.cells #[.int .i64 (i : Int)] 3))
  have hz : (w.setCell ⟨Gp, i, none⟩ (.int .i64 (N : Int))).heap.size = w.heap.size := by simp
  have h2 := Own.fresh (w.setCell ⟨Gp, i, none⟩ (.int .i64 (N : Int))) w.heap.size #[.int .i64 (i : Int)] 3 (by rw [hz]; exact Nat.le_refl _) (by show 1 ≤ 1000000; omega)
  rw [hz] at h2
  exact ⟨h1.chg, h1.row, h2, h1.low⟩
end Go.Proofs.YthjmojglcfmkmaaDoor
