/- From a law's walk to its row and its card, where the row lists the table of the mesh package: what the table gives, and a world that holds it. -/
import Derived.Test.YthjmojglcfmkmaaDoorLaw
import Derived.Test.YthjmojglcfmkmaaDoorMeshCodeA
import Derived.Test.YthjmojglcfmkmaaDoorCards
import Derived.Test.YthjmojglcfmkmaaDoorTie
import Derived.WalkKit
import Derived.ProofKit
import Derived.OpenShut
import Derived.Deep.DeepHandedRow
import Derived.Lib.LaidTab
import Derived.LaidMore
import Derived.SevenTiedAt
namespace Go.Proofs.YthjmojglcfmkmaaDoor
open Go.ChangeShapes Go.WideShapes Go.ChangeAt Go.RowKit

theorem gBeh : Tryd.prog.globalNamed "lapidary/mesh.behind" = some 2 := by kernel_rfl
theorem tBeh : (Tryd.prog.globals[2]?).map (·.type) = some 121 := by kernel_rfl
theorem cBeh3 : Tryd.prog.cellsOf 58 = 3 := by kernel_rfl
theorem cBeh1 : Tryd.prog.cellsOf 3 = 1 := by kernel_rfl
theorem row_cell {cs : Array Value} {i k : Nat} {zs : List Int} (h : (cs.toList.drop (i * 3)).take 3 = zs.map fun z => Value.int .i64 z) (hk : k < 3) (z : Int) (hz : zs[k]? = some z) : cs[i * 3 + k]? = some (.int .i64 z) := by
  have e := congrArg (·[k]?) h
  simp only [List.getElem?_take, hk, if_true, List.getElem?_drop, List.getElem?_map, hz, Option.map_some] at e
  rw [← e, ← Array.getElem?_toList]
set_option maxRecDepth 100000 in
theorem behW_vars {W : World} {rest : List (String × DataW Unit)} {ps : List MemPlace} (h : DataW.LaidVars Tryd.prog W (("lapidary/mesh.behind", Rows.laid_lapidary_mesh_behind) :: rest) ps) : BehW W := by
  obtain ⟨g, t, cs, fuel, p, q, hg, ht, hv, hd, _, _⟩ := h
  obtain rfl := Option.some.inj (gBeh.symm.trans hg)
  obtain rfl := Option.some.inj (tBeh.symm.trans ht)
  obtain ⟨xs, m, rfl, hx, hlen, hn, hel⟩ := DataW.trod_array Tryd.underlying121 hd
  rw [cBeh3] at hel
  have hx1 : xs.map (·.1) = [Lib.tabData .i64 [0, 1, 2], Lib.tabData .i64 [1, 2, 0], Lib.tabData .i64 [2, 0, 1]] := by
    have e := (Prod.mk.inj hx).1
    exact (DataW.agg.inj e).symm
  have key : ∀ i zs, i < 3 → [[0, 1, 2], [1, 2, 0], [2, 0, 1]][i]? = some zs → (cs.toList.drop (i * 3)).take 3 = zs.map fun z => Value.int .i64 z := fun i zs hi hz => by
    have h1 := hel i hi
    have h2 : (xs.map (·.1))[i]? = some (Lib.tabData .i64 zs) := by
      rw [hx1]
      rcases (show i = 0 ∨ i = 1 ∨ i = 2 by omega) with rfl | rfl | rfl <;> · cases hz; rfl
    rw [List.getElem?_map] at h2
    obtain ⟨⟨y, pl⟩, hy, rfl⟩ := Option.map_eq_some_iff.1 h2
    rw [hy] at h1
    exact Lib.cells_of_tab Tryd.underlying58 Tryd.underlying3 cBeh1 cBeh3 h1
  intro i k hi hk
  have hc := World.var?_cell gBeh hv (i * 3 + k)
  rw [hc]
  rcases (show i = 0 ∨ i = 1 ∨ i = 2 by omega) with rfl | rfl | rfl
  · refine row_cell (key 0 _ (by omega) rfl) hk _ ?_
    rcases (show k = 0 ∨ k = 1 ∨ k = 2 by omega) with rfl | rfl | rfl <;> rfl
  · refine row_cell (key 1 _ (by omega) rfl) hk _ ?_
    rcases (show k = 0 ∨ k = 1 ∨ k = 2 by omega) with rfl | rfl | rfl <;> rfl
  · refine row_cell (key 2 _ (by omega) rfl) hk _ ?_
    rcases (show k = 0 ∨ k = 1 ∨ k = 2 by omega) with rfl | rfl | rfl <;> rfl
theorem behW_of_laid {W : World} {rest : List (String × DataW Unit)} (h : laidMet Tryd.prog (("lapidary/mesh.behind", Rows.laid_lapidary_mesh_behind) :: rest) W) : BehW W := by
  obtain ⟨ps, h1, _, _⟩ := h
  exact behW_vars h1
/-- A world for the witness: the settled one, the table holding what its initialiser lays. -/
noncomputable def laidWorld (os : Os) : World :=
  { World.holding Tryd.prog os ⟨#[], #[], []⟩ with heap := (World.holding Tryd.prog os ⟨#[], #[], []⟩).heap.modify 2 fun
      | .cells _ t frozen => .cells #[.int .i64 0, .int .i64 1, .int .i64 2, .int .i64 1, .int .i64 2, .int .i64 0, .int .i64 2, .int .i64 0, .int .i64 1] t frozen
      | o => o }
end Go.Proofs.YthjmojglcfmkmaaDoor
