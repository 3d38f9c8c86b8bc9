/- From a law's walk to its row and its card, where the row lists the tables of the mesh package and of the grower: what they give, and a world that holds them. -/
import Derived.Test.YthjmojglcfmkmaaDoorLawLaid
import Derived.Test.YthjmojglcfmkmaaDoorGrowCodeI
namespace Go.Proofs.YthjmojglcfmkmaaDoor
open Go.ChangeShapes Go.WideShapes Go.ChangeAt Go.RowKit

theorem gNewT : Tryd.prog.globalNamed "lapidary/grow.newTris" = some 0 := by kernel_rfl
theorem tNewT : (Tryd.prog.globals[0]?).map (·.type) = some 86 := by kernel_rfl
theorem gNewV : Tryd.prog.globalNamed "lapidary/grow.newVerts" = some 1 := by kernel_rfl
theorem tNewV : (Tryd.prog.globals[1]?).map (·.type) = some 86 := by kernel_rfl
theorem cTab4 : Tryd.prog.cellsOf 86 = 4 := by kernel_rfl
set_option maxRecDepth 100000 in
theorem newW_vars {W : World} {ps : List MemPlace} (h : DataW.LaidVars Tryd.prog W [("lapidary/grow.newTris", Rows.laid_lapidary_grow_newTris), ("lapidary/grow.newVerts", Rows.laid_lapidary_grow_newVerts)] ps) : NewW W := by
  obtain ⟨g, t, cs, fuel, p, q, hg, ht, hv, hd, ⟨g2, t2, cs2, fuel2, p2, q2, hg2, ht2, hv2, hd2, _, _⟩, _⟩ := h
  obtain rfl := Option.some.inj (gNewT.symm.trans hg)
  obtain rfl := Option.some.inj (tNewT.symm.trans ht)
  obtain rfl := Option.some.inj (gNewV.symm.trans hg2)
  obtain rfl := Option.some.inj (tNewV.symm.trans ht2)
  have e1 : cs.toList = [1, 0, 1, 1].map fun z => Value.int .i64 z := Lib.cells_of_tab Tryd.underlying86 Tryd.underlying3 cBeh1 cTab4 hd
  have e2 : cs2.toList = [3, 0, 1, 0].map fun z => Value.int .i64 z := Lib.cells_of_tab Tryd.underlying86 Tryd.underlying3 cBeh1 cTab4 hd2
  have key : ∀ (cs : Array Value) (zs : List Int) (k : Nat), cs.toList = zs.map (fun z => Value.int .i64 z) → cs[k]? = zs[k]?.map fun z => Value.int .i64 z := fun cs zs k e => by
    rw [← Array.getElem?_toList, e, List.getElem?_map]
  refine ⟨fun k hk => ?_, fun k hk => ?_⟩
  · rw [World.var?_cell gNewT hv k, key cs _ k e1]
    rcases (show k = 0 ∨ k = 1 ∨ k = 2 ∨ k = 3 by omega) with rfl | rfl | rfl | rfl <;> rfl
  · rw [World.var?_cell gNewV hv2 k, key cs2 _ k e2]
    rcases (show k = 0 ∨ k = 1 ∨ k = 2 ∨ k = 3 by omega) with rfl | rfl | rfl | rfl <;> rfl
theorem tabs_of_laid {W : World} (h : laidMet Tryd.prog [("lapidary/mesh.behind", Rows.laid_lapidary_mesh_behind), ("lapidary/grow.newTris", Rows.laid_lapidary_grow_newTris), ("lapidary/grow.newVerts", Rows.laid_lapidary_grow_newVerts)] W) : BehW W ∧ NewW W := by
  obtain ⟨ps, h1, _, _⟩ := h
  refine ⟨behW_vars h1, ?_⟩
  obtain ⟨g, t, cs, fuel, p, q, _, _, _, _, h2, _⟩ := h1
  exact newW_vars h2
/-- A world for the witness: the settled one, the tables holding what their initialisers lay. -/
noncomputable def laidWorldG (os : Os) : World :=
  { laidWorld os with heap := ((laidWorld os).heap.modify 0 fun
      | .cells _ t frozen => .cells #[.int .i64 1, .int .i64 0, .int .i64 1, .int .i64 1] t frozen
      | o => o).modify 1 fun
      | .cells _ t frozen => .cells #[.int .i64 3, .int .i64 0, .int .i64 1, .int .i64 0] t frozen
      | o => o }
end Go.Proofs.YthjmojglcfmkmaaDoor
