/- A row of points made, each of three noughts. -/
import Derived.Test.YthjmojglcfmkmaaDoorPts
import Derived.Laws.MakeOwn
namespace Go.Proofs.YthjmojglcfmkmaaDoor
open Go.RowKit

theorem run_makePts (n : Nat) (hn : n ≤ 100000) (w : World) : (Instr.makeSlice 46 (.int .i64 (n : Int)) (.int .i64 (n : Int))).run Tryd.prog w = .ok (.slice (some ⟨w.heap.size, 0, none⟩) n n) (w.alloc (.cells (p3Cells (List.replicate n (0, 0, 0))).toArray 84)) := by
  have h : (Tryd.prog.info? 84).map (fun i => (i.zero, i.size, i.bytes)) = some (some (.agg #[.int .i64 0, .int .i64 0, .int .i64 0]), 3, 24) := by kernel_rfl
  obtain ⟨i, h1, h2, h3, h4⟩ := info_parts h
  have hr := run_make (P := Tryd.prog) w _ _ i _ Tryd.underlying46 h1 h2 .i64 .i64 (n : Int) (n : Int) (by omega) (Int.le_refl _) (by rw [h4]; omega) (by omega)
  rw [Int.toNat_natCast, h3] at hr
  have e : madeCells (Value.agg #[.int .i64 0, .int .i64 0, .int .i64 0]).cells (n * 3) = (p3Cells (List.replicate n (0, 0, 0))).toArray := by
    apply Array.ext
    · simp [madeCells, p3Cells_len]
    · intro j h1 h2
      have hj : j < n * 3 := by simpa [madeCells] using h1
      have hq : j / 3 < (List.replicate n ((0 : Int), (0 : Int), (0 : Int))).length := by rw [List.length_replicate]; omega
      obtain ⟨a0, a1, a2⟩ := p3Cells_at hq
      have hc : ∀ v, (p3Cells (List.replicate n ((0 : Int), (0 : Int), (0 : Int))))[j]? = some v → v = .int .i64 0 := fun v hv => by
        rcases (show j = j / 3 * 3 ∨ j = j / 3 * 3 + 1 ∨ j = j / 3 * 3 + 2 by omega) with e | e | e
        · rw [e, a0, List.getElem_replicate] at hv; exact (Option.some.inj hv).symm
        · rw [e, a1, List.getElem_replicate] at hv; exact (Option.some.inj hv).symm
        · rw [e, a2, List.getElem_replicate] at hv; exact (Option.some.inj hv).symm
      have h2' : j < (p3Cells (List.replicate n ((0 : Int), (0 : Int), (0 : Int)))).length := by simpa using h2
      have hz := hc _ (List.getElem?_eq_getElem h2')
      have e2 : (p3Cells (List.replicate n ((0 : Int), (0 : Int), (0 : Int)))).toArray[j]'h2 = .int .i64 0 := (List.getElem_toArray ..).trans hz
      rw [e2]
      simp only [madeCells, Value.cells]
      rcases (show j % 3 = 0 ∨ j % 3 = 1 ∨ j % 3 = 2 by omega) with e | e | e <;> simp [e]
  rw [e] at hr
  exact hr
theorem blk_hasK {w : World} {g n : Nat} {t : TypeId} {Q : List P3} (h : Blk w g t (p3Cells Q).toArray) (hn : Q.length = n) : HasK 3 w (some ⟨g, 0, none⟩) n n (p3Cells Q) := by
  refine ⟨by rw [p3Cells_len, hn], Nat.le_refl _, (fun h => by cases h), fun _ => ⟨g, 0, rfl, h.lt, fun j v hv => ?_⟩⟩
  rw [Nat.zero_add]
  exact (h.cell j).trans (List.getElem?_toArray.trans hv)
end Go.Proofs.YthjmojglcfmkmaaDoor
