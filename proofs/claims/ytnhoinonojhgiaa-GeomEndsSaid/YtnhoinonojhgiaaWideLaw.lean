/- Layer 8: what the laws ask, and rows of wide numbers. -/
import Derived.Test.YtnhoinonojhgiaaWideRefE
namespace Go.Proofs.Ytnhoinonojhgiaa
open Go.RowKit

theorem ret_num {h h' l l' : Int} (h1 : h = h') (h2 : l = l') : Ending.returned (.agg #[.int .i64 h, .int .u64 l]) = .returned (.agg #[.int .i64 h', .int .u64 l']) := by rw [h1, h2]
/-- A high and a low word that make it are its own. -/
theorem num_eq {h l x : Int} (hl : u64W l) (hc : Cong (h * 18446744073709551616 + l) x) : wrap64 h = hiW x ∧ l = loW x := by
  obtain ⟨t, ht⟩ := hc
  unfold u64W at hl
  unfold hiW loW wrap64 bigW at *
  omega
theorem numInfo : (Try.prog.info? 34).map (fun i => (i.zero, i.size)) = some (some (.agg #[.int .i64 0, .int .u64 0]), 2) := by kernel_rfl
theorem num_load (W : World) (a b : Value) (g : Nat) (h : Blk W g 34 #[a, b]) : (loadVar 34 ⟨g, 0, none⟩).run Try.prog W = .ok (.agg #[a, b]) W := by
  obtain ⟨kz, ks⟩ := zero_of_info numInfo
  exact run_loadVar_row _ _ _ _ _ _ _ h Try.underlying34 rfl (by rw [ks]; rfl)
/-- Wide numbers in a row: two cells each. -/
def numCells (l : List (Int × Int)) : List Value := l.flatMap fun p => [.int .i64 p.1, .int .u64 p.2]
theorem numCells_len (l : List (Int × Int)) : (numCells l).length = l.length * 2 := by
  induction l with
  | nil => rfl
  | cons p l ih => show (numCells l).length + 1 + 1 = _; rw [ih]; simp; omega
theorem numCells_app (l r : List (Int × Int)) : numCells (l ++ r) = numCells l ++ numCells r := by simp [numCells]
theorem numCells_at {l : List (Int × Int)} {i : Nat} (h : i < l.length) : (numCells l)[i * 2]? = some (.int .i64 l[i].1) ∧ (numCells l)[i * 2 + 1]? = some (.int .u64 l[i].2) := by
  induction l generalizing i with
  | nil => simp at h
  | cons p l ih =>
    cases i with
    | zero => exact ⟨rfl, rfl⟩
    | succ i =>
      have := ih (i := i) (by simpa using h)
      rw [show (i + 1) * 2 = i * 2 + 1 + 1 by omega]
      exact this
theorem numCells_one (l : List (Int × Int)) : ∀ u ∈ numCells l, u.oneCell' = true := by
  intro u hu
  obtain ⟨p, _, hp⟩ := List.mem_flatMap.1 hu
  simp at hp
  rcases hp with rfl | rfl <;> rfl
theorem elemN : ElemK Try.prog 71 34 2 16 := by
  have h : (Try.prog.info? 34).map (fun i => (i.zero, i.size, i.bytes)) = some (some (.agg #[.int .i64 0, .int .u64 0]), 2, 16) := by kernel_rfl
  obtain ⟨i, h1, h2, h3, h4⟩ := info_parts h
  exact ⟨Try.underlying71, i, _, h1, h2, h3, h4, rfl⟩
/-- Their sum. -/
def sumN : List (Int × Int) → Int
  | [] => 0
  | p :: l => valW p.1 p.2 + sumN l
theorem sumN_app (l r : List (Int × Int)) : sumN (l ++ r) = sumN l + sumN r := by
  induction l with
  | nil => simp [sumN]
  | cons p l ih => show valW p.1 p.2 + sumN (l ++ r) = valW p.1 p.2 + sumN l + sumN r; rw [ih]; omega
theorem sumN_one (p : Int × Int) : sumN [p] = valW p.1 p.2 := by simp [sumN]
def okN (p : Int × Int) : Prop := i64W p.1 ∧ u64W p.2
/-- What Int tells. -/
def intR (x : Int) : Int × Bool := if -9223372036854775808 ≤ x ∧ x ≤ 9223372036854775807 then (x, true) else (0, false)
end Go.Proofs.Ytnhoinonojhgiaa
