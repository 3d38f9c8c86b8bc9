/- Layer 10: how many edges of a border begin, and end, where. -/
import Derived.Test.YtckjmnbglbegmaaDoorKnown10
import Derived.Test.YtckjmnbglbegmaaDoorMeshPieced
namespace Go.Proofs.YtckjmnbglbegmaaDoor
open Go.RowKit

def cntTo (M : List D2) (s : D2 → Int) (i : Nat) (v : Nat) : Nat := (M.take i).countP fun d => decide (s d = (v : Int))
theorem cntTo_zero (M : List D2) (s : D2 → Int) : (fun _ => 0) = cntTo M s 0 := by
  funext v
  unfold cntTo
  rw [List.take_zero]
  rfl
theorem cntTo_next {M : List D2} {s : D2 → Int} {i u : Nat} (hi : i < M.length) (hu : s M[i] = (u : Int)) : cntTo M s (i + 1) = updN (cntTo M s i) u (cntTo M s i u + 1) := by
  funext v
  unfold cntTo updN
  rw [List.take_succ_eq_append_getElem hi, List.countP_append]
  by_cases e : v = u
  · subst e
    rw [if_pos rfl, List.countP_cons_of_pos (by rw [hu]; simp)]
    rfl
  · rw [if_neg e, List.countP_cons_of_neg (by rw [hu]; simp; omega)]
    rfl
theorem cntTo_le (M : List D2) (s : D2 → Int) (i v : Nat) : cntTo M s i v ≤ M.length := by
  unfold cntTo
  refine Nat.le_trans List.countP_le_length ?_
  rw [List.length_take]
  omega
theorem cntTo_all (M : List D2) (s : D2 → Int) (v : Nat) : cntTo M s M.length v = M.countP fun d => decide (s d = (v : Int)) := by
  unfold cntTo
  rw [List.take_length]
theorem border_in {n : Nat} {T : List P3} {b : Bool} {d : D2} (hd : d ∈ edgesF n T b) : ∃ u v : Nat, u < n ∧ v < n ∧ d = ((u : Int), (v : Int)) := by
  unfold edgesF at hd
  have h := (List.mem_filter.1 hd).1
  unfold pairsN at h
  simp only [List.mem_flatMap, List.mem_map, List.mem_range] at h
  obtain ⟨u, hu, v, hv, rfl⟩ := h
  exact ⟨u, v, hu, hv, rfl⟩
theorem maxNext_step {p : List Nat} {i : Nat} (hi : i < p.length) : maxNext (p.take (i + 1)) = max (maxNext (p.take i)) (p[i] + 1) := by
  rw [List.take_succ_eq_append_getElem hi, maxNext_app]
  rw [show maxNext [p[i]] = p[i] + 1 by show max (p[i] + 1) 0 = _; omega]
/-- Two rows of counts. -/
structure BordW (V : World) (n : Nat) (F G : Nat → Nat) (wx : World) : Prop where
  bel : Below V.heap.size V wx
  b0 : Blk wx V.heap.size 3 (cntA F n)
  b1 : Blk wx (V.heap.size + 1) 3 (cntA G n)
theorem BordW.new (V : World) (n : Nat) : BordW V n (fun _ => 0) (fun _ => 0) ((V.alloc (.cells (cntA (fun _ => 0) n) 3)).alloc (.cells (cntA (fun _ => 0) n) 3)) := by
  have h1 := Blk.new (V.alloc (.cells (cntA (fun _ => 0) n) 3)) 3 (cntA (fun _ => 0) n)
  rw [show (V.alloc (.cells (cntA (fun _ => 0) n) 3)).heap.size = V.heap.size + 1 from Array.size_push _] at h1
  exact ⟨new_alloc (new_alloc (Below.refl _ _) _) _, (Blk.new V _ _).alloc _, h1⟩
theorem BordW.put0 {V : World} {n : Nat} {F G : Nat → Nat} {wx : World} (h : BordW V n F G wx) (u x : Nat) : BordW V n (updN F u x) G (wx.setCell ⟨V.heap.size, u, none⟩ (.int .i64 (x : Int))) := by
  have h0 := h.b0.set_ u (.int .i64 (x : Int))
  rw [cntA_set] at h0
  exact ⟨h.bel.setCell (Nat.le_refl _) _, h0, h.b1.far (by show V.heap.size + 1 ≠ V.heap.size; omega) _⟩
theorem BordW.put1 {V : World} {n : Nat} {F G : Nat → Nat} {wx : World} (h : BordW V n F G wx) (u x : Nat) : BordW V n F (updN G u x) (wx.setCell ⟨V.heap.size + 1, u, none⟩ (.int .i64 (x : Int))) := by
  have h0 := h.b1.set_ u (.int .i64 (x : Int))
  rw [cntA_set] at h0
  exact ⟨h.bel.setCell (Nat.le_succ _) _, h.b0.far (by show V.heap.size ≠ V.heap.size + 1; omega) _, h0⟩
theorem BordW.next {V : World} {n : Nat} {F G : Nat → Nat} {wx w' : World} (h : BordW V n F G wx) (hb : Below wx.heap.size wx w') : BordW V n F G w' := ⟨new_call h.bel hb, h.b0.below hb h.b0.lt, h.b1.below hb h.b1.lt⟩
end Go.Proofs.YtckjmnbglbegmaaDoor
