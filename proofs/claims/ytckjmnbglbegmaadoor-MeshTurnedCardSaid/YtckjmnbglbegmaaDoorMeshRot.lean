/- Layer 10: triangles begun elsewhere in their row; a mesh laid of them. -/
import Derived.Test.YtckjmnbglbegmaaDoorKnown10
namespace Go.Proofs.YtckjmnbglbegmaaDoor
open Go.RowKit

theorem p3Cells_drop (l : List P3) (k : Nat) : p3Cells (l.drop k) = (p3Cells l).drop (k * 3) := by
  induction k generalizing l with
  | zero => simp
  | succ k ih =>
    cases l with
    | nil => simp [p3Cells]
    | cons q l =>
      rw [List.drop_succ_cons, ih, show p3Cells (q :: l) = .int .i64 q.1 :: .int .i64 q.2.1 :: .int .i64 q.2.2 :: p3Cells l by simp [p3Cells], show (k + 1) * 3 = k * 3 + 1 + 1 + 1 by omega, List.drop_succ_cons, List.drop_succ_cons, List.drop_succ_cons]
theorem p3Cells_take (l : List P3) (k : Nat) : p3Cells (l.take k) = (p3Cells l).take (k * 3) := by
  induction k generalizing l with
  | zero => simp [p3Cells]
  | succ k ih =>
    cases l with
    | nil => simp [p3Cells]
    | cons q l =>
      rw [List.take_succ_cons, show p3Cells (q :: l) = .int .i64 q.1 :: .int .i64 q.2.1 :: .int .i64 q.2.2 :: p3Cells l by simp [p3Cells], show (k + 1) * 3 = k * 3 + 1 + 1 + 1 by omega, List.take_succ_cons, List.take_succ_cons, List.take_succ_cons, ← ih]
      simp [p3Cells]
theorem cut_from {w : World} {b off n c : Nat} {l : List P3} (h : HasK 3 w (some ⟨b, off, none⟩) n c (p3Cells l)) {k : Nat} (hk : k ≤ n) : HasK 3 w (some ⟨b, off + k * 3, none⟩) (n - k) (c - k) (p3Cells (l.drop k)) := by
  have hl := h.len
  have hc := h.cap
  refine ⟨by rw [p3Cells_drop, List.length_drop, hl, Nat.sub_mul], by omega, fun e => (by cases e), fun hn => ?_⟩
  obtain ⟨_, _, e, hlt, hcell⟩ := h.spot (by omega)
  cases e
  refine ⟨_, _, rfl, hlt, fun j u hj => ?_⟩
  rw [p3Cells_drop, List.getElem?_drop] at hj
  rw [Nat.add_assoc]
  exact hcell _ _ hj
theorem cut_to {w : World} {A : Option Addr} {n c : Nat} {l : List P3} (h : HasK 3 w A n c (p3Cells l)) {k : Nat} (hk : k ≤ n) : HasK 3 w A k c (p3Cells (l.take k)) := by
  have hl := h.len
  have hc := h.cap
  refine ⟨by rw [p3Cells_take, List.length_take, hl, Nat.min_eq_left (by omega)], by omega, h.bare, fun hn => ?_⟩
  obtain ⟨b, off, e, hlt, hcell⟩ := h.spot (by omega)
  refine ⟨b, off, e, hlt, fun j u hj => hcell _ _ ?_⟩
  rw [p3Cells_take, List.getElem?_take] at hj
  split at hj
  · exact hj
  · cases hj
theorem rot_perm (T : List P3) (k : Nat) : (T.drop k ++ T.take k).Perm T := by
  have h := List.perm_append_comm (l₁ := T.drop k) (l₂ := T.take k)
  rw [List.take_append_drop] at h
  exact h
theorem perm_edges {n : Nat} {T T' : List P3} (h : T'.Perm T) (b : Bool) : edgesF n T' b = edgesF n T b := edges_same (fun d => by
  rw [mem_darts, mem_darts]
  constructor
  · rintro ⟨t, ht, hd⟩; exact ⟨t, h.mem_iff.1 ht, hd⟩
  · rintro ⟨t, ht, hd⟩; exact ⟨t, h.mem_iff.2 ht, hd⟩) b
theorem turns_edges {n : Nat} {T : List P3} {l : List Nat} (h : l.length = T.length) (b : Bool) : edgesF n (turnsT T l) b = edgesF n T b := edges_same (fun _ => (darts_turns T l h).mem_iff) b
theorem turns_at {T : List P3} {l : List Nat} (h : l.length = T.length) {i : Nat} (hi : i < T.length) : ∃ hi2 : i < (turnsT T l).length, (turnsT T l)[i] = rotT (l[i]'(by omega)) T[i] := by
  have h2 : i < (turnsT T l).length := by rw [turns_len h]; exact hi
  refine ⟨h2, ?_⟩
  have h3 : (turnsT T l)[i]? = some (rotT (l[i]'(by omega)) T[i]) := by
    unfold turnsT
    rw [List.getElem?_zipWith_eq_some]
    exact ⟨_, _, List.getElem?_eq_getElem hi, List.getElem?_eq_getElem (by omega), rfl⟩
  rw [List.getElem?_eq_getElem h2] at h3
  exact Option.some.inj h3
theorem rot_fst {b : Nat} (hb : b < 3) (t : P3) : (rotT b t).1 = at3 t b ∧ (rotT b t).2.1 = at3 t ((b + 1) % 3) := by
  obtain ⟨x, y, z⟩ := t
  rcases (show b = 0 ∨ b = 1 ∨ b = 2 by omega) with rfl | rfl | rfl <;> exact ⟨rfl, rfl⟩
/-- A mesh of the call's own, its triangles a row of its own. -/
structure RotW (W V : World) (a b Av tv : Value) (len : Nat) (L : List P3) (wx : World) : Prop where
  at_ : MeshAt W a b wx
  own : Blk wx V.heap.size 25 #[Av, tv]
  tri : OwnK 3 wx (V.heap.size + 1) 46 tv len (p3Cells L)
  big : W.heap.size < V.heap.size
theorem RotW.next {W V wx w' : World} {a b Av tv : Value} {len : Nat} {L : List P3} (h : RotW W V a b Av tv len L wx) (hb : Below wx.heap.size wx w') : RotW W V a b Av tv len L w' := ⟨h.at_.next hb, h.own.below hb h.own.lt, h.tri.keep hb, h.big⟩
theorem RotW.new {W V : World} {a b : Value} (h : MeshAt W a b V) (Av : Value) : RotW W V a b Av (.slice none 0 0) 0 [] (V.alloc (.cells #[Av, .slice none 0 0] 25)) :=
  ⟨h.next (new_alloc (Below.refl V.heap.size V) _), Blk.new V _ _, OwnK.nil _ _ _ _, h.b0.lt⟩
/-- While the longer row is not yet stored. -/
structure RotM (W V : World) (a b Av tv v' : Value) (len : Nat) (L : List P3) (wx : World) : Prop where
  at_ : MeshAt W a b wx
  own : Blk wx V.heap.size 25 #[Av, tv]
  tri : OwnK 3 wx (V.heap.size + 1) 46 v' len (p3Cells L)
  big : W.heap.size < V.heap.size
theorem RotW.app {W V wx w' : World} {a b Av tv v' : Value} {len len' : Nat} {L L' : List P3} (h : RotW W V a b Av tv len L wx) (ho : OwnK 3 w' (V.heap.size + 1) 46 v' len' (p3Cells L')) (hb : Below (V.heap.size + 1) wx w') : RotM W V a b Av tv v' len' L' w' :=
  ⟨⟨h.at_.b0.below hb (by have := h.big; omega), h.at_.bel.trans (hb.mono (by have := h.big; omega))⟩, h.own.below hb (by omega), ho, h.big⟩
theorem RotM.put {W V wx : World} {a b Av tv v' : Value} {len : Nat} {L : List P3} (h : RotM W V a b Av tv v' len L wx) : RotW W V a b Av v' len L (wx.setCell ⟨V.heap.size, 1, none⟩ v') :=
  ⟨⟨h.at_.b0.far (by show W.heap.size ≠ V.heap.size; have := h.big; omega) _, h.at_.bel.setCell (by show W.heap.size ≤ V.heap.size; have := h.big; omega) _⟩, h.own.set_ 1 v', h.tri.far (fun g c e => by have := (own3_lt h.tri g c e).1; show g ≠ V.heap.size; omega) _, h.big⟩
/-- And the turned one beside it. -/
structure TurnX (W V : World) (a b Av tv : Value) (len : Nat) (L : List P3) (G : Nat) (Ax bx : Value) (wx : World) : Prop where
  rot : RotW W V a b Av tv len L wx
  own : Blk wx G 25 #[Ax, bx]
theorem TurnX.next {W V wx w' : World} {a b Av tv Ax bx : Value} {len G : Nat} {L : List P3} (h : TurnX W V a b Av tv len L G Ax bx wx) (hb : Below wx.heap.size wx w') : TurnX W V a b Av tv len L G Ax bx w' := ⟨h.rot.next hb, h.own.below hb h.own.lt⟩
theorem bys_corn {T : List P3} {l : List Int} : bysOk T l = (decide (l.length = T.length) && l.all cornB) := rfl
theorem corn_next {l : List Int} {i : Nat} (hi : i < l.length) (b : Bool) : (b && (l.take (i + 1)).all cornB) = ((b && (l.take i).all cornB) && cornB l[i]) := by
  rw [List.take_succ_eq_append_getElem hi, List.all_append]
  simp [Bool.and_assoc]
theorem turned_bad {P T : List P3} {l : List Int} (h : bysOk T l = false) : turnedF P T l 0 = ([], [], 2) := by unfold turnedF; rw [if_pos rfl, h]; rfl
theorem turned_good {P T : List P3} {l : List Int} (h : bysOk T l = true) : turnedF P T l 0 = (P, turnsT T (l.map Int.toNat), 0) := by unfold turnedF; rw [if_pos rfl, h]; rfl
theorem corn_nat {l : List Int} (h : l.all cornB = true) {i : Nat} (hi : i < l.length) : ∃ b : Nat, b < 3 ∧ l[i] = (b : Int) ∧ (l.map Int.toNat)[i]'(by rw [List.length_map]; exact hi) = b := by
  have h1 := List.all_eq_true.1 h _ (List.getElem_mem hi)
  unfold cornB at h1
  rw [Bool.and_eq_true, decide_eq_true_eq, decide_eq_true_eq] at h1
  refine ⟨l[i].toNat, by omega, by omega, ?_⟩
  rw [List.getElem_map]
end Go.Proofs.YtckjmnbglbegmaaDoor
