/- Layer 10: what the calls answer. -/
import Derived.Test.YtckjmnbglbegmaaDoorMeshRefG
namespace Go.Proofs.YtckjmnbglbegmaaDoor
open Go.RowKit

/-- Edges, and an error, in new memory. -/
def Edgd (w : World) (l : List (Int × Int)) (r : Int) (e : Ending) (w' : World) : Prop := ∃ A c, e = .returned (.tuple #[.slice A l.length c, .int .i64 r]) ∧ HasK 2 w' A l.length c (e2Cells l) ∧ Below w.heap.size w w' ∧ ∀ b off, A = some ⟨b, off, none⟩ → w.heap.size ≤ b
/-- Numbers, and an error, in new memory. -/
def Piecd (w : World) (p : List Nat) (r : Int) (e : Ending) (w' : World) : Prop := ∃ A c, e = .returned (.tuple #[.slice A p.length c, .int .i64 r]) ∧ Has w' A p.length c (natVs p) ∧ Below w.heap.size w w' ∧ ∀ b off, A = some ⟨b, off, none⟩ → w.heap.size ≤ b
/-- A mesh, in new memory: rows of the call's own, that share none. -/
def MeshOut (w : World) (P T : List P3) (f : Value → Ending) (e : Ending) (w' : World) : Prop :=
  ∃ A c B d, e = f (.agg #[.slice A P.length c, .slice B T.length d]) ∧ OwnK 3 w' w.heap.size 55 (.slice A P.length c) P.length (p3Cells P) ∧ OwnK 3 w' w.heap.size 46 (.slice B T.length d) T.length (p3Cells T) ∧ Below w.heap.size w w' ∧ ∀ b off b' off', A = some ⟨b, off, none⟩ → B = some ⟨b', off', none⟩ → b ≠ b'
/-- Points less edges and triangles more. -/
def eulerF (P T : List P3) : Int := (P.length : Int) - (edgesF P.length T false).length + T.length
/-- Do they say how each triangle begins? -/
def bysOk (T : List P3) (l : List Int) : Bool := decide (l.length = T.length) && l.all fun x => decide (0 ≤ x) && decide (x ≤ 2)
def turnedF (P T : List P3) (l : List Int) (r : Int) : List P3 × List P3 × Int := if r = 0 then (if bysOk T l then (P, turnsT T (l.map Int.toNat), 0) else ([], [], 2)) else ([], [], r)
theorem edges_le (n : Nat) (T : List P3) (b : Bool) : (edgesF n T b).length ≤ n * n := by
  unfold edgesF
  refine Nat.le_trans (List.length_filter_le _ _) ?_
  rw [← rows_all, rows_len]
  exact Nat.le_refl _
set_option maxRecDepth 100000 in
set_option maxHeartbeats 1600000 in
theorem ref0SameInts_any (A : Option Addr) (n c : Nat) (l : List Int) (B : Option Addr) (m d : Nat) (r : List Int) (w : World) (hl : Has w A n c (intVs l)) (hr : Has w B m d (intVs r)) (hn : n ≤ 100000000) (_ : m ≤ 100000000) : Calls Tryd.prog 22 #[.slice A n c, .slice B m d] w fun e w' => e = .returned (.bool (decide (l = r))) ∧ Below w.heap.size w w' := by
  have HL : Hid (l.length = n) := by have := hl.len; rw [intVs_len] at this; exact this
  have HM : Hid (r.length = m) := by have := hr.len; rw [intVs_len] at this; exact this
  have HA := Lib.hid hl
  have HB := Lib.hid hr
  clear hl hr
  by_cases hq : n = m
  · subst hq
    have HD : Hid (decide (l = r) = true ↔ l = r) := decide_eq_true_iff
    generalize decide (l = r) = R at *
    go_enter Tryd.func22, Tryd.ntmps22
    go_wp2
    go_loopg [5] n (fun g s5 wx => ∃ i : Nat, i + g = n ∧ s5 = .int .i64 i ∧ Hid (Below w.heap.size w wx) ∧ Hid (l.take i = r.take i))
    case atStart => exact ⟨0, by omega, rfl, Below.refl _ _, rfl⟩
    case round =>
      obtain ⟨i, hig, rfl, HBl, HI⟩ := hrel
      by_cases hi : i < n
      · have ti : decide ((i : Int) < (n : Int)) = true := by simp; omega
        have i2 : (i : Int) < (n : Int) := by omega
        have hil : i < l.length := by rw [HL.out]; exact hi
        have hir : i < r.length := by rw [HM.out]; exact hi
        obtain ⟨b1, o1, rfl, hlt1, hc1⟩ := (HA.out.kept HBl.out).spot (by omega)
        obtain ⟨b2, o2, rfl, hlt2, hc2⟩ := (HB.out.kept HBl.out).spot (by omega)
        have c0 := hc1 _ _ (intVs_at hil)
        have d0 := hc2 _ _ (intVs_at hir)
        have HNx : Hid (l[i] = r[i] → l.take (i + 1) = r.take (i + 1)) := fun h => take_same HI.out hil hir h
        have HNo : Hid (l[i] ≠ r[i] → R = false) := fun h => by
          cases hRx : R with
          | false => rfl
          | true =>
            have e := HD.out.1 hRx
            subst e
            exact absurd rfl h
        generalize l[i] = x at *
        generalize r[i] = y at *
        clear hil hir hlt1 hlt2 hc1 hc2
        by_cases he : x = y
        · have HE := Lib.hid (HNx.out he)
          clear HNx HNo
          cases he
          go_wp2
          go_region
          all_goals
            go_wp2
            go_roundg (gk - 1)
            case measure => omega
            case rel => exact ⟨i + 1, by omega, by go_num, HBl.out.drew, HE⟩
        · have HE := Lib.hid (HNo.out he)
          have e1 : (x != y) = true := bne_iff_ne.2 he
          clear HNx HNo he
          go_wp2
          go_region
          all_goals
            go_wp2
            go_ret
            exact ⟨by rw [HE.out]; rfl, HBl.out.drew⟩
      · have ti : decide ((i : Int) < (n : Int)) = false := by simp; omega
        have HE : Hid (R = true) := HD.out.2 (take_whole HI.out (by rw [HL.out]; omega) (by rw [HM.out]; omega))
        go_wp2
        go_ret
        exact ⟨by rw [HE.out]; rfl, HBl.out⟩
  · have HE : Hid (decide (l = r) = false) := by
      show _ = _
      apply decide_eq_false
      intro h
      subst h
      exact hq (HL.out.symm.trans HM.out)
    have tq : ((n : Int) != (m : Int)) = true := bne_iff_ne.2 (by omega)
    rw [HE.out]
    clear hq
    go_enter Tryd.func22, Tryd.ntmps22
    go_wp2
    go_ret
    exact ⟨rfl, Below.refl _ _⟩
end Go.Proofs.YtckjmnbglbegmaaDoor
