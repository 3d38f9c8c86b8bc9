import Derived.Test.YthjmojglcfmkmaaDoorWalkRefF
import Derived.Test.YthjmojglcfmkmaaDoorWalkPlain
/- lapidaryref11: SameSteps, Canon. -/
namespace Go.Proofs.YthjmojglcfmkmaaDoor
open Go.RowKit

set_option maxRecDepth 100000 in
set_option maxHeartbeats 1600000 in
theorem ref11SameSteps_any (A : Option Addr) (n c : Nat) (l : List (Int × Int)) (B : Option Addr) (m d : Nat) (r : List (Int × Int)) (w : World) (hl : HasK 2 w A n c (e2Cells l)) (hr : HasK 2 w B m d (e2Cells r)) (hn : n ≤ 100000000) (_ : m ≤ 100000000) : Calls Tryd.prog 24 #[.slice A n c, .slice B m d] w fun e w' => e = .returned (.bool (decide (l = r))) ∧ Below w.heap.size w w' := by
  have HL : Hid (l.length = n) := by have := hl.len; rw [e2Cells_len] at this; show _ = _; omega
  have HM : Hid (r.length = m) := by have := hr.len; rw [e2Cells_len] at this; show _ = _; omega
  have HA := Lib.hid hl
  have HB := Lib.hid hr
  clear hl hr
  by_cases hq : n = m
  · subst hq
    have tq : ((n : Int) != (n : Int)) = false := by simp
    have HD : Hid (decide (l = r) = true ↔ l = r) := decide_eq_true_iff
    generalize decide (l = r) = R at *
    go_enter Tryd.func24, Tryd.ntmps24
    go_wp2
    go_loopg [5] n (fun g s5 wx => ∃ i : Nat, i + g = n ∧ s5 = .int .i64 i ∧ Hid (Below w.heap.size w wx) ∧ Hid (l.take i = r.take i))
    case atStart => exact ⟨0, by omega, rfl, Below.refl _ _, rfl⟩
    case round =>
      obtain ⟨i, hig, rfl, HBl, HI⟩ := hrel
      by_cases hi : i < n
      · have ti : decide ((i : Int) < (n : Int)) = true := by simp; omega
        have i2 : (i : Int) < (n : Int) := by omega
        have hil : i < l.length := by rw [HL.out]; exact hi
        have hir : i < r.length := by rw [HM.out]; exact hi
        obtain ⟨b1, o1, rfl, hlt1, _⟩ := (HA.out.kept HBl.out).spot (by omega)
        obtain ⟨b2, o2, rfl, hlt2, _⟩ := (HB.out.kept HBl.out).spot (by omega)
        obtain ⟨c0, c1⟩ := e2_at (HA.out.kept HBl.out) hil
        obtain ⟨d0, d1⟩ := e2_at (HB.out.kept HBl.out) hir
        have HNx : Hid (l[i] = r[i] → l.take (i + 1) = r.take (i + 1)) := fun h => take_same HI.out hil hir h
        have HNo : Hid (l[i] ≠ r[i] → R = false) := fun h => by
          cases hRx : R with
          | false => rfl
          | true =>
            have e := HD.out.1 hRx
            subst e
            exact absurd rfl h
        generalize l[i] = p at *
        generalize r[i] = q at *
        obtain ⟨x, y⟩ := p
        obtain ⟨x2, y2⟩ := q
        simp only at c0 c1 d0 d1
        clear hil hir hlt1 hlt2
        by_cases he : (x, y) = (x2, y2)
        · have HE := Lib.hid (HNx.out he)
          clear HNx HNo
          cases he
          go_wp2
          go_region
          all_goals
            go_wp2
            go_roundg (gk - 1)
            case measure => omega
            case rel => exact ⟨i + 1, by omega, by go_num, HBl.out.drew, HE⟩
        · have HE := Lib.hid (HNo.out he)
          clear HNx HNo
          rcases neq_pair he with e1 | ⟨e1, e2⟩
          all_goals
            clear he
            go_wp2
            go_region
            all_goals
              go_wp2
              go_ret
              exact ⟨by rw [HE.out]; rfl, HBl.out.drew⟩
      · have ti : decide ((i : Int) < (n : Int)) = false := by simp; omega
        have HE : Hid (R = true) := HD.out.2 (take_whole HI.out (by rw [HL.out]; omega) (by rw [HM.out]; omega))
        go_wp2
        go_ret
        exact ⟨by rw [HE.out]; rfl, HBl.out⟩
  · have HE : Hid (decide (l = r) = false) := by
      show _ = _
      apply decide_eq_false
      intro h
      subst h
      exact hq (HL.out.symm.trans HM.out)
    have tq : ((n : Int) != (m : Int)) = true := bne_iff_ne.2 (by omega)
    rw [HE.out]
    go_enter Tryd.func24, Tryd.ntmps24
    go_wp2
    go_ret
    exact ⟨rfl, Below.refl _ _⟩
end Go.Proofs.YthjmojglcfmkmaaDoor

/- lapidaryref11: Canon. -/
namespace Go.Proofs.YthjmojglcfmkmaaDoor
open Go.RowKit

/-- A mesh, and an error, in new memory. -/
def Canond (w : World) (P T : List P3) (r : Int) (e : Ending) (w' : World) : Prop := ∃ A c B d, e = .returned (.tuple #[.agg #[.slice A P.length c, .slice B T.length d], .int .i64 r]) ∧ HasK 3 w' A P.length c (p3Cells P) ∧ HasK 3 w' B T.length d (p3Cells T) ∧ Below w.heap.size w w'
def ptF (P : List P3) (x : Int) : P3 := P[x.toNat]?.getD (0, 0, 0)
theorem canonP_is (P T : List P3) : canonP P T = (walkF T).V.map (ptF P) := rfl
theorem zeroMesh (w : World) : (zeroValue 48).run Tryd.prog w = .ok (.agg #[.slice none 0 0, .slice none 0 0]) w := by kernel_rfl
/-- Points put into a row, behind a walk that lies there. -/
structure CanAt (w1 : World) (cs : Array Value) (tw : TypeId) (A6 : Option Addr) (c6 : Nat) (tv : Value) (l : List P3) (n6 : Nat) (wx : World) : Prop where
  wb : Blk wx w1.heap.size tw cs
  ob : Blk wx (w1.heap.size + 1) 48 #[.slice A6 n6 c6, tv]
  own : OwnK 3 wx (w1.heap.size + 2) 84 (.slice A6 n6 c6) n6 (p3Cells l)
  bw : Below w1.heap.size w1 wx
theorem CanAt.next {w1 : World} {cs : Array Value} {tw : TypeId} {A6 : Option Addr} {c6 : Nat} {tv : Value} {l : List P3} {n6 : Nat} {wx w' : World} (h : CanAt w1 cs tw A6 c6 tv l n6 wx) (hb : Below wx.heap.size wx w') : CanAt w1 cs tw A6 c6 tv l n6 w' :=
  ⟨h.wb.below hb h.wb.lt, h.ob.below hb h.ob.lt, OwnK.keep h.own hb, h.bw.trans (hb.mono h.bw.size)⟩
theorem CanAt.lt {w1 : World} {cs : Array Value} {tw : TypeId} {A6 : Option Addr} {c6 : Nat} {tv : Value} {l : List P3} {n6 : Nat} {wx : World} (h : CanAt w1 cs tw A6 c6 tv l n6 wx) : w1.heap.size + 2 ≤ wx.heap.size := h.ob.lt
theorem CanAt.put {w1 : World} {cs : Array Value} {tw : TypeId} {A6 : Option Addr} {c6 : Nat} {tv : Value} {l : List P3} {p : P3} {n6 : Nat} {wx w' : World} {A7 : Option Addr} {c7 : Nat} (h : CanAt w1 cs tw A6 c6 tv l n6 wx)
    (ho : OwnK 3 w' (w1.heap.size + 2) 84 (.slice A7 (n6 + 1) c7) (n6 + 1) (p3Cells l ++ p3Cells [p])) (hg : wx.grownBy w' (Value.slice A6 n6 c6).ownBlock) :
    CanAt w1 cs tw A7 c7 tv (l ++ [p]) (n6 + 1) (w'.setCell ⟨w1.heap.size + 1, 0, none⟩ (.slice A7 (n6 + 1) c7)) ∧ Blk w' (w1.heap.size + 1) 48 #[.slice A6 n6 c6, tv] := by
  have hn : ∀ q, (Value.slice A6 n6 c6).ownBlock = some q → w1.heap.size + 2 ≤ q := fun q e => (World.ownsRow.lt h.own q e).1
  have hb1 : Blk w' w1.heap.size tw cs := h.wb.grown hg (fun e => by have := hn _ e; omega)
  have hb2 : Blk w' (w1.heap.size + 1) 48 #[.slice A6 n6 c6, tv] := h.ob.grown hg (fun e => by have := hn _ e; omega)
  refine ⟨⟨hb1.far (by show w1.heap.size ≠ w1.heap.size + 1; omega) _, hb2.set_ 0 _, ?_, ?_⟩, hb2⟩
  · rw [p3Cells_app]
    exact World.ownsRow.kept ho (grown_set w' ⟨w1.heap.size + 1, 0, none⟩ _) (own_away (F := fun k => w1.heap.size + 2 ≤ k) (fun k e => by cases e; show ¬ _ ≤ _; simp only; omega) (fun q e => (World.ownsRow.lt ho q e).1))
  · refine (h.bw.trans (Chg.below (D := fun k => w1.heap.size + 2 ≤ k) ((Chg.of_grown hg).wide fun k _ e => hn k e) (fun k e => by have h : w1.heap.size + 2 ≤ k := e; omega) h.bw.size)).setCell (p := ⟨w1.heap.size + 1, 0, none⟩) (by show w1.heap.size ≤ w1.heap.size + 1; omega) _
/-- A mesh handed back through a cell. -/
theorem mesh_out {w wx : World} {q : Nat} {x y : Value} (hb : Blk wx q 48 #[x, y]) (hbel : Below w.heap.size w wx) (hq : w.heap.size ≤ q) (r : Int) {P T : List P3} {b1 b2 : Nat} {e1 e2 : TypeId} {A B : Option Addr} {n c m d : Nat}
    (h1 : OwnK 3 wx b1 e1 (.slice A n c) n (p3Cells P)) (h2 : OwnK 3 wx b2 e2 (.slice B m d) m (p3Cells T)) (n1 : (Value.slice A n c).ownBlock ≠ some q) (n2 : (Value.slice B m d).ownBlock ≠ some q) :
    Blk ((wx.setCell ⟨q, 0, none⟩ (.slice A n c)).setCell ⟨q, 1, none⟩ (.slice B m d)) q 48 #[.slice A n c, .slice B m d] ∧ Canond w P T r (.returned (.tuple #[.agg #[.slice A n c, .slice B m d], .int .i64 r])) ((wx.setCell ⟨q, 0, none⟩ (.slice A n c)).setCell ⟨q, 1, none⟩ (.slice B m d)) := by
  have hl1 : P.length = n := by have := h1.1; rw [p3Cells_len] at this; omega
  have hl2 : T.length = m := by have := h2.1; rw [p3Cells_len] at this; omega
  subst hl1 hl2
  have k1 := World.ownsRow.kept (World.ownsRow.kept h1 (grown_set wx ⟨q, 0, none⟩ (.slice A P.length c)) (Or.inr n1)) (grown_set _ ⟨q, 1, none⟩ (.slice B T.length d)) (Or.inr n1)
  have k2 := World.ownsRow.kept (World.ownsRow.kept h2 (grown_set wx ⟨q, 0, none⟩ (.slice A P.length c)) (Or.inr n2)) (grown_set _ ⟨q, 1, none⟩ (.slice B T.length d)) (Or.inr n2)
  refine ⟨(hb.set_ 0 _).set_ 1 _, A, c, B, d, rfl, ?_, ?_, (hbel.setCell (p := ⟨q, 0, none⟩) hq _).setCell (p := ⟨q, 1, none⟩) hq _⟩
  · obtain ⟨_, _, e, h⟩ := OwnK.has k1
    cases e
    exact h
  · obtain ⟨_, _, e, h⟩ := OwnK.has k2
    cases e
    exact h
end Go.Proofs.YthjmojglcfmkmaaDoor
