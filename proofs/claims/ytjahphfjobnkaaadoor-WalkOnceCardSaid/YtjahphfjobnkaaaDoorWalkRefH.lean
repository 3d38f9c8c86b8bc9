import Derived.Test.YtjahphfjobnkaaaDoorWalkRefF
import Derived.Test.YtjahphfjobnkaaaDoorWalkPlain
/- lapidaryref11: SameSteps, Canon. -/
namespace Go.Proofs.YtjahphfjobnkaaaDoor
open Go.RowKit

set_option maxRecDepth 100000 in
set_option maxHeartbeats 1600000 in
theorem ref11SameSteps_any (A : Option Addr) (n c : Nat) (l : List (Int × Int)) (B : Option Addr) (m d : Nat) (r : List (Int × Int)) (w : World) (hl : HasK 2 w A n c (e2Cells l)) (hr : HasK 2 w B m d (e2Cells r)) (hn : n ≤ 100000000) (_ : m ≤ 100000000) : Calls Tryd.prog 14 #[.slice A n c, .slice B m d] w fun e w' => e = .returned (.bool (decide (l = r))) ∧ Below w.heap.size w w' := by
  have HL : Hid (l.length = n) := by have := hl.len; rw [e2Cells_len] at this; show _ = _; omega
  have HM : Hid (r.length = m) := by have := hr.len; rw [e2Cells_len] at this; show _ = _; omega
  have HA := Lib.hid hl
  have HB := Lib.hid hr
  clear hl hr
  by_cases hq : n = m
  · subst hq
    have tq : ((n : Int) != (n : Int)) = false := by simp
    have HD : Hid (decide (l = r) = true ↔ l = r) := decide_eq_true_iff
    generalize decide (l = r) = R at *
    go_enter Tryd.func14, Tryd.ntmps14
    go_wp2
    go_loopg [5] n (fun g s5 wx => ∃ i : Nat, i + g = n ∧ s5 = .int .i64 i ∧ Hid (Below w.heap.size w wx) ∧ Hid (l.take i = r.take i))
    case atStart => exact ⟨0, by omega, rfl, Below.refl _ _, rfl⟩
    case round =>
      obtain ⟨i, hig, rfl, HBl, HI⟩ := hrel
      by_cases hi : i < n
      · have ti : decide ((i : Int) < (n : Int)) = true := by simp; omega
        have i2 : (i : Int) < (n : Int) := by omega
        have hil : i < l.length := by rw [HL.out]; exact hi
        have hir : i < r.length := by rw [HM.out]; exact hi
        obtain ⟨b1, o1, rfl, hlt1, _⟩ := (HA.out.kept HBl.out).spot (by omega)
        obtain ⟨b2, o2, rfl, hlt2, _⟩ := (HB.out.kept HBl.out).spot (by omega)
        obtain ⟨c0, c1⟩ := e2_at (HA.out.kept HBl.out) hil
        obtain ⟨d0, d1⟩ := e2_at (HB.out.kept HBl.out) hir
        have HNx : Hid (l[i] = r[i] → l.take (i + 1) = r.take (i + 1)) := fun h => take_same HI.out hil hir h
        have HNo : Hid (l[i] ≠ r[i] → R = false) := fun h => by
          cases hRx : R with
          | false => rfl
          | true =>
            have e := HD.out.1 hRx
            subst e
            exact absurd rfl h
        generalize l[i] = p at *
        generalize r[i] = q at *
        obtain ⟨x, y⟩ := p
        obtain ⟨x2, y2⟩ := q
        simp only at c0 c1 d0 d1
        clear hil hir hlt1 hlt2
        by_cases he : (x, y) = (x2, y2)
        · have HE := Lib.hid (HNx.out he)
          clear HNx HNo
          cases he
          go_wp2
          go_region
          all_goals
            go_wp2
            go_roundg (gk - 1)
            case measure => omega
            case rel => exact ⟨i + 1, by omega, by go_num, HBl.out.drew, HE⟩
        · have HE := Lib.hid (HNo.out he)
          clear HNx HNo
          rcases neq_pair he with e1 | ⟨e1, e2⟩
          all_goals
            clear he
            go_wp2
            go_region
            all_goals
              go_wp2
              go_ret
              exact ⟨by rw [HE.out]; rfl, HBl.out.drew⟩
      · have ti : decide ((i : Int) < (n : Int)) = false := by simp; omega
        have HE : Hid (R = true) := HD.out.2 (take_whole HI.out (by rw [HL.out]; omega) (by rw [HM.out]; omega))
        go_wp2
        go_ret
        exact ⟨by rw [HE.out]; rfl, HBl.out⟩
  · have HE : Hid (decide (l = r) = false) := by
      show _ = _
      apply decide_eq_false
      intro h
      subst h
      exact hq (HL.out.symm.trans HM.out)
    have tq : ((n : Int) != (m : Int)) = true := bne_iff_ne.2 (by omega)
    rw [HE.out]
    go_enter Tryd.func14, Tryd.ntmps14
    go_wp2
    go_ret
    exact ⟨rfl, Below.refl _ _⟩
end Go.Proofs.YtjahphfjobnkaaaDoor

/- lapidaryref11: Canon. -/
namespace Go.Proofs.YtjahphfjobnkaaaDoor
open Go.RowKit

/-- A mesh, and an error, in new memory. -/
def Canond (w : World) (P T : List P3) (r : Int) (e : Ending) (w' : World) : Prop := ∃ A c B d, e = .returned (.tuple #[.agg #[.slice A P.length c, .slice B T.length d], .int .i64 r]) ∧ HasK 3 w' A P.length c (p3Cells P) ∧ HasK 3 w' B T.length d (p3Cells T) ∧ Below w.heap.size w w'
def ptF (P : List P3) (x : Int) : P3 := P[x.toNat]?.getD (0, 0, 0)
theorem canonP_is (P T : List P3) : canonP P T = (walkF T).V.map (ptF P) := rfl
theorem zeroMesh (w : World) : (zeroValue 25).run Tryd.prog w = .ok (.agg #[.slice none 0 0, .slice none 0 0]) w := by kernel_rfl
/-- Points put into a row, behind a walk that lies there. -/
structure CanAt (w1 : World) (cs : Array Value) (tw : TypeId) (A6 : Option Addr) (c6 : Nat) (tv : Value) (l : List P3) (n6 : Nat) (wx : World) : Prop where
  wb : Blk wx w1.heap.size tw cs
  ob : Blk wx (w1.heap.size + 1) 25 #[.slice A6 n6 c6, tv]
  own : OwnK 3 wx (w1.heap.size + 2) 49 (.slice A6 n6 c6) n6 (p3Cells l)
  bw : Below w1.heap.size w1 wx
theorem CanAt.next {w1 : World} {cs : Array Value} {tw : TypeId} {A6 : Option Addr} {c6 : Nat} {tv : Value} {l : List P3} {n6 : Nat} {wx w' : World} (h : CanAt w1 cs tw A6 c6 tv l n6 wx) (hb : Below wx.heap.size wx w') : CanAt w1 cs tw A6 c6 tv l n6 w' :=
  ⟨h.wb.below hb h.wb.lt, h.ob.below hb h.ob.lt, OwnK.keep h.own hb, h.bw.trans (hb.mono h.bw.size)⟩
theorem CanAt.lt {w1 : World} {cs : Array Value} {tw : TypeId} {A6 : Option Addr} {c6 : Nat} {tv : Value} {l : List P3} {n6 : Nat} {wx : World} (h : CanAt w1 cs tw A6 c6 tv l n6 wx) : w1.heap.size + 2 ≤ wx.heap.size := h.ob.lt
theorem CanAt.put {w1 : World} {cs : Array Value} {tw : TypeId} {A6 : Option Addr} {c6 : Nat} {tv : Value} {l : List P3} {p : P3} {n6 : Nat} {wx w' : World} {A7 : Option Addr} {c7 : Nat} (h : CanAt w1 cs tw A6 c6 tv l n6 wx)
    (ho : OwnK 3 w' (w1.heap.size + 2) 49 (.slice A7 (n6 + 1) c7) (n6 + 1) (p3Cells l ++ p3Cells [p])) (hg : wx.grownBy w' (Value.slice A6 n6 c6).ownBlock) :
    CanAt w1 cs tw A7 c7 tv (l ++ [p]) (n6 + 1) (w'.setCell ⟨w1.heap.size + 1, 0, none⟩ (.slice A7 (n6 + 1) c7)) ∧ Blk w' (w1.heap.size + 1) 25 #[.slice A6 n6 c6, tv] := by
  have hn : ∀ q, (Value.slice A6 n6 c6).ownBlock = some q → w1.heap.size + 2 ≤ q := fun q e => (World.ownsRow.lt h.own q e).1
  have hb1 : Blk w' w1.heap.size tw cs := h.wb.grown hg (fun e => by have := hn _ e; omega)
  have hb2 : Blk w' (w1.heap.size + 1) 25 #[.slice A6 n6 c6, tv] := h.ob.grown hg (fun e => by have := hn _ e; omega)
  refine ⟨⟨hb1.far (by show w1.heap.size ≠ w1.heap.size + 1; omega) _, hb2.set_ 0 _, ?_, ?_⟩, hb2⟩
  · rw [p3Cells_app]
    exact World.ownsRow.kept ho (grown_set w' ⟨w1.heap.size + 1, 0, none⟩ _) (own_away (F := fun k => w1.heap.size + 2 ≤ k) (fun k e => by cases e; show ¬ _ ≤ _; simp only; omega) (fun q e => (World.ownsRow.lt ho q e).1))
  · refine (h.bw.trans (Chg.below (D := fun k => w1.heap.size + 2 ≤ k) ((Chg.of_grown hg).wide fun k _ e => hn k e) (fun k e => by have h : w1.heap.size + 2 ≤ k := e; omega) h.bw.size)).setCell (p := ⟨w1.heap.size + 1, 0, none⟩) (by show w1.heap.size ≤ w1.heap.size + 1; omega) _
/-- A mesh handed back through a cell. -/
theorem mesh_out {w wx : World} {q : Nat} {x y : Value} (hb : Blk wx q 25 #[x, y]) (hbel : Below w.heap.size w wx) (hq : w.heap.size ≤ q) (r : Int) {P T : List P3} {b1 b2 : Nat} {e1 e2 : TypeId} {A B : Option Addr} {n c m d : Nat}
    (h1 : OwnK 3 wx b1 e1 (.slice A n c) n (p3Cells P)) (h2 : OwnK 3 wx b2 e2 (.slice B m d) m (p3Cells T)) (n1 : (Value.slice A n c).ownBlock ≠ some q) (n2 : (Value.slice B m d).ownBlock ≠ some q) :
    Blk ((wx.setCell ⟨q, 0, none⟩ (.slice A n c)).setCell ⟨q, 1, none⟩ (.slice B m d)) q 25 #[.slice A n c, .slice B m d] ∧ Canond w P T r (.returned (.tuple #[.agg #[.slice A n c, .slice B m d], .int .i64 r])) ((wx.setCell ⟨q, 0, none⟩ (.slice A n c)).setCell ⟨q, 1, none⟩ (.slice B m d)) := by
  have hl1 : P.length = n := by have := h1.1; rw [p3Cells_len] at this; omega
  have hl2 : T.length = m := by have := h2.1; rw [p3Cells_len] at this; omega
  subst hl1 hl2
  have k1 := World.ownsRow.kept (World.ownsRow.kept h1 (grown_set wx ⟨q, 0, none⟩ (.slice A P.length c)) (Or.inr n1)) (grown_set _ ⟨q, 1, none⟩ (.slice B T.length d)) (Or.inr n1)
  have k2 := World.ownsRow.kept (World.ownsRow.kept h2 (grown_set wx ⟨q, 0, none⟩ (.slice A P.length c)) (Or.inr n2)) (grown_set _ ⟨q, 1, none⟩ (.slice B T.length d)) (Or.inr n2)
  refine ⟨(hb.set_ 0 _).set_ 1 _, A, c, B, d, rfl, ?_, ?_, (hbel.setCell (p := ⟨q, 0, none⟩) hq _).setCell (p := ⟨q, 1, none⟩) hq _⟩
  · obtain ⟨_, _, e, h⟩ := OwnK.has k1
    cases e
    exact h
  · obtain ⟨_, _, e, h⟩ := OwnK.has k2
    cases e
    exact h
set_option maxRecDepth 100000 in
set_option maxHeartbeats 4000000 in
theorem ref11Canon_any (A : Option Addr) (n c : Nat) (P : List P3) (B : Option Addr) (m d : Nat) (T : List P3) (r : Int) (w : World) (hp : HasK 3 w A n c (p3Cells P)) (ht : HasK 3 w B m d (p3Cells T)) (hn : n ≤ 100000) (hm : m ≤ 100000) (hr : CheckIs P T r) :
    Calls Tryd.prog 17 #[.agg #[.slice A n c, .slice B m d]] w (Canond w (if r = 0 then canonP P T else []) (if r = 0 then (walkF T).N else []) r) := by
  have HL : Hid (P.length = n) := by have := hp.len; rw [p3Cells_len] at this; show _ = _; omega
  have HM : Hid (T.length = m) := by have := ht.len; rw [p3Cells_len] at this; show _ = _; omega
  have HK0 := Lib.hid (MeshTwo.new w (.slice A n c) (.slice B m d) (.slice none 0 0) (.slice none 0 0))
  have HWk := Lib.hid (fun W (hW : Below w.heap.size w W) => ref11Walk_any A n c P B m d T r W (hp.kept hW) (ht.kept hW) hn hm hr)
  have HP := Lib.hid (fun W (hW : Below w.heap.size w W) => hp.kept hW)
  have HVi : Hid (r = 0 → ∀ x ∈ (walkF T).V, 0 ≤ x ∧ x < n) := fun h x hx => by
    subst h
    have := (verts_all hr x).1 hx
    rw [HL.out] at this
    exact this
  have HVn : Hid (r = 0 → (walkF T).V.length ≤ 300000) := fun _ => by
    have h1 := (walk_fine T T.length (Nat.le_refl _)).vv
    have h2 := (walk_fine T T.length (Nat.le_refl _)).ok.le
    have h3 := HM.out
    show (walkTo T T.length).V.length ≤ _
    omega
  have HPt := Lib.hid (canonP_is P T)
  obtain ⟨P0, hP0⟩ : ∃ l, (if r = 0 then canonP P T else []) = l := ⟨_, rfl⟩
  obtain ⟨T0, hT0⟩ : ∃ l, (if r = 0 then (walkF T).N else []) = l := ⟨_, rfl⟩
  obtain ⟨S0, hS0⟩ : ∃ S, (if r = 0 then walkF T else ⟨[], [], [], [], []⟩ : WS) = S := ⟨_, rfl⟩
  rw [hP0, hT0]
  rw [hS0] at HWk
  obtain ⟨kz, ks⟩ := zero_of_info wInfo
  have hmz := zeroMesh
  obtain ⟨mz, ms⟩ := zero_of_info meshInfo
  obtain ⟨pz, ps⟩ := zero_of_info p3Info
  clear hp ht hr
  have m0 := HK0.out.b0.cell 0
  have m1 := HK0.out.b0.cell 1
  go_enter Tryd.func17, Tryd.ntmps17
  go_wp2_with fail
  refine (HWk.out _ HK0.out.bel).mono ?_
  rintro e w1 ⟨a, b, c', d', f, rfl, hr1, hb1⟩
  have HK1 := Lib.hid (HK0.out.next hb1)
  have HR1 := Lib.hid hr1
  clear hb1 HK0 m0 m1 HWk
  obtain ⟨Aa, va, rfl, _⟩ := hr1.rV.has
  obtain ⟨Bb, vb, rfl, _⟩ := hr1.rO.has
  obtain ⟨Cc, vc, rfl, _⟩ := hr1.rN.has
  obtain ⟨Dd, vd, rfl, _⟩ := hr1.rG.has
  obtain ⟨Ee, ve, rfl, _⟩ := hr1.rS.has
  clear hr1
  by_cases h0 : r = 0
  · subst h0
    rw [if_pos rfl] at hP0 hT0 hS0
    subst hP0 hT0 hS0
    have HVr := Lib.hid (HVi.out rfl)
    have hVn := HVn.out rfl
    have HT1 : Hid (∀ W, Below w1.heap.size w1 W → HasK 3 W Cc (walkF T).N.length vc (p3Cells (walkF T).N)) := fun W hW => by
      obtain ⟨A', c', e, h⟩ := OwnK.has (OwnK.keep HR1.out.rN hW)
      cases e
      exact h
    have HV1 : Hid (∀ W, Below w1.heap.size w1 W → Has W Aa (walkF T).V.length va (intVs (walkF T).V)) := fun W hW => own_plain (OwnK.keep HR1.out.rV hW)
    have HC1 : Hid (CanAt w1 #[.slice Aa (walkF T).V.length va, .slice Bb (walkF T).O.length vb, .slice Cc (walkF T).N.length vc, .slice Dd (walkF T).G.length vd, .slice Ee (walkF T).S.length ve] 37 none 0 (.slice Cc (walkF T).N.length vc) [] 0 ((w1.alloc (.cells #[.slice Aa (walkF T).V.length va, .slice Bb (walkF T).O.length vb, .slice Cc (walkF T).N.length vc, .slice Dd (walkF T).G.length vd, .slice Ee (walkF T).S.length ve] 37)).alloc (.cells #[.slice none 0 0, .slice Cc (walkF T).N.length vc] 25))) :=
      ⟨(Blk.new _ _ _).alloc _, blk_second, OwnK.nil _ _ _ _, new_alloc (new_alloc (Below.refl _ _) _) _⟩
    have HNo : Hid (∀ W, Below w1.heap.size w1 W → OwnK 3 W 0 50 (.slice Cc (walkF T).N.length vc) (walkF T).N.length (p3Cells (walkF T).N)) := fun W hW => OwnK.keep HR1.out.rN hW
    have HNn : Hid ((Value.slice Cc (walkF T).N.length vc).ownBlock ≠ some (w.heap.size + 1)) := fun e => by
      have h : _ ≤ w.heap.size + 1 := HR1.out.fN _ e
      simp at h
      omega
    have HW1 : Hid (w.heap.size + 2 ≤ w1.heap.size) := HK1.out.b1.lt
    clear HVi HVn HR1
    generalize (walkF T).N = NN at *
    generalize (walkF T).V = VV at *
    go_wp2
    generalize (w1.alloc (.cells #[.slice Aa VV.length va, .slice Bb (walkF T).O.length vb, .slice Cc NN.length vc, .slice Dd (walkF T).G.length vd, .slice Ee (walkF T).S.length ve] 37)).alloc (.cells #[.slice none 0 0, .slice Cc NN.length vc] 25) = W2 at *
    generalize hK : VV.length = K at *
    go_loopg [7] K (fun g s7 wx => ∃ (i : Nat) (A6 : Option Addr) (c6 : Nat), i + g = K ∧ s7 = .int .i64 (i : Int) ∧ Hid (CanAt w1 #[.slice Aa K va, .slice Bb (walkF T).O.length vb, .slice Cc NN.length vc, .slice Dd (walkF T).G.length vd, .slice Ee (walkF T).S.length ve] 37 A6 c6 (.slice Cc NN.length vc) ((VV.take i).map (ptF P)) i wx))
    case atStart => exact ⟨0, none, 0, by omega, rfl, HC1⟩
    case round =>
      clear HC1
      obtain ⟨i, A6, c6, hig, rfl, HC⟩ := hrel
      have HKx := Lib.hid (HK1.out.next HC.out.bw)
      have m0 := HC.out.wb.cell 0
      have k0 := HC.out.ob.cell 0
      have k1 := HC.out.ob.cell 1
      by_cases hi : i < K
      · have ti : decide ((i : Int) < (K : Int)) = true := by simp; omega
        have i2 : (i : Int) < (K : Int) := by omega
        have hil : i < VV.length := by rw [hK]; exact hi
        obtain ⟨bV, oV, rfl, _, hcV⟩ := (HV1.out _ HC.out.bw).spot (by omega)
        have v0 := hcV _ _ (intVs_at hil)
        obtain ⟨hx0, hx1⟩ := HVr.out VV[i] (List.getElem_mem hil)
        have HTk : Hid ((VV.take (i + 1)).map (ptF P) = (VV.take i).map (ptF P) ++ [ptF P VV[i]]) := by
          show _ = _
          rw [List.take_succ_eq_append_getElem hil, List.map_append]
          rfl
        clear hcV
        generalize VV[i] = x at *
        obtain ⟨j, rfl⟩ := Int.eq_ofNat_of_zero_le hx0
        have hj : j < P.length := by rw [HL.out]; omega
        have hpt : ptF P (j : Int) = P[j] := by unfold ptF; rw [Int.toNat_natCast, List.getElem?_eq_getElem hj]; rfl
        rw [hpt] at HTk
        obtain ⟨bP, oP, rfl, _, _⟩ := (HP.out _ HKx.out.bel).spot (by omega)
        obtain ⟨c0, c1, c2⟩ := p3_at (HP.out _ HKx.out.bel) hj
        have j2 : (j : Int) < (n : Int) := hx1
        clear hpt hil hx0 hx1
        generalize P[j] = p at *
        clear hj
        obtain ⟨x, y, z⟩ := p
        simp only at c0 c1 c2
        have m2 := HKx.out.b0.cell 0
        have HCa := Lib.hid (HC.out.next (new_alloc (Below.refl _ wr) (.cells #[.int .i64 x, .int .i64 y, .int .i64 z] 49)).drew)
        have HNa : Hid (HasK 3 (wr.alloc (.cells #[.int .i64 x, .int .i64 y, .int .i64 z] 49)).drew (some ⟨wr.heap.size, 0, none⟩) 1 1 (p3Cells [(x, y, z)])) := (HasK.new_at 3 wr #[.int .i64 x, .int .i64 y, .int .i64 z] 49 _ 1 rfl rfl).kept (Below.refl _ _).drew
        have ka : (wr.alloc (.cells #[.int .i64 x, .int .i64 y, .int .i64 z] 49)).cell? ⟨w1.heap.size + 1, 0, none⟩ = some (.slice A6 i c6) := HCa.out.ob.cell 0
        have hzb : w1.heap.size + 2 ≤ (wr.alloc (.cells #[.int .i64 x, .int .i64 y, .int .i64 z] 49)).drew.heap.size := HCa.out.lt
        go_wp2
        go_region_law (first
          | (refine step_joinGK rfl _ _ 22 rfl elemP3 (by decide) (w1.heap.size + 2) _ i _ rfl HCa.out.own _ 1 1 (p3Cells [(x, y, z)]) rfl HNa.out (p3Cells_one _) (by omega) (by decide) hzb ?_
             rintro v7 w7 ho hg hw
             obtain ⟨A7, c7, rfl, _⟩ := OwnK.has ho
             obtain ⟨hX, hB⟩ := HCa.out.put ho hg
             have HX7 := Lib.hid hX
             have f7 := hB.frozen 0
             have k7 := hB.cell 0
             clear hX hB ho hg hw)
          | fail)
        all_goals
          rw [← HTk.out] at HX7
          go_wp2
          go_roundg (gk - 1)
          case measure => omega
          case rel => exact ⟨i + 1, A7, c7, by omega, by go_num, HX7⟩
      · have ti : decide ((i : Int) < (K : Int)) = false := by simp; omega
        have hiK : i = K := by omega
        subst hiK
        have hTk : VV.take i = VV := List.take_of_length_le (by omega)
        rw [hTk, ← HPt.out] at HC
        have HEnd := Lib.hid (mesh_out HKx.out.b1 HKx.out.bel (Nat.le_succ _) 0 HC.out.own (HNo.out _ HC.out.bw) (fun e => by have h := (World.ownsRow.lt HC.out.own _ e).1; have := HW1.out; omega) HNn.out)
        have z0 := HKx.out.b1.cell 0
        have z1 := HKx.out.b1.cell 1
        have q0 := HKx.out.b1.frozen 0
        have q1 := HKx.out.b1.frozen 1
        go_wp2
        try rw [Exit.noGoto_ret]
        exact bodyPost_ret (results_pairM Tryd.results17 rfl rfl (mesh_load _ _ _ _ HEnd.out.1)) rfl HEnd.out.2
  · have hq : (r != 0) = true := bne_iff_ne.2 h0
    rw [if_neg h0] at hP0 hT0
    subst hP0 hT0
    have HK2 := Lib.hid (HK1.out.next (new_alloc (Below.refl _ w1) (.cells #[.slice Aa S0.V.length va, .slice Bb S0.O.length vb, .slice Cc S0.N.length vc, .slice Dd S0.G.length vd, .slice Ee S0.S.length ve] 37)))
    have HEnd := Lib.hid (mesh_out HK2.out.b1 HK2.out.bel (Nat.le_succ _) r (P := []) (T := []) (OwnK.nil 3 _ 0 0) (OwnK.nil 3 _ 0 0) (fun e => by cases e) (fun e => by cases e))
    have z0 := HK2.out.b1.cell 0
    have z1 := HK2.out.b1.cell 1
    have q0 := HK2.out.b1.frozen 0
    have q1 := HK2.out.b1.frozen 1
    go_wp2
    try rw [Exit.noGoto_ret]
    exact bodyPost_ret (results_pairM Tryd.results17 rfl rfl (mesh_load _ _ _ _ HEnd.out.1)) rfl HEnd.out.2
end Go.Proofs.YtjahphfjobnkaaaDoor
