/- lapidaryref11: Walk. -/
import Derived.Test.YtjahphfjobnkaaaDoorWalkRefE
import Derived.Test.YtjahphfjobnkaaaDoorWalkFine
import Derived.Test.YtjahphfjobnkaaaDoorMeshCodeO
namespace Go.Proofs.YtjahphfjobnkaaaDoor
open Go.RowKit

/-- A walk, and an error, in new memory. -/
def Walkd (w : World) (s : WS) (r : Int) (e : Ending) (w' : World) : Prop := ∃ a b c d f, e = .returned (.tuple #[.agg #[a, b, c, d, f], .int .i64 r]) ∧ WRows w' (fun k => w.heap.size ≤ k) 79 a b c d f s ∧ Below w.heap.size w w'
/-- Where Walk's rows may lie. -/
def farW (w : World) : Nat → Prop := fun k => w.heap.size + 3 ≤ k
/-- A mesh, the result's cell, and a walk, in blocks of the call's own. -/
structure VAt (w : World) (F : Nat → Prop) (x y : Value) (a b c d f : Value) (s : WS) (wx : World) : Prop where
  me : Blk wx w.heap.size 25 #[x, y]
  re : Blk wx (w.heap.size + 1) 37 #[.slice none 0 0, .slice none 0 0, .slice none 0 0, .slice none 0 0, .slice none 0 0]
  bx : Blk wx (w.heap.size + 1 + 1) 37 #[a, b, c, d, f]
  rows : WRows wx F 79 a b c d f s
  bel : Below w.heap.size w wx
  hF : ∀ k, F k → w.heap.size + 3 ≤ k
section
variable {w : World} {F : Nat → Prop} {x y a b c d f : Value} {s : WS} {wx w' : World}
theorem VAt.next (h : VAt w F x y a b c d f s wx) (hb : Below wx.heap.size wx w') : VAt w F x y a b c d f s w' := ⟨h.me.below hb h.me.lt, h.re.below hb h.re.lt, h.bx.below hb h.bx.lt, h.rows.kept hb, new_call h.bel hb, h.hF⟩
theorem VAt.wide {F' : Nat → Prop} (h : VAt w F x y a b c d f s wx) (hf : ∀ k, k < wx.heap.size → F k → F' k) (hF' : ∀ k, F' k → w.heap.size + 3 ≤ k) : VAt w F' x y a b c d f s wx := ⟨h.me, h.re, h.bx, h.rows.among hf, h.bel, hF'⟩
theorem VAt.lt (h : VAt w F x y a b c d f s wx) : w.heap.size + 3 ≤ wx.heap.size := h.bx.lt
theorem VAt.chgd (h : VAt w F x y a b c d f s wx) (hc : Chg F wx w') : Blk w' w.heap.size 25 #[x, y] ∧ Blk w' (w.heap.size + 1) 37 #[.slice none 0 0, .slice none 0 0, .slice none 0 0, .slice none 0 0, .slice none 0 0] ∧ Blk w' (w.heap.size + 1 + 1) 37 #[a, b, c, d, f] ∧ Below w.heap.size w w' :=
  ⟨h.me.chg hc (fun e => by have := h.hF _ e; omega), h.re.chg hc (fun e => by have := h.hF _ e; omega), h.bx.chg hc (fun e => by have := h.hF _ e; omega), h.bel.trans (hc.below (fun k e => by have := h.hF k e; omega) h.bel.size)⟩
/-- A struct stored into the box. -/
theorem VAt.set {a' b' c' d' f' : Value} {s' : WS} {w0 : World} (h : VAt w F x y a b c d f s wx) (hr : WRows w' F 79 a' b' c' d' f' s') (hc : Chg F wx w')
    (he : w0 = ((((w'.setCell ⟨w.heap.size + 1 + 1, 0, none⟩ a').setCell ⟨w.heap.size + 1 + 1, 1, none⟩ b').setCell ⟨w.heap.size + 1 + 1, 2, none⟩ c').setCell ⟨w.heap.size + 1 + 1, 3, none⟩ d').setCell ⟨w.heap.size + 1 + 1, 4, none⟩ f') : VAt w F x y a' b' c' d' f' s' w0 ∧ Blk w' (w.heap.size + 1 + 1) 37 #[a, b, c, d, f] := by
  obtain ⟨h1, h2, h3, h4⟩ := h.chgd hc
  have n1 : w.heap.size ≠ w.heap.size + 1 + 1 := by omega
  have n2 : w.heap.size + 1 ≠ w.heap.size + 1 + 1 := by omega
  have hs : ∀ (V : World) (i : Nat) (u : Value), WRows V F 79 a' b' c' d' f' s' ∧ Below w.heap.size w V → WRows (V.setCell ⟨w.heap.size + 1 + 1, i, none⟩ u) F 79 a' b' c' d' f' s' ∧ Below w.heap.size w (V.setCell ⟨w.heap.size + 1 + 1, i, none⟩ u) := fun V i u h5 =>
    ⟨h5.1.away (grown_set V _ u) (fun k e => by cases e; exact fun e => by have := h.hF _ e; simp only at this; omega), h5.2.setCell (p := ⟨w.heap.size + 1 + 1, i, none⟩) (by show w.heap.size ≤ w.heap.size + 1 + 1; omega) u⟩
  have h5 := hs _ 4 f' (hs _ 3 d' (hs _ 2 c' (hs _ 1 b' (hs _ 0 a' ⟨hr, h4⟩))))
  subst he
  exact ⟨⟨((((h1.far n1 _).far n1 _).far n1 _).far n1 _).far n1 _, ((((h2.far n2 _).far n2 _).far n2 _).far n2 _).far n2 _, ((((h3.set_ 0 a').set_ 1 b').set_ 2 c').set_ 3 d').set_ 4 f', h5.1, h5.2, h.hF⟩, h3⟩
theorem VAt.putS (h : VAt w F x y a b c d f s wx) (hnew : ∀ k, wx.heap.size ≤ k → F k) {f' : Value} {l : List (Int × Int)} (ho : OwnK 2 w' 0 62 f' l.length (e2Cells l)) (hg : wx.grownBy w' f.ownBlock) (hw : ∀ q, f'.ownBlock = some q → f.ownBlock = some q ∨ wx.heap.size ≤ q) : VAt w F x y a b c d f' { s with S := l } (w'.setCell ⟨w.heap.size + 1 + 1, 4, none⟩ f') ∧ Blk w' (w.heap.size + 1 + 1) 37 #[a, b, c, d, f] := by
  have hc := h.rows.chgS hg
  obtain ⟨h1, h2, h3, h4⟩ := h.chgd hc
  have hr := h.rows.putS ho hg hw hnew
  exact ⟨⟨h1.far (by show w.heap.size ≠ w.heap.size + 1 + 1; omega) _, h2.far (by show w.heap.size + 1 ≠ w.heap.size + 1 + 1; omega) _, h3.set_ 4 f', hr.away (grown_set w' _ _) (fun k e => by cases e; exact fun e => by have := h.hF _ e; simp only at this; omega), h4.setCell (p := ⟨w.heap.size + 1 + 1, 4, none⟩) (by show w.heap.size ≤ w.heap.size + 1 + 1; omega) _, h.hF⟩, h3⟩
/-- The end: the walk is handed back through the result's cell. -/
theorem VAt.fin (h : VAt w F x y a b c d f s wx) (r : Int) : Blk (((((wx.setCell ⟨w.heap.size + 1, 0, none⟩ a).setCell ⟨w.heap.size + 1, 1, none⟩ b).setCell ⟨w.heap.size + 1, 2, none⟩ c).setCell ⟨w.heap.size + 1, 3, none⟩ d).setCell ⟨w.heap.size + 1, 4, none⟩ f) (w.heap.size + 1) 37 #[a, b, c, d, f] ∧ Walkd w s r (.returned (.tuple #[.agg #[a, b, c, d, f], .int .i64 r])) (((((wx.setCell ⟨w.heap.size + 1, 0, none⟩ a).setCell ⟨w.heap.size + 1, 1, none⟩ b).setCell ⟨w.heap.size + 1, 2, none⟩ c).setCell ⟨w.heap.size + 1, 3, none⟩ d).setCell ⟨w.heap.size + 1, 4, none⟩ f) := by
  have hs : ∀ (V : World) (i : Nat) (u : Value), WRows V F 79 a b c d f s ∧ Below w.heap.size w V → WRows (V.setCell ⟨w.heap.size + 1, i, none⟩ u) F 79 a b c d f s ∧ Below w.heap.size w (V.setCell ⟨w.heap.size + 1, i, none⟩ u) := fun V i u h5 =>
    ⟨h5.1.away (grown_set V _ u) (fun k e => by cases e; exact fun e => by have := h.hF _ e; simp only at this; omega), h5.2.setCell (p := ⟨w.heap.size + 1, i, none⟩) (by show w.heap.size ≤ w.heap.size + 1; omega) u⟩
  have h5 := hs _ 4 f (hs _ 3 d (hs _ 2 c (hs _ 1 b (hs _ 0 a ⟨h.rows, h.bel⟩))))
  exact ⟨((((h.re.set_ 0 a).set_ 1 b).set_ 2 c).set_ 3 d).set_ 4 f, a, b, c, d, f, rfl, h5.1.among (fun k _ e => by have := h.hF k e; omega), h5.2⟩
end
theorem vat_new (w : World) (x y : Value) : VAt w (farW w) x y (.slice none 0 0) (.slice none 0 0) (.slice none 0 0) (.slice none 0 0) (.slice none 0 0) ⟨[], [], [], [], []⟩ (((w.alloc (.cells #[x, y] 25)).alloc (.cells #[.slice none 0 0, .slice none 0 0, .slice none 0 0, .slice none 0 0, .slice none 0 0] 37)).alloc (.cells #[.slice none 0 0, .slice none 0 0, .slice none 0 0, .slice none 0 0, .slice none 0 0] 37)) := by
  refine ⟨((Blk.new w _ _).alloc _).alloc _, blk_second.alloc _, ?_, WRows.nil _ _ _, new_alloc (new_alloc (new_alloc (Below.refl _ _) _) _) _, fun k h => h⟩
  have h2 := Blk.new ((w.alloc (.cells #[x, y] 25)).alloc (.cells #[.slice none 0 0, .slice none 0 0, .slice none 0 0, .slice none 0 0, .slice none 0 0] 37)) 37 #[.slice none 0 0, .slice none 0 0, .slice none 0 0, .slice none 0 0, .slice none 0 0]
  have e : ((w.alloc (.cells #[x, y] 25)).alloc (.cells #[.slice none 0 0, .slice none 0 0, .slice none 0 0, .slice none 0 0, .slice none 0 0] 37)).heap.size = w.heap.size + 1 + 1 := by simp
  rw [e] at h2
  exact h2
theorem cutF_self (F : Nat → Prop) (g : Nat) : ¬ cutF F g 1 g := fun e => e.2 ⟨Nat.le_refl _, Nat.lt_succ_self _⟩
theorem set5_far {W : World} {g q : Nat} {t : TypeId} {cs : Array Value} {a b c d f : Value} (h : Blk W g t cs) (hn : g ≠ q) : Blk (((((W.setCell ⟨q, 0, none⟩ a).setCell ⟨q, 1, none⟩ b).setCell ⟨q, 2, none⟩ c).setCell ⟨q, 3, none⟩ d).setCell ⟨q, 4, none⟩ f) g t cs := ((((h.far hn _).far hn _).far hn _).far hn _).far hn _
set_option maxRecDepth 100000 in
set_option maxHeartbeats 8000000 in
theorem ref11Walk_any (A : Option Addr) (n c : Nat) (P : List P3) (B : Option Addr) (m d : Nat) (T : List P3) (r : Int) (w : World) (hp : HasK 3 w A n c (p3Cells P)) (ht : HasK 3 w B m d (p3Cells T)) (hn : n ≤ 100000) (hm : m ≤ 100000) (hr : CheckIs P T r) :
    Calls Tryd.prog 13 #[.agg #[.slice A n c, .slice B m d]] w (Walkd w (if r = 0 then walkF T else ⟨[], [], [], [], []⟩) r) := by
  have HM : Hid (T.length = m) := by have := ht.len; rw [p3Cells_len] at this; show _ = _; omega
  have HX0 := Lib.hid (vat_new w (.slice A n c) (.slice B m d))
  have HCk := Lib.hid (fun W (hW : Below w.heap.size w W) => ref10Check_any A n c P B m d T r W (hp.kept hW) (ht.kept hW) hn hm hr)
  have HT := Lib.hid (fun W (hW : Below w.heap.size w W) => ht.kept hW)
  have HRr : Hid (r = 0 → (darts T).Nodup ∧ True) := fun h => ⟨(by subst h; exact (check_zero hr).2.2.1), trivial⟩
  obtain ⟨kz, ks⟩ := zero_of_info wInfo
  obtain ⟨sz, ss⟩ := zero_of_info stepInfo
  obtain ⟨S0, hS0⟩ : ∃ S, (if r = 0 then walkF T else ⟨[], [], [], [], []⟩ : WS) = S := ⟨_, rfl⟩
  rw [hS0]
  clear hp ht hr
  have m0 := HX0.out.me.cell 0
  have m1 := HX0.out.me.cell 1
  go_enter Tryd.func13, Tryd.ntmps13
  go_wp2_with fail
  refine (HCk.out _ HX0.out.bel).mono ?_
  rintro e w1 ⟨rfl, hb1⟩
  have HX1 := Lib.hid (HX0.out.next hb1)
  clear hb1 HX0 HCk m0 m1
  have m0 := HX1.out.bx.cell 0
  have m1 := HX1.out.bx.cell 1
  have m2 := HX1.out.bx.cell 2
  have m3 := HX1.out.bx.cell 3
  have m4 := HX1.out.bx.cell 4
  have z0 := HX1.out.re.cell 0
  have z1 := HX1.out.re.cell 1
  have z2 := HX1.out.re.cell 2
  have z3 := HX1.out.re.cell 3
  have z4 := HX1.out.re.cell 4
  have q0 := HX1.out.re.frozen 0
  have q1 := HX1.out.re.frozen 1
  have q2 := HX1.out.re.frozen 2
  have q3 := HX1.out.re.frozen 3
  have q4 := HX1.out.re.frozen 4
  by_cases h0 : r = 0
  · subst h0
    rw [if_pos rfl] at hS0
    have HSf := Lib.hid hS0
    clear z0 z1 z2 z3 z4 q0 q1 q2 q3 q4 m0 m1 m2 m3 m4 hS0
    have HS0 : Hid (VAt w (farW w) (.slice A n c) (.slice B m d) (.slice none 0 0) (.slice none 0 0) (.slice none 0 0) (.slice none 0 0) (.slice none 0 0) (walkTo T 0) w1) := HX1.out
    clear HX1
    go_wp2
    go_loopg [6] m (fun g s6 wx => ∃ (i : Nat) (a b c' d' f : Value), i + g = m ∧ s6 = .int .i64 (i : Int) ∧ Hid (VAt w (farW w) (.slice A n c) (.slice B m d) a b c' d' f (walkTo T i) wx))
    case atStart => exact ⟨0, _, _, _, _, _, by omega, rfl, HS0⟩
    case round =>
      clear HS0
      obtain ⟨i, a, b, c', d', f, hig, rfl, HX⟩ := hrel
      have HXr := HX.out.rows
      obtain ⟨Aa, vac, rfl, _⟩ := HXr.rV.has
      obtain ⟨Bb, obc, rfl, _⟩ := HXr.rO.has
      obtain ⟨Cc, ncc, rfl, _⟩ := HXr.rN.has
      obtain ⟨Dd, gdc, rfl, _⟩ := HXr.rG.has
      obtain ⟨Ee, sec, rfl, _⟩ := HXr.rS.has
      clear HXr
      have m0 := HX.out.bx.cell 0
      have m1 := HX.out.bx.cell 1
      have m2 := HX.out.bx.cell 2
      have m3 := HX.out.bx.cell 3
      have m4 := HX.out.bx.cell 4
      have m5 := HX.out.me.cell 0
      have m6 := HX.out.me.cell 1
      by_cases hi : i < m
      · have ti : decide ((i : Int) < (m : Int)) = true := by simp; omega
        have i2 : (i : Int) < (m : Int) := by omega
        have hil : i < T.length := by rw [HM.out]; exact hi
        have HFn := Lib.hid (walk_fine T i (by omega))
        have HSm := Lib.hid (HFn.out.small (by omega) (by rw [HM.out]; exact hm))
        have HGn := Lib.hid (walk_ok T i (by omega)).2.1
        have HF1 := Lib.hid (fun W (hW : Has W Bb (walkTo T i).O.length obc (natVs (walkTo T i).O)) => ref11find_any Bb (walkTo T i).O.length obc ((walkTo T i).O.map fun (k : Nat) => (k : Int)) (i : Int) W hW (by have := HSm.out.O; omega))
        have HO1 := Lib.hid (own_plain HX.out.rows.rO)
        rcases find_nat (walkTo T i).O i with ⟨hmem, k, hk⟩ | ⟨hmem, hk⟩
        · have HW := Lib.hid (walkTo_skip hmem)
          rw [hk] at HF1
          have t2 : decide ((0 : Int) ≤ (k : Int)) = true := decide_eq_true (by omega)
          clear hk hmem hil
          go_wp2_with fail
          refine (HF1.out _ HO1.out).mono ?_
          rintro e w2 ⟨rfl, rfl⟩
          go_wp2
          go_roundg (gk - 1)
          case measure => omega
          case rel => exact ⟨i + 1, _, _, _, _, _, by omega, by go_num, by rw [HW.out]; exact HX⟩
        · have HW := Lib.hid (walkTo_take hmem)
          have HFs := Lib.hid (HFn.out.seed hil hmem HGn.out)
          have HLf := Lib.hid (seed_ok HFn.out.ok hil hmem HGn.out).2.1
          have HSd := Lib.hid (seed_take T (walkTo T i) i)
          have hTi : T[i]?.getD (0, 0, 0) = T[i] := by rw [List.getElem?_eq_getElem hil]; rfl
          rw [hTi] at HSd
          rw [hk] at HF1
          obtain ⟨bT, oT, rfl, _, _⟩ := (HT.out _ HX.out.bel).spot (by omega)
          have HTc := Lib.hid (fun W (hW : Below w.heap.size w W) => p3_at (HT.out W hW) hil)
          clear hk hmem hTi
          generalize T[i] = t at *
          clear hil
          obtain ⟨x, y, z⟩ := t
          simp only at HTc HSd
          have HX1 := Lib.hid (HX.out.next (new_alloc (Below.refl _ wr) (.cells #[.int .i64 0, .int .i64 0] 62)))
          have HX2 := Lib.hid (HX1.out.next (new_alloc (Below.refl _ _) (.cells #[.int .i64 0, .int .i64 0] 62)))
          have HN2 : Hid (HasK 2 ((wr.alloc (.cells #[.int .i64 0, .int .i64 0] 62)).alloc (.cells #[.int .i64 0, .int .i64 0] 62)) (some ⟨wr.heap.size + 1, 0, none⟩) 1 1 (e2Cells [(0, 0)])) := HasK.new_at 2 _ #[.int .i64 0, .int .i64 0] 62 _ 1 (by simp) rfl
          have p4 := HX1.out.bx.cell 4
          have hsz := HSm.out.S
          go_wp2_with fail
          refine (HF1.out _ HO1.out).mono ?_
          rintro e w2 ⟨rfl, rfl⟩
          go_wp2_with (at_builtin
                       (refine wpList_joinGK rfl _ _ 28 rfl elemSt (by decide) 0 _ (walkTo T i).S.length (e2Cells (walkTo T i).S) rfl HX2.out.rows.rS _ 1 1 (e2Cells [(0, 0)]) rfl HN2.out (e2Cells_one _) (by omega) (by decide) (Nat.zero_le _) ?_)
                       rintro v5 w5 ho hg hw
                       obtain ⟨A5, c5, rfl, _⟩ := OwnK.has ho
                       obtain ⟨hX, hB⟩ := HX2.out.putS (fun k hk => Nat.le_trans HX2.out.lt hk) (l := (walkTo T i).S ++ [(0, 0)]) (by rw [List.length_append, e2Cells_app]; exact ho) hg hw
                       have HX5 := Lib.hid hX
                       have HB5 := Lib.hid hB
                       have f5 := HB5.out.frozen 4
                       have k4 := HB5.out.cell 4
                       have k5 := HX5.out.me.cell 1
                       obtain ⟨c0, c1, c2⟩ := HTc.out _ HX5.out.bel
                       clear hX hB ho hg hw)
          have hz5 : (w5.setCell ⟨w.heap.size + 1 + 1, 4, none⟩ (.slice A5 ((walkTo T i).S.length + 1) c5)).heap.size = w5.heap.size := by simp
          generalize w5.setCell ⟨w.heap.size + 1 + 1, 4, none⟩ (.slice A5 ((walkTo T i).S.length + 1) c5) = V5 at *
          have hT8 := Blk.new V5 50 #[.int .i64 x, .int .i64 y, .int .i64 z]
          have hX6 : VAt w (cutF (farW w) V5.heap.size 1) _ _ _ _ _ _ _ _ (V5.alloc (.cells #[.int .i64 x, .int .i64 y, .int .i64 z] 50)) := (HX5.out.wide (F' := cutF (farW w) V5.heap.size 1) (fun k hk hf => ⟨hf, by omega⟩) (fun k hk => hk.1)).next (new_alloc (Below.refl _ _) _)
          have hG8 : w.heap.size + 3 ≤ V5.heap.size := HX5.out.lt
          have hZ6 : (V5.alloc (.cells #[.int .i64 x, .int .i64 y, .int .i64 z] 50)).heap.size = V5.heap.size + 1 := by simp
          rw [hz5] at hT8 hX6 hG8 hZ6
          have HT8 := Lib.hid hT8
          have HX6 := Lib.hid hX6
          have HG8 := Lib.hid hG8
          have HZ6 := Lib.hid hZ6
          clear HX1 HX2 HN2 HX HO1 HF1 HX5 HB5 p4 f5 k4 k5 c0 c1 c2 m0 m1 m2 m3 m4 m5 m6 hT8 hX6 hG8 hZ6 hz5
          generalize V5.alloc (.cells #[.int .i64 x, .int .i64 y, .int .i64 z] 50) = V6 at *
          generalize w5.heap.size = G8 at *
          have HGne : Hid (G8 ≠ w.heap.size + 1 + 1) := by have := HG8.out; show _ ≠ _; omega
          have HMt := Lib.hid (fun a b c d f s v W (hz : V6.heap.size ≤ W.heap.size) (hr : WRows W (cutF (farW w) G8 1) 79 a b c d f s) (hl : s.V.length ≤ 100000000) => ref11meet_any (cutF (farW w) G8 1) a b c d f s v W (cutF.new (fun k hk => Nat.le_trans HG8.out hk) (by have := HZ6.out; omega)) hr hl)
          have HZd : Hid (V6.heap.size ≤ V6.drew.heap.size) := Nat.le_refl _
          have HRd := Lib.hid (HX6.out.next (Below.refl _ V6).drew).rows
          have hV := HSm.out.V
          have HL0 : Hid ((walkTo T i).V.length ≤ 100000000) := by show _ ≤ _; omega
          have HL1 : Hid ((meetW (walkTo T i).V x).length ≤ 100000000) := by have := meet_le (walkTo T i).V x; show _ ≤ _; omega
          have HL2 : Hid ((meetW (meetW (walkTo T i).V x) y).length ≤ 100000000) := by have := meet_le (walkTo T i).V x; have := meet_le (meetW (walkTo T i).V x) y; show _ ≤ _; omega
          have HL3 : Hid ((meetW (meetW (meetW (walkTo T i).V x) y) z).length ≤ 100000000) := by have := meet_le (walkTo T i).V x; have := meet_le (meetW (walkTo T i).V x) y; have := meet_le (meetW (meetW (walkTo T i).V x) y) z; show _ ≤ _; omega
          have s60 : V6.drew.cell? ⟨G8, 0, none⟩ = some (.int .i64 x) := HT8.out.cell 0
          have s61 : V6.drew.cell? ⟨G8, 1, none⟩ = some (.int .i64 y) := HT8.out.cell 1
          have s62 : V6.drew.cell? ⟨G8, 2, none⟩ = some (.int .i64 z) := HT8.out.cell 2
          have l0 : V6.drew.cell? ⟨w.heap.size + 1 + 1, 0, none⟩ = _ := HX6.out.bx.cell 0
          have l1 : V6.drew.cell? ⟨w.heap.size + 1 + 1, 1, none⟩ = _ := HX6.out.bx.cell 1
          have l2 : V6.drew.cell? ⟨w.heap.size + 1 + 1, 2, none⟩ = _ := HX6.out.bx.cell 2
          have l3 : V6.drew.cell? ⟨w.heap.size + 1 + 1, 3, none⟩ = _ := HX6.out.bx.cell 3
          have l4 : V6.drew.cell? ⟨w.heap.size + 1 + 1, 4, none⟩ = _ := HX6.out.bx.cell 4
          refine wp_region_held_drew (S := fun W => W.cell? ⟨G8, 0, none⟩ = some (.int .i64 x) ∧ W.cell? ⟨G8, 1, none⟩ = some (.int .i64 y) ∧ W.cell? ⟨G8, 2, none⟩ = some (.int .i64 z)) (by kernel_rfl) ⟨s60, s61, s62⟩ (fun hHeld => ?_)
          refine wpAnyH_take (i := 1) (oi := { dst := some 41, op := Go.Op.indexAddr 50 (Go.Operand.tmp 8) (Go.Operand.const (Go.Value.int Go.IntKind.i64 0)), type := 0, pos := "ref.go:93", after := #[], guard := none }) (v := ?uvr12x0) rfl (by kernel_rfl) (by kernel_rfl) (by kernel_rfl) (fun _ _ _ h => h) (Or.inl ⟨by rfl, ?uyr12x0⟩) (by assumption) ?urr12x0
          case uyr12x0 => (intro w hSw; (try dsimp only at hSw); go_simp; try with_reducible rfl)
          (try simp only [Act.put, List.setIfInBounds_toArray, List.set_cons_zero, List.set_cons_succ])
          refine wpAnyH_take (i := 2) (oi := { dst := some 42, op := Go.Op.load 3 (Go.Operand.tmp 41), type := 3, pos := "ref.go:93", after := #[{ on := 1, ground := Go.Ground.data }], guard := none }) (v := ?uvr12x1) rfl (by kernel_rfl) (by kernel_rfl) (by kernel_rfl) (fun _ _ _ h => h) (Or.inl ⟨by rfl, ?uyr12x1⟩) (by assumption) ?urr12x1
          case uyr12x1 => (intro w hSw; (try dsimp only at hSw); go_simp; try with_reducible rfl)
          (try simp only [Act.put, List.setIfInBounds_toArray, List.set_cons_zero, List.set_cons_succ])
          refine wpAnyH_take (i := 4) (oi := { dst := some 44, op := Go.Op.indexAddr 50 (Go.Operand.tmp 8) (Go.Operand.const (Go.Value.int Go.IntKind.i64 1)), type := 0, pos := "ref.go:93", after := #[], guard := none }) (v := ?uvr12x2) rfl (by kernel_rfl) (by kernel_rfl) (by kernel_rfl) (fun _ _ _ h => h) (Or.inl ⟨by rfl, ?uyr12x2⟩) (by assumption) ?urr12x2
          case uyr12x2 => (intro w hSw; (try dsimp only at hSw); go_simp; try with_reducible rfl)
          (try simp only [Act.put, List.setIfInBounds_toArray, List.set_cons_zero, List.set_cons_succ])
          refine wpAnyH_take (i := 5) (oi := { dst := some 45, op := Go.Op.load 3 (Go.Operand.tmp 44), type := 3, pos := "ref.go:93", after := #[{ on := 4, ground := Go.Ground.data }], guard := none }) (v := ?uvr12x3) rfl (by kernel_rfl) (by kernel_rfl) (by kernel_rfl) (fun _ _ _ h => h) (Or.inl ⟨by rfl, ?uyr12x3⟩) (by assumption) ?urr12x3
          case uyr12x3 => (intro w hSw; (try dsimp only at hSw); go_simp; try with_reducible rfl)
          (try simp only [Act.put, List.setIfInBounds_toArray, List.set_cons_zero, List.set_cons_succ])
          refine wpAnyH_take (i := 7) (oi := { dst := some 47, op := Go.Op.indexAddr 50 (Go.Operand.tmp 8) (Go.Operand.const (Go.Value.int Go.IntKind.i64 2)), type := 0, pos := "ref.go:93", after := #[], guard := none }) (v := ?uvr12x4) rfl (by kernel_rfl) (by kernel_rfl) (by kernel_rfl) (fun _ _ _ h => h) (Or.inl ⟨by rfl, ?uyr12x4⟩) (by assumption) ?urr12x4
          case uyr12x4 => (intro w hSw; (try dsimp only at hSw); go_simp; try with_reducible rfl)
          (try simp only [Act.put, List.setIfInBounds_toArray, List.set_cons_zero, List.set_cons_succ])
          refine wpAnyH_take (i := 8) (oi := { dst := some 48, op := Go.Op.load 3 (Go.Operand.tmp 47), type := 3, pos := "ref.go:93", after := #[{ on := 7, ground := Go.Ground.data }], guard := none }) (v := ?uvr12x5) rfl (by kernel_rfl) (by kernel_rfl) (by kernel_rfl) (fun _ _ _ h => h) (Or.inl ⟨by rfl, ?uyr12x5⟩) (by assumption) ?urr12x5
          case uyr12x5 => (intro w hSw; (try dsimp only at hSw); go_simp; try with_reducible rfl)
          (try simp only [Act.put, List.setIfInBounds_toArray, List.set_cons_zero, List.set_cons_succ])
          refine wpAnyH_ready (rs := [0]) (by kernel_rfl) (by simp) ?_
          refine AllReadyH.cons (o := { dst := some 40, op := Go.Op.load 37 (Go.Operand.tmp 4), type := 37, pos := "ref.go:93", after := #[], guard := none }) rfl (fun K hK => ?_) AllReadyH.nil
          go_simp
          refine hK.out _ _ ?_ (fun hHeld => ?_)
          · exact ⟨s60, s61, s62⟩
          clear hK K
          (try simp only [Act.put, List.setIfInBounds_toArray, List.set_cons_zero, List.set_cons_succ])
          refine wpAnyH_ready (rs := [3]) (by kernel_rfl) (by simp) ?_
          refine AllReadyH.cons (o := { dst := some 43, op := Go.Op.call { callee := Go.Callee.value (Go.Operand.func 28), args := #[Go.Operand.tmp 40, Go.Operand.tmp 42], argTypes := #[37, 3] }, type := 37, pos := "ref.go:93", after := #[{ on := 0, ground := Go.Ground.data }, { on := 2, ground := Go.Ground.data }], guard := none }) rfl (fun K hK => ?_) AllReadyH.nil
          go_simp
          (go_at_call 28; (with_reducible refine (HMt.out _ _ _ _ _ _ x _ HZd.out HRd.out HL0.out).mono ?_); rintro e w7 ⟨a7, b7, c7, d7, f7, rfl, hr7, hc7⟩; have HR7 := Lib.hid hr7; have HC7 : Hid (Chg (cutF (farW w) G8 1) V6 w7) := (Chg.of_below (Below.refl _ V6).drew).then_ hc7 (fun _ _ e => e); have HT7 := Lib.hid (HT8.out.chg HC7.out (cutF_self _ _)); have HZ7 : Hid (V6.heap.size ≤ w7.heap.size) := HC7.out.size; have s70 := HT7.out.cell 0; have s71 := HT7.out.cell 1; have s72 := HT7.out.cell 2; clear hr7 hc7)
          refine hK.out _ _ ?_ (fun hHeld => ?_)
          · exact ⟨s70, s71, s72⟩
          clear hK K
          (try simp only [Act.put, List.setIfInBounds_toArray, List.set_cons_zero, List.set_cons_succ])
          refine wpAnyH_ready (rs := [6]) (by kernel_rfl) (by simp) ?_
          refine AllReadyH.cons (o := { dst := some 46, op := Go.Op.call { callee := Go.Callee.value (Go.Operand.func 28), args := #[Go.Operand.tmp 43, Go.Operand.tmp 45], argTypes := #[37, 3] }, type := 37, pos := "ref.go:93", after := #[{ on := 3, ground := Go.Ground.data }, { on := 5, ground := Go.Ground.data }, { on := 3, ground := Go.Ground.chain }], guard := none }) rfl (fun K hK => ?_) AllReadyH.nil
          go_simp
          (go_at_call 28; (with_reducible refine (HMt.out _ _ _ _ _ _ y _ HZ7.out HR7.out HL1.out).mono ?_); rintro e w8 ⟨a8, b8, c8, d8, f8, rfl, hr8, hc8⟩; have HR8 := Lib.hid hr8; have HC8 : Hid (Chg (cutF (farW w) G8 1) V6 w8) := HC7.out.then_ hc8 (fun _ _ e => e); have HT9 := Lib.hid (HT8.out.chg HC8.out (cutF_self _ _)); have HZ8 : Hid (V6.heap.size ≤ w8.heap.size) := HC8.out.size; have s80 := HT9.out.cell 0; have s81 := HT9.out.cell 1; have s82 := HT9.out.cell 2; clear hr8 hc8)
          refine hK.out _ _ ?_ (fun hHeld => ?_)
          · exact ⟨s80, s81, s82⟩
          clear hK K
          (try simp only [Act.put, List.setIfInBounds_toArray, List.set_cons_zero, List.set_cons_succ])
          refine wpAnyH_ready (rs := [9]) (by kernel_rfl) (by simp) ?_
          refine AllReadyH.cons (o := { dst := some 49, op := Go.Op.call { callee := Go.Callee.value (Go.Operand.func 28), args := #[Go.Operand.tmp 46, Go.Operand.tmp 48], argTypes := #[37, 3] }, type := 37, pos := "ref.go:93", after := #[{ on := 6, ground := Go.Ground.data }, { on := 8, ground := Go.Ground.data }, { on := 6, ground := Go.Ground.chain }], guard := none }) rfl (fun K hK => ?_) AllReadyH.nil
          go_simp
          (go_at_call 28; (with_reducible refine (HMt.out _ _ _ _ _ _ z _ HZ8.out HR8.out HL2.out).mono ?_); rintro e w9 ⟨a9, b9, c9, d9, f9, rfl, hr9, hc9⟩; have HR9 := Lib.hid hr9; have HC9 : Hid (Chg (cutF (farW w) G8 1) V6 w9) := HC8.out.then_ hc9 (fun _ _ e => e); have HTA := Lib.hid (HT8.out.chg HC9.out (cutF_self _ _)); have s90 := HTA.out.cell 0; have s91 := HTA.out.cell 1; have s92 := HTA.out.cell 2; obtain ⟨A9, x9, rfl, _⟩ := hr9.rV.has; obtain ⟨B9, y9, rfl, _⟩ := hr9.rO.has; obtain ⟨C9, z9, rfl, _⟩ := hr9.rN.has; obtain ⟨D9, u9, rfl, _⟩ := hr9.rG.has; obtain ⟨E9, v9, rfl, _⟩ := hr9.rS.has; (simp only [List.length_append, List.length_cons, List.length_nil, Nat.zero_add] at HR9); obtain ⟨hX, hB⟩ := HX6.out.set HR9.out HC9.out rfl; have HX9 := Lib.hid hX; have HB9 := Lib.hid hB; have k0 := HB9.out.cell 0; have k1 := HB9.out.cell 1; have k2 := HB9.out.cell 2; have k3 := HB9.out.cell 3; have k4 := HB9.out.cell 4; have f0 := HB9.out.frozen 0; have f1 := HB9.out.frozen 1; have f2 := HB9.out.frozen 2; have f3 := HB9.out.frozen 3; have f4 := HB9.out.frozen 4; have HTB := Lib.hid (fun a b c d f => set5_far (a := a) (b := b) (c := c) (d := d) (f := f) HTA.out HGne.out); clear hr9 hc9 hX hB)
          refine hK.out _ _ ?_ (fun hHeld => ?_)
          · exact ⟨s90, s91, s92⟩
          clear hK K
          refine wpAnyH_ready (rs := [10]) (by kernel_rfl) (by simp) ?_
          refine AllReadyH.cons (o := { dst := none, op := Go.Op.store 37 (Go.Operand.tmp 4) (Go.Operand.tmp 49), type := 0, pos := "ref.go:93", after := #[{ on := 9, ground := Go.Ground.data }, { on := 9, ground := Go.Ground.chain }, { on := 0, ground := Go.Ground.phase }, { on := 1, ground := Go.Ground.phase }, { on := 2, ground := Go.Ground.phase }, { on := 3, ground := Go.Ground.phase }, { on := 4, ground := Go.Ground.phase }, { on := 5, ground := Go.Ground.phase }, { on := 6, ground := Go.Ground.phase }, { on := 7, ground := Go.Ground.phase }, { on := 8, ground := Go.Ground.phase }, { on := 9, ground := Go.Ground.phase }], guard := none }) rfl (fun K hK => ?_) AllReadyH.nil
          go_simp
          refine hK.out _ _ ?_ (fun hHeld => ?_)
          · exact ⟨(HTB.out _ _ _ _ _).cell 0, (HTB.out _ _ _ _ _).cell 1, (HTB.out _ _ _ _ _).cell 2⟩
          clear hK K
          refine wpAnyH_done (by kernel_rfl) ?_ _
          have HTC := Lib.hid (HTB.out (.slice A9 (meetW (meetW (meetW (walkTo T i).V x) y) z).length x9) (.slice B9 (walkTo T i).O.length y9) (.slice C9 (walkTo T i).N.length z9) (.slice D9 (walkTo T i).G.length u9) (.slice E9 ((walkTo T i).S.length + 1) v9))
          generalize ((((w9.setCell ⟨w.heap.size + 1 + 1, 0, none⟩ (.slice A9 (meetW (meetW (meetW (walkTo T i).V x) y) z).length x9)).setCell ⟨w.heap.size + 1 + 1, 1, none⟩ (.slice B9 (walkTo T i).O.length y9)).setCell ⟨w.heap.size + 1 + 1, 2, none⟩ (.slice C9 (walkTo T i).N.length z9)).setCell ⟨w.heap.size + 1 + 1, 3, none⟩ (.slice D9 (walkTo T i).G.length u9)).setCell ⟨w.heap.size + 1 + 1, 4, none⟩ (.slice E9 ((walkTo T i).S.length + 1) v9) = V9 at *
          clear HTA HTB HT9 HT7 HT8 HB9 HX6 HR7 HR8 HR9 HC7 HC8 HC9 HRd HMt HZ6 HZ7 HZ8 HZd HL0 HL1 HL2 hHeld s60 s61 s62 s70 s71 s72 s80 s81 s82 s90 s91 s92 k0 k1 k2 k3 k4 f0 f1 f2 f3 f4 l0 l1 l2 l3 l4
          have k0 := HX9.out.bx.cell 0
          have k1 := HX9.out.bx.cell 1
          have k2 := HX9.out.bx.cell 2
          have k3 := HX9.out.bx.cell 3
          have k4 := HX9.out.bx.cell 4
          have t0 := HTC.out.cell 0
          have t1 := HTC.out.cell 1
          have t2 := HTC.out.cell 2
          go_wp2_with fail
          refine (ref11take_any (cutF (farW w) G8 1) _ _ _ _ _ { V := meetW (meetW (meetW (walkTo T i).V x) y) z, O := (walkTo T i).O, N := (walkTo T i).N, G := (walkTo T i).G, S := (walkTo T i).S ++ [(0, 0)] } i x y z 0 V9 (cutF.new (fun k hk => Nat.le_trans HG8.out hk) HTC.out.lt) HX9.out.rows HL3.out (by have := HSm.out.O; show (walkTo T i).O.length ≤ _; omega) (by have := HSm.out.N; show (walkTo T i).N.length ≤ _; omega) (by have := HSm.out.G; show (walkTo T i).G.length ≤ _; omega)).mono ?_
          rintro e wA ⟨aA, bA, cA, dA, fA, rfl, hrA, hcA⟩
          rw [← HSd.out] at hrA
          clear HSd
          generalize seedW T (walkTo T i) i = SD at *
          have HRA := Lib.hid hrA
          have HCA := Lib.hid hcA
          clear hcA
          obtain ⟨JA, jx, rfl, _⟩ := hrA.rV.has
          obtain ⟨KA, kx, rfl, _⟩ := hrA.rO.has
          obtain ⟨LA, lx, rfl, _⟩ := hrA.rN.has
          obtain ⟨MA, mx, rfl, _⟩ := hrA.rG.has
          obtain ⟨NA, nx, rfl, _⟩ := hrA.rS.has
          clear hrA
          obtain ⟨hX, hB⟩ := HX9.out.set HRA.out HCA.out rfl
          have HXB := Lib.hid (hX.wide (F' := farW w) (fun k hk hf => hf.1) (fun k hk => hk))
          have HBB := Lib.hid hB
          clear hX hB HX9 HRA HCA HTC k0 k1 k2 k3 k4 t0 t1 t2
          have k0 := HBB.out.cell 0
          have k1 := HBB.out.cell 1
          have k2 := HBB.out.cell 2
          have k3 := HBB.out.cell 3
          have k4 := HBB.out.cell 4
          have f0 := HBB.out.frozen 0
          have f1 := HBB.out.frozen 1
          have f2 := HBB.out.frozen 2
          have f3 := HBB.out.frozen 3
          have f4 := HBB.out.frozen 4
          obtain ⟨K0, hK0⟩ : ∃ K, 3 * T.length + 4 = K := ⟨_, rfl⟩
          rw [hK0] at HLf HW
          go_wp2
          generalize ((((wA.setCell ⟨w.heap.size + 1 + 1, 0, none⟩ (.slice JA SD.V.length jx)).setCell ⟨w.heap.size + 1 + 1, 1, none⟩ (.slice KA SD.O.length kx)).setCell ⟨w.heap.size + 1 + 1, 2, none⟩ (.slice LA SD.N.length lx)).setCell ⟨w.heap.size + 1 + 1, 3, none⟩ (.slice MA SD.G.length mx)).setCell ⟨w.heap.size + 1 + 1, 4, none⟩ (.slice NA SD.S.length nx) = VB at *
          clear hK0 k0 k1 k2 k3 k4 f0 f1 f2 f3 f4 HBB
          go_loopg [] K0 (fun g wx => ∃ (a b c' d' f : Value) (s : WS), gatesLeft T s ≤ g ∧ Hid (VAt w (farW w) (.slice A n c) (.slice (some ⟨bT, oT, none⟩) m d) a b c' d' f s wx) ∧ Hid (WFine T (i + 1) s) ∧ Hid (drainW T g s = walkTo T (i + 1)))
          case atStart => exact ⟨_, _, _, _, _, SD, HLf.out, HXB, HFs, HW.out.symm⟩
          case round =>
            clear HXB HLf HFs HW
            obtain ⟨a, b, c', d', f, s, hgl, HX, HFs, HDr⟩ := hrel
            have HXr := HX.out.rows
            obtain ⟨JC, jy, rfl, _⟩ := HXr.rV.has
            obtain ⟨KC, ky, rfl, _⟩ := HXr.rO.has
            obtain ⟨LC, ly, rfl, _⟩ := HXr.rN.has
            obtain ⟨MC, my, rfl, _⟩ := HXr.rG.has
            obtain ⟨NC, ny, rfl, _⟩ := HXr.rS.has
            clear HXr
            generalize hKG : s.G.length = KG at *
            have k0 := HX.out.bx.cell 0
            have k1 := HX.out.bx.cell 1
            have k2 := HX.out.bx.cell 2
            have k3 := HX.out.bx.cell 3
            have k4 := HX.out.bx.cell 4
            have k5 := HX.out.me.cell 0
            have k6 := HX.out.me.cell 1
            by_cases hG : s.G = []
            · have hK0 : KG = 0 := by rw [← hKG, hG]; rfl
              have tG : decide (0 < KG) = false := by rw [hK0]; rfl
              have tG2 : decide ((0 : Int) < (KG : Int)) = false := by rw [hK0]; rfl
              have HE : Hid (s = walkTo T (i + 1)) := (drain_end hG gk).symm.trans HDr.out
              clear hG HDr hKG hK0
              go_wp2
              go_roundg (m - (i + 1))
              case measure => omega
              case rel => exact ⟨i + 1, _, _, _, _, _, by omega, by go_num, by rw [← HE.out]; exact HX⟩
            · have hG0 : 0 < s.G.length := List.length_pos_iff.2 hG
              have tG : decide (0 < KG) = true := decide_eq_true (by omega)
              have tG2 : decide ((0 : Int) < (KG : Int)) = true := decide_eq_true (by omega)
              have hgk : s.G.length ≤ gatesLeft T s := Nat.le_add_right _ _
              obtain ⟨k, hk⟩ : ∃ k, gk = k + 1 := ⟨gk - 1, by omega⟩
              have HDn : Hid (drainW T k (gateW T s) = walkTo T (i + 1)) := by
                have h := HDr.out
                rw [hk, drain_next hG] at h
                exact h
              have HGl : Hid (gatesLeft T (gateW T s) ≤ k) := by have := (gateW_ok HFs.out.ok hG).2.1; show _ ≤ _; omega
              have HGt := Lib.hid (ref11gate_any (farW w) _ _ _ _ _ s A n c (some ⟨bT, oT, none⟩) m d T wr (fun k hk => Nat.le_trans HX.out.lt hk) HX.out.rows (fun W hW => HT.out W (HX.out.bel.trans (hW.below (fun k e => by have h : w.heap.size + 3 ≤ k := e; omega) HX.out.bel.size))) hm (by
                have h := HFs.out.small (by have := HM.out; omega) (by rw [HM.out]; exact hm)
                exact ⟨Nat.le_trans h.V (by decide), Nat.le_trans h.O (by decide), Nat.le_trans h.N (by decide), Nat.le_trans h.G (by decide), Nat.le_trans h.S (by decide)⟩) hG)
              have HFg := Lib.hid (HFs.out.gate hG)
              generalize gateW T s = s2 at *
              clear hG hgk HDr HFs hKG hG0
              go_wp2_with fail
              refine HGt.out.mono ?_
              rintro e wD ⟨aD, bD, cD, dD, fD, rfl, hrD, hcD⟩
              have HRD := Lib.hid hrD
              have HCD := Lib.hid hcD
              clear hcD
              obtain ⟨JD, jz, rfl, _⟩ := hrD.rV.has
              obtain ⟨KD, kz, rfl, _⟩ := hrD.rO.has
              obtain ⟨LD, lz, rfl, _⟩ := hrD.rN.has
              obtain ⟨MD, mz, rfl, _⟩ := hrD.rG.has
              obtain ⟨ND, nz, rfl, _⟩ := hrD.rS.has
              clear hrD
              obtain ⟨hX, hB⟩ := HX.out.set HRD.out HCD.out rfl
              have HXE := Lib.hid hX
              have HBE := Lib.hid hB
              clear hX hB HX HRD HCD k0 k1 k2 k3 k4 k5 k6 HGt
              have k0 := HBE.out.cell 0
              have k1 := HBE.out.cell 1
              have k2 := HBE.out.cell 2
              have k3 := HBE.out.cell 3
              have k4 := HBE.out.cell 4
              have f0 := HBE.out.frozen 0
              have f1 := HBE.out.frozen 1
              have f2 := HBE.out.frozen 2
              have f3 := HBE.out.frozen 3
              have f4 := HBE.out.frozen 4
              go_wp2
              go_roundg k
              case measure => omega
              case rel => exact ⟨_, _, _, _, _, s2, HGl.out, HXE, HFg, HDn⟩
          
      · have ti : decide ((i : Int) < (m : Int)) = false := by simp; omega
        obtain rfl : i = T.length := by rw [HM.out]; omega
        have HEnd := Lib.hid (HX.out.fin 0)
        have z0 := HX.out.re.cell 0
        have z1 := HX.out.re.cell 1
        have z2 := HX.out.re.cell 2
        have z3 := HX.out.re.cell 3
        have z4 := HX.out.re.cell 4
        have q0 := HX.out.re.frozen 0
        have q1 := HX.out.re.frozen 1
        have q2 := HX.out.re.frozen 2
        have q3 := HX.out.re.frozen 3
        have q4 := HX.out.re.frozen 4
        go_wp2
        try rw [Exit.noGoto_ret]
        exact bodyPost_ret (results_pairM Tryd.results13 rfl rfl (w_load _ _ _ _ _ _ _ HEnd.out.1)) rfl (by rw [← HSf.out]; exact HEnd.out.2)
  · have hq : (r != 0) = true := bne_iff_ne.2 h0
    rw [if_neg h0] at hS0
    have HSf := Lib.hid hS0
    have HEnd := Lib.hid (HX1.out.fin r)
    clear h0 hS0
    go_wp2
    try rw [Exit.noGoto_ret]
    exact bodyPost_ret (results_pairM Tryd.results13 rfl rfl (w_load _ _ _ _ _ _ _ HEnd.out.1)) rfl (by rw [← HSf.out]; exact HEnd.out.2)
end Go.Proofs.YtjahphfjobnkaaaDoor
