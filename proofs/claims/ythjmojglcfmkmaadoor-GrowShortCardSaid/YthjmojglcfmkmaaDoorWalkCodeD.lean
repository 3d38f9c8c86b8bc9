import Derived.Test.YthjmojglcfmkmaaDoorWalkRefH
import Derived.Test.YthjmojglcfmkmaaDoorMeshCodeS
/- The landed walk: its map of edges. -/
namespace Go.Proofs.YthjmojglcfmkmaaDoor
open Go.RowKit

theorem arrEk : WideMaps.ArrKey Tryd.prog 98 3 2 := ⟨Tryd.underlying98, by kernel_rfl, by kernel_rfl, by kernel_rfl⟩
theorem lawEk : Maps.Keyed Tryd.prog 98 := Maps.Keyed.of_law arrEk.law
theorem keyOf_e2k {d : D2} (h : in64 d) : keyOf Tryd.prog 98 (e2V d) = some (keyL d) := WideMaps.keyOf_pair arrEk Tryd.underlying3 typesE h.1 h.2
/-- A block holds all edges of these triangles. -/
def SidesK (w : World) (b : Nat) (T : List P3) : Prop := w.ownsMap Tryd.prog 98 sideR b (3 * T.length) (sidesD T)
theorem SidesK.kept {w w' : World} {b : Nat} {T : List P3} (h : SidesK w b T) (hb : Below w.heap.size w w') : SidesK w' b T := by
  obtain ⟨es, clock, h1, h2⟩ := h
  exact ⟨es, clock, (hb.block b (Array.getElem?_eq_some_iff.1 h1).1).trans h1, h2⟩
theorem SidesK.lt {w : World} {b : Nat} {T : List P3} (h : SidesK w b T) : b < w.heap.size := World.ownsMap.lt h
theorem SidesK.far {w w' : World} {b : Nat} {T : List P3} (h : SidesK w b T) (hb : w'.heap[b]? = w.heap[b]?) : SidesK w' b T := by
  obtain ⟨es, clock, h1, h2⟩ := h
  exact ⟨es, clock, hb.trans h1, h2⟩
theorem zeroSideK (w : World) : (zeroValue 111).run Tryd.prog w = .ok (e2V (0, 0)) w := by kernel_rfl
theorem sideInfoK : (Tryd.prog.info? 111).map (fun i => (i.zero, i.size)) = some (some (.agg #[.int .i64 0, .int .i64 0]), 2) := by kernel_rfl
theorem edgeInfoK : (Tryd.prog.info? 98).map (fun i => (i.zero, i.size)) = some (some (.agg #[.int .i64 0, .int .i64 0]), 2) := by kernel_rfl
theorem elemEk : ElemK Tryd.prog 80 98 2 16 := by
  have h : (Tryd.prog.info? 98).map (fun i => (i.zero, i.size, i.bytes)) = some (some (.agg #[.int .i64 0, .int .i64 0]), 2, 16) := by kernel_rfl
  obtain ⟨i, h1, h2, h3, h4⟩ := info_parts h
  exact ⟨Tryd.underlying80, i, _, h1, h2, h3, h4, rfl⟩
/-- What the map answers. -/
theorem look_k {w : World} {b n : Nat} {T : List P3} (h : SidesK w b T) (hall : T.all (triM n) = true) (hn : n ≤ 100000) {d : D2} (hd : in64 d) :
    ∃ s : D2, (Instr.lookup 77 (.map (some b)) (.agg #[.int .i64 d.1, .int .i64 d.2]) true).run Tryd.prog w = .ok (.tuple #[.agg #[.int .i64 s.1, .int .i64 s.2], .bool (decide (d ∈ darts T))]) w ∧
      ((darts T).Nodup → ∀ i k, ∀ hi : i < T.length, k < 3 → d = (at3 T[i] k, at3 T[i] ((k + 1) % 3)) → s = ((i : Int), at3 T[i] ((k + 2) % 3))) := by
  obtain ⟨v, ps, h1, h2⟩ := World.ownsMap.look_ok h lawEk Tryd.underlying77 (zeroSideK w) (sideR_mk (0, 0)) (keyOf_e2k hd)
  obtain ⟨s, rfl, h3⟩ := sideR_inv h2
  refine ⟨s, ?_, fun hnd i k hi hk e => ?_⟩
  · rw [sides_has hall hn hd] at h1
    exact h1
  · have h4 := sides_at hall hn hnd hi hk (sideD (0, 0))
    rw [← e] at h4
    have h5 := congrArg Prod.fst h3
    exact sideD_inj (h5.symm.trans h4)
theorem run_makeSidesK (z : Int) (w : World) : (Instr.makeMap 77 (some (.int .i64 z))).run Tryd.prog w = .ok (.map (some w.heap.size)) (w.alloc (.map #[] 0)) := by kernel_rfl
set_option maxRecDepth 100000 in
set_option maxHeartbeats 2000000 in
theorem walkSides_any (B : Option Addr) (m d : Nat) (T : List P3) (n : Nat) (w : World) (ht : HasK 3 w B m d (p3Cells T)) (hm : m ≤ 100000) (hn : n ≤ 100000) (hall : T.all (triM n) = true) : Calls Tryd.prog 53 #[.slice B m d] w fun e w' => ∃ b, e = .returned (.map (some b)) ∧ w.heap.size ≤ b ∧ SidesK w' b T ∧ Below w.heap.size w w' := by
  have HM : Hid (T.length = m) := by have := ht.len; rw [p3Cells_len] at this; show _ = _; omega
  have HT := Lib.hid ht
  have HIn := Lib.hid (fun i k (hk : k < 3) => ent_in hall hn i k hk)
  have HO0 : Hid ((w.alloc (.map #[] 0)).ownsMap Tryd.prog 98 sideR w.heap.size 0 (.map [])) := World.ownsMap_made w _ _ _
  have HB0 := Lib.hid (new_alloc (Below.refl w.heap.size w) (.map #[] 0))
  have hmm := run_makeSidesK
  clear ht hall
  go_enter Tryd.func53, Tryd.ntmps53
  go_wp2
  generalize w.alloc (.map #[] 0) = W at *
  obtain ⟨G, hG⟩ : ∃ G, w.heap.size = G := ⟨_, rfl⟩
  have HG : Hid (w.heap.size = G) := hG
  rw [hG] at HO0
  try rw [hG]
  clear hG
  go_loopg [15] m (fun g s15 wx => ∃ i : Nat, i + g = m ∧ s15 = .int .i64 (i : Int) ∧ Hid (Below w.heap.size w wx) ∧ Hid (wx.ownsMap Tryd.prog 98 sideR G (3 * i) (entsD (entsTo T i 0))))
  case atStart => exact ⟨0, by omega, rfl, HB0, HO0⟩
  case round =>
    obtain ⟨i, hig, rfl, HB, HO⟩ := hrel
    clear HB0 HO0
    by_cases hi : i < m
    · have ti : decide ((i : Int) < (m : Int)) = true := by simp; omega
      have i2 : (i : Int) < (m : Int) := by omega
      have hil : i < T.length := by rw [HM.out]; exact hi
      obtain ⟨b, off, rfl, hlt, _⟩ := (HT.out.kept HB.out).spot (by omega)
      obtain ⟨c0, c1, c2⟩ := p3_at (HT.out.kept HB.out) hil
      have HEn : ∀ k, entAt T i k = ((at3 T[i] k, at3 T[i] ((k + 1) % 3)), ((i : Int), at3 T[i] ((k + 2) % 3))) := fun k => by
        unfold entAt
        rw [List.getElem?_eq_getElem hil]
        rfl
      have HI0 := HIn.out i 0 (by decide)
      have HI1 := HIn.out i 1 (by decide)
      have HI2 := HIn.out i 2 (by decide)
      rw [HEn] at HI0 HI1 HI2
      have HN0 := entsTo_next T i 0
      have HN1 := entsTo_next T i 1
      have HN2 := entsTo_next T i 2
      rw [HEn] at HN0 HN1 HN2
      have HRw := Lib.hid (entsTo_row T i)
      generalize T[i] = t at *
      clear HEn
      obtain ⟨x, y, z⟩ := t
      simp only at c0 c1 c2
      have HKt := Lib.hid (Blk.new wr 58 #[.int .i64 x, .int .i64 y, .int .i64 z])
      have HB2 := Lib.hid (new_alloc HB.out (.cells #[.int .i64 x, .int .i64 y, .int .i64 z] 58))
      have HO2 := Lib.hid (HO.out.alloc (.cells #[.int .i64 x, .int .i64 y, .int .i64 z] 58))
      have HI0 : in64 (x, y) := HI0
      have HI1 : in64 (y, z) := HI1
      have HI2 : in64 (z, x) := HI2
      have HNa : Hid (entsD (entsTo T i 1) = (entsD (entsTo T i 0)).put (keyL (x, y)) (sideD ((i : Int), z))) := by
        show _ = _
        rw [show entsTo T i 1 = entsTo T i 0 ++ [((x, y), ((i : Int), z))] from HN0]
        exact entsD_snoc _ _
      have HNb : Hid (entsD (entsTo T i 2) = (entsD (entsTo T i 1)).put (keyL (y, z)) (sideD ((i : Int), x))) := by
        show _ = _
        rw [show entsTo T i 2 = entsTo T i 1 ++ [((y, z), ((i : Int), x))] from HN1]
        exact entsD_snoc _ _
      have HNc : Hid (entsD (entsTo T i 3) = (entsD (entsTo T i 2)).put (keyL (z, x)) (sideD ((i : Int), y))) := by
        show _ = _
        rw [show entsTo T i 3 = entsTo T i 2 ++ [((z, x), ((i : Int), y))] from HN2]
        exact entsD_snoc _ _
      clear hil hlt HN0 HN1 HN2
      go_wp2
      generalize wr.alloc (.cells #[.int .i64 x, .int .i64 y, .int .i64 z] 58) = W2 at *
      generalize wr.heap.size = G2 at *
      clear c0 c1 c2
      have k0 : W2.cell? ⟨G2, 0, none⟩ = some (.int .i64 x) := HKt.out.cell 0
      have k1 : W2.cell? ⟨G2, 1, none⟩ = some (.int .i64 y) := HKt.out.cell 1
      have k2 : W2.cell? ⟨G2, 2, none⟩ = some (.int .i64 z) := HKt.out.cell 2
      obtain ⟨Wa, hra, hoa, hga⟩ := World.ownsMap.update HO2.out.drew lawEk Tryd.underlying77 (by unfold maxLen; omega) (keyOf_e2k HI0) (sideR_mk ((i : Int), z))
      rw [← HNa.out] at hoa
      obtain ⟨Wb, hrb, hob, hgb⟩ := World.ownsMap.update hoa lawEk Tryd.underlying77 (by unfold maxLen; omega) (keyOf_e2k HI1) (sideR_mk ((i : Int), x))
      rw [← HNb.out] at hob
      obtain ⟨Wc, hrc, hoc, hgc⟩ := World.ownsMap.update hob lawEk Tryd.underlying77 (by unfold maxLen; omega) (keyOf_e2k HI2) (sideR_mk ((i : Int), y))
      rw [← HNc.out, ← HRw.out] at hoc
      simp only [e2V] at hra hrb hrc
      have HOc : Hid (Wc.ownsMap Tryd.prog 98 sideR G (3 * (i + 1)) (entsD (entsTo T (i + 1) 0))) := hoc
      have hGl : w.heap.size ≤ G := Nat.le_of_eq HG.out
      have HBc : Hid (Below w.heap.size w Wc) := Below.ownMap (Below.ownMap (Below.ownMap (b := G) HB2.out.drew hGl hga) hGl hgb) hGl hgc
      clear hoa hob hoc hga hgb hgc HNa HNb HNc HO2 HB2 HKt HB HO hGl
      go_region
      all_goals
        go_wp2
        go_roundg (gk - 1)
        case measure => omega
        case rel => exact ⟨i + 1, by omega, by go_num, HBc, HOc⟩
    · have ti : decide ((i : Int) < (m : Int)) = false := by simp; omega
      have hE : i = T.length := by rw [HM.out]; omega
      subst hE
      go_wp2
      go_ret
      exact ⟨G, rfl, by rw [HG.out]; exact Nat.le_refl _, HO.out, HB.out⟩
end Go.Proofs.YthjmojglcfmkmaaDoor

/- The landed walk: how far it has come, in memory of its own. -/
namespace Go.Proofs.YthjmojglcfmkmaaDoor
open Go.RowKit

def rowB (q : Nat → Bool) (m : Nat) : Array Value := Array.ofFn (n := m) fun j => .bool (q j.val)
def putB (q : Nat → Bool) (v : Nat) (u : Bool) : Nat → Bool := fun j => if j = v then u else q j
theorem rowB_at (q : Nat → Bool) {m v : Nat} (h : v < m) : (rowB q m)[v]? = some (.bool (q v)) := by
  unfold rowB
  simp only [Array.getElem?_ofFn, h, dite_true]
theorem rowB_set (q : Nat → Bool) (m v : Nat) (x : Bool) : (rowB q m).setIfInBounds v (.bool x) = rowB (putB q v x) m := by
  apply Array.ext_getElem?
  intro j
  rw [Array.getElem?_setIfInBounds]
  unfold rowB putB
  simp only [Array.getElem?_ofFn, Array.size_ofFn]
  by_cases h1 : v = j
  · subst h1
    by_cases h : v < m
    · simp only [h, dite_true, if_true]
    · simp only [h, dite_false, if_true, if_false]
  · rw [if_neg h1]
    by_cases h : j < m
    · simp only [h, dite_true, Ne.symm h1, if_false]
    · simp only [h, dite_false]
def cutR (F : Nat → Prop) (g b gm gn : Nat) : Nat → Prop := fun k => F k ∧ k ≠ g ∧ k ≠ b ∧ k ≠ gm ∧ k ≠ gn
/-- A route: eight cells, its map, its two rows of as many as there are triangles, vertices, and its five rows that grow. -/
structure RAt (F : Nat → Prop) (g b gm gn m n : Nat) (T : List P3) (q : Nat → Bool) (a : Nat → Int) (vG vS vV vO vN : Value) (s : WS) (wx : World) : Prop where
  box : Blk wx g 82 #[.map (some b), .slice (some ⟨gm, 0, none⟩) m m, .slice (some ⟨gn, 0, none⟩) n n, vG, vS, vV, vO, vN]
  sd : SidesK wx b T
  mt : Blk wx gm 4 (rowB q m)
  nm : Blk wx gn 3 (rowA a n)
  rows : WRows wx (cutR F g b gm gn) 98 vV vO vN vG vS s
  fg : F g
  fb : F b
  fm : F gm
  fn : F gn
  n1 : g ≠ b
  n2 : g ≠ gm
  n3 : g ≠ gn
  n4 : b ≠ gm
  n5 : b ≠ gn
  n6 : gm ≠ gn
section
variable {F : Nat → Prop} {g b gm gn m n : Nat} {T : List P3} {q : Nat → Bool} {a : Nat → Int} {vG vS vV vO vN : Value} {s : WS} {wx w' : World}
theorem RAt.next (h : RAt F g b gm gn m n T q a vG vS vV vO vN s wx) (hb : Below wx.heap.size wx w') : RAt F g b gm gn m n T q a vG vS vV vO vN s w' :=
  ⟨h.box.below hb h.box.lt, h.sd.kept hb, h.mt.below hb h.mt.lt, h.nm.below hb h.nm.lt, h.rows.kept hb, h.fg, h.fb, h.fm, h.fn, h.n1, h.n2, h.n3, h.n4, h.n5, h.n6⟩
theorem RAt.among {F' : Nat → Prop} (h : RAt F g b gm gn m n T q a vG vS vV vO vN s wx) (hf : ∀ k, k < wx.heap.size → F k → F' k) : RAt F' g b gm gn m n T q a vG vS vV vO vN s wx :=
  ⟨h.box, h.sd, h.mt, h.nm, h.rows.among (fun k hk e => ⟨hf k hk e.1, e.2⟩), hf _ h.box.lt h.fg, hf _ h.sd.lt h.fb, hf _ h.mt.lt h.fm, hf _ h.nm.lt h.fn, h.n1, h.n2, h.n3, h.n4, h.n5, h.n6⟩
theorem RAt.fresh (h : RAt F g b gm gn m n T q a vG vS vV vO vN s wx) (hF : ∀ k, wx.heap.size ≤ k → F k) : ∀ k, wx.heap.size ≤ k → cutR F g b gm gn k := fun k hk => by
  have := h.box.lt
  have := h.sd.lt
  have := h.mt.lt
  have := h.nm.lt
  exact ⟨hF k hk, by omega, by omega, by omega, by omega⟩
theorem no_g : ¬ cutR F g b gm gn g := fun e => e.2.1 rfl
theorem no_b : ¬ cutR F g b gm gn b := fun e => e.2.2.1 rfl
theorem no_m : ¬ cutR F g b gm gn gm := fun e => e.2.2.2.1 rfl
theorem no_n : ¬ cutR F g b gm gn gn := fun e => e.2.2.2.2 rfl
theorem sidesK_set {w : World} {b : Nat} {T : List P3} (h : SidesK w b T) {p : Addr} (hne : b ≠ p.block) (u : Value) : SidesK (w.setCell p u) b T := h.far (Below.heap_setCell w p u b hne)
theorem RAt.setM (h : RAt F g b gm gn m n T q a vG vS vV vO vN s wx) (j : Nat) (u : Bool) : RAt F g b gm gn m n T (putB q j u) a vG vS vV vO vN s (wx.setCell ⟨gm, j, none⟩ (.bool u)) ∧ Chg F wx (wx.setCell ⟨gm, j, none⟩ (.bool u)) := by
  have hm := h.mt.set_ j (.bool u)
  rw [rowB_set] at hm
  exact ⟨⟨h.box.far h.n2 _, sidesK_set h.sd h.n4 _, hm, h.nm.far (Ne.symm h.n6) _, h.rows.away (grown_set wx _ _) (fun k e => by cases e; exact no_m), h.fg, h.fb, h.fm, h.fn, h.n1, h.n2, h.n3, h.n4, h.n5, h.n6⟩, (Chg.of_grown (grown_set wx ⟨gm, j, none⟩ (.bool u))).wide fun k _ e => by cases e; exact h.fm⟩
theorem RAt.setN (h : RAt F g b gm gn m n T q a vG vS vV vO vN s wx) (j : Nat) (u : Int) : RAt F g b gm gn m n T q (putI a j u) vG vS vV vO vN s (wx.setCell ⟨gn, j, none⟩ (.int .i64 u)) ∧ Chg F wx (wx.setCell ⟨gn, j, none⟩ (.int .i64 u)) := by
  have hm := h.nm.set_ j (.int .i64 u)
  rw [rowA_set] at hm
  exact ⟨⟨h.box.far h.n3 _, sidesK_set h.sd h.n5 _, h.mt.far h.n6 _, hm, h.rows.away (grown_set wx _ _) (fun k e => by cases e; exact no_n), h.fg, h.fb, h.fm, h.fn, h.n1, h.n2, h.n3, h.n4, h.n5, h.n6⟩, (Chg.of_grown (grown_set wx ⟨gn, j, none⟩ (.int .i64 u))).wide fun k _ e => by cases e; exact h.fn⟩
/-- One cell of the route stored, the rows being known. -/
theorem RAt.store {vG' vS' vV' vO' vN' : Value} {s' : WS} (h : RAt F g b gm gn m n T q a vG vS vV vO vN s wx) (hc : Chg (cutR F g b gm gn) wx w') (hr : WRows w' (cutR F g b gm gn) 98 vV' vO' vN' vG' vS' s') (j : Nat) (u : Value)
    (he : (#[.map (some b), .slice (some ⟨gm, 0, none⟩) m m, .slice (some ⟨gn, 0, none⟩) n n, vG, vS, vV, vO, vN] : Array Value).setIfInBounds j u = #[.map (some b), .slice (some ⟨gm, 0, none⟩) m m, .slice (some ⟨gn, 0, none⟩) n n, vG', vS', vV', vO', vN']) :
    RAt F g b gm gn m n T q a vG' vS' vV' vO' vN' s' (w'.setCell ⟨g, j, none⟩ u) ∧ Blk w' g 82 #[.map (some b), .slice (some ⟨gm, 0, none⟩) m m, .slice (some ⟨gn, 0, none⟩) n n, vG, vS, vV, vO, vN] ∧ Chg F wx (w'.setCell ⟨g, j, none⟩ u) := by
  have hb := h.box.chg hc no_g
  have hb2 := hb.set_ j u
  rw [he] at hb2
  refine ⟨⟨hb2, sidesK_set (h.sd.far (hc.block b h.sd.lt no_b)) (Ne.symm h.n1) _, (h.mt.chg hc no_m).far (Ne.symm h.n2) _, (h.nm.chg hc no_n).far (Ne.symm h.n3) _, hr.away (grown_set w' _ _) (fun k e => by cases e; exact no_g), h.fg, h.fb, h.fm, h.fn, h.n1, h.n2, h.n3, h.n4, h.n5, h.n6⟩, hb, ?_⟩
  exact (hc.wide (fun k _ e => e.1)).then_ (D' := F) ((Chg.of_grown (grown_set w' ⟨g, j, none⟩ u)).wide fun k _ e => by cases e; exact h.fg) (fun _ _ e => e)
theorem RAt.away (h : RAt F g b gm gn m n T q a vG vS vV vO vN s wx) {p : Addr} (hp : ¬ F p.block) (u : Value) : RAt F g b gm gn m n T q a vG vS vV vO vN s (wx.setCell p u) :=
  have hne : ∀ k, F k → k ≠ p.block := fun k hk e => hp (e ▸ hk)
  ⟨h.box.far (hne _ h.fg) u, sidesK_set h.sd (hne _ h.fb) u, h.mt.far (hne _ h.fm) u, h.nm.far (hne _ h.fn) u, h.rows.away (grown_set wx p u) (fun k e => by cases e; exact fun e => hp e.1), h.fg, h.fb, h.fm, h.fn, h.n1, h.n2, h.n3, h.n4, h.n5, h.n6⟩
theorem RAt.putS (h : RAt F g b gm gn m n T q a vG vS vV vO vN s wx) (hF : ∀ k, wx.heap.size ≤ k → F k) {vS' : Value} {l : List (Int × Int)} (ho : OwnK 2 w' 0 33 vS' l.length (e2Cells l)) (hg : wx.grownBy w' vS.ownBlock) (hw : ∀ q, vS'.ownBlock = some q → vS.ownBlock = some q ∨ wx.heap.size ≤ q) :
    RAt F g b gm gn m n T q a vG vS' vV vO vN { s with S := l } (w'.setCell ⟨g, 4, none⟩ vS') ∧ Blk w' g 82 #[.map (some b), .slice (some ⟨gm, 0, none⟩) m m, .slice (some ⟨gn, 0, none⟩) n n, vG, vS, vV, vO, vN] ∧ Chg F wx (w'.setCell ⟨g, 4, none⟩ vS') :=
  h.store (h.rows.chgS hg) (h.rows.putS ho hg hw (h.fresh hF)) 4 vS' rfl
theorem RAt.putG (h : RAt F g b gm gn m n T q a vG vS vV vO vN s wx) (hF : ∀ k, wx.heap.size ≤ k → F k) {vG' : Value} {l : List (Int × Int)} (ho : OwnK 2 w' 0 98 vG' l.length (e2Cells l)) (hg : wx.grownBy w' vG.ownBlock) (hw : ∀ q, vG'.ownBlock = some q → vG.ownBlock = some q ∨ wx.heap.size ≤ q) :
    RAt F g b gm gn m n T q a vG' vS vV vO vN { s with G := l } (w'.setCell ⟨g, 3, none⟩ vG') ∧ Blk w' g 82 #[.map (some b), .slice (some ⟨gm, 0, none⟩) m m, .slice (some ⟨gn, 0, none⟩) n n, vG, vS, vV, vO, vN] ∧ Chg F wx (w'.setCell ⟨g, 3, none⟩ vG') :=
  h.store (h.rows.chgG hg) (h.rows.putG ho hg hw (h.fresh hF)) 3 vG' rfl
theorem RAt.putV (h : RAt F g b gm gn m n T q a vG vS vV vO vN s wx) (hF : ∀ k, wx.heap.size ≤ k → F k) {vV' : Value} {l : List Int} (ho : OwnK 1 w' 0 3 vV' l.length (intVs l)) (hg : wx.grownBy w' vV.ownBlock) (hw : ∀ q, vV'.ownBlock = some q → vV.ownBlock = some q ∨ wx.heap.size ≤ q) :
    RAt F g b gm gn m n T q a vG vS vV' vO vN { s with V := l } (w'.setCell ⟨g, 5, none⟩ vV') ∧ Blk w' g 82 #[.map (some b), .slice (some ⟨gm, 0, none⟩) m m, .slice (some ⟨gn, 0, none⟩) n n, vG, vS, vV, vO, vN] ∧ Chg F wx (w'.setCell ⟨g, 5, none⟩ vV') :=
  h.store (h.rows.chgV hg) (h.rows.putV ho hg hw (h.fresh hF)) 5 vV' rfl
theorem RAt.putO (h : RAt F g b gm gn m n T q a vG vS vV vO vN s wx) (hF : ∀ k, wx.heap.size ≤ k → F k) {vO' : Value} {l : List Nat} (ho : OwnK 1 w' 0 3 vO' l.length (natVs l)) (hg : wx.grownBy w' vO.ownBlock) (hw : ∀ q, vO'.ownBlock = some q → vO.ownBlock = some q ∨ wx.heap.size ≤ q) :
    RAt F g b gm gn m n T q a vG vS vV vO' vN { s with O := l } (w'.setCell ⟨g, 6, none⟩ vO') ∧ Blk w' g 82 #[.map (some b), .slice (some ⟨gm, 0, none⟩) m m, .slice (some ⟨gn, 0, none⟩) n n, vG, vS, vV, vO, vN] ∧ Chg F wx (w'.setCell ⟨g, 6, none⟩ vO') :=
  h.store (h.rows.chgO hg) (h.rows.putO ho hg hw (h.fresh hF)) 6 vO' rfl
theorem RAt.putN (h : RAt F g b gm gn m n T q a vG vS vV vO vN s wx) (hF : ∀ k, wx.heap.size ≤ k → F k) {vN' : Value} {l : List P3} (ho : OwnK 3 w' 0 58 vN' l.length (p3Cells l)) (hg : wx.grownBy w' vN.ownBlock) (hw : ∀ q, vN'.ownBlock = some q → vN.ownBlock = some q ∨ wx.heap.size ≤ q) :
    RAt F g b gm gn m n T q a vG vS vV vO vN' { s with N := l } (w'.setCell ⟨g, 7, none⟩ vN') ∧ Blk w' g 82 #[.map (some b), .slice (some ⟨gm, 0, none⟩) m m, .slice (some ⟨gn, 0, none⟩) n n, vG, vS, vV, vO, vN] ∧ Chg F wx (w'.setCell ⟨g, 7, none⟩ vN') :=
  h.store (h.rows.chgN hg) (h.rows.putN ho hg hw (h.fresh hF)) 7 vN' rfl
/-- The route tells this walk. -/
def RA (F : Nat → Prop) (g b gm gn m n : Nat) (T : List P3) (s : WS) (wx : World) : Prop := ∃ q a vG vS vV vO vN, RAt F g b gm gn m n T q a vG vS vV vO vN s wx ∧ (∀ i, i < m → q i = decide (i ∈ s.O)) ∧ ∀ v : Nat, v < n → a v = findW s.V (v : Int)
/-- What a method of the route answers. -/
def ROut (F : Nat → Prop) (g b gm gn m n : Nat) (T : List P3) (s : WS) (w : World) (e : Ending) (w' : World) : Prop := e = .returned (.tuple #[]) ∧ RA F g b gm gn m n T s w' ∧ Chg F w w'
theorem RA.next (h : RA F g b gm gn m n T s wx) (hb : Below wx.heap.size wx w') : RA F g b gm gn m n T s w' := by
  obtain ⟨q, a, v1, v2, v3, v4, v5, h1, h2⟩ := h
  exact ⟨q, a, v1, v2, v3, v4, v5, h1.next hb, h2⟩
theorem RA.among {F' : Nat → Prop} (h : RA F g b gm gn m n T s wx) (hf : ∀ k, k < wx.heap.size → F k → F' k) : RA F' g b gm gn m n T s wx := by
  obtain ⟨q, a, v1, v2, v3, v4, v5, h1, h2⟩ := h
  exact ⟨q, a, v1, v2, v3, v4, v5, h1.among hf, h2⟩
end
end Go.Proofs.YthjmojglcfmkmaaDoor

/- The landed walk: a step told, gates laid, the last gate taken. -/
namespace Go.Proofs.YthjmojglcfmkmaaDoor
open Go.RowKit

theorem fresh_below {F : Nat → Prop} {w w' : World} (hF : ∀ k, w.heap.size ≤ k → F k) (hb : Below w.heap.size w w') : ∀ k, w'.heap.size ≤ k → F k := fun k hk => hF k (Nat.le_trans hb.size hk)
set_option maxRecDepth 100000 in
set_option maxHeartbeats 1000000 in
theorem walkTell_any (F : Nat → Prop) (g b gm gn m n : Nat) (T : List P3) (s : WS) (k v : Int) (w : World) (hF : ∀ k, w.heap.size ≤ k → F k) (h : RA F g b gm gn m n T s w) (hl : s.S.length ≤ 100000000) :
    Calls Tryd.prog 68 #[.pointer (some ⟨g, 0, none⟩), .int .i64 k, .int .i64 v] w (ROut F g b gm gn m n T { s with S := s.S ++ [(k, v)] } w) := by
  obtain ⟨q, a, vG, vS, vV, vO, vN, h, hq, ha⟩ := h
  have HQ := Lib.hid hq
  have HA := Lib.hid ha
  have hr := h.rows
  obtain ⟨Af, cf, rfl, _⟩ := hr.rS.has
  clear hr hq ha
  have HX := Lib.hid h
  have HX1 := Lib.hid (h.next (new_alloc (Below.refl _ w) (.cells #[.int .i64 k, .int .i64 v] 33)))
  have HN1 : Hid (HasK 2 (w.alloc (.cells #[.int .i64 k, .int .i64 v] 33)) (some ⟨w.heap.size, 0, none⟩) 1 1 (e2Cells [(k, v)])) := HasK.new_at 2 _ #[.int .i64 k, .int .i64 v] 33 _ 1 rfl rfl
  have HFr := Lib.hid (fresh_below hF (new_alloc (Below.refl _ w) (.cells #[.int .i64 k, .int .i64 v] 33)))
  have HC1 : Hid (Chg F w (w.alloc (.cells #[.int .i64 k, .int .i64 v] 33))) := Chg.of_below (new_alloc (Below.refl _ w) _)
  clear h hF
  have b4 := HX.out.box.cell 4
  have c4 := HX1.out.box.cell 4
  go_enter Tryd.func68, Tryd.ntmps68
  go_wp2_with (at_builtin
               (refine wpList_joinGK rfl _ _ 22 rfl elemSt (by decide) 0 _ s.S.length (e2Cells s.S) rfl HX1.out.rows.rS _ 1 1 (e2Cells [(k, v)]) rfl HN1.out (e2Cells_one _) (by omega) (by decide) (Nat.zero_le _) ?_)
               rintro v5 w5 ho hg hw
               obtain ⟨A5, c5, rfl, _⟩ := OwnK.has ho
               obtain ⟨hX, hB, hC⟩ := HX1.out.putS HFr.out (l := s.S ++ [(k, v)]) (by rw [List.length_append, e2Cells_app]; exact ho) hg hw
               have HX5 := Lib.hid hX
               have HC5 := Lib.hid hC
               have f5 := hB.frozen 4
               have k5 := hB.cell 4
               clear hX hB hC ho hg hw)
  go_end0
  exact ⟨rfl, ⟨q, a, _, _, _, _, _, HX5.out, HQ.out, HA.out⟩, HC1.out.then_ HC5.out (fun _ _ e => e)⟩
set_option maxRecDepth 100000 in
set_option maxHeartbeats 1000000 in
theorem walkLay_any (F : Nat → Prop) (g b gm gn m n : Nat) (T : List P3) (s : WS) (A : Option Addr) (k c : Nat) (es : List (Int × Int)) (w : World) (hF : ∀ k, w.heap.size ≤ k → F k) (h : RA F g b gm gn m n T s w) (hes : HasK 2 w A k c (e2Cells es)) (hk : k ≤ 1000) (hl : s.G.length ≤ 100000000) :
    Calls Tryd.prog 71 #[.pointer (some ⟨g, 0, none⟩), .slice A k c] w (ROut F g b gm gn m n T { s with G := s.G ++ es } w) := by
  obtain ⟨q, a, vG, vS, vV, vO, vN, h, hq, ha⟩ := h
  have HQ := Lib.hid hq
  have HA := Lib.hid ha
  have hr := h.rows
  obtain ⟨Ag, cg, rfl, _⟩ := hr.rG.has
  clear hr hq ha
  have hel : es.length = k := by have := hes.len; rw [e2Cells_len] at this; omega
  have HEl := Lib.hid hel
  have HX := Lib.hid h
  have HN := Lib.hid hes
  have HFr := Lib.hid hF
  clear h hF hes hel
  have b3 := HX.out.box.cell 3
  go_enter Tryd.func71, Tryd.ntmps71
  go_wp2_with (at_builtin
               (refine wpList_joinGK rfl _ _ 80 rfl elemEk (by decide) 0 _ s.G.length (e2Cells s.G) rfl HX.out.rows.rG _ k c (e2Cells es) rfl HN.out (e2Cells_one _) (by omega) (by decide) (Nat.zero_le _) ?_)
               rintro v5 w5 ho hg hw
               obtain ⟨A5, c5, rfl, _⟩ := OwnK.has ho
               obtain ⟨hX, hB, hC⟩ := HX.out.putG HFr.out (l := s.G ++ es) (by rw [List.length_append, HEl.out, e2Cells_app]; exact ho) hg hw
               have HX5 := Lib.hid hX
               have HC5 := Lib.hid hC
               have f5 := hB.frozen 3
               have k5 := hB.cell 3
               clear hX hB hC ho hg hw)
  go_end0
  exact ⟨rfl, ⟨q, a, _, _, _, _, _, HX5.out, HQ.out, HA.out⟩, HC5.out⟩
theorem edge_loadK (W : World) (a b : Value) (g : Nat) (h : Blk W g 98 #[a, b]) : (loadVar 98 ⟨g, 0, none⟩).run Tryd.prog W = .ok (.agg #[a, b]) W := by
  obtain ⟨kz, ks⟩ := zero_of_info edgeInfoK
  exact run_loadVar_row _ _ _ _ _ _ _ h Tryd.underlying98 rfl (by rw [ks]; rfl)
set_option maxRecDepth 100000 in
set_option maxHeartbeats 1000000 in
theorem walkTakeNo_any (F : Nat → Prop) (g b gm gn m n : Nat) (T : List P3) (s : WS) (w : World) (h : RA F g b gm gn m n T s w) (hG : s.G = []) :
    Calls Tryd.prog 56 #[.pointer (some ⟨g, 0, none⟩)] w fun e w' => e = .returned (.tuple #[.agg #[.int .i64 0, .int .i64 0], .bool false]) ∧ RA F g b gm gn m n T s w' ∧ Below w.heap.size w w' := by
  have HR := Lib.hid h
  obtain ⟨q, a, vG, vS, vV, vO, vN, h, hq, ha⟩ := h
  have hr := h.rows.rG
  rw [hG] at hr
  obtain ⟨Ag, cg, rfl, _⟩ := hr.has
  clear hr hq ha hG
  have HX := Lib.hid h
  have HB1 := Lib.hid (new_alloc (Below.refl w.heap.size w) (.cells #[.int .i64 0, .int .i64 0] 98))
  have HE := Lib.hid (Blk.new w 98 #[.int .i64 0, .int .i64 0])
  have HX1 := Lib.hid (HX.out.next HB1.out)
  clear h
  obtain ⟨kz, ks⟩ := zero_of_info edgeInfoK
  have b3 := HX1.out.box.cell 3
  have n4 : IntKind.wrap .i64 (((([] : List (Int × Int)).length : Nat) : Int) - 1) = -1 := by rfl
  have n5 : IntKind.wrap .i64 (-1) = -1 := by rfl
  go_enter Tryd.func56, Tryd.ntmps56
  go_wp2
  try rw [Exit.noGoto_ret]
  exact bodyPost_ret (results_pairM Tryd.results56 rfl rfl (edge_loadK _ _ _ _ HE.out)) rfl ⟨rfl, HR.out.next HB1.out, HB1.out⟩
end Go.Proofs.YthjmojglcfmkmaaDoor

/- The landed walk: the last gate taken; vertices numbered. -/
namespace Go.Proofs.YthjmojglcfmkmaaDoor
open Go.RowKit

theorem WRows.popK {w : World} {F : Nat → Prop} {a b c f : Value} {s : WS} {g n cd : Nat} {l : List (Int × Int)} {p q : Int} (h : WRows w F 98 a b c (.slice (some ⟨g, 0, none⟩) (n + 1) cd) f s) (hG : s.G = l ++ [(p, q)]) (hn : l.length = n) : WRows w F 98 a b c (.slice (some ⟨g, 0, none⟩) n cd) f { s with G := l } := h.popG hG hn
set_option maxRecDepth 100000 in
set_option maxHeartbeats 1000000 in
theorem walkTakeYes_any (F : Nat → Prop) (g b gm gn m n : Nat) (T : List P3) (s : WS) (l : List (Int × Int)) (x y : Int) (w : World) (hF : ∀ k, w.heap.size ≤ k → F k) (h : RA F g b gm gn m n T s w) (hG : s.G = l ++ [(x, y)]) (hl : l.length ≤ 100000000) :
    Calls Tryd.prog 56 #[.pointer (some ⟨g, 0, none⟩)] w fun e w' => e = .returned (.tuple #[.agg #[.int .i64 x, .int .i64 y], .bool true]) ∧ RA F g b gm gn m n T { s with G := l } w' ∧ Chg F w w' := by
  obtain ⟨q, a, vG, vS, vV, vO, vN, h0, hq, ha⟩ := h
  have h := h0.among (F' := cutF F w.heap.size 2) (fun k hk hf => ⟨hf, by omega⟩)
  clear h0
  have HQ := Lib.hid hq
  have HA := Lib.hid ha
  obtain ⟨K, hK⟩ : ∃ K, l.length = K := ⟨_, rfl⟩
  have hGl : s.G.length = K + 1 := by rw [hG, List.length_append, hK]; rfl
  have hr := h.rows.rG
  rw [hGl] at hr
  obtain ⟨bg, cd, rfl, hcd⟩ := own2_form hr
  have HB1 := Lib.hid (new_alloc (Below.refl w.heap.size w) (.cells #[.int .i64 0, .int .i64 0] 98))
  have HB2 := Lib.hid (new_alloc HB1.out (.cells #[.int .i64 x, .int .i64 y] 98))
  have HX := Lib.hid h
  have HX1 := Lib.hid (h.next HB1.out)
  have HX2 := Lib.hid (h.next HB2.out)
  have hat := gate_at HX1.out.rows.rG hG hK
  have HFg : Hid (g < w.heap.size) := h.box.lt
  have hP := HX2.out.store (Chg.refl _ _) (HX2.out.rows.popG hG hK) 3 (.slice (some ⟨bg, 0, none⟩) K cd) rfl
  have HP := Lib.hid hP.1
  have HC2 := Lib.hid hP.2.2
  have HE0 := Lib.hid (Blk.new w 98 #[.int .i64 0, .int .i64 0])
  have HE2 : Hid (Blk ((w.alloc (.cells #[.int .i64 0, .int .i64 0] 98)).alloc (.cells #[.int .i64 x, .int .i64 y] 98)) (w.heap.size + 1) 98 #[.int .i64 x, .int .i64 y]) := blk_second
  have HW0 : Hid (w.heap.size ≤ w.heap.size) := Nat.le_refl _
  have HFr := Lib.hid hF
  have n4 : IntKind.wrap .i64 (((K + 1 : Nat) : Int) - 1) = (K : Int) := by rw [IntKind.wrap_i64]; omega
  have n5 : IntKind.wrap .i64 ((K : Int) + 1 - 1) = (K : Int) := by rw [IntKind.wrap_i64]; omega
  have n6 : IntKind.wrap .i64 (K : Int) = (K : Int) := by rw [IntKind.wrap_i64]; omega
  have n7 : K ≤ cd := by omega
  have n8 : (K : Int) < ((K + 1 : Nat) : Int) := by omega
  have n9 : (K : Int) < (K : Int) + 1 := by omega
  have n10 : decide ((K : Int) < 0) = false := decide_eq_false (by omega)
  obtain ⟨m7, m8⟩ := hat
  have b3 := HX1.out.box.cell 3
  have c3 := HX2.out.box.cell 3
  have f3 := HX2.out.box.frozen 3
  clear h hr hq ha hG hGl hK hF hP hcd hl
  have HEf : Hid (∀ u, Blk ((((w.alloc (.cells #[.int .i64 0, .int .i64 0] 98)).alloc (.cells #[.int .i64 x, .int .i64 y] 98)).setCell ⟨g, 3, none⟩ u)) w.heap.size 98 #[.int .i64 0, .int .i64 0]) := fun u => (HE0.out.alloc _).far (by have := HFg.out; show w.heap.size ≠ g; omega) u
  have HEg : Hid (∀ u, Blk ((((w.alloc (.cells #[.int .i64 0, .int .i64 0] 98)).alloc (.cells #[.int .i64 x, .int .i64 y] 98)).setCell ⟨g, 3, none⟩ u)) (w.heap.size + 1) 98 #[.int .i64 x, .int .i64 y]) := fun u => HE2.out.far (by have := HFg.out; show w.heap.size + 1 ≠ g; omega) u
  have e0 := (HEf.out (.slice (some ⟨bg, 0, none⟩) K cd)).cell 0
  have e1 := (HEf.out (.slice (some ⟨bg, 0, none⟩) K cd)).cell 1
  have p0 := (HEf.out (.slice (some ⟨bg, 0, none⟩) K cd)).frozen 0
  have p1 := (HEf.out (.slice (some ⟨bg, 0, none⟩) K cd)).frozen 1
  have g0 := (HEg.out (.slice (some ⟨bg, 0, none⟩) K cd)).cell 0
  have g1 := (HEg.out (.slice (some ⟨bg, 0, none⟩) K cd)).cell 1
  go_enter Tryd.func56, Tryd.ntmps56
  go_wp2
  try rw [Exit.noGoto_ret]
  have hno : ¬ cutF F w.heap.size 2 w.heap.size := fun e => e.2 ⟨Nat.le_refl _, by omega⟩
  have hfin := (HP.out.away (p := ⟨w.heap.size, 0, none⟩) hno (.int .i64 x)).away (p := ⟨w.heap.size, 1, none⟩) hno (.int .i64 y)
  have hc1 := (Chg.of_below (D := F) HB2.out).then_ (HC2.out.wide (D' := F) fun k _ e => e.1) (fun _ _ e => e)
  have hset : ∀ (V : World) (i : Nat) (u : Value), Chg F w V → Chg F w (V.setCell ⟨w.heap.size, i, none⟩ u) := fun V i u hV => hV.then_ (D' := F) ((Chg.of_grown (grown_set V ⟨w.heap.size, i, none⟩ u)).wide fun k _ e => by cases e; exact HFr.out _ (Nat.le_refl _)) (fun _ _ e => e)
  exact bodyPost_ret (results_pairM Tryd.results56 rfl rfl (edge_loadK _ _ _ _ (((HEf.out _).set_ 0 _).set_ 1 _))) rfl ⟨rfl, ⟨q, a, _, _, _, _, _, hfin.among (fun k _ e => e.1), HQ.out, HA.out⟩, hset _ _ _ (hset _ _ _ hc1)⟩
end Go.Proofs.YthjmojglcfmkmaaDoor

/- The landed walk: vertices numbered, a triangle met. -/
namespace Go.Proofs.YthjmojglcfmkmaaDoor
open Go.RowKit

theorem find_snoc {V : List Int} {x : Int} (h : x ∉ V) (v : Int) : findW (V ++ [x]) v = if v = x then (V.length : Int) else findW V v := by
  by_cases e : v = x
  · subst e
    rw [if_pos rfl, find_yes (List.mem_append_right _ (List.mem_singleton.2 rfl)), List.idxOf_append, if_neg h, List.idxOf_cons_self]
    simp
  · rw [if_neg e]
    by_cases hv : v ∈ V
    · exact find_app hv
    · rw [find_no hv]
      refine find_no fun hm => ?_
      rcases List.mem_append.1 hm with h1 | h1
      · exact hv h1
      · exact e (List.mem_singleton.1 h1)
set_option maxRecDepth 100000 in
set_option maxHeartbeats 2000000 in
theorem walkNumber_any (F : Nat → Prop) (g b gm gn m n : Nat) (T : List P3) (s : WS) (A : Option Addr) (k c : Nat) (l : List Int) (w : World) (hF : ∀ k, w.heap.size ≤ k → F k) (h : RA F g b gm gn m n T s w) (hl : ∀ W, Chg F w W → Has W A k c (intVs l)) (hk : k ≤ 1000)
    (hr : ∀ x ∈ l, 0 ≤ x ∧ x < n) (hnd : l.Nodup) (hno : ∀ x ∈ l, x ∉ s.V) (hv : s.V.length ≤ 100000000) :
    Calls Tryd.prog 69 #[.pointer (some ⟨g, 0, none⟩), .slice A k c] w (ROut F g b gm gn m n T { s with V := s.V ++ l } w) := by
  have HL : Hid (l.length = k) := by have := (hl w (Chg.refl _ _)).len; rw [intVs_len] at this; exact this
  have HH := Lib.hid hl
  have HFr := Lib.hid hF
  have HRg := Lib.hid hr
  have HNd := Lib.hid hnd
  have HNo := Lib.hid hno
  have HR0 : Hid (RA F g b gm gn m n T { s with V := s.V ++ l.take 0 } w) := by
    show RA _ _ _ _ _ _ _ _ _ _
    rw [List.take_zero, List.append_nil]
    exact h
  clear h hl hF hr hnd hno
  go_enter Tryd.func69, Tryd.ntmps69
  go_wp2
  go_loopg [8] k (fun g' s8 wx => ∃ i : Nat, i + g' = k ∧ s8 = .int .i64 (i : Int) ∧ Hid (RA F g b gm gn m n T { s with V := s.V ++ l.take i } wx) ∧ Hid (Chg F w wx))
  case atStart => exact ⟨0, by omega, rfl, HR0, Chg.refl _ _⟩
  case round =>
    clear HR0
    obtain ⟨i, hig, rfl, HR, HC⟩ := hrel
    by_cases hi : i < k
    · have ti : decide ((i : Int) < (k : Int)) = true := by simp; omega
      have i2 : (i : Int) < (k : Int) := by omega
      have hil : i < l.length := by rw [HL.out]; exact hi
      obtain ⟨bl, ol, rfl, _, hcl⟩ := (HH.out _ HC.out).spot (by omega)
      have c0 := hcl _ _ (intVs_at hil)
      have hx := HRg.out l[i] (List.getElem_mem hil)
      have HTk : Hid (l.take (i + 1) = l.take i ++ [l[i]]) := List.take_succ_eq_append_getElem hil
      have HNot : Hid (l[i] ∉ s.V ++ l.take i) := fun hm => by
        rcases List.mem_append.1 hm with h1 | h1
        · exact HNo.out _ (List.getElem_mem hil) h1
        · obtain ⟨j, hj, e⟩ := List.mem_take_iff_getElem.1 h1
          have := (List.getElem_inj HNd.out).1 e
          omega
      have hlen : (s.V ++ l.take i).length = s.V.length + i := by rw [List.length_append, List.length_take]; omega
      clear hcl
      generalize l[i] = x at *
      clear hil
      obtain ⟨v, rfl⟩ := Int.eq_ofNat_of_zero_le hx.1
      have hvn : v < n := by have := hx.2; omega
      have v2 : (v : Int) < (n : Int) := hx.2
      obtain ⟨q, a, vG, vS, vV, vO, vN, h, hq, ha⟩ := HR.out
      obtain ⟨K, hK⟩ : ∃ K, s.V.length + i = K := ⟨_, rfl⟩
      rw [hK] at hlen
      have hr0 := h.rows.rV
      have hrow : OwnK 1 wr 0 3 vV K (intVs (s.V ++ l.take i)) := by
        have h9 := hr0
        simp only at h9
        rw [hlen] at h9
        exact h9
      obtain ⟨Av, cv, rfl, _⟩ := hrow.has
      have HRow := Lib.hid hrow
      have HQ := Lib.hid hq
      have HA := Lib.hid ha
      have HLen := Lib.hid hlen
      have b2 := h.box.cell 2
      have b5 := h.box.cell 5
      have d2 := h.nm.cell v
      rw [rowA_at _ hvn] at d2
      have f2 := h.nm.frozen v
      have hset := h.setN v (K : Int)
      have HX2 : Hid (RAt F g b gm gn m n T q (putI a v (K : Int)) vG vS _ vO vN { s with V := s.V ++ l.take i } (wr.setCell ⟨gn, v, none⟩ (.int .i64 (K : Int))).drew) := hset.1.next (Below.refl _ _).drew
      have HC2 : Hid (Chg F w (wr.setCell ⟨gn, v, none⟩ (.int .i64 (K : Int))).drew) := (HC.out.then_ hset.2 (fun _ _ e => e)).then_ (Chg.of_below (D := F) (Below.refl _ _).drew) (fun _ _ e => e)
      have HR2 : Hid (OwnK 1 (wr.setCell ⟨gn, v, none⟩ (.int .i64 (K : Int))).drew 0 3 (.slice Av K cv) K (intVs (s.V ++ l.take i))) := by
        have h9 := HX2.out.rows.rV
        simp only at h9
        rw [hlen] at h9
        exact h9
      have ha1 : a v = a v := rfl
      generalize a v = old at d2
      clear h hr0 hrow hq ha hset hlen HR HC ha1
      go_wp2
      go_region
      generalize (wr.setCell ⟨gn, v, none⟩ (.int .i64 (K : Int))).drew = W2 at *
      have k5 := HX2.out.box.cell 5
      have HX3 := Lib.hid (HX2.out.next (new_alloc (Below.refl _ W2) (.cells #[.int .i64 (v : Int)] 3)))
      have HR3 : Hid (OwnK 1 (W2.alloc (.cells #[.int .i64 (v : Int)] 3)) 0 3 (.slice Av K cv) K (intVs (s.V ++ l.take i))) := HR2.out.alloc _
      have HN3 := Lib.hid (Has.new_at W2 #[.int .i64 (v : Int)] 3 _ rfl).toK
      have HF3 : Hid (∀ j, (W2.alloc (.cells #[.int .i64 (v : Int)] 3)).heap.size ≤ j → F j) := fun j hj => HFr.out j (Nat.le_trans HC2.out.size (Nat.le_trans (by simp) hj))
      have HC3 : Hid (Chg F w (W2.alloc (.cells #[.int .i64 (v : Int)] 3))) := HC2.out.then_ (Chg.of_below (D := F) (new_alloc (Below.refl _ _) _)) (fun _ _ e => e)
      have k6 := HX3.out.box.cell 5
      clear b2 b5 d2 f2 HX2 HR2 HC2
      go_wp2_with (at_builtin
                   (refine wpList_joinGK rfl _ _ 79 rfl elemMi.toK (by decide) 0 _ K (intVs (s.V ++ l.take i)) rfl HR3.out _ 1 1 (intVs [(v : Int)]) rfl HN3.out (intVs_one _) (by omega) (by decide) (Nat.zero_le _) ?_)
                   rintro v5 w5 ho hg hw
                   obtain ⟨A5, c5, rfl, _⟩ := OwnK.has ho
                   obtain ⟨hX, hB, hC⟩ := HX3.out.putV HF3.out (l := s.V ++ l.take i ++ [(v : Int)]) (by rw [List.length_append, HLen.out, intVs_app]; exact ho) hg hw
                   have HX5 := Lib.hid hX
                   have HC5 := Lib.hid hC
                   have f5 := hB.frozen 5
                   have k7 := hB.cell 5
                   clear hX hB hC ho hg hw)
      have HAn : Hid (∀ u : Nat, u < n → putI a v (K : Int) u = findW (s.V ++ l.take i ++ [(v : Int)]) (u : Int)) := fun u hu => by
        rw [find_snoc HNot.out, HLen.out]
        unfold putI
        by_cases e : u = v
        · rw [if_pos e, if_pos (by rw [e])]
        · rw [if_neg e, if_neg (show ¬ ((u : Int) = (v : Int)) from fun h => e (by omega))]
          exact HA.out u hu
      rw [List.append_assoc, ← HTk.out] at HX5 HAn
      go_roundg (gk - 1)
      case measure => omega
      case rel => exact ⟨i + 1, by omega, by go_num, ⟨q, _, _, _, _, _, _, HX5.out, HQ.out, HAn.out⟩, HC3.out.then_ HC5.out (fun _ _ e => e)⟩
    · have ti : decide ((i : Int) < (k : Int)) = false := by simp; omega
      have hT : l.take i = l := List.take_of_length_le (by rw [HL.out]; omega)
      rw [hT] at HR
      go_wp2
      go_end0
      exact ⟨rfl, HR.out, HC.out⟩
end Go.Proofs.YthjmojglcfmkmaaDoor
