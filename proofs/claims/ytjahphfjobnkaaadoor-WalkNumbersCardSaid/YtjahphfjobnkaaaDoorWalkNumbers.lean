/- Vertices by other numbers, and triangles behind the first one in another order, where there is one piece, have the same canon: whatever mesh and whatever bytes come in, WalkNumbers answers true. -/
import Derived.Test.YtjahphfjobnkaaaDoorKnown11
import Derived.Test.YtjahphfjobnkaaaDoorWalkOther
import Derived.Test.YtjahphfjobnkaaaDoorLawMesh
import Derived.Test.YtjahphfjobnkaaaDoorLawInts
import Derived.Test.YtjahphfjobnkaaaDoorLawLaid
import Derived.Deep.CutRange
import Derived.Deep.CutBlock
namespace Go.Proofs.YtjahphfjobnkaaaDoor.walkNumbers
open Go.ChangeShapes Go.WideShapes Go.ChangeAt Go.RowKit

theorem canon_le {T : List P3} {P : List P3} (h : T.length ≤ 60) : (canonP P T).length ≤ 100000 ∧ (walkF T).N.length ≤ 100000 := by
  have h1 := (walk_fine T T.length (Nat.le_refl _)).vv
  have h2 := (walk_fine T T.length (Nat.le_refl _)).ok.le
  have h3 := (walk_fine T T.length (Nat.le_refl _)).ok.len
  refine ⟨?_, ?_⟩
  · rw [canonP_is, List.length_map]
    show (walkTo T T.length).V.length ≤ _
    omega
  · show (walkTo T T.length).N.length ≤ _
    omega
theorem cntA_congr {f g : Nat → Nat} {n : Nat} (h : ∀ j, j < n → f j = g j) : cntA f n = cntA g n := by
  unfold cntA
  apply Array.ext
  · rw [Array.size_ofFn, Array.size_ofFn]
  · intro j h1 h2
    rw [Array.size_ofFn] at h1
    simp only [Array.getElem_ofFn]
    rw [h j h1]
/-- The first numbers, in their order. -/
def idN (i j : Nat) : Nat := if j < i then j else 0
theorem idN_next (n i : Nat) : cntA (updN (idN i) i i) n = cntA (idN (i + 1)) n := by
  refine cntA_congr fun j _ => ?_
  unfold updN idN
  by_cases h : j = i
  · rw [if_pos h, if_pos (by omega)]; exact h.symm
  · rw [if_neg h]
    by_cases h2 : j < i
    · rw [if_pos h2, if_pos (by omega)]
    · rw [if_neg h2, if_neg (by omega)]
theorem cnt_zero (n : Nat) : cntA (fun _ => 0) n = cntA (idN 0) n := cntA_congr fun j _ => by unfold idN; rw [if_neg (Nat.not_lt_zero _)]
/-- A row of numbers that a list tells. -/
def numA (l : List Nat) (n : Nat) : Array Value := cntA (fun j => l[j]?.getD 0) n
theorem idN_all (n : Nat) : cntA (idN n) n = numA (List.range n) n := cntA_congr fun j hj => by unfold idN; rw [if_pos hj, List.getElem?_range hj]; rfl
theorem numA_at (l : List Nat) {n v : Nat} (h : v < n) : (numA l n)[v]? = some (.int .i64 ((l[v]?.getD 0 : Nat) : Int)) := cntA_at _ h
theorem numA_swap {l : List Nat} {n a b : Nat} (hl : l.length = n) (ha : a < n) (hb : b < n) : ((numA l n).setIfInBounds a (.int .i64 ((l[b]?.getD 0 : Nat) : Int))).setIfInBounds b (.int .i64 ((l[a]?.getD 0 : Nat) : Int)) = numA (swapL l a b) n := by
  unfold numA
  rw [cntA_set, cntA_set]
  apply cntA_congr
  intro j _
  rw [swap_at hl ha hb]
  unfold updN
  rfl
theorem pts_set (l : List P3) (i : Nat) (x y z : Int) : (((p3Cells l).toArray.setIfInBounds (i * 3) (.int .i64 x)).setIfInBounds (i * 3 + 1) (.int .i64 y)).setIfInBounds (i * 3 + 2) (.int .i64 z) = (p3Cells (l.set i (x, y, z))).toArray := by
  rw [← p3Cells_set]
  simp
theorem run_makePts (n : Nat) (hn : n ≤ 100000) (w : World) : (Instr.makeSlice 22 (.int .i64 (n : Int)) (.int .i64 (n : Int))).run Tryd.prog w = .ok (.slice (some ⟨w.heap.size, 0, none⟩) n n) (w.alloc (.cells (p3Cells (List.replicate n (0, 0, 0))).toArray 49)) := by
  have h : (Tryd.prog.info? 49).map (fun i => (i.zero, i.size, i.bytes)) = some (some (.agg #[.int .i64 0, .int .i64 0, .int .i64 0]), 3, 24) := by kernel_rfl
  obtain ⟨i, h1, h2, h3, h4⟩ := info_parts h
  have hr := run_make (P := Tryd.prog) w _ _ i _ Tryd.underlying22 h1 h2 .i64 .i64 (n : Int) (n : Int) (by omega) (Int.le_refl _) (by rw [h4]; omega) (by omega)
  rw [Int.toNat_natCast, h3] at hr
  have e : madeCells (Value.agg #[.int .i64 0, .int .i64 0, .int .i64 0]).cells (n * 3) = (p3Cells (List.replicate n (0, 0, 0))).toArray := by
    apply Array.ext
    · simp [madeCells, p3Cells_len]
    · intro j h1 h2
      have hj : j < n * 3 := by simpa [madeCells] using h1
      have hq : j / 3 < (List.replicate n ((0 : Int), (0 : Int), (0 : Int))).length := by rw [List.length_replicate]; omega
      obtain ⟨a0, a1, a2⟩ := p3Cells_at hq
      have hc : ∀ v, (p3Cells (List.replicate n ((0 : Int), (0 : Int), (0 : Int))))[j]? = some v → v = .int .i64 0 := fun v hv => by
        rcases (show j = j / 3 * 3 ∨ j = j / 3 * 3 + 1 ∨ j = j / 3 * 3 + 2 by omega) with e | e | e
        · rw [e, a0, List.getElem_replicate] at hv; exact (Option.some.inj hv).symm
        · rw [e, a1, List.getElem_replicate] at hv; exact (Option.some.inj hv).symm
        · rw [e, a2, List.getElem_replicate] at hv; exact (Option.some.inj hv).symm
      have h2' : j < (p3Cells (List.replicate n ((0 : Int), (0 : Int), (0 : Int)))).length := by simpa using h2
      have hz := hc _ (List.getElem?_eq_getElem h2')
      have e2 : (p3Cells (List.replicate n ((0 : Int), (0 : Int), (0 : Int)))).toArray[j]'h2 = .int .i64 0 := (List.getElem_toArray ..).trans hz
      rw [e2]
      simp only [madeCells, Value.cells]
      rcases (show j % 3 = 0 ∨ j % 3 = 1 ∨ j % 3 = 2 by omega) with e | e | e <;> simp [e]
  rw [e] at hr
  exact hr
theorem sigN_nat {n : Nat} {l : List Nat} {a : Nat} (h : a < n) : sigN n l (a : Int) = ((l[a]?.getD 0 : Nat) : Int) := by
  unfold sigN
  rw [if_pos ⟨by omega, by omega⟩, Int.toNat_natCast]
theorem blk_hasK {w : World} {g n : Nat} {t : TypeId} {Q : List P3} (h : Blk w g t (p3Cells Q).toArray) (hn : Q.length = n) : HasK 3 w (some ⟨g, 0, none⟩) n n (p3Cells Q) := by
  refine ⟨by rw [p3Cells_len, hn], Nat.le_refl _, (fun h => by cases h), fun _ => ⟨g, 0, rfl, h.lt, fun j v hv => ?_⟩⟩
  rw [Nat.zero_add]
  exact (h.cell j).trans (List.getElem?_toArray.trans hv)
/-- Numbers, points by them, triangles by them, in rows of the call's own. -/
structure OtherW (V0 : World) (G GP GR n : Nat) (num : List Nat) (Q : List P3) (A6 : Option Addr) (c6 : Nat) (R : List P3) (k : Nat) (wx : World) : Prop where
  b0 : Blk wx G 3 (numA num n)
  b1 : Blk wx GP 49 (p3Cells Q).toArray
  b2 : Blk wx GR 25 #[.slice (some ⟨GP, 0, none⟩) n n, .slice A6 k c6]
  own : OwnK 3 wx (GR + 1) 50 (.slice A6 k c6) k (p3Cells R)
  bel : Below G V0 wx
  l1 : G < GP
  l2 : GP < GR
section
variable {V0 : World} {G GP GR n : Nat} {num : List Nat} {Q : List P3} {A6 : Option Addr} {c6 : Nat} {R : List P3} {k : Nat} {wx w' : World}
theorem OtherW.next (h : OtherW V0 G GP GR n num Q A6 c6 R k wx) (hb : Below wx.heap.size wx w') : OtherW V0 G GP GR n num Q A6 c6 R k w' :=
  ⟨h.b0.below hb h.b0.lt, h.b1.below hb h.b1.lt, h.b2.below hb h.b2.lt, OwnK.keep h.own hb, h.bel.trans (hb.mono (Nat.le_of_lt h.b0.lt)), h.l1, h.l2⟩
theorem OtherW.pt (h : OtherW V0 G GP GR n num Q A6 c6 R k wx) (v : Nat) (x y z : Int) : OtherW V0 G GP GR n num (Q.set v (x, y, z)) A6 c6 R k (((wx.setCell ⟨GP, v * 3, none⟩ (.int .i64 x)).setCell ⟨GP, v * 3 + 1, none⟩ (.int .i64 y)).setCell ⟨GP, v * 3 + 2, none⟩ (.int .i64 z)) := by
  have l1 := h.l1
  have l2 := h.l2
  have n0 : G ≠ GP := by omega
  have n2 : GR ≠ GP := by omega
  have hown : ∀ (V : World) (i : Nat) (u : Value), OwnK 3 V (GR + 1) 50 (.slice A6 k c6) k (p3Cells R) → OwnK 3 (V.setCell ⟨GP, i, none⟩ u) (GR + 1) 50 (.slice A6 k c6) k (p3Cells R) := fun V i u ho => ho.far (fun g c e => by have := (own3_lt ho g c e).1; show g ≠ GP; omega) u
  have h1 := ((h.b1.set_ (v * 3) (.int .i64 x)).set_ (v * 3 + 1) (.int .i64 y)).set_ (v * 3 + 2) (.int .i64 z)
  rw [pts_set] at h1
  exact ⟨((h.b0.far n0 _).far n0 _).far n0 _, h1, ((h.b2.far n2 _).far n2 _).far n2 _, hown _ _ _ (hown _ _ _ (hown _ _ _ h.own)), ((h.bel.setCell (p := ⟨GP, v * 3, none⟩) (Nat.le_of_lt l1) _).setCell (p := ⟨GP, v * 3 + 1, none⟩) (Nat.le_of_lt l1) _).setCell (p := ⟨GP, v * 3 + 2, none⟩) (Nat.le_of_lt l1) _, h.l1, h.l2⟩
theorem OtherW.put (h : OtherW V0 G GP GR n num Q A6 c6 R k wx) {t : P3} {A7 : Option Addr} {c7 : Nat} (ho : OwnK 3 w' (GR + 1) 50 (.slice A7 (k + 1) c7) (k + 1) (p3Cells R ++ p3Cells [t])) (hg : wx.grownBy w' (Value.slice A6 k c6).ownBlock) :
    OtherW V0 G GP GR n num Q A7 c7 (R ++ [t]) (k + 1) (w'.setCell ⟨GR, 1, none⟩ (.slice A7 (k + 1) c7)) ∧ Blk w' GR 25 #[.slice (some ⟨GP, 0, none⟩) n n, .slice A6 k c6] := by
  have l1 := h.l1
  have l2 := h.l2
  have hn : ∀ q, (Value.slice A6 k c6).ownBlock = some q → GR + 1 ≤ q := fun q e => (World.ownsRow.lt h.own q e).1
  have h2 : Blk w' GR 25 #[.slice (some ⟨GP, 0, none⟩) n n, .slice A6 k c6] := h.b2.grown hg (fun e => by have := hn _ e; omega)
  refine ⟨⟨(h.b0.grown hg (fun e => by have := hn _ e; omega)).far (by show G ≠ GR; omega) _, (h.b1.grown hg (fun e => by have := hn _ e; omega)).far (by show GP ≠ GR; omega) _, h2.set_ 1 _, ?_, ?_, h.l1, h.l2⟩, h2⟩
  · rw [p3Cells_app]
    exact ho.far (fun g c e => by have := (own3_lt ho g c e).1; show g ≠ GR; omega) _
  · exact (h.bel.trans (Chg.below (D := fun q => GR + 1 ≤ q) ((Chg.of_grown hg).wide fun q _ e => hn q e) (fun q e => by have h : GR + 1 ≤ q := e; omega) (Nat.le_of_lt h.b0.lt))).setCell (p := ⟨GR, 1, none⟩) (by show G ≤ GR; omega) _
end
set_option maxRecDepth 100000 in
set_option maxHeartbeats 6400000 in
theorem walk (A : Option Addr) (n c : Nat) (P : List P3) (B : Option Addr) (m d : Nat) (T : List P3) (Ab : Option Addr) (nb cb : Nat) (bs : List Nat) (W : World) (hbe : BehW W) (hp : HasK 3 W A n c (p3Cells P)) (ht : HasK 3 W B m d (p3Cells T)) (_ : ∀ x ∈ P, i64T x) (_ : ∀ x ∈ T, i64T x) (_ : n ≤ 9223372036854775807) (_ : m ≤ 9223372036854775807) (hh : Has W Ab nb cb (u8s bs)) (hb8 : ∀ x ∈ bs, x < 256) (hnb : nb ≤ 9223372036854775807) : Calls Tryd.prog 6 #[.agg #[.slice A n c, .slice B m d], .slice Ab nb cb] W fun e w' => e = .returned (.bool true) ∧ Below W.heap.size W w' := by
  have HK0 := Lib.hid (MeshAt.new W (.slice A n c) (.slice B m d))
  have m0 := HK0.out.b0.cell 0
  have m1 := HK0.out.b0.cell 1
  have HKn := Lib.hid (fun w (hW : Below W.heap.size W w) => known11 w (hbe.kept hW))
  by_cases hl : n ≤ 40 ∧ m ≤ 60
  · have HLo := Lib.hid (fun w => lawlong_any A n c B m d false w (by rw [decide_eq_false (by omega), decide_eq_false (by omega)]; rfl))
    obtain ⟨r, hr⟩ := check_total P T
    have HTm : Hid (T.length = m) := by have := ht.len; rw [p3Cells_len] at this; show _ = _; omega
    have HPn : Hid (P.length = n) := by have := hp.len; rw [p3Cells_len] at this; show _ = _; omega
    have HCk := Lib.hid (fun w (hW : Below W.heap.size W w) => ref10Check_any A n c P B m d T r w (hp.kept hW) (ht.kept hW) (by omega) (by omega) hr)
    by_cases h0 : r = 0
    · subst h0
      by_cases hm0 : m = 0
      · have tm : ((m : Int) == 0) = true := beq_iff_eq.2 (by omega)
        clear hp ht hr hl hm0 hh hb8 hnb hbe
        go_enter Tryd.func6, Tryd.ntmps6
        go_wp2_with fail
        refine (HLo.out _).mono ?_
        rintro e w1 ⟨rfl, hb1⟩
        have HK1 := Lib.hid (HK0.out.next hb1)
        clear hb1 HK0 m0 m1
        have m0 := HK1.out.b0.cell 0
        have m1 := HK1.out.b0.cell 1
        go_wp2_with fail
        refine (HCk.out _ HK1.out.bel).mono ?_
        rintro e w2 ⟨rfl, hb2⟩
        have HK2 := Lib.hid (HK1.out.next hb2)
        clear hb2 HK1 m0 m1
        have m0 := HK2.out.b0.cell 0
        have m1 := HK2.out.b0.cell 1
        go_wp2_with fail
        refine (HKn.out _ HK2.out.bel).mono ?_
        rintro e w9 ⟨rfl, hb9⟩
        go_wp2
        go_ret
        exact ⟨rfl, new_call HK2.out.bel hb9⟩
      · have tm : ((m : Int) == 0) = false := beq_eq_false_iff_ne.2 (by omega)
        obtain ⟨p, hpp⟩ := pieces_total T
        obtain ⟨_, hpl0, hnd, _⟩ := check_zero hr
        have HPr := Lib.hid (fun w (hW : Below W.heap.size W w) => ref10Pieces_any A n c B m d T p w (ht.kept hW) (by omega) hnd hpp)
        have hpl : p.length ≤ 60 := by rw [hpp.len, HTm.out]; exact hl.2
        have HAll : Hid (∀ i, ∀ hi : i < T.length, triM n T[i] = true) := fun i hi => by
          unfold plainM at hpl0
          rw [Bool.and_eq_true] at hpl0
          rw [← HPn.out]
          exact List.all_eq_true.1 hpl0.2 _ (List.getElem_mem hi)
        have HOt := Lib.hid (fun num (h1 : ∀ (i : Nat) (hi : i < p.length), p[i] = 0) (hN : NumOk P.length num) => other_canon (l := bs) hr (by rw [HTm.out]; omega) hpp h1 hN)
        have HCa := Lib.hid (fun w (hW : Below W.heap.size W w) => walkCanon_any A n c P B m d T 0 w (hbe.kept hW) (hp.kept hW) (ht.kept hW) (by omega) (by omega) hr)
        rw [if_pos rfl, if_pos rfl] at HCa
        have HCo := Lib.hid (fun w A9 c9 B9 d9 P9 T9 (hW : Below W.heap.size W w) (h1 : HasK 3 w A9 n c9 (p3Cells P9)) (h2 : HasK 3 w B9 m d9 (p3Cells T9)) (h3 : CheckIs P9 T9 0) => walkCanon_any A9 n c9 P9 B9 m d9 T9 0 w (hbe.kept hW) h1 h2 (by omega) (by omega) h3)
        have HSz := Lib.hid (canon_le (P := P) (T := T) (by have := HTm.out; omega))
        have HSs : Hid (∀ w A2 c2 B2 d2 A3 c3 B3 d3, HasK 3 w A2 (canonP P T).length c2 (p3Cells (canonP P T)) → HasK 3 w B2 (walkF T).N.length d2 (p3Cells (walkF T).N) → HasK 3 w A3 (canonP P T).length c3 (p3Cells (canonP P T)) → HasK 3 w B3 (walkF T).N.length d3 (p3Cells (walkF T).N) → Calls Tryd.prog 18 #[.agg #[.slice A2 (canonP P T).length c2, .slice B2 (walkF T).N.length d2], .agg #[.slice A3 (canonP P T).length c3, .slice B3 (walkF T).N.length d3]] w fun e w' => e = .returned (.bool true) ∧ Below w.heap.size w w') := fun w A2 c2 B2 d2 A3 c3 B3 d3 h1 h2 h3 h4 => by
          have := ref10Same_any A2 _ c2 (canonP P T) B2 _ d2 (walkF T).N A3 _ c3 (canonP P T) B3 _ d3 (walkF T).N w h1 h2 h3 h4 HSz.out.1 HSz.out.2 HSz.out.1 HSz.out.2
          rw [decide_eq_true ⟨rfl, rfl⟩] at this
          exact this
        have HP := Lib.hid (fun w (hW : Below W.heap.size W w) => hp.kept hW)
        have HT := Lib.hid (fun w (hW : Below W.heap.size W w) => ht.kept hW)
        have HBy := Lib.hid (fun w (hW : Below W.heap.size W w) => hh.kept hW)
        have HBl : Hid (bs.length = nb) := by have := hh.len; rw [u8s_len] at this; exact this
        have HB8 := Lib.hid hb8
        have hn0 : 0 < n := by
          have h1 : 0 < T.length := by rw [HTm.out]; omega
          have h2 := triM_iff.1 (HAll.out 0 h1)
          omega
        have hmk := fun w => run_makeCnt n (by omega) w
        have hmp := fun w => run_makePts n (by omega) w
        have hmz := zeroMesh
        obtain ⟨mz, ms⟩ := zero_of_info meshInfo
        obtain ⟨pz, ps⟩ := zero_of_info p3Info
        obtain ⟨tz, ts⟩ := zero_of_info t3Info
        have hn40 := hl.1
        have hm60 := hl.2
        have hnz : ¬ (n : Int) = 0 := by omega
        have hnz2 : ¬ n = 0 := by omega
        clear hp ht hr hl hh hb8 hbe hnd hpl0 hpp
        go_enter Tryd.func6, Tryd.ntmps6
        go_wp2_with fail
        refine (HLo.out _).mono ?_
        rintro e w1 ⟨rfl, hb1⟩
        have HK1 := Lib.hid (HK0.out.next hb1)
        clear hb1 HK0 m0 m1
        have m0 := HK1.out.b0.cell 0
        have m1 := HK1.out.b0.cell 1
        go_wp2_with fail
        refine (HCk.out _ HK1.out.bel).mono ?_
        rintro e w2 ⟨rfl, hb2⟩
        have HK2 := Lib.hid (HK1.out.next hb2)
        clear hb2 HK1 m0 m1
        have m0 := HK2.out.b0.cell 0
        have m1 := HK2.out.b0.cell 1
        go_wp2_with fail
        refine (HPr.out _ HK2.out.bel).mono ?_
        rintro e w3 ⟨A3, c3, rfl, hh3, hb3, _⟩
        have HK3 := Lib.hid (HK2.out.next hb3)
        have HP3 := Lib.hid hh3
        clear hb3 hh3 HK2 m0 m1 HPr HCk
        go_wp2
        go_loopg [6] p.length (fun g s6 wx => ∃ i : Nat, i + g = p.length ∧ s6 = .int .i64 (i : Int) ∧ w3 = wx ∧ Hid (∀ j, ∀ hj : j < p.length, j < i → p[j] = 0))
        case atStart => exact ⟨0, by omega, rfl, rfl, fun j _ hj => absurd hj (by omega)⟩
        case round =>
          obtain ⟨i, hig, rfl, rfl, HZ⟩ := hrel
          by_cases hi : i < p.length
          · have ti : decide ((i : Int) < (p.length : Int)) = true := by simp; omega
            have i2 : (i : Int) < (p.length : Int) := by omega
            obtain ⟨b, off, rfl, _, hc⟩ := HP3.out.spot (by omega)
            have c0 := hc i _ (natVs_at hi)
            by_cases hk : p[i] = 0
            · have HZ2 : Hid (∀ j, ∀ hj : j < p.length, j < i + 1 → p[j] = 0) := fun j hj hji => by
                by_cases e : j = i
                · subst e; exact hk
                · exact HZ.out j hj (by omega)
              rw [hk] at c0
              clear hc hk
              go_wp2
              go_roundg (gk - 1)
              case measure => omega
              case rel => exact ⟨i + 1, by omega, by go_num, rfl, HZ2⟩
            · have hkp : 0 < p[i] := Nat.pos_of_ne_zero hk
              generalize p[i] = k at *
              have tk : decide (0 < k) = true := decide_eq_true hkp
              have tk2 : decide ((0 : Int) < (k : Int)) = true := decide_eq_true (by omega)
              clear hc hk
              go_wp2_with fail
              refine (HKn.out _ HK3.out.bel).mono ?_
              rintro e w9 ⟨rfl, hb9⟩
              go_wp2
              go_ret
              exact ⟨rfl, new_call HK3.out.bel hb9⟩
          · have ti : decide ((i : Int) < (p.length : Int)) = false := by simp; omega
            have HZa : Hid (∀ (i : Nat) (hi : i < p.length), p[i] = 0) := fun j hj => HZ.out j hj (by omega)
            have m0 := HK3.out.b0.cell 0
            have m1 := HK3.out.b0.cell 1
            clear HZ HP3
            have HC3 := Lib.hid (Blk.new w3 3 (cntA (fun _ => 0) n))
            rw [cnt_zero] at HC3 hmk
            have HB3 := Lib.hid (new_alloc (Below.refl w3.heap.size w3) (.cells (cntA (idN 0) n) 3))
            have HMe : Hid (∀ w, Below w3.heap.size w3 w → w.cell? ⟨W.heap.size, 0, none⟩ = some (.slice A n c) ∧ w.cell? ⟨W.heap.size, 1, none⟩ = some (.slice B m d)) := fun w hw => ⟨(HK3.out.next hw).b0.cell 0, (HK3.out.next hw).b0.cell 1⟩
            go_wp2
            generalize w3.alloc (.cells (cntA (idN 0) n) 3) = W4 at *
            clear m0 m1 hmk
            go_loopg [9] n (fun g s9 wx => ∃ i : Nat, i + g = n ∧ s9 = .int .i64 (i : Int) ∧ Hid (Blk wx w3.heap.size 3 (cntA (idN i) n)) ∧ Hid (Below w3.heap.size w3 wx))
            case atStart => exact ⟨0, by omega, rfl, HC3, HB3⟩
            case round =>
              clear HC3 HB3
              obtain ⟨i, hig, rfl, HC, HB⟩ := hrel
              by_cases hi : i < n
              · have ti : decide ((i : Int) < (n : Int)) = true := by simp; omega
                have i2 : (i : Int) < (n : Int) := by omega
                have f0 := HC.out.cell i
                rw [cntA_at _ hi] at f0
                have f1 := HC.out.frozen i
                have HC2 : Hid (Blk (wr.setCell ⟨w3.heap.size, i, none⟩ (.int .i64 (i : Int))) w3.heap.size 3 (cntA (idN (i + 1)) n)) := by
                  have h := HC.out.set_ i (.int .i64 ((i : Nat) : Int))
                  rw [cntA_set, idN_next] at h
                  exact h
                have HB2 : Hid (Below w3.heap.size w3 (wr.setCell ⟨w3.heap.size, i, none⟩ (.int .i64 (i : Int)))) := HB.out.setCell (p := ⟨w3.heap.size, i, none⟩) (Nat.le_refl _) _
                clear HC HB
                go_wp2
                go_roundg (gk - 1)
                case measure => omega
                case rel => exact ⟨i + 1, by omega, by go_num, HC2, HB2⟩
              · have ti : decide ((i : Int) < (n : Int)) = false := by simp; omega
                obtain rfl : n = i := by omega
                rw [idN_all] at HC
                have HMB : Hid (∀ w, Below w3.heap.size w3 w → Below W.heap.size W w) := fun w hw => (HK3.out.next hw).bel
                go_upto_block 4 with fail
                go_cut [10, 11, 12, 13] from 65 to 102 (fun _ _ _ _ wx => ∃ num, Hid (NumOk n num) ∧ Hid (Blk wx w3.heap.size 3 (numA num n)) ∧ Hid (Below w3.heap.size w3 wx))
                case first =>
                  as_aux_lemma =>
                    go_wp2_with fail
                    go_loopg [10] 60 (fun g s10 wx => ∃ k : Nat, k + g = 60 ∧ s10 = .int .i64 (k : Int) ∧ k ≤ nb ∧ Hid (Blk wx w3.heap.size 3 (numA (numK n bs k) n)) ∧ Hid (Below w3.heap.size w3 wx))
                    case atStart => exact ⟨0, by omega, rfl, Nat.zero_le _, HC, HB⟩
                    case round =>
                      clear HC HB
                      obtain ⟨k, hkg, rfl, hkn, HC, HB⟩ := hrel
                      by_cases hk1 : k < nb
                      · have t1 : decide ((k : Int) < (nb : Int)) = true := by simp; omega
                        have k2 : (k : Int) < (nb : Int) := by omega
                        by_cases hk2 : k < 60
                        · have t2 : decide ((k : Int) < 60) = true := by simp; omega
                          have hkl : k < bs.length := by rw [HBl.out]; exact hk1
                          have hq := HB8.out _ (List.getElem_mem hkl)
                          obtain ⟨b, off, rfl, _, hc⟩ := (HBy.out _ (HK3.out.next HB.out).bel).spot (by omega)
                          have c0 := hc k _ (u8s_at hkl)
                          have hst : numK n bs (k + 1) = swapL (numK n bs k) (bs[k] % n) ((bs[k] % n + 1 + k) % n) := by
                            show swapL _ (bs[k]?.getD 0 % n) ((bs[k]?.getD 0 % n + 1 + k) % n) = _
                            rw [List.getElem?_eq_getElem hkl, Option.getD_some]
                          have hln := (numK_ok hn0 bs k).1
                          generalize bs[k] = q at *
                          have x0 : IntKind.wrap .i64 (q : Int) = (q : Int) := by rw [IntKind.wrap_i64]; omega
                          have r1 : ((q : Int)).tmod (n : Int) = ((q % n : Nat) : Int) := rfl
                          have ha : q % n < n := Nat.mod_lt _ hn0
                          generalize q % n = a at *
                          have x1 : IntKind.wrap .i64 (a : Int) = (a : Int) := by rw [IntKind.wrap_i64]; omega
                          have x2 : IntKind.wrap .i64 ((a : Int) + 1) = (a : Int) + 1 := by rw [IntKind.wrap_i64]; omega
                          have x3 : IntKind.wrap .i64 ((a : Int) + 1 + (k : Int)) = (a : Int) + 1 + (k : Int) := by rw [IntKind.wrap_i64]; omega
                          have r2 : ((a : Int) + 1 + (k : Int)).tmod (n : Int) = (((a + 1 + k) % n : Nat) : Int) := rfl
                          have hbn : (a + 1 + k) % n < n := Nat.mod_lt _ hn0
                          generalize (a + 1 + k) % n = e at *
                          have x4 : IntKind.wrap .i64 (e : Int) = (e : Int) := by rw [IntKind.wrap_i64]; omega
                          have a2 : (a : Int) < (n : Int) := by omega
                          have e2 : (e : Int) < (n : Int) := by omega
                          have f0 := (HC.out.cell a).trans (numA_at _ ha)
                          have f1 := (HC.out.cell e).trans (numA_at _ hbn)
                          have f2 := HC.out.frozen a
                          have HD1 := Lib.hid (HC.out.set_ a (.int .i64 (((numK n bs k)[e]?.getD 0 : Nat) : Int)))
                          have g1 := HD1.out.frozen e
                          obtain ⟨z, g2⟩ : ∃ z, (wr.setCell ⟨w3.heap.size, a, none⟩ (.int .i64 (((numK n bs k)[e]?.getD 0 : Nat) : Int))).cell? ⟨w3.heap.size, e, none⟩ = some z := ⟨_, (HD1.out.cell e).trans (Array.getElem?_eq_getElem (by unfold numA cntA; simpa using hbn))⟩
                          have HD2 : Hid (Blk ((wr.setCell ⟨w3.heap.size, a, none⟩ (.int .i64 (((numK n bs k)[e]?.getD 0 : Nat) : Int))).setCell ⟨w3.heap.size, e, none⟩ (.int .i64 (((numK n bs k)[a]?.getD 0 : Nat) : Int))) w3.heap.size 3 (numA (numK n bs (k + 1)) n)) := by
                            have h := HD1.out.set_ e (.int .i64 (((numK n bs k)[a]?.getD 0 : Nat) : Int))
                            rw [numA_swap hln ha hbn, ← hst] at h
                            exact h
                          have HB2 : Hid (Below w3.heap.size w3 ((wr.setCell ⟨w3.heap.size, a, none⟩ (.int .i64 (((numK n bs k)[e]?.getD 0 : Nat) : Int))).setCell ⟨w3.heap.size, e, none⟩ (.int .i64 (((numK n bs k)[a]?.getD 0 : Nat) : Int)))) := (HB.out.setCell (p := ⟨w3.heap.size, a, none⟩) (Nat.le_refl _) _).setCell (p := ⟨w3.heap.size, e, none⟩) (Nat.le_refl _) _
                          clear HC HB HD1 hst hc
                          generalize (numK n bs k)[e]?.getD 0 = u at *
                          generalize (numK n bs k)[a]?.getD 0 = v at *
                          go_wp2
                          go_roundg (gk - 1)
                          case measure => omega
                          case rel => exact ⟨k + 1, by omega, by go_num, hk1, HD2, HB2⟩

                        · have t2 : decide ((k : Int) < 60) = false := by simp; omega
                          have HNm := Lib.hid (numK_ok hn0 bs k)
                          go_wp2_with (with_reducible fail)
                          go_meet
                          case rel => exact ⟨numK n bs k, HNm, HC, HB⟩
                      · have t1 : decide ((k : Int) < (nb : Int)) = false := by simp; omega
                        have HNm := Lib.hid (numK_ok hn0 bs k)
                        go_wp2_with (with_reducible fail)
                        go_meet
                        case rel => exact ⟨numK n bs k, HNm, HC, HB⟩
                case rest =>
                  as_aux_lemma =>
                    clear HC HB
                    obtain ⟨num, HNm, HC, HB⟩ := hcut
                    generalize wc = wr at *
                    have HX0 : Hid (OtherW w3 w3.heap.size wr.heap.size (wr.heap.size + 1) n num (ptsTo n P num 0) none 0 [] 0 ((wr.alloc (.cells (p3Cells (List.replicate n (0, 0, 0))).toArray 49)).alloc (.cells #[.slice (some ⟨wr.heap.size, 0, none⟩) n n, .slice none 0 0] 25))) := by
                      refine ⟨(HC.out.alloc _).alloc _, (Blk.new wr _ _).alloc _, ?_, OwnK.nil _ _ _ _, new_alloc (new_alloc HB.out _) _, HC.out.lt, Nat.lt_succ_self _⟩
                      have h := Blk.new (wr.alloc (.cells (p3Cells (List.replicate n (0, 0, 0))).toArray 49)) 25 #[.slice (some ⟨wr.heap.size, 0, none⟩) n n, .slice none 0 0]
                      rw [show (wr.alloc (.cells (p3Cells (List.replicate n (0, 0, 0))).toArray 49)).heap.size = wr.heap.size + 1 from Array.size_push _] at h
                      exact h
                    clear HC HB
                    go_wp2
                    clear hmp hmz
                    generalize (wr.alloc (.cells (p3Cells (List.replicate n (0, 0, 0))).toArray 49)).alloc (.cells #[.slice (some ⟨wr.heap.size, 0, none⟩) n n, .slice none 0 0] 25) = W6 at *
                    generalize wr.heap.size = GP at *
                    go_loopg [15] n (fun g s15 wx => ∃ j : Nat, j + g = n ∧ s15 = .int .i64 (j : Int) ∧ Hid (OtherW w3 w3.heap.size GP (GP + 1) n num (ptsTo n P num j) none 0 [] 0 wx))
                    case atStart => exact ⟨0, by omega, rfl, HX0⟩
                    case round =>
                      clear HX0
                      obtain ⟨j, hjg, rfl, HX⟩ := hrel
                      obtain ⟨m0, m1⟩ := HMe.out _ HX.out.bel
                      by_cases hj : j < n
                      · have tj : decide ((j : Int) < (n : Int)) = true := by simp; omega
                        have j2 : (j : Int) < (n : Int) := by omega
                        have hjP : j < P.length := by rw [HPn.out]; exact hj
                        obtain ⟨b, off, rfl, _, _⟩ := (HP.out _ (HMB.out _ HX.out.bel)).spot (by omega)
                        obtain ⟨c0, c1, c2⟩ := p3_at (HP.out _ (HMB.out _ HX.out.bel)) hjP
                        have f0 := (HX.out.b0.cell j).trans (numA_at _ hj)
                        have hv := HNm.out.lt j hj
                        have r0 := HX.out.b2.cell 0
                        have HX2 := Lib.hid (HX.out.pt (num[j]?.getD 0) P[j].1 P[j].2.1 P[j].2.2)
                        have hst : (ptsTo n P num j).set (num[j]?.getD 0) (P[j].1, P[j].2.1, P[j].2.2) = ptsTo n P num (j + 1) := by
                          show _ = (ptsTo n P num j).set (num[j]?.getD 0) (P[j]?.getD (0, 0, 0))
                          rw [List.getElem?_eq_getElem hjP, Option.getD_some]
                        rw [hst] at HX2
                        obtain ⟨a0, a1, a2⟩ := p3Cells_at (l := ptsTo n P num j) (i := num[j]?.getD 0) (by rw [ptsTo_len]; exact hv)
                        have g0 := (HX.out.b1.cell (num[j]?.getD 0 * 3)).trans (List.getElem?_toArray.trans a0)
                        have g1 := (HX.out.b1.cell (num[j]?.getD 0 * 3 + 1)).trans (List.getElem?_toArray.trans a1)
                        have g2 := (HX.out.b1.cell (num[j]?.getD 0 * 3 + 2)).trans (List.getElem?_toArray.trans a2)
                        have z0 := HX.out.b1.frozen (num[j]?.getD 0 * 3)
                        have z1 := HX.out.b1.frozen (num[j]?.getD 0 * 3 + 1)
                        have z2 := HX.out.b1.frozen (num[j]?.getD 0 * 3 + 2)
                        clear a0 a1 a2 hst HX
                        generalize num[j]?.getD 0 = v at *
                        generalize P[j] = pt at *
                        obtain ⟨x, y, z⟩ := pt
                        simp only at c0 c1 c2 HX2
                        have v2 : (v : Int) < (n : Int) := by omega
                        go_wp2
                        go_region
                        all_goals
                          have HX3 := Lib.hid (HX2.out.next (Below.refl _ _).drew)
                          clear HX2 m0 m1 c0 c1 c2 f0 r0 g0 g1 g2 z0 z1 z2
                          go_wp2
                          go_roundg (gk - 1)
                          case measure => omega
                          case rel => exact ⟨j + 1, by omega, by go_num, HX3⟩
                      · have tj : decide ((j : Int) < (n : Int)) = false := by simp; omega
                        obtain rfl : n = j := by omega
                        go_wp2
                        go_loopg [16] m (fun g s16 wx => ∃ (i : Nat) (A6 : Option Addr) (c6 : Nat), i + g = m ∧ s16 = .int .i64 (i : Int) ∧ Hid (OtherW w3 w3.heap.size GP (GP + 1) n num (ptsTo n P num n) A6 c6 (trisK n T num bs i) i wx))
                        case atStart => exact ⟨0, none, 0, by omega, rfl, HX⟩
                        case round =>
                          clear HX m0 m1
                          obtain ⟨i, A6, c6, hig, rfl, HX⟩ := hrel
                          obtain ⟨m0, m1⟩ := HMe.out _ HX.out.bel
                          by_cases hi : i < m
                          · have ti : decide ((i : Int) < (m : Int)) = true := by simp; omega
                            have i2 : (i : Int) < (m : Int) := by omega
                            have m2 : (0 : Int) < (m : Int) := by omega
                            have h0T : 0 < T.length := by rw [HTm.out]; omega
                            obtain ⟨b, off, rfl, _, _⟩ := (HT.out _ (HMB.out _ HX.out.bel)).spot (by omega)
                            obtain ⟨c0, c1, c2⟩ := p3_at (HT.out _ (HMB.out _ HX.out.bel)) h0T
                            simp only [Nat.zero_mul, Nat.add_zero] at c0 c1 c2
                            have HA1 := Lib.hid (HX.out.next (new_alloc (Below.refl _ _) (.cells #[.int .i64 T[0].1, .int .i64 T[0].2.1, .int .i64 T[0].2.2] 50)))
                            have HH1 := Lib.hid (Blk.new wr 50 #[.int .i64 T[0].1, .int .i64 T[0].2.1, .int .i64 T[0].2.2])
                            have d0 := HH1.out.cell 0
                            have d1 := HH1.out.cell 1
                            have d2 := HH1.out.cell 2
                            have z0 := HH1.out.frozen 0
                            have z1 := HH1.out.frozen 1
                            have z2 := HH1.out.frozen 2
                            obtain ⟨n0, n1⟩ := HMe.out _ HA1.out.bel
                            obtain ⟨Q, hqT, hbk⟩ : ∃ Q, ∃ _ : Q < T.length, backI T.length i = Q := ⟨_, backI_lt (by rw [HTm.out]; exact hi), rfl⟩
                            go_upto_if 135 with (with_reducible fail)
                            go_cut [] from 123 to 191 (fun wx => wx = wr.alloc (.cells #[.int .i64 T[Q].1, .int .i64 T[Q].2.1, .int .i64 T[Q].2.2] 50))
                            case first =>
                              as_aux_lemma =>
                                by_cases hz : i = 0
                                · have tz : decide (0 < i) = false := by simp; omega
                                  have tz2 : decide ((0 : Int) < (i : Int)) = false := by simp; omega
                                  have hQ : Q = 0 := by rw [← hbk]; unfold backI; rw [if_pos hz]
                                  subst hQ
                                  have tz3 : ¬ 0 < i := by omega
                                  clear hz hbk
                                  (first | rw [tz2] | rw [tz] | skip)
                                  go_wp2_with (with_reducible fail)
                                  go_meet
                                  case rel => exact rfl
                                · have tz : decide (0 < i) = true := by simp; omega
                                  have tz2 : decide ((0 : Int) < (i : Int)) = true := by simp; omega
                                  have hQ : m - i = Q := by rw [← hbk]; unfold backI; rw [if_neg hz, HTm.out]
                                  have x1 : IntKind.wrap .i64 ((m : Int) - (i : Int)) = (Q : Int) := by rw [IntKind.wrap_i64]; omega
                                  have q2 : (Q : Int) < (m : Int) := by have := HTm.out; omega
                                  obtain ⟨e0, e1, e2⟩ := p3_at (HT.out _ (HMB.out _ HA1.out.bel)) hqT
                                  have tz3 : 0 < i := by omega
                                  clear hz hbk hQ
                                  (first | rw [tz2] | rw [tz] | skip)
                                  go_wp2_with (with_reducible fail)
                                  go_meet
                                  case rel => exact rfl

                            case rest =>
                              as_aux_lemma =>
                                subst hcut
                                have HBk : Hid (T[backI T.length i]?.getD (0, 0, 0) = T[Q]) := by
                                  show T[backI T.length i]?.getD (0, 0, 0) = T[Q]
                                  rw [hbk, List.getElem?_eq_getElem hqT, Option.getD_some]
                                have HA2 := Lib.hid (HX.out.next (new_alloc (Below.refl _ _) (.cells #[.int .i64 T[Q].1, .int .i64 T[Q].2.1, .int .i64 T[Q].2.2] 50)))
                                have HH2 := Lib.hid (Blk.new wr 50 #[.int .i64 T[Q].1, .int .i64 T[Q].2.1, .int .i64 T[Q].2.2])
                                obtain ⟨_, _, _, ⟨p0, p1⟩, ⟨p2, p3⟩, ⟨p4, p5⟩⟩ := triM_iff.1 (HAll.out Q hqT)
                                clear HA1 HH1 d0 d1 d2 z0 z1 z2 c0 c1 c2 n0 n1 m0 m1 hbk
                                generalize T[Q] = t at *
                                obtain ⟨x, y, z⟩ := t
                                simp only at p0 p1 p2 p3 p4 p5 HA2 HH2
                                obtain ⟨xa, rfl⟩ := Int.eq_ofNat_of_zero_le p0
                                obtain ⟨ya, rfl⟩ := Int.eq_ofNat_of_zero_le p2
                                obtain ⟨za, rfl⟩ := Int.eq_ofNat_of_zero_le p4
                                have hxa : xa < n := by omega
                                have hya : ya < n := by omega
                                have hza : za < n := by omega
                                have HTk : Hid (triK n T num bs i = if oddB bs i then ((((num[ya]?.getD 0 : Nat) : Int), ((num[za]?.getD 0 : Nat) : Int), ((num[xa]?.getD 0 : Nat) : Int)) : P3) else (((num[xa]?.getD 0 : Nat) : Int), ((num[ya]?.getD 0 : Nat) : Int), ((num[za]?.getD 0 : Nat) : Int))) := by
                                  show _ = _
                                  unfold triK
                                  rw [HBk.out]
                                  unfold mapT
                                  rw [sigN_nat hxa, sigN_nat hya, sigN_nat hza]
                                have HK9 := Lib.hid (trisK_next n T num bs i)
                                have f0 := (HA2.out.b0.cell xa).trans (numA_at _ hxa)
                                have f1 := (HA2.out.b0.cell ya).trans (numA_at _ hya)
                                have f2 := (HA2.out.b0.cell za).trans (numA_at _ hza)
                                have k0 := HH2.out.cell 0
                                have k1 := HH2.out.cell 1
                                have k2 := HH2.out.cell 2
                                have xa2 : (xa : Int) < (n : Int) := by omega
                                have ya2 : (ya : Int) < (n : Int) := by omega
                                have za2 : (za : Int) < (n : Int) := by omega
                                have HA3 := Lib.hid (HA2.out.next (new_alloc (Below.refl _ _) (.cells #[.int .i64 0, .int .i64 0, .int .i64 0] 50)))
                                have HH3 := Lib.hid (HH2.out.alloc (.cells #[.int .i64 0, .int .i64 0, .int .i64 0] 50))
                                have f0' := (HA3.out.b0.cell xa).trans (numA_at _ hxa)
                                have f1' := (HA3.out.b0.cell ya).trans (numA_at _ hya)
                                have f2' := (HA3.out.b0.cell za).trans (numA_at _ hza)
                                have k0' := HH3.out.cell 0
                                have k1' := HH3.out.cell 1
                                have k2' := HH3.out.cell 2
                                clear HBk HX HH2 HH3 HA3 p0 p1 p2 p3 p4 p5
                                generalize num[xa]?.getD 0 = ua at *
                                generalize num[ya]?.getD 0 = ub at *
                                generalize num[za]?.getD 0 = uc at *
                                generalize triK n T num bs i = tk at *
                                generalize wr.alloc (.cells #[.int .i64 (xa : Int), .int .i64 (ya : Int), .int .i64 (za : Int)] 50) = W2 at *
                                go_upto_region 34 with (with_reducible fail)
                                go_cut [18] from 123 to 191 (fun s18 wx => s18 = .pointer (some ⟨W2.heap.size, 0, none⟩) ∧ wx = (W2.alloc (.cells #[.int .i64 (ua : Int), .int .i64 (ub : Int), .int .i64 (uc : Int)] 50)).drew)
                                case first =>
                                  as_aux_lemma =>
                                    clear HCa HCo HSs HOt HKn HLo HBy HPn HTm HAll HTk HK9 HSz HB8 HBl HZa HNm HMB HMe HP HT HA2
                                    go_region
                                    all_goals
                                      go_wp2_with (with_reducible fail)
                                      go_meet
                                      case rel => exact ⟨rfl, rfl⟩

                                case rest =>
                                  as_aux_lemma =>
                                    obtain ⟨rfl, rfl⟩ := hcut
                                    clear f0 f1 f2 k0 k1 k2 f0' f1' f2' k0' k1' k2' xa2 ya2 za2
                                    have HX2 := HA2
                                    have HBf : Hid (Below W2.heap.size W2 (W2.alloc (.cells #[.int .i64 (ua : Int), .int .i64 (ub : Int), .int .i64 (uc : Int)] 50)).drew) := (new_alloc (Below.refl _ _) _).drew
                                    have HUf : Hid (Blk (W2.alloc (.cells #[.int .i64 (ua : Int), .int .i64 (ub : Int), .int .i64 (uc : Int)] 50)).drew W2.heap.size 50 #[.int .i64 (ua : Int), .int .i64 (ub : Int), .int .i64 (uc : Int)]) := by
                                      have hb := Blk.new W2 50 #[.int .i64 (ua : Int), .int .i64 (ub : Int), .int .i64 (uc : Int)]
                                      exact hb.below (Below.refl _ _).drew hb.lt
                                    clear HA2
                                    generalize (W2.alloc (.cells #[.int .i64 (ua : Int), .int .i64 (ub : Int), .int .i64 (uc : Int)] 50)).drew = W3 at *
                                    generalize hD : oddB bs i = D at *
                                    have HD := Lib.hid hD
                                    clear hD
                                    go_upto_region 35 with (with_reducible fail)
                                    go_cut [178] from 123 to 191 (fun s178 wx => s178 = .bool D ∧ wx = W3)
                                    case first =>
                                      as_aux_lemma =>
                                        clear HTk HK9
                                        by_cases hz : 0 < i
                                        · have tz : decide (0 < i) = true := by simp; omega
                                          have tz2 : decide ((0 : Int) < (i : Int)) = true := by simp; omega
                                          by_cases hb0 : 0 < nb
                                          · have tb : decide ((0 : Int) < (nb : Int)) = true := by simp; omega
                                            have tb2 : decide (0 < nb) = true := by simp; omega
                                            have hsl : i % nb < bs.length := by rw [HBl.out]; exact Nat.mod_lt _ hb0
                                            have hob : oddB bs i = decide (bs[i % nb] % 2 = 1) := by
                                              unfold oddB
                                              rw [tz, HBl.out, tb2, List.getElem?_eq_getElem hsl, Option.getD_some]
                                              rfl
                                            have hsn : i % nb < nb := Nat.mod_lt _ hb0
                                            have e1 : ((i : Int)).tmod (nb : Int) = ((i % nb : Nat) : Int) := rfl
                                            have hnz3 : ¬ (nb : Int) = 0 := by omega
                                            have hnz4 : ¬ nb = 0 := by omega
                                            obtain ⟨bb, bo, rfl, _, hc⟩ := (HBy.out _ (HMB.out _ (HX2.out.next HBf.out).bel)).spot (by omega)
                                            have c0 := hc _ _ (u8s_at hsl)
                                            have HV := Lib.hid (HD.out.symm.trans hob)
                                            clear hc hob HD
                                            generalize bs[i % nb] = bv at *
                                            generalize i % nb = s at *
                                            have s2 : (s : Int) < (nb : Int) := by omega
                                            have x5 : IntKind.wrap .i64 (s : Int) = (s : Int) := by rw [IntKind.wrap_i64]; omega
                                            have hr : bv % 2 = 0 ∨ bv % 2 = 1 := by omega
                                            rcases hr with hr | hr
                                            · have HV2 : Hid (D = false) := by show D = _; rw [HV.out, hr]; rfl
                                              have r3 : ((bv : Int)).tmod 2 = 0 := by rw [show ((bv : Int)).tmod 2 = ((bv % 2 : Nat) : Int) from rfl, hr]; rfl
                                              clear hr HV
                                              go_wp2_with (with_reducible fail)
                                              go_meet
                                              case rel => exact ⟨by rw [HV2.out], rfl⟩
                                            · have HV2 : Hid (D = true) := by show D = _; rw [HV.out, hr]; rfl
                                              have r3 : ((bv : Int)).tmod 2 = 1 := by rw [show ((bv : Int)).tmod 2 = ((bv % 2 : Nat) : Int) from rfl, hr]; rfl
                                              clear hr HV
                                              go_wp2_with (with_reducible fail)
                                              go_meet
                                              case rel => exact ⟨by rw [HV2.out], rfl⟩
                                          · have tb : decide ((0 : Int) < (nb : Int)) = false := by simp; omega
                                            have hob : oddB bs i = false := by
                                              unfold oddB
                                              rw [HBl.out, show decide (0 < nb) = false from decide_eq_false hb0, Bool.and_false, Bool.false_and]
                                            have HV2 := Lib.hid (HD.out.symm.trans hob)
                                            clear hob HD
                                            go_wp2_with (with_reducible fail)
                                            go_meet
                                            case rel => exact ⟨by rw [HV2.out], rfl⟩
                                        · have tz : decide (0 < i) = false := by simp; omega
                                          have tz2 : decide ((0 : Int) < (i : Int)) = false := by simp; omega
                                          have hob : oddB bs i = false := by unfold oddB; rw [tz]; rfl
                                          have HV2 := Lib.hid (HD.out.symm.trans hob)
                                          clear hob HD
                                          go_wp2_with (with_reducible fail)
                                          go_meet
                                          case rel => exact ⟨by rw [HV2.out], rfl⟩

                                    case rest =>
                                      as_aux_lemma =>
                                        obtain ⟨rfl, rfl⟩ := hcut
                                        generalize wc = W3 at *
                                        go_upto_if 178 with (with_reducible fail)
                                        go_cut [] from 123 to 191 (fun wx => Hid (Below W2.heap.size W2 wx) ∧ Hid (Blk wx W2.heap.size 50 #[.int .i64 tk.1, .int .i64 tk.2.1, .int .i64 tk.2.2]))
                                        case first =>
                                          as_aux_lemma =>
                                            cases D with
                                            | false =>
                                              have hk := HTk.out
                                              simp only [Bool.false_eq_true, if_false] at hk
                                              subst hk
                                              go_wp2_with (with_reducible fail)
                                              go_meet
                                              case rel => exact ⟨HBf, HUf⟩
                                            | true =>
                                              have hk := HTk.out
                                              simp only [if_true] at hk
                                              subst hk
                                              have HBg : Hid (Below W2.heap.size W2 (((W3.setCell ⟨W2.heap.size, 0, none⟩ (.int .i64 (ub : Int))).setCell ⟨W2.heap.size, 1, none⟩ (.int .i64 (uc : Int))).setCell ⟨W2.heap.size, 2, none⟩ (.int .i64 (ua : Int)))) := ((HBf.out.setCell (p := ⟨W2.heap.size, 0, none⟩) (Nat.le_refl _) _).setCell (p := ⟨W2.heap.size, 1, none⟩) (Nat.le_refl _) _).setCell (p := ⟨W2.heap.size, 2, none⟩) (Nat.le_refl _) _
                                              have HUg : Hid (Blk (((W3.setCell ⟨W2.heap.size, 0, none⟩ (.int .i64 (ub : Int))).setCell ⟨W2.heap.size, 1, none⟩ (.int .i64 (uc : Int))).setCell ⟨W2.heap.size, 2, none⟩ (.int .i64 (ua : Int))) W2.heap.size 50 #[.int .i64 (ub : Int), .int .i64 (uc : Int), .int .i64 (ua : Int)]) := ((HUf.out.set_ 0 _).set_ 1 _).set_ 2 _
                                              have d0 := HUf.out.cell 0
                                              have d1 := HUf.out.cell 1
                                              have d2 := HUf.out.cell 2
                                              have z0 := HUf.out.frozen 0
                                              have z1 := HUf.out.frozen 1
                                              have z2 := HUf.out.frozen 2
                                              go_wp2_with (with_reducible fail)
                                              go_meet
                                              case rel => exact ⟨HBg, HUg⟩

                                        case rest =>
                                          as_aux_lemma =>
                                            clear HBf HUf
                                            obtain ⟨HBf, HUf⟩ := hcut
                                            generalize wc = Wf at *
                                            obtain ⟨x1, y1, z1⟩ := tk
                                            simp only at HUf HK9
                                            clear HTk HD
                                            have HX5 := Lib.hid (HX2.out.next (new_call HBf.out (new_alloc (Below.refl _ _) (.cells #[.int .i64 x1, .int .i64 y1, .int .i64 z1] 50))))
                                            have HN5 : Hid (HasK 3 (Wf.alloc (.cells #[.int .i64 x1, .int .i64 y1, .int .i64 z1] 50)) (some ⟨Wf.heap.size, 0, none⟩) 1 1 (p3Cells [((x1, y1, z1) : P3)])) := HasK.new_at 3 Wf #[.int .i64 x1, .int .i64 y1, .int .i64 z1] 50 Wf.heap.size 1 rfl rfl
                                            have r1 := (HX2.out.next HBf.out).b2.cell 1
                                            have u0 := HUf.out.cell 0
                                            have u1 := HUf.out.cell 1
                                            have u2 := HUf.out.cell 2
                                            have hbase : GP + 1 + 1 ≤ (Wf.alloc (.cells #[.int .i64 x1, .int .i64 y1, .int .i64 z1] 50)).heap.size := HX5.out.b2.lt
                                            clear HBf HUf HX2
                                            go_wp2_with (at_builtin
                                                         (refine wpList_joinGK rfl _ _ 23 rfl elemT3 (by decide) (GP + 1 + 1) _ i (p3Cells (trisK n T num bs i)) rfl HX5.out.own _ 1 1 (p3Cells [((x1, y1, z1) : P3)]) rfl HN5.out (p3Cells_one _) (by omega) (by decide) hbase ?_)
                                                         rintro v5 w5 ho hg _
                                                         obtain ⟨A7, c7, rfl, _⟩ := OwnK.has ho
                                                         obtain ⟨hX, hB⟩ := HX5.out.put ho hg
                                                         rw [← HK9.out] at hX
                                                         have HX6 := Lib.hid hX
                                                         have f5 := hB.frozen 1
                                                         have k5 := hB.cell 1
                                                         clear hX hB ho hg HX5 HN5 r1 u0 u1 u2 hbase)
                                            go_roundg (gk - 1)
                                            case measure => omega
                                            case rel => exact ⟨i + 1, A7, c7, by omega, by go_num, HX6⟩
                          · as_aux_lemma =>
                              have ti : decide ((i : Int) < (m : Int)) = false := by simp; omega
                              obtain rfl : m = i := by omega
                              obtain ⟨hc9, hN9, hV9⟩ := HOt.out num HZa.out (by rw [HPn.out]; exact HNm.out)
                              rw [HPn.out, HTm.out] at hc9 hN9 hV9
                              have hql := ptsTo_len n P num n
                              have HCo9 : Hid (∀ w, Below W.heap.size W w → HasK 3 w (some ⟨GP, 0, none⟩) n n (p3Cells (ptsTo n P num n)) → HasK 3 w A6 m c6 (p3Cells (trisK n T num bs m)) → Calls Tryd.prog 16 #[.agg #[.slice (some ⟨GP, 0, none⟩) n n, .slice A6 m c6]] w (Canond w (canonP P T) (walkF T).N 0)) := fun w hW h1 h2 => by
                                have h := HCo.out w (some ⟨GP, 0, none⟩) n A6 c6 (ptsTo n P num n) (trisK n T num bs m) hW h1 h2 hc9
                                simp only [if_true] at h
                                rw [hV9, hN9] at h
                                exact h
                              have HQ0 : Hid (∀ w, Below wr.heap.size wr w → HasK 3 w (some ⟨GP, 0, none⟩) n n (p3Cells (ptsTo n P num n)) ∧ HasK 3 w A6 m c6 (p3Cells (trisK n T num bs m)) ∧ w.cell? ⟨GP + 1, 0, none⟩ = some (.slice (some ⟨GP, 0, none⟩) n n) ∧ w.cell? ⟨GP + 1, 1, none⟩ = some (.slice A6 m c6) ∧ Below W.heap.size W w) := fun w hw => ⟨(blk_hasK HX.out.b1 hql).kept hw, (own_hasK HX.out.own).kept hw, (HX.out.next hw).b2.cell 0, (HX.out.next hw).b2.cell 1, HMB.out _ (HX.out.next hw).bel⟩
                              have HBw := Lib.hid (HMB.out _ HX.out.bel)
                              have HCa9 := Lib.hid (HCa.out _ HBw.out)
                              clear hc9 hN9 hV9 hql HX
                              generalize ptsTo n P num n = Q at *
                              generalize trisK n T num bs m = R at *
                              go_wp2_with (with_reducible fail)
                              refine HCa9.out.mono ?_
                              rintro e w5 ⟨A2, c2, B2, d2, rfl, h1, h2, hb2⟩
                              have HB5 := Lib.hid (new_alloc hb2 (.cells #[.slice A2 (canonP P T).length c2, .slice B2 (walkF T).N.length d2] 25))
                              have HC5 := Lib.hid (Blk.new w5 25 #[.slice A2 (canonP P T).length c2, .slice B2 (walkF T).N.length d2])
                              have HP5 := Lib.hid (h1.alloc (.cells #[.slice A2 (canonP P T).length c2, .slice B2 (walkF T).N.length d2] 25))
                              have HT5 := Lib.hid (h2.alloc (.cells #[.slice A2 (canonP P T).length c2, .slice B2 (walkF T).N.length d2] 25))
                              clear h1 h2 hb2 m0 m1 HCa9
                              obtain ⟨q1, q2, q3, q4, q5⟩ := HQ0.out _ HB5.out
                              have HCo6 := Lib.hid (HCo9.out _ q5 q1 q2)
                              have HB6 := Lib.hid q5
                              clear q1 q2 q5 HQ0 HCo9 HB5
                              go_wp2_with (with_reducible fail)
                              refine HCo6.out.mono ?_
                              rintro e w7 ⟨A8, c8, B8, d8, rfl, h1, h2, hb7⟩
                              have HC7 := Lib.hid ((HC5.out.below hb7 HC5.out.lt).alloc (.cells #[.slice A8 (canonP P T).length c8, .slice B8 (walkF T).N.length d8] 25))
                              have HD7 := Lib.hid (Blk.new w7 25 #[.slice A8 (canonP P T).length c8, .slice B8 (walkF T).N.length d8])
                              have HB7 := Lib.hid (new_alloc (new_call HB6.out hb7) (.cells #[.slice A8 (canonP P T).length c8, .slice B8 (walkF T).N.length d8] 25))
                              have HS7 := Lib.hid (HSs.out _ A2 c2 B2 d2 A8 c8 B8 d8 ((HP5.out.kept hb7).alloc (.cells #[.slice A8 (canonP P T).length c8, .slice B8 (walkF T).N.length d8] 25)) ((HT5.out.kept hb7).alloc _) (h1.alloc _) (h2.alloc _))
                              clear h1 h2 hb7 q3 q4 HC5 HP5 HT5 HCo6 HB6
                              have k0 := HC7.out.cell 0
                              have k1 := HC7.out.cell 1
                              have k2 := HD7.out.cell 0
                              have k3 := HD7.out.cell 1
                              go_wp2_with (with_reducible fail)
                              refine HS7.out.mono ?_
                              rintro e w8 ⟨rfl, hb8⟩
                              have HB8' := Lib.hid (new_call HB7.out hb8)
                              clear hb8 HC7 HD7 HB7 HS7 k0 k1 k2 k3
                              go_wp2_with (with_reducible fail)
                              refine (HKn.out _ HB8'.out).mono ?_
                              rintro e w9 ⟨rfl, hb9⟩
                              go_wp2
                              go_ret
                              exact ⟨rfl, new_call HB8'.out hb9⟩
    · have tr : (r != 0) = true := bne_iff_ne.2 h0
      clear hp ht hr hl h0 hh hb8 hnb hbe
      go_enter Tryd.func6, Tryd.ntmps6
      go_wp2_with fail
      refine (HLo.out _).mono ?_
      rintro e w1 ⟨rfl, hb1⟩
      have HK1 := Lib.hid (HK0.out.next hb1)
      clear hb1 HK0 m0 m1
      have m0 := HK1.out.b0.cell 0
      have m1 := HK1.out.b0.cell 1
      go_wp2_with fail
      refine (HCk.out _ HK1.out.bel).mono ?_
      rintro e w2 ⟨rfl, hb2⟩
      have HK2 := Lib.hid (HK1.out.next hb2)
      clear hb2 HK1 m0 m1
      have m0 := HK2.out.b0.cell 0
      have m1 := HK2.out.b0.cell 1
      go_wp2_with fail
      refine (HKn.out _ HK2.out.bel).mono ?_
      rintro e w9 ⟨rfl, hb9⟩
      go_wp2
      go_ret
      exact ⟨rfl, new_call HK2.out.bel hb9⟩
  · have HLo := Lib.hid (fun w => lawlong_any A n c B m d true w (by rw [Bool.or_eq_true, decide_eq_true_eq, decide_eq_true_eq]; omega))
    clear hp ht hl hh hb8 hnb hbe
    go_enter Tryd.func6, Tryd.ntmps6
    go_wp2_with fail
    refine (HLo.out _).mono ?_
    rintro e w1 ⟨rfl, hb1⟩
    have HK1 := Lib.hid (HK0.out.next hb1)
    clear hb1 HK0 m0 m1
    go_wp2_with fail
    refine (HKn.out _ HK1.out.bel).mono ?_
    rintro e w9 ⟨rfl, hb9⟩
    go_wp2
    go_ret
    exact ⟨rfl, new_call HK1.out.bel hb9⟩

set_option maxRecDepth 100000 in
theorem reads (os : Os) {H : Type} (enc : TypeId × Value → H) : ∃ places, DataW.whole enc Tryd.prog ((laidWorld os).forCall (fun _ _ => 0) ⟨#[], #[.agg #[.slice none 0 0, .slice none 0 0], .slice none 0 0], []⟩).memory Tryd.f6.params.toList Rows.walkNumbersSpec.vars false (#[.agg #[.slice none 0 0, .slice none 0 0], .slice none 0 0] : Array Value).toList 8 = some ([.agg [.nil, .nil], .nil], [], places) := ⟨[], by kernel_rfl⟩
set_option maxRecDepth 100000 in
theorem lifted (os : Os) (started : os.Started) (H : Type) (enc : TypeId × Value → H) (F : Stop.Interp) :
    ReturnsInHanded {} Tryd.checked os 6 .any ((OpenSpec.ofChange Rows.walkNumbersSpec).preRow enc Tryd.prog Tryd.f6 Rows.walkNumbersRow.domain false Rows.walkNumbersRow.laid) (((OpenSpec.ofChange Rows.walkNumbersSpec).at F).post enc Tryd.prog Tryd.f6 false true false false) := by
  obtain ⟨places, hx⟩ := reads os enc
  refine returnsInHanded_of_row (C := Tryd.checked) (s := OpenSpec.ofChange Rows.walkNumbersSpec) Tryd.own started (by kernel_rfl) Tryd.func6
    (witness_row_at (enc := enc) (C := Tryd.checked) false (laidWorld os) #[.agg #[.slice none 0 0, .slice none 0 0], .slice none 0 0] rfl (by kernel_rfl) (by kernel_rfl) (by kernel_rfl)
      (OpenSpec.preRow_of_cond 8 hx (by kernel_rfl) (fun k hk => by cases hk) (by kernel_rfl) (laidMet_of_run' 8 (by kernel_rfl) (by kernel_rfl)))) ?_
  intro W base args ds gs before hval0 hW _ _ hsz0 hL _ _
  have hbe : BehW W := behW_of_laid hL
  have hval : ∀ (j : Nat) t v, Tryd.f6.params[j]? = some t → args[j]? = some v → Value.okWide Tryd.prog W .any base t v := hval0
  have hW' := hW
  obtain ⟨p, q, hA0, hV, rfl, _, _⟩ := hW
  have hA : DataW.TrodAll enc Tryd.prog W 0 (fun _ => true) true Tryd.f6.params.toList args.toList ds p := hA0
  rw [Tryd.params6] at hA hval
  obtain ⟨v0, v1, d0, d1, p0, p1, rfl, rfl, rfl, h0, h1⟩ := trodAll_two hA
  obtain ⟨rfl, rfl⟩ := trodVars_none hV
  obtain ⟨A0, n0, c0, P0, B0, m0, e0, T0, rfl, hp0, ht0, bp0, bt0, hn0, hm0⟩ := open_mesh (hval 0 25 v0 rfl rfl) h0
  obtain ⟨A1, n1, c1, bs1, rfl, hh1, hb1, hn1⟩ := open_bytes (hval 1 52 v1 rfl rfl) h1
  exact (walk A0 n0 c0 P0 B0 m0 e0 T0 A1 n1 c1 bs1 W hbe hp0 ht0 bp0 bt0 hn0 hm0 hh1 hb1 hn1).mono fun e W' he =>
    law_post rfl rfl (by rw [Tryd.params6]; intro t ht; simp at ht; rcases ht with rfl | rfl <;> exact ⟨by kernel_rfl, of_decide_eq_true (by kernel_rfl)⟩) hW' rfl he

theorem said : Rows.WalkNumbersSaid :=
  OpenClaim.holds_of_cond 6 Tryd.f6 rfl rfl rfl rfl rfl rfl rfl ⟨rfl, rfl, rfl, rfl, rfl⟩ rfl rfl rfl rfl rfl (by kernel_rfl) Tryd.func6 (by kernel_rfl)
    (of_decide_eq_true (by kernel_rfl)) (by unfold Func.isWrapper; first | (rw [if_pos (by decide +kernel)]; kernel_rfl) | (rw [if_neg (by decide +kernel)]; exact ⟨rfl, rfl⟩))
    (fun os started H enc _ F => by rw [OpenClaim.pre_eq_preRow]; exact lifted os started H enc F)
theorem plain (f : FuncId) (fn : Func) (hf : Tryd.pinned.checked.prog.funcNamed "lapidary/lapidarylaw11.WalkNumbers" = some f) (hfn : Tryd.pinned.checked.prog.funcs[f]? = some fn) :
    false = Tryd.pinned.checked.prog.looks [] ∧ ∀ (j : Nat) t, fn.params[j]? = some t → Tryd.pinned.checked.prog.wantsStandIn t = false := by
  obtain rfl : f = 6 := Option.some.inj ((show Tryd.prog.funcNamed "lapidary/lapidarylaw11.WalkNumbers" = some 6 by kernel_rfl).symm.trans hf) |>.symm
  obtain rfl : fn = Tryd.f6 := (Option.some.inj (Tryd.func6.symm.trans hfn)).symm
  refine ⟨by kernel_rfl, fun j t ht => ?_⟩
  rw [Tryd.params6] at ht
  have hm : t ∈ [25, 52] := by simpa using Array.mem_of_getElem? ht
  have hall : ([25, 52].all fun u => !Tryd.prog.wantsStandIn u) = true := by kernel_rfl
  exact (show Tryd.prog.wantsStandIn t = false by simpa using List.all_eq_true.1 hall t hm)
theorem proved : Rows.WalkNumbersCardSaid :=
  Claim7.holds_tied_plain_at .later [] _ _ _ _ said (fun _ h => by cases h) (by kernel_rfl) (fun _ h => by cases h) walkNumbers_row_tie rfl ⟨rfl, rfl⟩ (by kernel_rfl) rfl plain (by kernel_rfl)
end Go.Proofs.YtjahphfjobnkaaaDoor.walkNumbers
