import Derived.Test.YthjmojglcfmkmaaDoorWalkOver
/- The landed walk: Steps, Order. -/
namespace Go.Proofs.YthjmojglcfmkmaaDoor
open Go.RowKit

/-- Steps, and an error, in new memory. -/
def Stepsd (w : World) (S : List (Int × Int)) (r : Int) (e : Ending) (w' : World) : Prop := ∃ A c, e = .returned (.tuple #[.slice A S.length c, .int .i64 r]) ∧ HasK 2 w' A S.length c (e2Cells S) ∧ Below w.heap.size w w'
/-- Vertices, triangles, and an error, in new memory. -/
def Orderd (w : World) (V : List Int) (O : List Nat) (r : Int) (e : Ending) (w' : World) : Prop := ∃ A c B d, e = .returned (.tuple #[.slice A V.length c, .slice B O.length d, .int .i64 r]) ∧ Has w' A V.length c (intVs V) ∧ Has w' B O.length d (natVs O) ∧ Below w.heap.size w w'
theorem own_hasK {k : Nat} {w : World} {base : Nat} {e : TypeId} {A : Option Addr} {n c : Nat} {xs : List Value} (h : OwnK k w base e (.slice A n c) n xs) : HasK k w A n c xs := by
  obtain ⟨A', c', e, h2⟩ := h.has
  cases e
  exact h2
set_option maxRecDepth 100000 in
set_option maxHeartbeats 1000000 in
theorem walkSteps_any (A : Option Addr) (n c : Nat) (P : List P3) (B : Option Addr) (m d : Nat) (T : List P3) (r : Int) (w : World) (hbe : BehW w) (hp : HasK 3 w A n c (p3Cells P)) (ht : HasK 3 w B m d (p3Cells T)) (hn : n ≤ 100000) (hm : m ≤ 100000) (hr : CheckIs P T r) :
    Calls Tryd.prog 22 #[.agg #[.slice A n c, .slice B m d]] w (Stepsd w (if r = 0 then (walkF T).S else []) r) := by
  have HK0 := Lib.hid (MeshAt.new w (.slice A n c) (.slice B m d))
  have HOv := Lib.hid (fun W (hW : Below w.heap.size w W) => walkOver_any A n c P B m d T r W (hbe.kept hW) (hp.kept hW) (ht.kept hW) hn hm hr)
  obtain ⟨S0, hS0⟩ : ∃ S, (if r = 0 then (walkF T).S else []) = S := ⟨_, rfl⟩
  rw [hS0]
  have m0 := HK0.out.b0.cell 0
  have m1 := HK0.out.b0.cell 1
  clear hbe hp ht hr
  go_enter Tryd.func22, Tryd.ntmps22
  go_wp2_with fail
  refine (HOv.out _ HK0.out.bel).mono ?_
  rintro e w1 ⟨ptr, rfl, hb, hx⟩
  have HB := Lib.hid (new_call HK0.out.bel hb)
  by_cases h0 : r = 0
  · subst h0
    rw [if_pos rfl] at hS0
    subst hS0
    obtain ⟨g, b, gm, gn, rfl, q, a, vG, vS, vV, vO, vN, hX, _⟩ := hx rfl
    have hr := hX.rows.rS
    obtain ⟨Af, cf, rfl, _⟩ := hr.has
    have HS := Lib.hid (own_hasK hr)
    have b4 := hX.box.cell 4
    clear hX hr hx hb
    go_wp2
    go_ret2
    exact ⟨Af, cf, rfl, HS.out, HB.out⟩
  · rw [if_neg h0] at hS0
    subst hS0
    have hq : (r != 0) = true := bne_iff_ne.2 h0
    clear hx hb
    go_wp2
    go_ret2
    exact ⟨none, 0, rfl, HasK.none _ _ _ _ (fun _ => rfl), HB.out⟩
end Go.Proofs.YthjmojglcfmkmaaDoor

/- The landed walk: Canon, Is. -/
namespace Go.Proofs.YthjmojglcfmkmaaDoor
open Go.RowKit

/-- Points put into a row, of a mesh that lies there. -/
structure CanBt (w1 : World) (A6 : Option Addr) (c6 : Nat) (tv : Value) (l : List P3) (n6 : Nat) (wx : World) : Prop where
  ob : Blk wx (w1.heap.size) 48 #[.slice A6 n6 c6, tv]
  own : OwnK 3 wx (w1.heap.size + 1) 84 (.slice A6 n6 c6) n6 (p3Cells l)
  bw : Below w1.heap.size w1 wx
theorem CanBt.next {w1 : World} {A6 : Option Addr} {c6 : Nat} {tv : Value} {l : List P3} {n6 : Nat} {wx w' : World} (h : CanBt w1 A6 c6 tv l n6 wx) (hb : Below wx.heap.size wx w') : CanBt w1 A6 c6 tv l n6 w' :=
  ⟨h.ob.below hb h.ob.lt, OwnK.keep h.own hb, h.bw.trans (hb.mono h.bw.size)⟩
theorem CanBt.lt {w1 : World} {A6 : Option Addr} {c6 : Nat} {tv : Value} {l : List P3} {n6 : Nat} {wx : World} (h : CanBt w1 A6 c6 tv l n6 wx) : w1.heap.size + 1 ≤ wx.heap.size := h.ob.lt
theorem CanBt.put {w1 : World} {A6 : Option Addr} {c6 : Nat} {tv : Value} {l : List P3} {p : P3} {n6 : Nat} {wx w' : World} {A7 : Option Addr} {c7 : Nat} (h : CanBt w1 A6 c6 tv l n6 wx)
    (ho : OwnK 3 w' (w1.heap.size + 1) 84 (.slice A7 (n6 + 1) c7) (n6 + 1) (p3Cells l ++ p3Cells [p])) (hg : wx.grownBy w' (Value.slice A6 n6 c6).ownBlock) :
    CanBt w1 A7 c7 tv (l ++ [p]) (n6 + 1) (w'.setCell ⟨w1.heap.size, 0, none⟩ (.slice A7 (n6 + 1) c7)) ∧ Blk w' (w1.heap.size) 48 #[.slice A6 n6 c6, tv] := by
  have hn : ∀ q, (Value.slice A6 n6 c6).ownBlock = some q → w1.heap.size + 1 ≤ q := fun q e => (World.ownsRow.lt h.own q e).1
  have hb2 : Blk w' (w1.heap.size) 48 #[.slice A6 n6 c6, tv] := h.ob.grown hg (fun e => by have := hn _ e; omega)
  refine ⟨⟨hb2.set_ 0 _, ?_, ?_⟩, hb2⟩
  · rw [p3Cells_app]
    exact World.ownsRow.kept ho (grown_set w' ⟨w1.heap.size, 0, none⟩ _) (own_away (F := fun k => w1.heap.size + 1 ≤ k) (fun k e => by cases e; show ¬ _ ≤ _; simp only; omega) (fun q e => (World.ownsRow.lt ho q e).1))
  · refine (h.bw.trans (Chg.below (D := fun k => w1.heap.size + 1 ≤ k) ((Chg.of_grown hg).wide fun k _ e => hn k e) (fun k e => by have h : w1.heap.size + 1 ≤ k := e; omega) h.bw.size)).setCell (p := ⟨w1.heap.size, 0, none⟩) (Nat.le_refl _) _
set_option maxRecDepth 100000 in
set_option maxHeartbeats 4000000 in
theorem walkCanon_any (A : Option Addr) (n c : Nat) (P : List P3) (B : Option Addr) (m d : Nat) (T : List P3) (r : Int) (w : World) (hbe : BehW w) (hp : HasK 3 w A n c (p3Cells P)) (ht : HasK 3 w B m d (p3Cells T)) (hn : n ≤ 100000) (hm : m ≤ 100000) (hr : CheckIs P T r) :
    Calls Tryd.prog 23 #[.agg #[.slice A n c, .slice B m d]] w (Canond w (if r = 0 then canonP P T else []) (if r = 0 then (walkF T).N else []) r) := by
  have HL : Hid (P.length = n) := by have := hp.len; rw [p3Cells_len] at this; show _ = _; omega
  have HM : Hid (T.length = m) := by have := ht.len; rw [p3Cells_len] at this; show _ = _; omega
  have HK0 := Lib.hid (MeshTwo.new w (.slice A n c) (.slice B m d) (.slice none 0 0) (.slice none 0 0))
  have HWk := Lib.hid (fun W (hW : Below w.heap.size w W) => walkOver_any A n c P B m d T r W (hbe.kept hW) (hp.kept hW) (ht.kept hW) hn hm hr)
  have HP := Lib.hid (fun W (hW : Below w.heap.size w W) => hp.kept hW)
  have HVi : Hid (r = 0 → ∀ x ∈ (walkF T).V, 0 ≤ x ∧ x < n) := fun h x hx => by
    subst h
    have := (verts_all hr x).1 hx
    rw [HL.out] at this
    exact this
  have HVn : Hid (r = 0 → (walkF T).V.length ≤ 300000) := fun _ => by
    have h1 := (walk_fine T T.length (Nat.le_refl _)).vv
    have h2 := (walk_fine T T.length (Nat.le_refl _)).ok.le
    have h3 := HM.out
    show (walkTo T T.length).V.length ≤ _
    omega
  have HPt := Lib.hid (canonP_is P T)
  obtain ⟨P0, hP0⟩ : ∃ l, (if r = 0 then canonP P T else []) = l := ⟨_, rfl⟩
  obtain ⟨T0, hT0⟩ : ∃ l, (if r = 0 then (walkF T).N else []) = l := ⟨_, rfl⟩
  rw [hP0, hT0]
  have hmz := zeroMesh
  obtain ⟨mz, ms⟩ := zero_of_info meshInfo
  obtain ⟨pz, ps⟩ := zero_of_info p3Info
  clear hp ht hr hbe
  have m0 := HK0.out.b0.cell 0
  have m1 := HK0.out.b0.cell 1
  go_enter Tryd.func23, Tryd.ntmps23
  go_wp2_with fail
  refine (HWk.out _ HK0.out.bel).mono ?_
  rintro e w1 ⟨ptr, rfl, hb1, hx⟩
  have HK1 := Lib.hid (HK0.out.next hb1)
  clear hb1 m0 m1 HWk
  by_cases h0 : r = 0
  · subst h0
    rw [if_pos rfl] at hP0 hT0
    subst hP0 hT0
    obtain ⟨g, b, gm, gn, rfl, q, a, vG, vS, vV, vO, vN, hX, _⟩ := hx rfl
    have hrV := hX.rows.rV
    have hrN := hX.rows.rN
    have hfN := hX.rows.fN
    obtain ⟨Aa, va, rfl, _⟩ := hrV.has
    obtain ⟨Cc, vc, rfl, _⟩ := hrN.has
    have HVr := Lib.hid (HVi.out rfl)
    have hVn := HVn.out rfl
    have HV1 : Hid (∀ W, Below w1.heap.size w1 W → Has W Aa (walkF T).V.length va (intVs (walkF T).V)) := fun W hW => own_plain (OwnK.keep hrV hW)
    have HNo : Hid (∀ W, Below w1.heap.size w1 W → OwnK 3 W 0 58 (.slice Cc (walkF T).N.length vc) (walkF T).N.length (p3Cells (walkF T).N)) := fun W hW => OwnK.keep hrN hW
    have HNn : Hid ((Value.slice Cc (walkF T).N.length vc).ownBlock ≠ some (w.heap.size + 1)) := fun e => by
      have h : _ ≤ w.heap.size + 1 := (hfN _ e).1
      simp at h
      omega
    have HW1 : Hid (w.heap.size + 2 ≤ w1.heap.size) := HK1.out.b1.lt
    have HX1 := Lib.hid (fun W (hW : Below w1.heap.size w1 W) => hX.next hW)
    have b7 := hX.box.cell 7
    have b5 := (HX1.out _ (new_alloc (Below.refl _ w1) (.cells #[.slice none 0 0, .slice Cc (walkF T).N.length vc] 48))).box.cell 5
    have HC1 : Hid (CanBt w1 none 0 (.slice Cc (walkF T).N.length vc) [] 0 (w1.alloc (.cells #[.slice none 0 0, .slice Cc (walkF T).N.length vc] 48))) :=
      ⟨Blk.new _ _ _, OwnK.nil _ _ _ _, new_alloc (Below.refl _ _) _⟩
    clear HVi HVn hX hrV hrN hfN hx HK0 HX1
    generalize (walkF T).N = NN at *
    generalize (walkF T).V = VV at *
    go_wp2
    generalize w1.alloc (.cells #[.slice none 0 0, .slice Cc NN.length vc] 48) = W2 at *
    clear b5 b7
    generalize hK : VV.length = K at *
    go_loopg [28] K (fun g s28 wx => ∃ (i : Nat) (A6 : Option Addr) (c6 : Nat), i + g = K ∧ s28 = .int .i64 (i : Int) ∧ Hid (CanBt w1 A6 c6 (.slice Cc NN.length vc) ((VV.take i).map (ptF P)) i wx))
    case atStart => exact ⟨0, none, 0, by omega, rfl, HC1⟩
    case round =>
      clear HC1
      obtain ⟨i, A6, c6, hig, rfl, HC⟩ := hrel
      have HKx := Lib.hid (HK1.out.next HC.out.bw)
      have k0 := HC.out.ob.cell 0
      have k1 := HC.out.ob.cell 1
      by_cases hi : i < K
      · have ti : decide ((i : Int) < (K : Int)) = true := by simp; omega
        have i2 : (i : Int) < (K : Int) := by omega
        have hil : i < VV.length := by rw [hK]; exact hi
        obtain ⟨bV, oV, rfl, _, hcV⟩ := (HV1.out _ HC.out.bw).spot (by omega)
        have v0 := hcV _ _ (intVs_at hil)
        obtain ⟨hx0, hx1⟩ := HVr.out VV[i] (List.getElem_mem hil)
        have HTk : Hid ((VV.take (i + 1)).map (ptF P) = (VV.take i).map (ptF P) ++ [ptF P VV[i]]) := by
          show _ = _
          rw [List.take_succ_eq_append_getElem hil, List.map_append]
          rfl
        clear hcV
        generalize VV[i] = x at *
        obtain ⟨j, rfl⟩ := Int.eq_ofNat_of_zero_le hx0
        have hj : j < P.length := by rw [HL.out]; omega
        have hpt : ptF P (j : Int) = P[j] := by unfold ptF; rw [Int.toNat_natCast, List.getElem?_eq_getElem hj]; rfl
        rw [hpt] at HTk
        obtain ⟨bP, oP, rfl, _, _⟩ := (HP.out _ HKx.out.bel).spot (by omega)
        obtain ⟨c0, c1, c2⟩ := p3_at (HP.out _ HKx.out.bel) hj
        have j2 : (j : Int) < (n : Int) := hx1
        clear hpt hil hx0 hx1
        generalize P[j] = p at *
        clear hj
        obtain ⟨x, y, z⟩ := p
        simp only at c0 c1 c2
        have m2 := HKx.out.b0.cell 0
        have HCa := Lib.hid (HC.out.next (new_alloc (Below.refl _ wr) (.cells #[.int .i64 x, .int .i64 y, .int .i64 z] 84)).drew)
        have HNa : Hid (HasK 3 (wr.alloc (.cells #[.int .i64 x, .int .i64 y, .int .i64 z] 84)).drew (some ⟨wr.heap.size, 0, none⟩) 1 1 (p3Cells [(x, y, z)])) := (HasK.new_at 3 wr #[.int .i64 x, .int .i64 y, .int .i64 z] 84 _ 1 rfl rfl).kept (Below.refl _ _).drew
        have ka : (wr.alloc (.cells #[.int .i64 x, .int .i64 y, .int .i64 z] 84)).cell? ⟨w1.heap.size, 0, none⟩ = some (.slice A6 i c6) := HCa.out.ob.cell 0
        have hzb : w1.heap.size + 1 ≤ (wr.alloc (.cells #[.int .i64 x, .int .i64 y, .int .i64 z] 84)).drew.heap.size := HCa.out.lt
        go_wp2
        go_region_law (first
          | (refine step_joinGK rfl _ _ 46 rfl elemP3 (by decide) (w1.heap.size + 1) _ i _ rfl HCa.out.own _ 1 1 (p3Cells [(x, y, z)]) rfl HNa.out (p3Cells_one _) (by omega) (by decide) hzb ?_
             rintro v7 w7 ho hg hw
             obtain ⟨A7, c7, rfl, _⟩ := OwnK.has ho
             obtain ⟨hX, hB⟩ := HCa.out.put ho hg
             have HX7 := Lib.hid hX
             have f7 := hB.frozen 0
             have k7 := hB.cell 0
             clear hX hB ho hg hw)
          | fail)
        all_goals
          rw [← HTk.out] at HX7
          go_wp2
          go_roundg (gk - 1)
          case measure => omega
          case rel => exact ⟨i + 1, A7, c7, by omega, by go_num, HX7⟩
      · have ti : decide ((i : Int) < (K : Int)) = false := by simp; omega
        have hiK : i = K := by omega
        subst hiK
        have hTk : VV.take i = VV := List.take_of_length_le (by omega)
        rw [hTk, ← HPt.out] at HC
        have HEnd := Lib.hid (mesh_out HKx.out.b1 HKx.out.bel (Nat.le_succ _) 0 HC.out.own (HNo.out _ HC.out.bw) (fun e => by have h := (World.ownsRow.lt HC.out.own _ e).1; have := HW1.out; omega) HNn.out)
        have z0 := HKx.out.b1.cell 0
        have z1 := HKx.out.b1.cell 1
        have q0 := HKx.out.b1.frozen 0
        have q1 := HKx.out.b1.frozen 1
        go_wp2
        try rw [Exit.noGoto_ret]
        exact bodyPost_ret (results_pairM Tryd.results23 rfl rfl (mesh_load _ _ _ _ HEnd.out.1)) rfl HEnd.out.2
  · have hq : (r != 0) = true := bne_iff_ne.2 h0
    rw [if_neg h0] at hP0 hT0
    subst hP0 hT0
    have HEnd := Lib.hid (mesh_out HK1.out.b1 HK1.out.bel (Nat.le_succ _) r (P := []) (T := []) (OwnK.nil 3 _ 0 0) (OwnK.nil 3 _ 0 0) (fun e => by cases e) (fun e => by cases e))
    have z0 := HK1.out.b1.cell 0
    have z1 := HK1.out.b1.cell 1
    have q0 := HK1.out.b1.frozen 0
    have q1 := HK1.out.b1.frozen 1
    clear hx
    go_wp2
    try rw [Exit.noGoto_ret]
    exact bodyPost_ret (results_pairM Tryd.results23 rfl rfl (mesh_load _ _ _ _ HEnd.out.1)) rfl HEnd.out.2
set_option maxRecDepth 100000 in
set_option maxHeartbeats 1000000 in
theorem walkIs_any (A : Option Addr) (n c : Nat) (P : List P3) (B : Option Addr) (m d : Nat) (T : List P3) (r : Int) (w : World) (hbe : BehW w) (hp : HasK 3 w A n c (p3Cells P)) (ht : HasK 3 w B m d (p3Cells T)) (hn : n ≤ 100000) (hm : m ≤ 30000) (hr : CheckIs P T r) :
    Calls Tryd.prog 25 #[.agg #[.slice A n c, .slice B m d]] w fun e w' => e = .returned (.bool (decide (r = 0 ∧ canonP P T = P ∧ (walkF T).N = T))) ∧ Below w.heap.size w w' := by
  have HK0 := Lib.hid (MeshAt.new w (.slice A n c) (.slice B m d))
  have HCn := Lib.hid (fun W (hW : Below w.heap.size w W) => walkCanon_any A n c P B m d T r W (hbe.kept hW) (hp.kept hW) (ht.kept hW) hn (by omega) hr)
  have HTm : Hid (T.length = m) := by have := ht.len; rw [p3Cells_len] at this; show _ = _; omega
  have HSm := Lib.hid (fun W (hW : Below w.heap.size w W) A' c' B' d' P' T' (h1 : HasK 3 W A' P'.length c' (p3Cells P')) (h2 : HasK 3 W B' T'.length d' (p3Cells T')) (h3 : P'.length ≤ 100000) (h4 : T'.length ≤ 100000) => meshSame_any A' P'.length c' P' B' T'.length d' T' A n c P B m d T W h1 h2 (hp.kept hW) (ht.kept hW) h3 h4 hn (by omega))
  have HSz : Hid ((canonP P T).length ≤ 100000 ∧ (walkF T).N.length ≤ 100000) := by
    have h1 := (walk_fine T T.length (Nat.le_refl _)).vv
    have h2 := (walk_fine T T.length (Nat.le_refl _)).ok.le
    have h3 := (walk_fine T T.length (Nat.le_refl _)).ok.len
    have h4 := HTm.out
    refine ⟨?_, ?_⟩
    · rw [canonP_is, List.length_map]
      show (walkTo T T.length).V.length ≤ _
      omega
    · show (walkTo T T.length).N.length ≤ _
      omega
  have m0 := HK0.out.b0.cell 0
  have m1 := HK0.out.b0.cell 1
  have hmz := zeroMesh
  clear hbe hp ht hr
  by_cases h0 : r = 0
  · subst h0
    rw [if_pos rfl, if_pos rfl] at HCn
    have hq : decide ((0 : Int) = 0 ∧ canonP P T = P ∧ (walkF T).N = T) = decide (canonP P T = P ∧ (walkF T).N = T) := decide_eq_decide.2 ⟨fun h => h.2, fun h => ⟨rfl, h⟩⟩
    rw [hq]
    clear hq
    obtain ⟨R, hR⟩ : ∃ R, decide (canonP P T = P ∧ (walkF T).N = T) = R := ⟨_, rfl⟩
    rw [hR]
    have HRe := Lib.hid hR
    clear hR
    go_enter Tryd.func25, Tryd.ntmps25
    go_wp2_with fail
    refine (HCn.out _ HK0.out.bel).mono ?_
    rintro e w1 ⟨A', c', B', d', rfl, h1, h2, hb⟩
    have HK1 := Lib.hid ((HK0.out.next hb).next (new_alloc (Below.refl _ w1) (.cells #[.slice A' (canonP P T).length c', .slice B' (walkF T).N.length d'] 48)))
    have HS1 := Lib.hid (HSm.out _ HK1.out.bel A' c' B' d' (canonP P T) (walkF T).N (h1.alloc _) (h2.alloc _) HSz.out.1 HSz.out.2)
    rw [HRe.out] at HS1
    have k0 := HK1.out.b0.cell 0
    have k1 := HK1.out.b0.cell 1
    clear h1 h2 hb HK0 m0 m1 HCn HSm
    go_wp2_with fail
    refine HS1.out.mono ?_
    rintro e w2 ⟨rfl, hb2⟩
    go_wp2
    go_ret
    exact ⟨rfl, new_call HK1.out.bel hb2⟩
  · have HE : Hid (decide (r = 0 ∧ canonP P T = P ∧ (walkF T).N = T) = false) := decide_eq_false fun h => h0 h.1
    have tq : (r == 0) = false := beq_eq_false_iff_ne.2 h0
    rw [HE.out]
    rw [if_neg h0, if_neg h0] at HCn
    clear h0
    go_enter Tryd.func25, Tryd.ntmps25
    go_wp2_with fail
    refine (HCn.out _ HK0.out.bel).mono ?_
    rintro e w1 ⟨A', c', B', d', rfl, _, _, hb⟩
    have HK1 := Lib.hid (new_alloc (HK0.out.next hb).bel (.cells #[.slice A' ([] : List P3).length c', .slice B' ([] : List P3).length d'] 48))
    clear hb HK0 m0 m1 HCn HSm
    go_wp2
    go_ret
    exact ⟨rfl, HK1.out⟩
end Go.Proofs.YthjmojglcfmkmaaDoor
