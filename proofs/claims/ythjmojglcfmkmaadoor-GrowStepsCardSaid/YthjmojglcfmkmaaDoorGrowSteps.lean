/- Of any steps, one behind the other, what is told, and what there is then, and at the end, is what the chapter says: whatever steps come in, GrowSteps answers true. -/
import Derived.Test.YthjmojglcfmkmaaDoorKnown12
import Derived.Test.YthjmojglcfmkmaaDoorGrowRefE
import Derived.Test.YthjmojglcfmkmaaDoorLawSteps
import Derived.Test.YthjmojglcfmkmaaDoorLawLaidG
import Derived.StillTailTactics
import Derived.Deep.RegionHeld3
namespace Go.Proofs.YthjmojglcfmkmaaDoor.growSteps
open Go.ChangeShapes Go.WideShapes Go.ChangeAt Go.RowKit

/-- Two parties and a box: no block of one is the other's, and all are new. -/
structure Prt (a : Nat) (F X : Nat → Prop) (G : Nat) : Prop where
  far : ∀ k, F k → ¬ X k
  notG : ¬ F G
  f : ∀ k, F k → a ≤ k
  x : ∀ k, X k → a ≤ k
  g : a ≤ G
theorem Prt.one {a z : Nat} {F F' X : Nat → Prop} {G : Nat} (h : Prt a F X G) (hF : ∀ k, F' k → F k ∨ z ≤ k) (hX : ∀ k, X k → k < z) (hG : G < z) (hz : a ≤ z) : Prt a F' X G where
  far := fun k hk hx => (hF k hk).elim (fun e => h.far k e hx) (fun e => by have := hX k hx; omega)
  notG := fun hk => (hF G hk).elim h.notG (fun e => by omega)
  f := fun k hk => (hF k hk).elim (h.f k) (fun e => by omega)
  x := h.x
  g := h.g
theorem Prt.two {a z : Nat} {F X X' : Nat → Prop} {G : Nat} (h : Prt a F X G) (hX : ∀ k, X' k → X k ∨ z ≤ k) (hF : ∀ k, F k → k < z) (hz : a ≤ z) : Prt a F X' G where
  far := fun k hk hx => (hX k hx).elim (h.far k hk) (fun e => by have := hF k hk; omega)
  notG := h.notG
  f := h.f
  x := fun k hk => (hX k hk).elim (h.x k) (fun e => by omega)
  g := h.g
theorem grow_next {l : List (Int × Int)} {i : Nat} {s : GS} (h : growG (l.take i) = s) (hi : i < l.length) : growG (l.take (i + 1)) = stepG s l[i] := by
  rw [List.take_succ_eq_append_getElem hi, growG_next, h]
theorem grow_small {l : List (Int × Int)} {i : Nat} {s : GS} (h : growG (l.take i) = s) : s.B.length ≤ i := by
  have := (grow_lens (l.take i)).2
  rw [h, List.length_take] at this
  omega
theorem box_step {W w3 w5 : World} {F X : Nat → Prop} {g G : Nat} {s s2 : GS} {a5 c5 d5 o0 o1 o2 o3 o4 : Value} (hX : BxF w3 X G s) (hb : Blk w3 G 29 #[o0, o1, o2, o3, o4]) (hG : GwF w3 F g s2) (hP : Prt W.heap.size F X G) (hB : Below W.heap.size W w3)
    (hr : GRows w5 (fun k => X k ∨ w3.drew.heap.size ≤ k) a5 c5 d5 s2.T s2.P s2.B) (hc : Chg (fun k => X k ∨ w3.drew.heap.size ≤ k) w3.drew w5) :
    Blk w5 G 29 #[o0, o1, o2, o3, o4] ∧ ∃ X', BxF (set5 w5 G a5 (.int .i64 (s2.N : Int)) c5 d5 (.int .i64 s2.E)) X' G s2 ∧ GwF (set5 w5 G a5 (.int .i64 (s2.N : Int)) c5 d5 (.int .i64 s2.E)) F g s2 ∧ Below W.heap.size W (set5 w5 G a5 (.int .i64 (s2.N : Int)) c5 d5 (.int .i64 s2.E)) ∧ Prt W.heap.size F X' G := by
  have hc35 : Chg X w3 w5 := chg_fresh (chg3 (chg_b (Below.refl _ w3).drew) hc)
  have hb5 := hb.chg hc35 hX.not
  have hnG : ¬ (X G ∨ w3.drew.heap.size ≤ G) := fun h => h.elim hX.not (fun e => absurd hb.lt (Nat.not_lt.2 e))
  have hst := boxG_stored hb5 hr hnG
  have cV := (hc35.wide (D' := fun k => X k ∨ k = G) fun k _ e => Or.inl e).then_ hst.2 (fun k _ e => Or.inr e)
  refine ⟨hb5, fun k => (X k ∨ w3.drew.heap.size ≤ k) ∧ k < (set5 w5 G a5 (.int .i64 (s2.N : Int)) c5 d5 (.int .i64 s2.E)).heap.size, ⟨hst.1.among (fun k hk hf => ⟨hf, hk⟩), fun k hk => hk.2, fun h => hnG h.1⟩, ?_, ?_, ?_⟩
  · exact hG.chg cV (fun k hf e => e.elim (hP.far k hf) (fun e => hP.notG (e ▸ hf)))
  · exact hB.trans (cV.below (fun k e => e.elim (hP.x k) (fun e => e ▸ hP.g)) hB.size)
  · exact hP.two (z := w3.heap.size) (fun k hk => hk.1) hG.lt hB.size
set_option maxRecDepth 100000 in
set_option maxHeartbeats 6400000 in
theorem walk (A : Option Addr) (n c : Nat) (l : List (Int × Int)) (W : World) (hbe : BehW W) (hnw : NewW W) (hl : HasK 2 W A n c (e2Cells l)) (hi : ∀ x ∈ l, i64D x) (_ : n ≤ 9223372036854775807) : Calls Tryd.prog 3 #[.slice A n c] W fun e w' => e = .returned (.bool true) ∧ Below W.heap.size W w' := by
  have HKn := Lib.hid (fun w (hW : Below W.heap.size W w) => known12 w (hbe.kept hW) (hnw.kept hW))
  by_cases hn : n ≤ 80
  · have t1 : decide ((80 : Int) < (n : Int)) = false := decide_eq_false (by omega)
    obtain ⟨r, hr⟩ := close_total (growG l)
    have HR := Lib.hid hr
    have HLn : Hid (l.length = n) := by have := hl.len; rw [e2Cells_len] at this; show _ = _; omega
    have HL := Lib.hid hl
    have HI : Hid (∀ d ∈ l, in64 d) := fun d hd => ⟨WalkArith.wf_i64 (hi d hd).1, WalkArith.wf_i64 (hi d hd).2⟩
    have HBe := Lib.hid hbe
    have HNw := Lib.hid hnw
    obtain ⟨kz, ks⟩ := zero_of_info gInfo
    obtain ⟨sz, ss⟩ := zero_of_info stepInfo
    clear hl hi hbe hnw hr
    go_enter Tryd.func3, Tryd.ntmps3
    go_wp2_with fail
    refine (gwNew_any _).mono ?_
    rintro e w1 ⟨rfl, hb1, F1, hg1, hf1⟩
    have HG1 := Lib.hid hg1
    have HB1 := Lib.hid hb1
    have HF1 := Lib.hid hf1
    clear hb1 hg1 hf1
    have HA2 : Hid (Below w1.heap.size w1 (w1.alloc (.cells #[.slice none 0 0, .int .i64 0, .slice none 0 0, .slice none 0 0, .int .i64 0] 29))) := new_alloc (Below.refl _ w1) _
    have HX2 : Hid (BxF (w1.alloc (.cells #[.slice none 0 0, .int .i64 0, .slice none 0 0, .slice none 0 0, .int .i64 0] 29)) (fun _ => False) w1.heap.size newG) := ⟨boxG_new _ (Blk.new w1 29 #[.slice none 0 0, .int .i64 0, .slice none 0 0, .slice none 0 0, .int .i64 0]), fun _ h => h.elim, fun h => h⟩
    go_upto_region 7 with (with_reducible fail)
    have HB2 := Lib.hid (new_call HB1.out HA2.out)
    have HG2 := Lib.hid (HG1.out.next HA2.out)
    have HP2 : Hid (Prt W.heap.size F1 (fun _ => False) w1.heap.size) := ⟨fun _ _ h => h, fun h => by have := HF1.out _ h; omega, fun k h => (HF1.out k h).1, fun _ h => h.elim, HB1.out.size⟩
    clear HA2 HG1 HB1 HF1
    generalize w1.alloc (.cells #[.slice none 0 0, .int .i64 0, .slice none 0 0, .slice none 0 0, .int .i64 0] 29) = w2 at *
    generalize w1.heap.size = G at *
    go_wp2
    go_loopg [5] n (fun k s5 wx => ∃ (i : Nat) (F X : Nat → Prop) (s : GS), i + k = n ∧ s5 = .int .i64 (i : Int) ∧ Hid (growG (l.take i) = s) ∧ Hid (GwF wx F W.heap.size s) ∧ Hid (BxF wx X G s) ∧ Hid (Prt W.heap.size F X G) ∧ Hid (Below W.heap.size W wx))
    case atStart => exact ⟨0, F1, fun _ => False, newG, by omega, rfl, rfl, HG2, HX2, HP2, HB2⟩
    case round =>
      obtain ⟨i, F, X, s, hik, rfl, HFo, HG, HX, HP, HB⟩ := hrel
      clear HG2 HX2 HP2 HB2
      by_cases hi : i < n
      · have ti : decide ((i : Int) < (n : Int)) = true := decide_eq_true (by omega)
        have i2 : (i : Int) < (n : Int) := by omega
        have m1 : IntKind.wrap .i64 ((i : Int) + 1) = (i : Int) + 1 := by rw [IntKind.wrap_i64]; omega
        have hil : i < l.length := by rw [HLn.out]; exact hi
        have HNx := Lib.hid (grow_next HFo.out hil)
        have HSm := Lib.hid (grow_small HFo.out)
        have HBt : Hid (∀ V, Chg F wr V → Below W.heap.size W V) := fun V hc => HB.out.trans (hc.below HP.out.f HB.out.size)
        obtain ⟨b, off, rfl, _, hc⟩ := (HL.out.kept HB.out).spot (by omega)
        obtain ⟨z0, z1⟩ := e2Cells_at hil
        have c0 := hc _ _ z0
        have c1 := hc _ _ z1
        rw [← Nat.add_assoc] at c1
        have HC2 : Hid (∀ V, Below W.heap.size W V → V.cell? ⟨b, off + i * 2, none⟩ = some (.int .i64 l[i].1) ∧ V.cell? ⟨b, off + i * 2 + 1, none⟩ = some (.int .i64 l[i].2)) := fun V hV => by
          obtain ⟨b', off', he, _, hc'⟩ := (HL.out.kept hV).spot (by omega)
          cases he
          exact ⟨hc' _ _ z0, by have := hc' _ _ z1; rwa [← Nat.add_assoc] at this⟩
        have HIn := Lib.hid (HI.out _ (List.getElem_mem hil))
        generalize l[i] = e at *
        obtain ⟨k, v⟩ := e
        simp only at c0 c1
        have HSt := Lib.hid (gwStep1_any F W.heap.size s k v wr HG.out HIn.out (fun V hV => HNw.out.kept (HBt.out V hV)) (by have := HSm.out; omega))
        have HLe := Lib.hid HG.out.lens
        clear hc z0 z1
        go_wp2_with fail
        refine HSt.out.mono ?_
        rintro e w3 ⟨rfl, hc3, F3, hg3, hf3⟩
        have HG3 := Lib.hid hg3
        have HX3 := Lib.hid (HX.out.chg hc3 HP.out.notG (fun k hx hf => HP.out.far k hf hx))
        have HB3 := Lib.hid (HBt.out w3 hc3)
        have HP3 := Lib.hid (HP.out.one hf3 HX.out.lt HX.out.here.lt HB.out.size)
        clear hc3 hg3 hf3 HG HX HP HB HSt HBt c0 c1
        obtain ⟨a, c', d', hb, hr⟩ := HX3.out.here
        have HBl := Lib.hid hb
        obtain ⟨c0, c1⟩ := HC2.out w3 HB3.out
        have x0 := hb.cell 0
        have x1 := hb.cell 1
        have x2 := hb.cell 2
        have x3 := hb.cell 3
        have x4 := hb.cell 4
        have HRf := Lib.hid (ref12Step_any (fun k => X k ∨ w3.drew.heap.size ≤ k) a c' d' s k v w3.drew (fun k hk => Or.inr hk) ((hr.kept (Below.refl _ _).drew).among fun k _ hk => Or.inl hk) (by have := HLe.out; omega) (by have := HLe.out; omega) (by have := HSm.out; omega) (by have := HLe.out; omega))
        generalize hs2 : stepG s (k, v) = s2 at *
        have HS2 : Hid (growG (l.take (i + 1)) = s2) := HNx.out
        clear hb hr HC2 hs2 HNx
        go_wp2
        go_still_tail 5, (by kernel_rfl)
        go_wp2_with fail
        refine HRf.out.mono ?_
        rintro e w5 ⟨a5, c5, d5, rfl, hr5, hc5⟩
        obtain ⟨A5, ca5, rfl, hT5⟩ := hr5.rT.has
        obtain ⟨C5, cc5, rfl, hP5⟩ := hr5.rP.has
        obtain ⟨D5, cd5, rfl, _⟩ := hr5.rB.has
        obtain ⟨hb5, X6, hx6, hg6, hbw6, hp6⟩ := box_step HX3.out HBl.out HG3.out HP3.out HB3.out hr5 hc5
        have hk6 : Blk (set5 w5 G (.slice A5 s2.T.length ca5) (.int .i64 (s2.N : Int)) (.slice C5 s2.P.length cc5) (.slice D5 s2.B.length cd5) (.int .i64 s2.E)) G 29 #[.slice A5 s2.T.length ca5, .int .i64 (s2.N : Int), .slice C5 s2.P.length cc5, .slice D5 s2.B.length cd5, .int .i64 s2.E] := set5_blk _ _ _ _ _ hb5
        have hnG : ¬ (X G ∨ w3.drew.heap.size ≤ G) := fun h => h.elim HX3.out.not (fun e => absurd HBl.out.lt (Nat.not_lt.2 e))
        have hrw6 := (boxG_stored hb5 hr5 hnG)
        have hch6 := set5_chg w5 G (.slice A5 s2.T.length ca5) (.int .i64 (s2.N : Int)) (.slice C5 s2.P.length cc5) (.slice D5 s2.B.length cd5) (.int .i64 s2.E)
        have hr6 := hr5.chg hch6 (fun k _ hk e => hnG (e ▸ hk))
        have HT6 : Hid (HasK 3 _ A5 s2.T.length ca5 (p3Cells s2.T)) := Lib.hid (by obtain ⟨_, _, e, h⟩ := hr6.rT.has; cases e; exact h)
        have HP6 : Hid (HasK 2 _ C5 s2.P.length cc5 (e2Cells s2.P)) := Lib.hid (by obtain ⟨_, _, e, h⟩ := hr6.rP.has; cases e; exact h)
        unfold set5 at hk6 hx6 hg6 hbw6 HT6 HP6
        have HX6 := Lib.hid hx6
        have HG6 := Lib.hid hg6
        have HB6 := Lib.hid hbw6
        have HPr6 := Lib.hid hp6
        have HK6 := Lib.hid hk6
        have y0 := hb5.cell 0
        have y1 := hb5.cell 1
        have y2 := hb5.cell 2
        have y3 := hb5.cell 3
        have y4 := hb5.cell 4
        have q0 := hb5.frozen 0
        have q1 := hb5.frozen 1
        have q2 := hb5.frozen 2
        have q3 := hb5.frozen 3
        have q4 := hb5.frozen 4
        clear hr5 hc5 hT5 hP5 hb5 hx6 hg6 hbw6 hp6 hk6 hnG hrw6 hch6 hr6 HRf HBl HX3 HG3 HB3 HP3 HIn HSm HLe x0 x1 x2 x3 x4
        go_wp2_with (with_reducible fail)
        generalize ((((w5.setCell ⟨G, 0, none⟩ (.slice A5 s2.T.length ca5)).setCell ⟨G, 1, none⟩ (.int .i64 (s2.N : Int))).setCell ⟨G, 2, none⟩ (.slice C5 s2.P.length cc5)).setCell ⟨G, 3, none⟩ (.slice D5 s2.B.length cd5)).setCell ⟨G, 4, none⟩ (.int .i64 s2.E) = w6 at *
        clear y0 y1 y2 y3 y4 q0 q1 q2 q3 q4
        have HSx : Hid (∀ V, Below w6.heap.size w6 V → V.cell? ⟨G, 0, none⟩ = some (.slice A5 s2.T.length ca5) ∧ V.cell? ⟨G, 1, none⟩ = some (.int .i64 (s2.N : Int)) ∧ V.cell? ⟨G, 2, none⟩ = some (.slice C5 s2.P.length cc5) ∧ V.cell? ⟨G, 3, none⟩ = some (.slice D5 s2.B.length cd5) ∧ V.cell? ⟨G, 4, none⟩ = some (.int .i64 s2.E)) := fun V hV => by
          have h := HK6.out.below hV HK6.out.lt
          exact ⟨h.cell 0, h.cell 1, h.cell 2, h.cell 3, h.cell 4⟩
        have HLe := Lib.hid HG6.out.lens
        have p1 : (s2.E != s2.E) = false := bne_self_eq_false _
        have p2 : ((s2.N : Int) != (s2.N : Int)) = false := bne_self_eq_false _
        have p3 : ((openG s2 : Int) != (openG s2 : Int)) = false := bne_self_eq_false _
        have HVe := Lib.hid (fun V (hV : Below w6.heap.size w6 V) => gwVerts_any V (HG6.out.next hV))
        have HTr := Lib.hid (fun V (hV : Below w6.heap.size w6 V) => gwTris_any V (HG6.out.next hV))
        have HOp := Lib.hid (fun V (hV : Below w6.heap.size w6 V) => gwOpen_any V (HG6.out.next hV))
        have HSa : Hid (∀ V A7 c7, Below w6.heap.size w6 V → HasK 3 V A7 s2.T.length c7 (p3Cells s2.T) → Calls Tryd.prog 14 #[.slice A7 s2.T.length c7, .slice A5 s2.T.length ca5] V fun e w' => e = .returned (.bool true) ∧ Below V.heap.size V w') := fun V A7 c7 hV h7 => by
          have := ref12Same_any A7 _ c7 s2.T A5 _ ca5 s2.T V h7 (HT6.out.kept hV) (by have := HLe.out; omega) (by have := HLe.out; omega)
          rwa [decide_eq_true rfl] at this
        have HRo : Hid (∀ V, Below w6.heap.size w6 V → Calls Tryd.prog 17 #[.agg #[.slice A5 s2.T.length ca5, .int .i64 (s2.N : Int), .slice C5 s2.P.length cc5, .slice D5 s2.B.length cd5, .int .i64 s2.E]] V fun e w' => e = .returned (.int .i64 (openG s2 : Int)) ∧ Below V.heap.size V w') := fun V hV =>
          ref12Open_any A5 _ ca5 s2.T C5 _ cc5 s2.P _ _ _ V (HT6.out.kept hV) (HP6.out.kept hV) (by have := HLe.out; omega) (by have := HLe.out; omega)
        have HBv0 : Hid (Below w6.heap.size w6 w6.drew) := (Below.refl _ _).drew
        go_region_held3 (fun V => V.cell? ⟨G, 0, none⟩ = some (.slice A5 s2.T.length ca5) ∧ V.cell? ⟨G, 1, none⟩ = some (.int .i64 (s2.N : Int)) ∧ V.cell? ⟨G, 2, none⟩ = some (.slice C5 s2.P.length cc5) ∧ V.cell? ⟨G, 3, none⟩ = some (.slice D5 s2.B.length cd5) ∧ V.cell? ⟨G, 4, none⟩ = some (.int .i64 s2.E)) (first | (with_reducible exact HSx.out _ HBv5.out) | (with_reducible exact HSx.out _ HBv4.out) | (with_reducible exact HSx.out _ HBv3.out) | (with_reducible exact HSx.out _ HBv2.out) | (with_reducible exact HSx.out _ HBv1.out) | (with_reducible exact HSx.out _ HBv0.out) | exact HSx.out _ (Below.refl _ _)) (first
          | (go_at_call 13; (with_reducible refine (HVe.out _ HBv0.out).mono ?_); rintro e v1 ⟨rfl, hb1⟩; have HBv1 := Lib.hid (new_call HBv0.out hb1); clear hb1)
          | (go_at_call 15; (with_reducible refine (HTr.out _ HBv1.out).mono ?_); rintro e v2 ⟨A7, c7, rfl, hh7, hb2⟩; have HBv2 := Lib.hid (new_call HBv1.out hb2); have HH7 := Lib.hid hh7; clear hb2 hh7)
          | (go_at_call 14; (with_reducible refine (HSa.out _ _ _ HBv2.out HH7.out).mono ?_); rintro e v3 ⟨rfl, hb3⟩; have HBv3 := Lib.hid (new_call HBv2.out hb3); clear hb3)
          | (go_at_call 16; (with_reducible refine (HOp.out _ HBv3.out).mono ?_); rintro e v4 ⟨rfl, hb4⟩; have HBv4 := Lib.hid (new_call HBv3.out hb4); clear hb4)
          | (go_at_call 17; (with_reducible refine (HRo.out _ HBv4.out).mono ?_); rintro e v5 ⟨rfl, hb5⟩; have HBv5 := Lib.hid (new_call HBv4.out hb5); clear hb5))
        all_goals
          go_wp2
          go_roundg (n - (i + 1))
          case measure => omega
          case rel => exact ⟨i + 1, F3, X6, s2, by omega, by go_num, HS2, HG6.out.next HBv5.out, HX6.out.next HBv5.out, HPr6, new_call HB6.out HBv5.out⟩
      · have ti : decide ((i : Int) < (n : Int)) = false := decide_eq_false (by omega)
        have hE : l.take i = l := List.take_of_length_le (by rw [HLn.out]; omega)
        rw [hE] at HFo
        obtain rfl : growG l = s := HFo.out
        clear HFo hE HL HI HNw
        have HLe := Lib.hid HG.out.lens
        have HCl := Lib.hid (fun V (hV : Below wr.heap.size wr V) => growClose_any F W.heap.size (growG l) r V (HBe.out.kept (new_call HB.out hV)) (HG.out.next hV).here HR.out)
        generalize growG l = s at *
        go_wp2_with fail
        refine (HCl.out _ (Below.refl _ _)).mono ?_
        rintro e w3 ⟨A3, n3, c3, rfl, hh3, hb3⟩
        have HH3 := Lib.hid hh3
        have HB3 := Lib.hid (new_call HB.out hb3)
        have HX3 := Lib.hid (HX.out.next hb3)
        clear hh3 hb3 HG HX HB HCl
        obtain ⟨a, c', d', hb, hr⟩ := HX3.out.here
        obtain ⟨At, ct, rfl, hT⟩ := hr.rT.has
        have HBl := Lib.hid hb
        have HT := Lib.hid hT
        have HRc := Lib.hid (ref12Close_any X _ c' d' s r w3 hr (by have := HLe.out; omega) (by have := HLe.out; omega) (by have := HLe.out; omega) HR.out)
        have x0 := hb.cell 0
        have x1 := hb.cell 1
        have x2 := hb.cell 2
        have x3 := hb.cell 3
        have x4 := hb.cell 4
        clear hb hr hT
        go_wp2_with fail
        refine HRc.out.mono ?_
        rintro e w5 ⟨rfl, hb5⟩
        have HB5 := Lib.hid (new_call HB3.out hb5)
        have HT5 := Lib.hid (HT.out.kept hb5)
        have HH5 := Lib.hid (HH3.out.kept hb5)
        have HK5 := Lib.hid (HBl.out.below hb5 HBl.out.lt)
        have y0 := HK5.out.cell 0
        have p1 : (r != r) = false := bne_self_eq_false _
        clear hb5 x0 x1 x2 x3 x4 HT HH3 HBl HRc HX3 HB3
        by_cases h0 : r = 0
        · subst h0
          have hn3 : n3 = s.T.length := by have h1 := HH5.out.len; rw [closeT_fine rfl, p3Cells_len] at h1; omega
          subst hn3
          have HSa := Lib.hid (ref12Same_any A3 _ c3 s.T At _ ct s.T w5 (by have := HH5.out; rwa [closeT_fine rfl] at this) HT5.out (by have := HLe.out; omega) (by have := HLe.out; omega))
          rw [decide_eq_true rfl] at HSa
          clear HH5 HT5 HK5
          go_wp2_with fail
          refine HSa.out.mono ?_
          rintro e w6 ⟨rfl, hb6⟩
          have HB6 := Lib.hid (new_call HB5.out hb6)
          clear hb6
          go_wp2_with fail
          refine (HKn.out _ HB6.out).mono ?_
          rintro e w7 ⟨rfl, hb7⟩
          have HB7 := Lib.hid (new_call HB6.out hb7)
          clear hb7
          go_wp2
          go_ret
          exact ⟨rfl, HB7.out⟩
        · have q1 : (r == 0) = false := beq_eq_false_iff_ne.2 h0
          have q2 : (r != 0) = true := bne_iff_ne.2 h0
          have hn3 : n3 = 0 := by have h1 := HH5.out.len; rw [closeT_bad h0] at h1; simp [p3Cells] at h1; omega
          subst hn3
          clear h0 HH5 HT5 HK5
          go_wp2_with fail
          refine (HKn.out _ HB5.out).mono ?_
          rintro e w7 ⟨rfl, hb7⟩
          have HB7 := Lib.hid (new_call HB5.out hb7)
          clear hb7
          go_wp2
          go_ret
          exact ⟨rfl, HB7.out⟩
  · have t1 : decide ((80 : Int) < (n : Int)) = true := decide_eq_true (by omega)
    have HK := Lib.hid (HKn.out W (Below.refl _ _))
    clear hl hi hbe hnw HKn
    go_enter Tryd.func3, Tryd.ntmps3
    go_wp2_with fail
    refine HK.out.mono ?_
    rintro e w4 ⟨rfl, hb4⟩
    have HB4 := Lib.hid hb4
    clear hb4
    go_wp2
    go_ret
    exact ⟨rfl, HB4.out⟩

set_option maxRecDepth 100000 in
theorem reads (os : Os) {H : Type} (enc : TypeId × Value → H) : ∃ places, DataW.whole enc Tryd.prog ((laidWorldG os).forCall (fun _ _ => 0) ⟨#[], #[.slice none 0 0], []⟩).memory Tryd.f3.params.toList Rows.growStepsSpec.vars false (#[.slice none 0 0] : Array Value).toList 8 = some ([.nil], [], places) := ⟨[], by kernel_rfl⟩
set_option maxRecDepth 100000 in
theorem lifted (os : Os) (started : os.Started) (H : Type) (enc : TypeId × Value → H) (F : Stop.Interp) :
    ReturnsInHanded {} Tryd.checked os 3 .any ((OpenSpec.ofChange Rows.growStepsSpec).preRow enc Tryd.prog Tryd.f3 Rows.growStepsRow.domain false Rows.growStepsRow.laid) (((OpenSpec.ofChange Rows.growStepsSpec).at F).post enc Tryd.prog Tryd.f3 false true false false) := by
  obtain ⟨places, hx⟩ := reads os enc
  refine returnsInHanded_of_row (C := Tryd.checked) (s := OpenSpec.ofChange Rows.growStepsSpec) Tryd.own started (by kernel_rfl) Tryd.func3
    (witness_row_at (enc := enc) (C := Tryd.checked) false (laidWorldG os) #[.slice none 0 0] rfl (by kernel_rfl) (by kernel_rfl) (by kernel_rfl)
      (OpenSpec.preRow_of_cond 8 hx (by kernel_rfl) (fun k hk => by cases hk) (by kernel_rfl) (laidMet_of_run' 8 (by kernel_rfl) (by kernel_rfl)))) ?_
  intro W base args ds gs before hval0 hW _ _ hsz0 hL _ _
  obtain ⟨hbe, hnw⟩ : BehW W ∧ NewW W := tabs_of_laid hL
  have hval : ∀ (j : Nat) t v, Tryd.f3.params[j]? = some t → args[j]? = some v → Value.okWide Tryd.prog W .any base t v := hval0
  have hW' := hW
  obtain ⟨p, q, hA0, hV, rfl, _, _⟩ := hW
  have hA : DataW.TrodAll enc Tryd.prog W 0 (fun _ => true) true Tryd.f3.params.toList args.toList ds p := hA0
  rw [Tryd.params3] at hA hval
  obtain ⟨v0, d0, rfl, rfl, h0⟩ := trodAll_one hA
  obtain ⟨rfl, rfl⟩ := trodVars_none hV
  obtain ⟨A0, n0, c0, bs0, rfl, hh0, hb0, hn0⟩ := open_steps (hval 0 22 v0 rfl rfl) h0
  exact (walk A0 n0 c0 bs0 W hbe hnw hh0 hb0 hn0).mono fun e W' he =>
    law_post rfl rfl (by rw [Tryd.params3]; intro t ht; simp at ht; subst ht; exact ⟨by kernel_rfl, of_decide_eq_true (by kernel_rfl)⟩) hW' rfl he

theorem said : Rows.GrowStepsSaid :=
  OpenClaim.holds_of_cond 3 Tryd.f3 rfl rfl rfl rfl rfl rfl rfl ⟨rfl, rfl, rfl, rfl, rfl⟩ rfl rfl rfl rfl rfl (by kernel_rfl) Tryd.func3 (by kernel_rfl)
    (of_decide_eq_true (by kernel_rfl)) (by unfold Func.isWrapper; first | (rw [if_pos (by decide +kernel)]; kernel_rfl) | (rw [if_neg (by decide +kernel)]; exact ⟨rfl, rfl⟩))
    (fun os started H enc _ F => by rw [OpenClaim.pre_eq_preRow]; exact lifted os started H enc F)
theorem plain (f : FuncId) (fn : Func) (hf : Tryd.pinned.checked.prog.funcNamed "lapidary/lapidarylaw12.GrowSteps" = some f) (hfn : Tryd.pinned.checked.prog.funcs[f]? = some fn) :
    false = Tryd.pinned.checked.prog.looks [] ∧ ∀ (j : Nat) t, fn.params[j]? = some t → Tryd.pinned.checked.prog.wantsStandIn t = false := by
  obtain rfl : f = 3 := Option.some.inj ((show Tryd.prog.funcNamed "lapidary/lapidarylaw12.GrowSteps" = some 3 by kernel_rfl).symm.trans hf) |>.symm
  obtain rfl : fn = Tryd.f3 := (Option.some.inj (Tryd.func3.symm.trans hfn)).symm
  refine ⟨by kernel_rfl, fun j t ht => ?_⟩
  rw [Tryd.params3] at ht
  have hm : t ∈ [22] := by simpa using Array.mem_of_getElem? ht
  have hall : ([22].all fun u => !Tryd.prog.wantsStandIn u) = true := by kernel_rfl
  exact (show Tryd.prog.wantsStandIn t = false by simpa using List.all_eq_true.1 hall t hm)
theorem proved : Rows.GrowStepsCardSaid :=
  Claim7.holds_tied_plain_at .later [] _ _ _ _ said (fun _ h => by cases h) (by kernel_rfl) (fun _ h => by cases h) growSteps_row_tie rfl ⟨rfl, rfl⟩ (by kernel_rfl) rfl plain (by kernel_rfl)
end Go.Proofs.YthjmojglcfmkmaaDoor.growSteps
