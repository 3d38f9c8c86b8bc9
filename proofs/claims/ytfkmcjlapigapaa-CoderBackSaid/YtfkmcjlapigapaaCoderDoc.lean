/- lapidaryref06: Begun, Encode. -/
import Derived.Test.YtfkmcjlapigapaaCoderStepB
namespace Go.Proofs.Ytfkmcjlapigapaa
open Go.RowKit

/-- What one begins with. -/
def beginC (sizes : List Int) : Cdr := { C := sizes.map fun s => List.replicate s.toNat 1, N := 0, D := 5, R := 4294967295 }
def okS (sizes : List Int) : Bool := decide ((∀ s ∈ sizes, 1 ≤ s ∧ s ≤ 256) ∧ sizes.length ≤ 16)
theorem begin_ok {sizes : List Int} (h : ∀ s ∈ sizes, 1 ≤ s ∧ s ≤ 256) : COk (beginC sizes) := by
  refine ⟨fun c hc => ?_, by simp [beginC], by simp [beginC], by simp [beginC], by simp [beginC]⟩
  obtain ⟨s, hs, rfl⟩ := List.mem_map.1 hc
  have := h s hs
  exact Cnts.new (by omega) (by omega)
def Begn (w : World) (ok : Bool) (tt : Cdr) (e : Ending) (w' : World) : Prop := ∃ v t', e = .returned (.tuple #[v, .bool ok]) ∧ TR (fun _ => False) w' t' v ∧ (ok = true → t' = tt) ∧ Below w.heap.size w w'
theorem begn_end {w W : World} {a : Act} {g : Nat} {c0 c1 c2 : Value} {t tt : Cdr} {ok : Bool} (hb : Blk W g 68 #[c0, c1, c2]) (hp : a.tmps.getD 2 undef = .pointer (some ⟨g, 0, none⟩)) (h5 : a.tmps.getD 3 undef = .bool ok) (hd : a.defers = [])
    (hv : TR (fun _ => False) W t (.agg #[c0, c1, c2])) (ht : ok = true → t = tt) (hB : Below w.heap.size w W) : bodyPost Try.prog Try.f28 (Begn w ok tt) Exit.ret a W :=
  bodyPost_ret (results_pair Try.results28 hp (t_load hb)) hd ⟨_, _, by rw [h5], hv, ht, hB⟩
/-- While Begun goes on. -/
structure BG (w : World) (rows : List (List Nat)) (AC : Option Addr) (cC : Nat) (vs : List Value) (wx : World) : Prop where
  b0 : Blk wx w.heap.size 68 #[.slice none 0 0, .slice none 0 0, .int .i64 0]
  b1 : Blk wx (w.heap.size + 1) 3 #[.int .i64 0, .int .i64 0, .int .i64 0, .int .i64 0, .int .i64 0]
  b2 : Blk wx (w.heap.size + 2) 68 #[.slice AC rows.length cC, .slice (some ⟨w.heap.size + 1, 0, none⟩) 5 5, .int .i64 4294967295]
  own : OwnK 1 wx (w.heap.size + 3) 22 (.slice AC rows.length cC) rows.length vs
  rows : Rob (fun k => (Value.slice AC rows.length cC).ownBlock = some k ∨ k < w.heap.size + 3) wx fun W => RowsI W vs rows
  bel : Below w.heap.size w wx
theorem BG.sz {w wx : World} {rows : List (List Nat)} {AC : Option Addr} {cC : Nat} {vs : List Value} (h : BG w rows AC cC vs wx) : w.heap.size + 3 ≤ wx.heap.size := by have := h.b2.lt; omega
theorem BG.next {w wx w' : World} {rows : List (List Nat)} {AC : Option Addr} {cC : Nat} {vs : List Value} (h : BG w rows AC cC vs wx) (hb : Below wx.heap.size wx w') : BG w rows AC cC vs w' :=
  have hz := h.sz
  ⟨h.b0.below hb (by omega), h.b1.below hb (by omega), h.b2.below hb (by omega), h.own.keep hb, Rob.more (fun _ _ hb h => h.kept hb) h.rows hb fun k hk => Or.inl hk, h.bel.trans (hb.mono (by omega))⟩
theorem tr_of {w : World} {t : Cdr} {AC : Option Addr} {cC : Nat} {AN : Option Addr} {cN : Nat} {vs : List Value} (h : TM w t AC cC AN cN vs) : TR (fun _ => False) w t (.agg #[.slice AC t.C.length cC, .slice AN t.D cN, .int .i64 (t.R : Int)]) :=
  ⟨AC, cC, AN, cN, vs, rfl, fun _ hW => h.kept ⟨hW.os, hW.tape, hW.output, Nat.le_of_eq hW.size.symm, fun k _ => hW.block k fun h => h⟩⟩
theorem HasK.ofK {w : World} {A : Option Addr} {n c : Nat} {xs : List Value} (h : HasK 1 w A n c xs) : Has w A n c xs := ⟨by have := h.len; rw [Nat.mul_one] at this; exact this, h.cap, h.bare, h.spot⟩
theorem Blk.has {w : World} {g n : Nat} {t : TypeId} {cs : Array Value} (h : Blk w g t cs) (hn : cs.size = n := by rfl) : Has w (some ⟨g, 0, none⟩) n n cs.toList :=
  ⟨by simpa using hn, Nat.le_refl _, (fun h => by cases h), fun _ => ⟨g, 0, rfl, h.lt, fun j u hu => by rw [Nat.zero_add, h.cell]; simpa using hu⟩⟩
theorem TR.less {D D' : Nat → Prop} {w : World} {t : Cdr} {v : Value} (h : TR D' w t v) (hd : ∀ k, D k → D' k) : TR D w t v := by
  obtain ⟨AC, cC, AN, cN, vs, e, h1⟩ := h
  exact ⟨AC, cC, AN, cN, vs, e, h1.less hd⟩
theorem dig0 : (#[.int .i64 0, .int .i64 0, .int .i64 0, .int .i64 0, .int .i64 0] : Array Value).toList = i64s (digC 5 0) := by simp [i64s, digC]
theorem BG.tr {w wx : World} {rows : List (List Nat)} {AC : Option Addr} {cC : Nat} {vs : List Value} (h : BG w rows AC cC vs wx) : TR (fun k => k = w.heap.size) wx { C := rows, N := 0, D := 5, R := 4294967295 } (.agg #[.slice AC rows.length cC, .slice (some ⟨w.heap.size + 1, 0, none⟩) 5 5, .int .i64 4294967295]) := by
  refine ⟨AC, cC, _, 5, vs, rfl, fun W hW => ⟨?_, h.rows.less (fun k hk => Or.inr (by omega)) W hW, ?_⟩⟩
  · exact ((Rob.ownK h.own (G := fun k => k = w.heap.size) (fun k hk => by omega)) W hW).ofK
  · have h1 : Blk W (w.heap.size + 1) 3 _ := (hW.block _ (by omega)).trans h.b1
    have := h1.has (n := 5)
    rw [dig0] at this
    exact this

theorem OwnK.ge {k : Nat} {w : World} {base : Nat} {e : TypeId} {v : Value} {n : Nat} {xs : List Value} (h : OwnK k w base e v n xs) : ∀ g, v.ownBlock = some g → base ≤ g := by
  intro g hg
  rcases h.2 with ⟨rfl, _⟩ | ⟨g', cap, cur, rfl, hb, _⟩
  · cases hg
  · cases hg; exact hb
theorem BG.spot {w wa w5 : World} {rows : List (List Nat)} {AC : Option Addr} {cC : Nat} {vs : List Value} (h : BG w rows AC cC vs wa) (hgr : wa.grownBy w5 (Value.slice AC rows.length cC).ownBlock) : Blk w5 (w.heap.size + 2) 68 #[.slice AC rows.length cC, .slice (some ⟨w.heap.size + 1, 0, none⟩) 5 5, .int .i64 4294967295] :=
  Blk.chg h.b2 (Chg.of_grown hgr) fun e => by have := h.own.ge _ e; omega
theorem BG.more {w wa w5 : World} {rows : List (List Nat)} {AC : Option Addr} {cC : Nat} {vs : List Value} {A1 : Option Addr} {k c1 : Nat} {l : List Nat} {A5 : Option Addr} {c5 B : Nat} (h : BG w rows AC cC vs wa) (hrow : Own wa B 3 (.slice A1 k c1) (i64s l))
    (hB : Sit (fun k => (Value.slice AC rows.length cC).ownBlock = some k ∨ k < w.heap.size + 3) B) (hown : OwnK 1 w5 (w.heap.size + 3) 22 (.slice A5 (rows.length + 1) c5) (rows.length + 1) (vs ++ [.slice A1 k c1])) (hgr : wa.grownBy w5 (Value.slice AC rows.length cC).ownBlock)
    (hwh : ∀ g, (Value.slice A5 (rows.length + 1) c5).ownBlock = some g → (Value.slice AC rows.length cC).ownBlock = some g ∨ wa.heap.size ≤ g) : BG w (rows ++ [l]) A5 c5 (vs ++ [.slice A1 k c1]) (w5.setCell ⟨w.heap.size + 2, 0, none⟩ (.slice A5 (rows.length + 1) c5)) := by
  have hc := Chg.of_grown hgr
  have hn : ∀ j, j < w.heap.size + 3 → ¬ (Value.slice AC rows.length cC).ownBlock = some j := fun j hj e => by have := h.own.ge _ e; omega
  have hl : (rows ++ [l]).length = rows.length + 1 := by simp
  have hvl : (vs ++ [Value.slice A1 k c1]).length = rows.length + 1 := by have := h.rows.here.1; simp [this]
  have hsz := h.sz
  refine ⟨(Blk.chg h.b0 hc (hn _ (by omega))).far (by simp) _, (Blk.chg h.b1 hc (hn _ (by omega))).far (by simp) _, ?_, ?_, ?_, ?_⟩
  · rw [hl]; exact (h.spot hgr).set_ 0 _
  · rw [hl]
    have := own_set (xs := vs ++ [.slice A1 k c1]) (B := w.heap.size + 3) (e := 22) (v := .slice A5 (rows.length + 1) c5) (wx := w5) (by unfold Own; rw [hvl]; exact hown) (show w.heap.size + 2 < w.heap.size + 3 by omega) 0 (.slice A5 (rows.length + 1) c5)
    unfold Own at this
    rw [hvl] at this
    exact this
  · rw [hl]
    have h1 : Rob (fun k => (Value.slice AC rows.length cC).ownBlock = some k ∨ k < w.heap.size + 3) wa fun W => RowsI W (vs ++ [.slice A1 k c1]) (rows ++ [l]) := fun W hW => by
      have h2 := h.rows W hW
      obtain ⟨A', c', e, hh⟩ := (Rob.row hrow hB W hW).has
      cases e
      refine ⟨by simp [h2.1], fun i hi => ?_⟩
      rw [hl] at hi
      by_cases e : i < rows.length
      · obtain ⟨A2, n2, c2, e2, h3⟩ := h2.2 i e
        exact ⟨A2, n2, c2, by rw [List.getElem?_append_left (by rw [h2.1]; exact e)]; exact e2, by rw [List.getElem_append_left e]; exact h3⟩
      · obtain rfl : i = rows.length := by omega
        exact ⟨A1, _, c1, by rw [List.getElem?_append_right (by rw [h2.1]; exact Nat.le_refl _), h2.1, Nat.sub_self]; rfl, by simpa using hh⟩
    have h4 := Rob.chg (G' := fun k => (Value.slice A5 (rows.length + 1) c5).ownBlock = some k ∨ k < w.heap.size + 3) (fun _ _ hb h => RowsI.kept h hb) h1 (hc.wide (D' := fun k => (Value.slice AC rows.length cC).ownBlock = some k ∨ k < w.heap.size + 3) fun k _ e => Or.inl e) (fun k hk h5 => by
      rcases h5 with h5 | h5
      · rcases hwh k h5 with h6 | h6
        · exact Or.inl h6
        · omega
      · exact Or.inr h5)
    exact h4.far (Far1.farD ((Far1.refl (w.heap.size + 2) w5).set 0 _) (Or.inr (by omega)))
  · exact (h.bel.trans (hc.below (B := w.heap.size) (fun k e => by have := h.own.ge _ e; omega) (by omega))).setCell (p := ⟨w.heap.size + 2, 0, none⟩) (by show w.heap.size ≤ w.heap.size + 2; omega) _
theorem set3_far (W : World) (g : Nat) (c0 c1 c2 : Value) : FarD (fun k => k = g) W (((W.setCell ⟨g, 0, none⟩ c0).setCell ⟨g, 1, none⟩ c1).setCell ⟨g, 2, none⟩ c2) :=
  Far1.farD (G := g) ((((Far1.refl g W).set 0 c0).set 1 c1).set 2 c2) rfl
set_option maxRecDepth 100000 in
set_option maxHeartbeats 1000000 in
theorem ref6Begun_any (A : Option Addr) (n c : Nat) (sizes : List Int) (w : World) (h : Has w A n c (intVs sizes)) (hn : n ≤ 1000) :
    Calls Try.prog 28 #[.slice A n c] w (Begn w (okS sizes) (beginC sizes)) := by
  have HL : Hid (sizes.length = n) := by have := h.len; rw [intVs_len] at this; exact this
  have HH := Lib.hid h
  clear h
  go_enter Try.func28, Try.ntmps28
  go_wp2
  go_loopg [5] n (fun g s5 wx => ∃ (i : Nat) (AC : Option Addr) (cC : Nat) (vs : List Value), i + g = n ∧ s5 = .int .i64 i ∧ Hid (BG w ((sizes.take i).map fun s => List.replicate s.toNat 1) AC cC vs wx) ∧ Hid (∀ s ∈ sizes.take i, 1 ≤ s ∧ s ≤ 256))
  case atStart =>
    refine ⟨0, none, 0, [], by omega, rfl, ⟨((Blk.new _ _ _).alloc _).alloc _, (blk_second _ _ _ _).alloc _, blk_third _ _ _ _ _, OwnK.nil _ _ _ _, fun W _ => ⟨rfl, fun i hi => absurd hi (by simp)⟩, below_three _ _ _ _⟩, by show ∀ _, _; simp⟩
  case round =>
    obtain ⟨i, AC, cC, vs, hig, rfl, HB, HG⟩ := hrel
    have hsz := HB.out.sz
    have hrl : ((sizes.take i).map fun s => List.replicate s.toNat 1).length = i := by rw [List.length_map, List.length_take, HL.out]; omega
    have HRl := Lib.hid hrl
    by_cases hi : i < n
    · have ti : decide ((i : Int) < (n : Int)) = true := by simp; omega
      have hil : i < sizes.length := by rw [HL.out]; exact hi
      obtain ⟨b, off, rfl, hlt, hc⟩ := (HH.out.kept HB.out.bel).spot (by omega)
      have hcell := hc i _ (intVs_at hil)
      have HT : Hid (sizes.take (i + 1) = sizes.take i ++ [sizes[i]]) := List.take_succ_eq_append_getElem hil
      have HMem : Hid (sizes[i] ∈ sizes) := List.getElem_mem hil
      clear hc hrl
      generalize sizes[i] = s at *
      by_cases hs : s < 1 ∨ 256 < s
      · have HE : Hid (okS sizes = false) := decide_eq_false fun h => by have := h.1 s HMem.out; omega
        rw [HE.out]
        have x0 : wr.cell? ⟨w.heap.size + 2, 0, none⟩ = some (.slice AC ((sizes.take i).map fun s => List.replicate s.toNat 1).length cC) := HB.out.b2.cell 0
        have x1 : wr.cell? ⟨w.heap.size + 2, 1, none⟩ = some (.slice (some ⟨w.heap.size + 1, 0, none⟩) 5 5) := HB.out.b2.cell 1
        have x2 : wr.cell? ⟨w.heap.size + 2, 2, none⟩ = some (.int .i64 4294967295) := HB.out.b2.cell 2
        have z0 : wr.cell? ⟨w.heap.size, 0, none⟩ = some (.slice none 0 0) := HB.out.b0.cell 0
        have z1 : wr.cell? ⟨w.heap.size, 1, none⟩ = some (.slice none 0 0) := HB.out.b0.cell 1
        have z2 : wr.cell? ⟨w.heap.size, 2, none⟩ = some (.int .i64 0) := HB.out.b0.cell 2
        have q0 := HB.out.b0.frozen 0
        have q1 := HB.out.b0.frozen 1
        have q2 := HB.out.b0.frozen 2
        have ts : (decide (s < 1) = true) ∨ (decide (s < 1) = false ∧ decide (256 < s) = true) := by
          by_cases h : s < 1
          · exact Or.inl (by simpa using h)
          · exact Or.inr ⟨by simpa using h, by simp; omega⟩
        have HTr := Lib.hid HB.out.tr
        rw [HRl.out] at x0
        rw [HRl.out] at HTr
        have HB2 := Lib.hid (set3_below HB.out.bel (Nat.le_refl _) (.slice AC i cC) (.slice (some ⟨w.heap.size + 1, 0, none⟩) 5 5) (.int .i64 4294967295))
        have HX2 := Lib.hid (set3g (c0 := .slice AC i cC) (c1 := .slice (some ⟨w.heap.size + 1, 0, none⟩) 5 5) (c2 := .int .i64 4294967295) HB.out.b0)
        clear hs HMem HT HE
        rcases ts with t1 | ⟨t1, t2⟩
        all_goals
          go_wp2
          exact begn_end HX2.out rfl rfl rfl ((HTr.out.far (set3_far _ _ _ _ _)).less fun _ h => h.elim) (fun h => by cases h) HB2.out
      · have t1 : decide (s < 1) = false := by simp; omega
        have t2 : decide (256 < s) = false := by simp; omega
        obtain ⟨k, rfl⟩ := Int.eq_ofNat_of_zero_le (show 0 ≤ s by omega)
        have HG2 : Hid (∀ s ∈ sizes.take (i + 1), 1 ≤ s ∧ s ≤ 256) := fun y hy => by
          rw [HT.out] at hy
          rcases List.mem_append.1 hy with h | h
          · exact HG.out y h
          · obtain rfl := List.mem_singleton.1 h; omega
        have HRows : Hid ((sizes.take (i + 1)).map (fun s => List.replicate s.toNat 1) = (sizes.take i).map (fun s => List.replicate s.toNat 1) ++ [List.replicate k 1]) := by
          show _ = _
          rw [HT.out, List.map_append]; rfl
        have HNw := Lib.hid (fun W => ref5New_any k W (by omega))
        have HVl : Hid (vs.length = i) := by have := HB.out.rows.here.1; rw [HRl.out] at this; exact this
        generalize (sizes.take i).map (fun s => List.replicate s.toNat 1) = rows at *
        have x0 : wr.cell? ⟨w.heap.size + 2, 0, none⟩ = some (.slice AC rows.length cC) := HB.out.b2.cell 0
        rw [HRl.out] at x0
        clear hs HMem HT HG
        go_wp2
        go_region_law (first
          | (refine step_joinGK rfl _ _ 66 rfl elemII.toK (by decide) (w.heap.size + 3) _ i vs rfl HO1.out _ 1 1 [.slice A1 k c1] rfl HN1.out ?_ (by omega) (by decide) (Nat.le_trans hsz HZ1.out) ?_
             · intro u hu; simp at hu; rw [hu]; rfl
             intro v5 w5 hown5 hgr5 hwh5
             have HO5 := Lib.hid hown5
             have HG5 := Lib.hid hgr5
             have HW5 := Lib.hid hwh5
             obtain ⟨A5, c5, hv5, _⟩ := hown5.has
             subst hv5
             have HSp := Lib.hid ((HBG.out.next (new_alloc (Below.refl _ w1) (.cells #[.slice A1 k c1] 22))).spot (by rw [HRl.out]; exact hgr5))
             rw [HRl.out] at HSp
             have s0 : w5.cell? ⟨w.heap.size + 2, 0, none⟩ = some (.slice AC i cC) := HSp.out.cell 0
             have s1 := HSp.out.frozen 0
             clear hown5 hgr5 hwh5)
          | (go_simp; go_at_call 45; refine (HNw.out _).mono ?_; rintro e w1 ⟨v1, rfl, hown1, hb1⟩; obtain ⟨A1, c1, hv1, hh1⟩ := hown1.has; rw [i64s_len, List.length_replicate] at hv1 hh1; subst hv1; have HB1 : Hid (Below wr.heap.size wr w1) := new_call (Below.refl _ wr).drew hb1; have HBG := Lib.hid (HB.out.next HB1.out); have y0 : w1.cell? ⟨w.heap.size + 2, 0, none⟩ = some (.slice AC rows.length cC) := HBG.out.b2.cell 0; rw [HRl.out] at y0; have ya : (w1.alloc (.cells #[.slice A1 k c1] 22)).cell? ⟨w.heap.size + 2, 0, none⟩ = some (.slice AC i cC) := cell_stays _ _ (new_alloc (Below.refl _ _) _) y0; have HRo := Lib.hid hown1; have HO1 : Hid (OwnK 1 (w1.alloc (.cells #[.slice A1 k c1] 22)) (w.heap.size + 3) 22 (.slice AC i cC) i vs) := (by have := HBG.out.own.alloc (.cells #[.slice A1 k c1] 22); rw [HRl.out] at this; exact this); have HN1 : Hid (HasK 1 (w1.alloc (.cells #[.slice A1 k c1] 22)) (some ⟨w1.heap.size, 0, none⟩) 1 1 [.slice A1 k c1]) := (Has.one _ _ _).toK; have HZ1 : Hid (wr.heap.size ≤ (w1.alloc (.cells #[.slice A1 k c1] 22)).heap.size) := Nat.le_trans HB1.out.size (new_alloc (Below.refl _ _) _).size; clear hown1 hb1 hh1))
        all_goals
          have HFin : Hid (BG w ((sizes.take (i + 1)).map fun s => List.replicate s.toNat 1) A5 c5 (vs ++ [.slice A1 k c1]) (w5.setCell ⟨w.heap.size + 2, 0, none⟩ (.slice A5 (i + 1) c5))) := by
            show BG _ _ _ _ _ _
            rw [HRows.out]
            have h1 := BG.more (w5 := w5) (A5 := A5) (c5 := c5) (HBG.out.next (new_alloc (Below.refl _ w1) (.cells #[.slice A1 k c1] 22))) (HRo.out.alloc _) (fun j hj => by
              show j < wr.heap.size
              rcases hj with hj | hj
              · exact (World.ownsRow.lt HB.out.own j hj).2
              · omega)
            rw [HRl.out] at h1
            exact h1 HO5.out HG5.out HW5.out
          clear HBG HRo HO1 HN1 HO5 HG5 HW5 HSp s0 s1 ya y0 x0
          go_wp2
          go_roundg (gk - 1)
          case measure => omega
          case rel => exact ⟨i + 1, A5, c5, _, by omega, by go_num, HFin, HG2⟩
    · have ti : decide ((i : Int) < (n : Int)) = false := by simp; omega
      obtain rfl : i = n := by omega
      rw [List.take_of_length_le (by rw [HL.out]; exact Nat.le_refl _)] at HB HG HRl
      have HE : Hid (okS sizes = decide ((i : Int) ≤ 16)) := by
        show _ = _
        unfold okS
        rw [HL.out]
        by_cases h : i ≤ 16
        · rw [decide_eq_true ⟨HG.out, h⟩, decide_eq_true (by omega)]
        · rw [decide_eq_false fun h' => h h'.2, decide_eq_false (by omega)]
      have x0 : wr.cell? ⟨w.heap.size + 2, 0, none⟩ = some (.slice AC (sizes.map fun s => List.replicate s.toNat 1).length cC) := HB.out.b2.cell 0
      have x1 : wr.cell? ⟨w.heap.size + 2, 1, none⟩ = some (.slice (some ⟨w.heap.size + 1, 0, none⟩) 5 5) := HB.out.b2.cell 1
      have x2 : wr.cell? ⟨w.heap.size + 2, 2, none⟩ = some (.int .i64 4294967295) := HB.out.b2.cell 2
      have z0 : wr.cell? ⟨w.heap.size, 0, none⟩ = some (.slice none 0 0) := HB.out.b0.cell 0
      have z1 : wr.cell? ⟨w.heap.size, 1, none⟩ = some (.slice none 0 0) := HB.out.b0.cell 1
      have z2 : wr.cell? ⟨w.heap.size, 2, none⟩ = some (.int .i64 0) := HB.out.b0.cell 2
      have q0 := HB.out.b0.frozen 0
      have q1 := HB.out.b0.frozen 1
      have q2 := HB.out.b0.frozen 2
      have HTr := Lib.hid HB.out.tr
      rw [HRl.out] at x0
      rw [HRl.out] at HTr
      have HB2 := Lib.hid (set3_below HB.out.bel (Nat.le_refl _) (.slice AC i cC) (.slice (some ⟨w.heap.size + 1, 0, none⟩) 5 5) (.int .i64 4294967295))
      have HX2 := Lib.hid (set3g (c0 := .slice AC i cC) (c1 := .slice (some ⟨w.heap.size + 1, 0, none⟩) 5 5) (c2 := .int .i64 4294967295) HB.out.b0)
      clear hrl
      go_wp2
      exact begn_end HX2.out rfl (by rw [HE.out]; rfl) rfl ((HTr.out.far (set3_far _ _ _ _ _)).less fun _ h => h.elim) (fun _ => rfl) HB2.out
end Go.Proofs.Ytfkmcjlapigapaa
