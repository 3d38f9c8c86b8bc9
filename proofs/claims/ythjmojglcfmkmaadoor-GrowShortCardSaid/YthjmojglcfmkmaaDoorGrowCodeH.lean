import Derived.Test.YthjmojglcfmkmaaDoorGrowRefB
import Derived.Test.YthjmojglcfmkmaaDoorGrowPlain
import Derived.Test.YthjmojglcfmkmaaDoorWalkCodeD
import Derived.Test.YthjmojglcfmkmaaDoorGrowRefC
import Derived.Laws.Cover3
import Derived.Lib.SliceRun
/- The landed grower: its map of used edges; an edge the other way round; whether an edge is used. -/
namespace Go.Proofs.YthjmojglcfmkmaaDoor
open Go.RowKit

theorem arrEg : WideMaps.ArrKey Tryd.prog 71 3 2 := ⟨Tryd.underlying71, by kernel_rfl, by kernel_rfl, by kernel_rfl⟩
theorem lawEg : Maps.Keyed Tryd.prog 71 := Maps.Keyed.of_law arrEg.law
theorem keyOf_e2g {d : D2} (h : in64 d) : keyOf Tryd.prog 71 (e2V d) = some (keyL d) := WideMaps.keyOf_pair arrEg Tryd.underlying3 typesE h.1 h.2
theorem edgeInfoG : (Tryd.prog.info? 71).map (fun i => (i.zero, i.size)) = some (some (.agg #[.int .i64 0, .int .i64 0]), 2) := by kernel_rfl
theorem unitInfo : (Tryd.prog.info? 105).map (fun i => (i.zero, i.size)) = some (some (.agg #[]), 0) := by kernel_rfl
theorem zeroUnit (w : World) : (zeroValue 105).run Tryd.prog w = .ok (.agg #[]) w := by kernel_rfl
theorem elemEg : ElemK Tryd.prog 59 71 2 16 := by
  have h : (Tryd.prog.info? 71).map (fun i => (i.zero, i.size, i.bytes)) = some (some (.agg #[.int .i64 0, .int .i64 0]), 2, 16) := by kernel_rfl
  obtain ⟨i, h1, h2, h3, h4⟩ := info_parts h
  exact ⟨Tryd.underlying59, i, _, h1, h2, h3, h4, rfl⟩
theorem edge_loadG (W : World) (a b : Value) (g : Nat) (h : Blk W g 71 #[a, b]) : (loadVar 71 ⟨g, 0, none⟩).run Tryd.prog W = .ok (.agg #[a, b]) W := by
  obtain ⟨kz, ks⟩ := zero_of_info edgeInfoG
  exact run_loadVar_row _ _ _ _ _ _ _ h Tryd.underlying71 rfl (by rw [ks]; rfl)
/-- How nothing reads: through no place. -/
def unitR (v : Value) : Option (DataW Unit × List MemPlace) := match v with
  | .agg ⟨[]⟩ => some (.agg [], [])
  | _ => none
theorem unitR_mk : unitR (.agg #[]) = some (.agg [], []) := rfl
theorem unitR_inv {v : Value} {y : DataW Unit × List MemPlace} (h : unitR v = some y) : v = .agg #[] := by
  unfold unitR at h
  split at h
  · rfl
  · cases h
def usedD (U : List D2) : DataW Unit := U.foldl (fun D d => D.put (keyL d) (.agg [])) (.map [])
theorem usedD_snoc (U : List D2) (d : D2) : usedD (U ++ [d]) = (usedD U).put (keyL d) (.agg []) := by
  unfold usedD
  rw [List.foldl_append]
  rfl
def AllU (U : List D2) : Prop := ∀ d ∈ U, in64 d
theorem usedD_tidy {U : List D2} : AllU U → Maps.Tidy (usedD U) := by
  induction U using list_snoc with
  | h0 => intro _; exact Maps.tidy_empty
  | h1 U e ih =>
    intro h
    rw [usedD_snoc]
    exact (ih fun d hd => h d (List.mem_append_left _ hd)).put (keyL_key (h e (List.mem_append_right _ (List.mem_singleton.2 rfl)))) _
theorem usedD_has {U : List D2} {d : D2} (hd : in64 d) : AllU U → Maps.has (usedD U) (keyL d) = decide (d ∈ U) := by
  induction U using list_snoc with
  | h0 => intro _; rfl
  | h1 U e ih =>
    intro h
    have hl : AllU U := fun d hd => h d (List.mem_append_left _ hd)
    have he : in64 e := h e (List.mem_append_right _ (List.mem_singleton.2 rfl))
    rw [usedD_snoc]
    by_cases h1 : d = e
    · subst h1
      rw [Maps.has_put_same (usedD_tidy hl).isMap (keyL_key he)]
      exact (decide_eq_true (List.mem_append_right _ (List.mem_singleton.2 rfl))).symm
    · rw [Maps.has_put_other (fun h2 => h1 (keyL_inj hd he h2)), ih hl]
      apply decide_eq_decide.2
      rw [List.mem_append]
      exact ⟨Or.inl, fun h2 => h2.elim id fun h3 => absurd (List.mem_singleton.1 h3) h1⟩
/-- A block holds these edges. -/
def UsedW (w : World) (b : Nat) (U : List D2) : Prop := w.ownsMap Tryd.prog 71 unitR b U.length (usedD U) ∧ AllU U
theorem UsedW.lt {w : World} {b : Nat} {U : List D2} (h : UsedW w b U) : b < w.heap.size := World.ownsMap.lt h.1
theorem UsedW.far {w w' : World} {b : Nat} {U : List D2} (h : UsedW w b U) (hb : w'.heap[b]? = w.heap[b]?) : UsedW w' b U := by
  obtain ⟨⟨es, clock, h1, h2⟩, h3⟩ := h
  exact ⟨⟨es, clock, hb.trans h1, h2⟩, h3⟩
theorem UsedW.kept {w w' : World} {b : Nat} {U : List D2} (h : UsedW w b U) (hb : Below w.heap.size w w') : UsedW w' b U := h.far (hb.block b h.lt)
theorem look_used {w : World} {b : Nat} {U : List D2} (h : UsedW w b U) {d : D2} (hd : in64 d) :
    (Instr.lookup 60 (.map (some b)) (.agg #[.int .i64 d.1, .int .i64 d.2]) true).run Tryd.prog w = .ok (.tuple #[.agg #[], .bool (decide (d ∈ U))]) w := by
  obtain ⟨v, ps, h1, h2⟩ := World.ownsMap.look_ok h.1 lawEg Tryd.underlying60 (zeroUnit w) unitR_mk (keyOf_e2g hd)
  obtain rfl := unitR_inv h2
  rw [usedD_has hd h.2] at h1
  exact h1
theorem run_makeUsed (w : World) : (Instr.makeMap 60 none).run Tryd.prog w = .ok (.map (some w.heap.size)) (w.alloc (.map #[] 0)) := by kernel_rfl
set_option maxRecDepth 100000 in
theorem growBack_any (x y : Int) (w : World) : Calls Tryd.prog 50 #[.agg #[.int .i64 x, .int .i64 y]] w fun e w' => e = .returned (.agg #[.int .i64 y, .int .i64 x]) ∧ Below w.heap.size w w' := by
  have HA := Lib.hid (Blk.new w 71 #[.int .i64 x, .int .i64 y])
  have HB := Lib.hid (new_alloc (new_alloc (Below.refl w.heap.size w) (.cells #[.int .i64 x, .int .i64 y] 71)) (.cells #[.int .i64 y, .int .i64 x] 71))
  have HK : Hid (Blk ((w.alloc (.cells #[.int .i64 x, .int .i64 y] 71)).alloc (.cells #[.int .i64 y, .int .i64 x] 71)) (w.heap.size + 1) 71 #[.int .i64 y, .int .i64 x]) := blk_second
  have c0 : (w.alloc (.cells #[.int .i64 x, .int .i64 y] 71)).cell? ⟨w.heap.size, 0, none⟩ = _ := HA.out.cell 0
  have c1 : (w.alloc (.cells #[.int .i64 x, .int .i64 y] 71)).cell? ⟨w.heap.size, 1, none⟩ = _ := HA.out.cell 1
  go_enter Tryd.func50, Tryd.ntmps50
  go_wp2
  try rw [Exit.noGoto_ret]
  exact bodyPost_ret (results_cellM Tryd.results50 rfl (edge_loadG _ _ _ _ HK.out)) rfl ⟨rfl, HB.out⟩
set_option maxRecDepth 100000 in
theorem isUsed_any (g b : Nat) (U : List D2) (x y : Int) (w : World) (hg : w.cell? ⟨g, 3, none⟩ = some (.map (some b))) (hU : UsedW w b U) (hd : in64 (x, y)) :
    Calls Tryd.prog 51 #[.pointer (some ⟨g, 0, none⟩), .agg #[.int .i64 x, .int .i64 y]] w fun e w' => e = .returned (.bool (decide ((x, y) ∈ U))) ∧ Below w.heap.size w w' := by
  have HA := Lib.hid (Blk.new w 71 #[.int .i64 x, .int .i64 y])
  have HB := Lib.hid (new_alloc (Below.refl w.heap.size w) (.cells #[.int .i64 x, .int .i64 y] 71))
  have HL := Lib.hid (fun W (hW : Below w.heap.size w W) => look_used (hU.kept hW) hd)
  have hlt := World.block_lt_of_cell? w _ hg
  have m3 : (w.alloc (.cells #[.int .i64 x, .int .i64 y] 71)).cell? ⟨g, 3, none⟩ = some (.map (some b)) := (HB.out.cell (p := ⟨g, 3, none⟩) hlt).trans hg
  have n3 : ((w.alloc (.cells #[.int .i64 x, .int .i64 y] 71)).alloc (.cells #[] 105)).cell? ⟨g, 3, none⟩ = some (.map (some b)) := ((new_alloc HB.out _).cell (p := ⟨g, 3, none⟩) hlt).trans hg
  have c0 := HA.out.cell 0
  have c1 := HA.out.cell 1
  clear hg hU hlt
  obtain ⟨kz, ks⟩ := zero_of_info unitInfo
  obtain ⟨ez, es⟩ := zero_of_info edgeInfoG
  generalize hR : decide ((x, y) ∈ U) = R
  have HR := Lib.hid hR
  clear hR
  have HB2 := Lib.hid (new_alloc HB.out (.cells #[] 105))
  have HA2 := Lib.hid (HA.out.alloc (.cells #[] 105))
  have hlk := HL.out _ HB.out.drew
  have hlk2 := HL.out _ HB2.out.drew
  have d0 := HA2.out.cell 0
  have d1 := HA2.out.cell 1
  rw [HR.out] at hlk hlk2
  go_enter Tryd.func51, Tryd.ntmps51
  go_wp2
  go_region
  all_goals
    go_wp2
    go_ret
    first
      | exact ⟨rfl, HB2.out⟩
      | exact ⟨rfl, HB2.out.drew⟩
      | exact ⟨rfl, new_alloc HB.out.drew _⟩
end Go.Proofs.YthjmojglcfmkmaaDoor

/- The landed grower, as it lies in memory: what its methods write. -/
namespace Go.Proofs.YthjmojglcfmkmaaDoor
open Go.RowKit

/-- A grower in the block g, its rows and its map; their blocks are among F, and no two the same. -/
structure GrX (w : World) (F : Nat → Prop) (g : Nat) (a d mp : Value) (N E : Int) (T : List P3) (P U : List D2) : Prop where
  box : Blk w g 62 #[a, .int .i64 N, d, mp, .int .i64 E]
  rT : OwnK 3 w 0 58 a T.length (p3Cells T)
  rG : OwnW 2 w 71 d P.length (e2Cells P)
  rU : (mp = .map none ∧ U = []) ∨ ∃ b, mp = .map (some b) ∧ UsedW w b U
  fg : F g
  fT : ∀ k, a.ownBlock = some k → F k
  fG : ∀ k, d.ownBlock = some k → F k
  fU : ∀ k, mp = .map (some k) → F k
  gT : a.ownBlock ≠ some g
  gG : d.ownBlock ≠ some g
  gU : mp ≠ .map (some g)
  aTG : ∀ k, a.ownBlock = some k → d.ownBlock ≠ some k
  aTU : ∀ k, mp = .map (some k) → a.ownBlock ≠ some k
  aGU : ∀ k, mp = .map (some k) → d.ownBlock ≠ some k
def UsedV (w : World) (mp : Value) (U : List D2) : Prop := (mp = .map none ∧ U = []) ∨ ∃ b, mp = .map (some b) ∧ UsedW w b U
theorem UsedV.far {w w' : World} {mp : Value} {U : List D2} (h : UsedV w mp U) (hb : ∀ b, mp = .map (some b) → b < w.heap.size → w'.heap[b]? = w.heap[b]?) : UsedV w' mp U :=
  h.imp id fun ⟨b, h1, h2⟩ => ⟨b, h1, h2.far (hb b h1 h2.lt)⟩
theorem UsedV.lt {w : World} {mp : Value} {U : List D2} (h : UsedV w mp U) {b : Nat} (hb : mp = .map (some b)) : b < w.heap.size := by
  rcases h with ⟨h1, _⟩ | ⟨b', h1, h2⟩
  · rw [h1] at hb; cases hb
  · rw [h1] at hb
    cases hb
    exact h2.lt
section
variable {w w' : World} {F : Nat → Prop} {g : Nat} {a d mp : Value} {N E : Int} {T : List P3} {P U : List D2}
theorem GrX.chg {D : Nat → Prop} (h : GrX w F g a d mp N E T P U) (hc : Chg D w w') (hd : ∀ k, k < w.heap.size → F k → ¬ D k) : GrX w' F g a d mp N E T P U :=
  ⟨h.box.chg hc (hd g h.box.lt h.fg), h.rT.chg hc (fun k hk => hd k (h.rT.zlt k hk) (h.fT k hk)), h.rG.chg hc (fun k hk => hd k (h.rG.zlt k hk) (h.fG k hk)),
    UsedV.far h.rU (fun b hb hl => hc.block b hl (hd b hl (h.fU b hb))), h.fg, h.fT, h.fG, h.fU, h.gT, h.gG, h.gU, h.aTG, h.aTU, h.aGU⟩
theorem GrX.next (h : GrX w F g a d mp N E T P U) (hb : Below w.heap.size w w') : GrX w' F g a d mp N E T P U := h.chg (D := fun _ => False) (Chg.of_below hb) (fun _ _ _ e => e)
theorem GrX.among {F' : Nat → Prop} (h : GrX w F g a d mp N E T P U) (hf : ∀ k, k < w.heap.size → F k → F' k) : GrX w F' g a d mp N E T P U :=
  ⟨h.box, h.rT, h.rG, h.rU, hf g h.box.lt h.fg, (fun k hk => hf k (h.rT.zlt k hk) (h.fT k hk)), (fun k hk => hf k (h.rG.zlt k hk) (h.fG k hk)), (fun k hk => hf k (UsedV.lt h.rU hk) (h.fU k hk)), h.gT, h.gG, h.gU, h.aTG, h.aTU, h.aGU⟩
/-- One cell of the grower stored, the rows being known. -/
theorem grx_store {old : Array Value} {a' d' mp' : Value} {N' E' : Int} {T' : List P3} {P' U' : List D2} (hb : Blk w g 62 old) (j : Nat) (u : Value)
    (he : old.setIfInBounds j u = #[a', .int .i64 N', d', mp', .int .i64 E']) (rT : OwnK 3 w 0 58 a' T'.length (p3Cells T')) (rG : OwnW 2 w 71 d' P'.length (e2Cells P')) (rU : UsedV w mp' U')
    (fg : F g) (fT : ∀ k, a'.ownBlock = some k → F k) (fG : ∀ k, d'.ownBlock = some k → F k) (fU : ∀ k, mp' = .map (some k) → F k) (gT : a'.ownBlock ≠ some g) (gG : d'.ownBlock ≠ some g) (gU : mp' ≠ .map (some g))
    (aTG : ∀ k, a'.ownBlock = some k → d'.ownBlock ≠ some k) (aTU : ∀ k, mp' = .map (some k) → a'.ownBlock ≠ some k) (aGU : ∀ k, mp' = .map (some k) → d'.ownBlock ≠ some k) :
    GrX (w.setCell ⟨g, j, none⟩ u) F g a' d' mp' N' E' T' P' U' ∧ Chg F w (w.setCell ⟨g, j, none⟩ u) := by
  have hb2 := hb.set_ j u
  rw [he] at hb2
  refine ⟨⟨hb2, World.ownsRow.kept rT (grown_set w ⟨g, j, none⟩ u) (Or.inr gT), rG.kept (grown_set w ⟨g, j, none⟩ u) (Or.inr gG), UsedV.far rU (fun b hb _ => Below.heap_setCell w ⟨g, j, none⟩ u b (fun e => gU (by rw [hb, e]))), fg, fT, fG, fU, gT, gG, gU, aTG, aTU, aGU⟩, ?_⟩
  exact (Chg.of_grown (grown_set w ⟨g, j, none⟩ u)).wide fun k _ e => by cases e; exact fg
theorem GrX.blkT (h : GrX w F g a d mp N E T P U) (hg : w.grownBy w' a.ownBlock) : Blk w' g 62 #[a, .int .i64 N, d, mp, .int .i64 E] := (hg.block g h.box.lt (fun e => h.gT e.symm)).trans h.box
theorem GrX.blkG (h : GrX w F g a d mp N E T P U) (hg : w.grownBy w' d.ownBlock) : Blk w' g 62 #[a, .int .i64 N, d, mp, .int .i64 E] := (hg.block g h.box.lt (fun e => h.gG e.symm)).trans h.box
theorem GrX.putT (h : GrX w F g a d mp N E T P U) (hF : ∀ k, w.heap.size ≤ k → F k) {a' : Value} {l : List P3} (ho : OwnK 3 w' 0 58 a' l.length (p3Cells l)) (hg : w.grownBy w' a.ownBlock) (hw : ∀ k, a'.ownBlock = some k → a.ownBlock = some k ∨ w.heap.size ≤ k) :
    GrX (w'.setCell ⟨g, 0, none⟩ a') F g a' d mp N E l P U ∧ Blk w' g 62 #[a, .int .i64 N, d, mp, .int .i64 E] ∧ Chg F w (w'.setCell ⟨g, 0, none⟩ a') := by
  have hlg := h.box.lt
  have hlU : ∀ k, mp = .map (some k) → k < w.heap.size := fun k hk => UsedV.lt h.rU hk
  obtain ⟨h1, h2⟩ := grx_store (h.blkT hg) 0 a' rfl ho (h.rG.kept hg (by
      cases hd : d.ownBlock with
      | none => exact Or.inl rfl
      | some k => exact Or.inr fun e => h.aTG k e.symm hd)) (UsedV.far h.rU fun b hb hl => hg.block b hl (fun e => h.aTU b hb e.symm))
    h.fg (fun k hk => (hw k hk).elim (h.fT k) (hF k)) h.fG h.fU (fun e => (hw g e).elim h.gT (fun e => by omega)) h.gG h.gU (fun k hk hd => (hw k hk).elim (fun e => h.aTG k e hd) (fun e => by have := h.rG.zlt k hd; omega))
    (fun k hk e => (hw k e).elim (h.aTU k hk) (fun e => by have := hlU k hk; omega)) h.aGU
  exact ⟨h1, h.blkT hg, ((Chg.of_grown hg).wide fun k _ e => h.fT k e).then_ (D' := F) h2 (fun _ _ e => e)⟩
theorem GrX.putG (h : GrX w F g a d mp N E T P U) (hF : ∀ k, w.heap.size ≤ k → F k) {d' : Value} {l : List D2} (ho : OwnW 2 w' 71 d' l.length (e2Cells l)) (hg : w.grownBy w' d.ownBlock) (hw : ∀ k, d'.ownBlock = some k → d.ownBlock = some k ∨ w.heap.size ≤ k) :
    GrX (w'.setCell ⟨g, 2, none⟩ d') F g a d' mp N E T l U ∧ Blk w' g 62 #[a, .int .i64 N, d, mp, .int .i64 E] ∧ Chg F w (w'.setCell ⟨g, 2, none⟩ d') := by
  have hlg := h.box.lt
  have hlU : ∀ k, mp = .map (some k) → k < w.heap.size := fun k hk => UsedV.lt h.rU hk
  obtain ⟨h1, h2⟩ := grx_store (h.blkG hg) 2 d' rfl (World.ownsRow.kept h.rT hg (by
      cases hd : a.ownBlock with
      | none => exact Or.inl rfl
      | some k => exact Or.inr fun e => h.aTG k hd e.symm)) ho (UsedV.far h.rU fun b hb hl => hg.block b hl (fun e => h.aGU b hb e.symm))
    h.fg h.fT (fun k hk => (hw k hk).elim (h.fG k) (hF k)) h.fU h.gT (fun e => (hw g e).elim h.gG (fun e => by omega)) h.gU (fun k hk hd => (hw k hd).elim (fun e => h.aTG k hk e) (fun e => by have := h.rT.zlt k hk; omega))
    h.aTU (fun k hk e => (hw k e).elim (h.aGU k hk) (fun e => by have := hlU k hk; omega))
  exact ⟨h1, h.blkG hg, ((Chg.of_grown hg).wide fun k _ e => h.fG k e).then_ (D' := F) h2 (fun _ _ e => e)⟩
/-- Gates cut. -/
theorem GrX.cutG {A : Option Addr} {c n m c' : Nat} (h : GrX w F g a (.slice A n c) mp N E T P U) (hn : P.length = n) (hm : m ≤ n) (hc : m ≤ c') (hc' : c' ≤ c) :
    GrX (w.setCell ⟨g, 2, none⟩ (.slice A m c')) F g a (.slice A m c') mp N E T (P.take m) U ∧ Chg F w (w.setCell ⟨g, 2, none⟩ (.slice A m c')) := by
  subst hn
  have hr := h.rG.cut hm hc hc'
  have hown : ∀ k, (Value.slice A m c').ownBlock = some k → (Value.slice A P.length c).ownBlock = some k := fun k hk => by cases A <;> exact hk
  have e2 : (e2Cells P).take (m * 2) = e2Cells (P.take m) := by
    have : ∀ (l : List D2) (m : Nat), (e2Cells l).take (m * 2) = e2Cells (l.take m) := fun l => by
      induction l with
      | nil => intro m; simp [e2Cells]
      | cons x l ih =>
        intro m
        cases m with
        | zero => simp [e2Cells]
        | succ m =>
          rw [List.take_succ_cons, show (m + 1) * 2 = m * 2 + 1 + 1 by omega]
          show (Value.int .i64 x.1 :: Value.int .i64 x.2 :: e2Cells l).take (m * 2 + 1 + 1) = Value.int .i64 x.1 :: Value.int .i64 x.2 :: e2Cells (l.take m)
          rw [List.take_succ_cons, List.take_succ_cons, ih]
    exact this P m
  rw [e2] at hr
  have hr2 : OwnW 2 w 71 (.slice A m c') (P.take m).length (e2Cells (P.take m)) := by rw [List.length_take, Nat.min_eq_left hm]; exact hr
  exact grx_store h.box 2 (.slice A m c') rfl h.rT hr2 h.rU h.fg h.fT (fun k hk => h.fG k (hown k hk)) h.fU h.gT (fun e => h.gG (hown g e)) h.gU (fun k hk hd => h.aTG k hk (hown k hd)) h.aTU (fun k hk e => h.aGU k hk (hown k e))
theorem GrX.setN (h : GrX w F g a d mp N E T P U) (M : Int) : GrX (w.setCell ⟨g, 1, none⟩ (.int .i64 M)) F g a d mp M E T P U ∧ Chg F w (w.setCell ⟨g, 1, none⟩ (.int .i64 M)) :=
  grx_store h.box 1 _ rfl h.rT h.rG h.rU h.fg h.fT h.fG h.fU h.gT h.gG h.gU h.aTG h.aTU h.aGU
theorem GrX.setE (h : GrX w F g a d mp N E T P U) (e : Int) : GrX (w.setCell ⟨g, 4, none⟩ (.int .i64 e)) F g a d mp N e T P U ∧ Chg F w (w.setCell ⟨g, 4, none⟩ (.int .i64 e)) :=
  grx_store h.box 4 _ rfl h.rT h.rG h.rU h.fg h.fT h.fG h.fU h.gT h.gG h.gU h.aTG h.aTU h.aGU
/-- A map made. -/
theorem GrX.mapMade (h : GrX w F g a d mp N E T P []) (hF : ∀ k, w.heap.size ≤ k → F k) :
    GrX ((w.alloc (.map #[] 0)).setCell ⟨g, 3, none⟩ (.map (some w.heap.size))) F g a d (.map (some w.heap.size)) N E T P [] ∧ Blk (w.alloc (.map #[] 0)) g 62 #[a, .int .i64 N, d, mp, .int .i64 E] ∧ Chg F w ((w.alloc (.map #[] 0)).setCell ⟨g, 3, none⟩ (.map (some w.heap.size))) := by
  have hb : Below w.heap.size w (w.alloc (.map #[] 0)) := new_alloc (Below.refl _ _) _
  have h2 := h.next hb
  have hlg := h.box.lt
  obtain ⟨h3, h4⟩ := grx_store (F := F) h2.box 3 (.map (some w.heap.size)) rfl h2.rT h2.rG (U' := []) (Or.inr ⟨w.heap.size, rfl, World.ownsMap_made w _ _ _, fun d hd => by cases hd⟩) h.fg h.fT h.fG (fun k hk => by cases hk; exact hF _ (Nat.le_refl _)) h.gT h.gG (fun e => by cases e; omega)
    h.aTG (fun k hk e => by cases hk; have := h.rT.zlt _ e; omega) (fun k hk e => by cases hk; have := h.rG.zlt _ e; omega)
  exact ⟨h3, h2.box, (Chg.of_below (D := F) hb).then_ (D' := F) h4 (fun _ _ e => e)⟩
/-- An edge used. -/
theorem GrX.use {b : Nat} (h : GrX w F g a d (.map (some b)) N E T P U) {x : D2} (hU' : UsedW w' b (U ++ [x])) (hg : w.grownBy w' (some b)) : GrX w' F g a d (.map (some b)) N E T P (U ++ [x]) ∧ Chg F w w' := by
  have hne : g ≠ b := fun e => h.gU (by rw [e])
  refine ⟨⟨(hg.block g h.box.lt (fun e => hne (Option.some.inj e))).trans h.box, World.ownsRow.kept h.rT hg (Or.inr (h.aTU b rfl)), h.rG.kept hg (Or.inr (h.aGU b rfl)), Or.inr ⟨b, rfl, hU'⟩, h.fg, h.fT, h.fG, h.fU, h.gT, h.gG, h.gU, h.aTG, h.aTU, h.aGU⟩, ?_⟩
  exact (Chg.of_grown hg).wide fun k _ e => by cases e; exact h.fU b rfl
end
/-- The grower, wherever its rows lie. -/
def GR (w : World) (F : Nat → Prop) (g : Nat) (N E : Int) (T : List P3) (P U : List D2) : Prop := ∃ a d mp, GrX w F g a d mp N E T P U
section
variable {w w' : World} {F : Nat → Prop} {g : Nat} {N E : Int} {T : List P3} {P U : List D2}
theorem GR.next (h : GR w F g N E T P U) (hb : Below w.heap.size w w') : GR w' F g N E T P U := by
  obtain ⟨a, d, mp, h⟩ := h
  exact ⟨a, d, mp, h.next hb⟩
theorem GR.chg {D : Nat → Prop} (h : GR w F g N E T P U) (hc : Chg D w w') (hd : ∀ k, k < w.heap.size → F k → ¬ D k) : GR w' F g N E T P U := by
  obtain ⟨a, d, mp, h⟩ := h
  exact ⟨a, d, mp, h.chg hc hd⟩
theorem GR.among {F' : Nat → Prop} (h : GR w F g N E T P U) (hf : ∀ k, k < w.heap.size → F k → F' k) : GR w F' g N E T P U := by
  obtain ⟨a, d, mp, h⟩ := h
  exact ⟨a, d, mp, h.among hf⟩
end
/-- What a method of the grower answers, that tells nothing. -/
def GDone (F : Nat → Prop) (g : Nat) (N E : Int) (T : List P3) (P U : List D2) (w : World) (e : Ending) (w' : World) : Prop := e = .returned (.tuple #[]) ∧ GR w' F g N E T P U ∧ Chg F w w'
theorem fresh_chg {F D : Nat → Prop} {w w' : World} (hF : ∀ k, w.heap.size ≤ k → F k) (hc : Chg D w w') : ∀ k, w'.heap.size ≤ k → F k := fun k hk => hF k (Nat.le_trans hc.size hk)
theorem growerInfo : (Tryd.prog.info? 62).map (fun i => (i.zero, i.size)) = some (some (.agg #[.slice none 0 0, .int .i64 0, .slice none 0 0, .map none, .int .i64 0]), 5) := by kernel_rfl
end Go.Proofs.YthjmojglcfmkmaaDoor

/- The landed grower: a new vertex, edges used, gates laid and taken. -/
namespace Go.Proofs.YthjmojglcfmkmaaDoor
open Go.RowKit

set_option maxRecDepth 100000 in
set_option maxHeartbeats 400000 in
theorem growFresh_any (F : Nat → Prop) (g : Nat) (N E : Int) (T : List P3) (P U : List D2) (w : World) (h : GR w F g N E T P U) (hN : 0 ≤ N ∧ N ≤ 100000) :
    Calls Tryd.prog 32 #[.pointer (some ⟨g, 0, none⟩)] w fun e w' => e = .returned (.int .i64 N) ∧ GR w' F g (N + 1) E T P U ∧ Chg F w w' := by
  obtain ⟨a, d, mp, h⟩ := h
  have HX := Lib.hid h
  have HN := Lib.hid (h.setN (N + 1))
  have n1 : IntKind.wrap .i64 (N + 1) = N + 1 := by rw [IntKind.wrap_i64]; omega
  have n2 : IntKind.wrap .i64 (N + 1 - 1) = N := by rw [IntKind.wrap_i64]; omega
  have n3 : IntKind.wrap .i64 N = N := by rw [IntKind.wrap_i64]; omega
  clear h hN
  have x1 := HX.out.box.cell 1
  have f1 := HX.out.box.frozen 1
  go_enter Tryd.func32, Tryd.ntmps32
  go_wp2
  go_ret
  exact ⟨rfl, ⟨a, d, mp, HN.out.1⟩, HN.out.2⟩
set_option maxRecDepth 100000 in
set_option maxHeartbeats 1000000 in
theorem growLay_any (F : Nat → Prop) (g : Nat) (N E : Int) (T : List P3) (P U : List D2) (ad : Addr) (m c : Nat) (l : List D2) (w : World) (hF : ∀ k, w.heap.size ≤ k → F k) (h : GR w F g N E T P U) (hl : HasK 2 w (some ad) m c (e2Cells l)) (hm : 0 < m) (hm2 : m ≤ 1000) (hP : P.length ≤ 100000000) :
    Calls Tryd.prog 47 #[.pointer (some ⟨g, 0, none⟩), .slice (some ad) m c] w (GDone F g N E T (P ++ l) U w) := by
  obtain ⟨a, d, mp, h⟩ := h
  have hel : l.length = m := by have := hl.len; rw [e2Cells_len] at this; omega
  obtain ⟨A, cd, rfl, _⟩ := h.rG.has
  have HEl := Lib.hid hel
  have HX := Lib.hid h
  have HN := Lib.hid hl
  have HFr := Lib.hid hF
  have HSz : Hid (P.length + m ≤ 1099511627776) := by show _ ≤ _; omega
  clear h hF hl hel hP hm2
  have b2 := HX.out.box.cell 2
  go_enter Tryd.func47, Tryd.ntmps47
  go_wp2_with (at_builtin
               go_loud (
               (refine wpList_joinW rfl _ _ 59 rfl elemEg (by decide) _ P.length (e2Cells P) rfl HX.out.rG ad m c (e2Cells l) rfl HN.out (e2Cells_one _) hm HSz.out (by decide) ?_)
               rintro v5 w5 ho hg hw
               obtain ⟨A5, c5, rfl, _⟩ := OwnW.has ho
               obtain ⟨hX, hB, hC⟩ := HX.out.putG HFr.out (l := P ++ l) (by rw [List.length_append, HEl.out, e2Cells_app]; exact ho) hg hw
               have HX5 := Lib.hid hX
               have HC5 := Lib.hid hC
               have f5 := hB.frozen 2
               have k5 := hB.cell 2
               clear hX hB hC ho hg hw))
  go_end0
  exact ⟨rfl, ⟨a, _, mp, HX5.out⟩, HC5.out⟩
theorem run_isNil (m : Option Nat) (w : World) : (binOp .eql 60 (.map m) (.map none)).run Tryd.prog w = .ok (.bool m.isNone) w := by
  have := run_equal_map_nil (P := Tryd.prog) w 60 _ _ m Tryd.underlying60
  simp [binOp, this]
theorem hasK_chg {k : Nat} {w w' : World} {q off : Nat} {n c : Nat} {xs : List Value} {D : Nat → Prop} (h : HasK k w (some ⟨q, off, none⟩) n c xs) (hc : Chg D w w') (hd : ¬ D q) : HasK k w' (some ⟨q, off, none⟩) n c xs := by
  obtain ⟨h1, h2, h3, h4⟩ := h
  refine ⟨h1, h2, h3, fun hn => ?_⟩
  obtain ⟨b, o, hA, hlt, hcells⟩ := h4 hn
  cases hA
  refine ⟨q, off, rfl, Nat.lt_of_lt_of_le hlt hc.size, fun j u hu => ?_⟩
  rw [World.cell?_of_block (w := w) (a := ⟨q, off + j, none⟩) (hc.block q hlt hd)]
  exact hcells j u hu
set_option maxRecDepth 100000 in
set_option maxHeartbeats 2000000 in
theorem growUse_any (F : Nat → Prop) (g : Nat) (N E : Int) (T : List P3) (P U : List D2) (q m c : Nat) (l : List D2) (w : World) (hF : ∀ k, w.heap.size ≤ k → F k) (h : GR w F g N E T P U)
    (hl : HasK 2 w (some ⟨q, 0, none⟩) m c (e2Cells l)) (hq : ¬ F q) (hi : AllU l) (hm2 : m ≤ 1000) (hU : U.length ≤ 100000000) :
    Calls Tryd.prog 48 #[.pointer (some ⟨g, 0, none⟩), .slice (some ⟨q, 0, none⟩) m c] w (GDone F g N E T P (U ++ l) w) := by
  obtain ⟨a, d, mp, h⟩ := h
  have hel : l.length = m := by have := hl.len; rw [e2Cells_len] at this; omega
  have HEl := Lib.hid hel
  have HX := Lib.hid h
  have HL := Lib.hid (fun W (hW : Chg F w W) => hasK_chg hl hW hq)
  have HFr := Lib.hid hF
  have HI := Lib.hid hi
  have HMm := Lib.hid (fun (hn : mp = .map none ∧ U = []) => (hn.2 ▸ h).mapMade hF)
  have hmm := run_makeUsed w
  clear h hF hl hel hq hi
  have x3 := HX.out.box.cell 3
  have f3 := HX.out.box.frozen 3
  go_enter Tryd.func48, Tryd.ntmps48
  obtain ⟨B, hB⟩ : ∃ B : Bool, (B = true ∧ mp = .map none ∧ U = []) ∨ (B = false ∧ ∃ b, mp = .map (some b)) := by
    rcases HX.out.rU with h | ⟨b, h, _⟩
    · exact ⟨true, Or.inl ⟨rfl, h⟩⟩
    · exact ⟨false, Or.inr ⟨rfl, b, h⟩⟩
  go_upto_region 0 with (with_reducible fail)
  go_cut [10] from 6 (fun s10 wx => s10 = .bool B ∧ wx = w)
  case first =>
    rcases hB with ⟨rfl, rfl, rfl⟩ | ⟨rfl, b, rfl⟩
    · have hz : ∀ W, (binOp .eql 60 (.map none) (.map none)).run Tryd.prog W = .ok (.bool true) W := fun W => run_isNil none W
      go_wp2
      go_meet
      case rel => exact ⟨rfl, rfl⟩
    · have hz : ∀ W, (binOp .eql 60 (.map (some b)) (.map none)).run Tryd.prog W = .ok (.bool false) W := fun W => run_isNil (some b) W
      go_wp2
      go_meet
      case rel => exact ⟨rfl, rfl⟩
  case rest =>
  obtain ⟨rfl, rfl⟩ := hcut
  generalize wc = w at *
  go_upto_if 10 with (with_reducible fail)
  go_cut [] from 11 (fun wx => ∃ b, Hid (GrX wx F g a d (.map (some b)) N E T P U) ∧ Hid (Chg F w wx))
  case first =>
    rcases hB with ⟨rfl, rfl, rfl⟩ | ⟨rfl, b, rfl⟩
    · have hb := (HMm.out ⟨rfl, rfl⟩).2.1
      have y3 := hb.cell 3
      have y4 := hb.frozen 3
      have HR := Lib.hid (HMm.out ⟨rfl, rfl⟩)
      clear hb HMm
      go_wp2_with (with_reducible fail)
      go_meet
      case rel => exact ⟨_, HR.out.1, HR.out.2.2⟩
    · clear HMm
      go_wp2_with (with_reducible fail)
      go_meet
      case rel => exact ⟨b, HX, Chg.refl _ _⟩
  case rest =>
    obtain ⟨b, HX1, HC1⟩ := hcut
    clear x3 f3 HX HMm hmm
    generalize wc = W1 at *
    go_wp2
    go_loopg [17] m (fun n s17 wx => ∃ i : Nat, i + n = m ∧ s17 = .int .i64 (i : Int) ∧ Hid (GrX wx F g a d (.map (some b)) N E T P (U ++ l.take i)) ∧ Hid (Chg F w wx))
    case atStart => exact ⟨0, by omega, rfl, by rw [List.take_zero, List.append_nil]; exact HX1, HC1⟩
    case round =>
      obtain ⟨i, hin, rfl, HX, HC⟩ := hrel
      clear HX1 HC1
      by_cases hi : i < m
      · have ti : decide ((i : Int) < (m : Int)) = true := decide_eq_true (by omega)
        have i2 : (i : Int) < (m : Int) := by omega
        have hil : i < l.length := by rw [HEl.out]; exact hi
        obtain ⟨b1, o1, hA, hlt, hc⟩ := (HL.out wr HC.out).spot (by omega)
        injection hA with hA
        injection hA with e1 e2
        subst e1 e2
        obtain ⟨z0, z1⟩ := e2Cells_at hil
        have c0 := hc _ _ z0
        have c1 := hc _ _ z1
        rw [Nat.zero_add] at c0
        rw [← Nat.add_assoc, Nat.zero_add] at c1
        have HTk : Hid (U ++ l.take (i + 1) = (U ++ l.take i) ++ [l[i]]) := by show _ = _; rw [List.take_succ_eq_append_getElem hil, List.append_assoc]
        have HIn : Hid (in64 l[i]) := HI.out _ (List.getElem_mem hil)
        have HIa : Hid (AllU ((U ++ l.take i) ++ [l[i]])) := fun x hx => by
          rcases List.mem_append.1 hx with hx | hx
          · rcases HX.out.rU with ⟨e, _⟩ | ⟨b', _, hu⟩
            · cases e
            · exact hu.2 x hx
          · rw [List.mem_singleton.1 hx]; exact HIn.out
        generalize l[i] = e at *
        obtain ⟨x, y⟩ := e
        simp only at c0 c1
        have HX2 := Lib.hid (HX.out.next (new_alloc (Below.refl _ wr) (.cells #[.int .i64 x, .int .i64 y] 71)))
        have HC2 : Hid (Chg F w (wr.alloc (.cells #[.int .i64 x, .int .i64 y] 71))) := HC.out.then_ (D' := F) (Chg.of_below (new_alloc (Below.refl _ wr) _)) (fun _ _ e => e)
        have HKt := Lib.hid (Blk.new wr 71 #[.int .i64 x, .int .i64 y])
        have hu : UsedW (wr.alloc (.cells #[.int .i64 x, .int .i64 y] 71)) b (U ++ l.take i) := by
          rcases HX2.out.rU with ⟨e, _⟩ | ⟨b', e, hu⟩
          · cases e
          · cases e; exact hu
        have hlen : (U ++ l.take i).length ≤ 100001000 := by
          rw [List.length_append, List.length_take]
          have := HEl.out
          omega
        obtain ⟨W5, hrun, ho5, hg5⟩ := World.ownsMap.update (w := (wr.alloc (.cells #[.int .i64 x, .int .i64 y] 71)).drew) hu.1 lawEg Tryd.underlying60 (by unfold maxLen; omega) (keyOf_e2g HIn.out) unitR_mk
        have hu5 : UsedW W5 b ((U ++ l.take i) ++ [(x, y)]) := ⟨by rw [usedD_snoc, List.length_append]; exact ho5, HIa.out⟩
        obtain ⟨h6, h7⟩ := GrX.use (w := (wr.alloc (.cells #[.int .i64 x, .int .i64 y] 71)).drew) (HX2.out.next (Below.refl _ _).drew) hu5 hg5
        rw [← HTk.out] at h6
        have HX5 := Lib.hid h6
        have HC5 : Hid (Chg F w W5) := (HC2.out.then_ (D' := F) (Chg.of_below (Below.refl _ _).drew) (fun _ _ e => e)).then_ (D' := F) h7 (fun _ _ e => e)
        simp only [e2V] at hrun
        have x3 := HX2.out.box.cell 3
        have k0 := HKt.out.cell 0
        have k1 := HKt.out.cell 1
        obtain ⟨uz, us⟩ := zero_of_info unitInfo
        obtain ⟨ez, es⟩ := zero_of_info edgeInfoG
        clear hu hlen ho5 hg5 hu5 h6 h7 hc z0 z1 hil hlt HX HC HX2 HC2 HTk HIa
        go_upto_region 5 with (with_reducible fail)
        go_region
        all_goals
          go_wp2
          go_roundg (m - (i + 1))
          case measure => omega
          case rel => exact ⟨i + 1, by omega, by go_num, HX5, HC5⟩
      · have ti : decide ((i : Int) < (m : Int)) = false := decide_eq_false (by omega)
        have HE : Hid (U ++ l.take i = U ++ l) := by show _ = _; rw [List.take_of_length_le (by rw [HEl.out]; omega)]
        rw [HE.out] at HX
        go_wp2
        go_end0
        exact ⟨rfl, ⟨a, d, _, HX.out⟩, HC.out⟩
end Go.Proofs.YthjmojglcfmkmaaDoor

/- The landed grower: a triangle added; gates cut, taken, shut. -/
namespace Go.Proofs.YthjmojglcfmkmaaDoor
open Go.RowKit

theorem GR.but {w : World} {F : Nat → Prop} {g : Nat} {N E : Int} {T : List P3} {P U : List D2} (h : GR w F g N E T P U) {B : Nat} (K : Nat) (hB : w.heap.size ≤ B) : GR w (cutF F B K) g N E T P U := h.among fun k hk hf => ⟨hf, by omega⟩
theorem cutF.wide {F : Nat → Prop} {B K : Nat} {w w' : World} (h : Chg (cutF F B K) w w') : Chg F w w' := h.wide fun _ _ e => e.1
theorem GrX.some {w : World} {F : Nat → Prop} {g : Nat} {a d mp : Value} {N E : Int} {T : List P3} {P U : List D2} (h : GrX w F g a d mp N E T P U) (hU : U ≠ []) : ∃ b, mp = .map (Option.some b) ∧ UsedW w b U := by
  rcases h.rU with ⟨_, e⟩ | h
  · exact absurd e hU
  · exact h
set_option maxRecDepth 100000 in
theorem isUsed_gr (F : Nat → Prop) (g : Nat) (N E : Int) (T : List P3) (P U : List D2) (x y : Int) (w : World) (h : GR w F g N E T P U) (hU : U ≠ []) (hd : in64 (x, y)) :
    Calls Tryd.prog 51 #[.pointer (some ⟨g, 0, none⟩), .agg #[.int .i64 x, .int .i64 y]] w fun e w' => e = .returned (.bool (decide ((x, y) ∈ U))) ∧ Below w.heap.size w w' := by
  obtain ⟨a, d, mp, h⟩ := h
  obtain ⟨b, rfl, hu⟩ := h.some hU
  exact isUsed_any g b U x y w (h.box.cell 3) hu hd
set_option maxRecDepth 100000 in
theorem isShut_any (F : Nat → Prop) (g : Nat) (N E : Int) (T : List P3) (P U : List D2) (x y : Int) (w : World) (h : GR w F g N E T P U) (hU : U ≠ []) (hd : in64 (x, y)) :
    Calls Tryd.prog 38 #[.pointer (some ⟨g, 0, none⟩), .agg #[.int .i64 x, .int .i64 y]] w fun e w' => e = .returned (.bool (decide ((y, x) ∈ U))) ∧ Below w.heap.size w w' := by
  have HA := Lib.hid (Blk.new w 71 #[.int .i64 x, .int .i64 y])
  have HB := Lib.hid (new_alloc (Below.refl w.heap.size w) (.cells #[.int .i64 x, .int .i64 y] 71))
  have HG := Lib.hid (h.next HB.out)
  have HD : Hid (in64 (y, x)) := ⟨hd.2, hd.1⟩
  have HU := Lib.hid hU
  have c0 := HA.out.cell 0
  have c1 := HA.out.cell 1
  clear h hU hd
  go_enter Tryd.func38, Tryd.ntmps38
  go_wp2_with fail
  refine (growBack_any x y _).mono ?_
  rintro e w1 ⟨rfl, hb1⟩
  have HB1 := Lib.hid (new_call HB.out hb1)
  have HG1 := Lib.hid (HG.out.next hb1)
  clear hb1 HG c0 c1
  go_wp2_with fail
  refine (isUsed_gr F g N E T P U y x w1 HG1.out HU.out HD.out).mono ?_
  rintro e w2 ⟨rfl, hb2⟩
  have HB2 := Lib.hid (new_call HB1.out hb2)
  clear hb2
  go_wp2
  go_ret
  exact ⟨rfl, HB2.out⟩
set_option maxRecDepth 100000 in
set_option maxHeartbeats 1000000 in
theorem growAdd_any (F : Nat → Prop) (g : Nat) (N E : Int) (T : List P3) (P U : List D2) (x y z : Int) (w : World) (hF : ∀ k, w.heap.size ≤ k → F k) (h : GR w F g N E T P U) (hi : AllU [(x, y), (y, z), (z, x)]) (hT : T.length ≤ 100000000) (hU : U.length ≤ 100000000) :
    Calls Tryd.prog 46 #[.pointer (some ⟨g, 0, none⟩), .int .i64 x, .int .i64 y, .int .i64 z] w (GDone F g N E (T ++ [(x, y, z)]) P (U ++ [(x, y), (y, z), (z, x)]) w) := by
  obtain ⟨a, d, mp, h⟩ := h
  obtain ⟨A, ca, rfl, _⟩ := h.rT.has
  have HX := Lib.hid h
  have HX1 := Lib.hid (h.next (new_alloc (Below.refl _ w) (.cells #[.int .i64 x, .int .i64 y, .int .i64 z] 58)))
  have HN1 : Hid (HasK 3 (w.alloc (.cells #[.int .i64 x, .int .i64 y, .int .i64 z] 58)) (some ⟨w.heap.size, 0, none⟩) 1 1 (p3Cells [(x, y, z)])) := HasK.new_at 3 _ #[.int .i64 x, .int .i64 y, .int .i64 z] 58 _ 1 rfl rfl
  have HF1 : Hid (∀ k, (w.alloc (.cells #[.int .i64 x, .int .i64 y, .int .i64 z] 58)).heap.size ≤ k → F k) := fun k hk => hF k (by simp at hk; omega)
  have HC1 : Hid (Chg F w (w.alloc (.cells #[.int .i64 x, .int .i64 y, .int .i64 z] 58))) := Chg.of_below (new_alloc (Below.refl _ w) _)
  have HSz : Hid (T.length + 1 ≤ 1099511627776) := by show _ ≤ _; omega
  have HI := Lib.hid hi
  have HUl := Lib.hid hU
  have HFr := Lib.hid hF
  clear h hF hi hT hU
  have b0 := HX.out.box.cell 0
  have c0 := HX1.out.box.cell 0
  go_enter Tryd.func46, Tryd.ntmps46
  go_upto_region 1 with (
                  at_builtin
                  go_loud (
                  (refine wpList_joinGK rfl _ _ 26 rfl elemT3 (by decide) 0 _ T.length (p3Cells T) rfl HX1.out.rT _ 1 1 (p3Cells [(x, y, z)]) rfl HN1.out (p3Cells_one _) HSz.out (by decide) (Nat.zero_le _) ?_)
                  rintro v5 w5 ho hg hw
                  obtain ⟨A5, c5, rfl, _⟩ := OwnK.has ho
                  obtain ⟨hX, hB, hC⟩ := HX1.out.putT HF1.out (l := T ++ [(x, y, z)]) (by rw [List.length_append, p3Cells_app]; exact ho) hg hw
                  have HX5 := Lib.hid hX
                  have HC5 := Lib.hid (HC1.out.then_ (D' := F) hC (fun _ _ e => e))
                  have f5 := hB.frozen 0
                  have k5 := hB.cell 0
                  clear hX hB hC ho hg hw))
  clear b0 c0 f5 k5 HX HX1 HN1 HF1 HC1
  generalize w5.setCell ⟨g, 0, none⟩ (.slice A5 (T.length + 1) c5) = W5 at *
  have HNe : Hid (HasK 2 (W5.alloc (.cells #[.int .i64 x, .int .i64 y, .int .i64 y, .int .i64 z, .int .i64 z, .int .i64 x] 71)) (some ⟨W5.heap.size, 0, none⟩) 3 3 (e2Cells [(x, y), (y, z), (z, x)])) := HasK.new_at 2 _ #[.int .i64 x, .int .i64 y, .int .i64 y, .int .i64 z, .int .i64 z, .int .i64 x] 71 _ 3 rfl rfl
  have HGe : Hid (GR (W5.alloc (.cells #[.int .i64 x, .int .i64 y, .int .i64 y, .int .i64 z, .int .i64 z, .int .i64 x] 71)) (cutF F W5.heap.size 1) g N E (T ++ [(x, y, z)]) P U) := (GR.but ⟨_, _, _, HX5.out⟩ 1 (Nat.le_refl _)).next (new_alloc (Below.refl _ _) _)
  have HFe : Hid (∀ k, (W5.alloc (.cells #[.int .i64 x, .int .i64 y, .int .i64 y, .int .i64 z, .int .i64 z, .int .i64 x] 71)).heap.size ≤ k → cutF F W5.heap.size 1 k) := fun k hk => ⟨fresh_chg HFr.out HC5.out k (by simp at hk; omega), by simp at hk; omega⟩
  have HUs := Lib.hid (growUse_any (cutF F W5.heap.size 1) g N E (T ++ [(x, y, z)]) P U W5.heap.size 3 3 [(x, y), (y, z), (z, x)] _ HFe.out HGe.out HNe.out (fun e => e.2 ⟨Nat.le_refl _, Nat.lt_succ_self _⟩) HI.out (by decide) HUl.out)
  go_wp2_with fail
  refine HUs.out.mono ?_
  rintro e w6 ⟨rfl, hg6, hc6⟩
  have HG6 := Lib.hid (hg6.among (F' := F) fun k _ e => e.1)
  have HC6 : Hid (Chg F w w6) := (HC5.out.then_ (D' := F) (Chg.of_below (new_alloc (Below.refl _ _) _)) (fun _ _ e => e)).then_ (D' := F) (cutF.wide hc6) (fun _ _ e => e)
  clear hg6 hc6
  go_wp2
  go_end0
  exact ⟨rfl, HG6.out, HC6.out⟩
end Go.Proofs.YthjmojglcfmkmaaDoor

/- The landed grower: gates cut, taken, shut. -/
namespace Go.Proofs.YthjmojglcfmkmaaDoor
open Go.RowKit

set_option maxRecDepth 100000 in
set_option maxHeartbeats 1000000 in
theorem growCut_any (F : Nat → Prop) (g : Nat) (N E : Int) (T : List P3) (P U : List D2) (n : Nat) (w : World) (h : GR w F g N E T P U) (hn : n ≤ P.length) (hP : P.length ≤ 100000000) :
    Calls Tryd.prog 44 #[.pointer (some ⟨g, 0, none⟩), .int .i64 (n : Int)] w (GDone F g N E T (P.take n) U w) := by
  obtain ⟨a, d, mp, h⟩ := h
  obtain ⟨A, c, rfl, hh⟩ := h.rG.has
  have hLc := hh.cap
  have HX := Lib.hid h
  have w2 : IntKind.wrap .i64 (2 * (n : Int)) = 2 * (n : Int) := by rw [IntKind.wrap_i64]; omega
  have x2 := HX.out.box.cell 2
  have f2 := HX.out.box.frozen 2
  have i0 : (0 : Int) ≤ (n : Int) := by omega
  by_cases hb : (c : Int) < 2 * (n : Int)
  · have HC := Lib.hid (h.cutG (c' := c) rfl hn (by omega) (Nat.le_refl _))
    have i1 : (n : Int) ≤ (c : Int) := by omega
    have i2 : n ≤ c := by omega
    clear h hh
    go_enter Tryd.func44, Tryd.ntmps44
    go_wp2
    go_region
    all_goals
      go_wp2
      go_end0
      first
        | exact ⟨rfl, ⟨_, _, _, HC.out.1⟩, HC.out.2⟩
        | exact ⟨rfl, ⟨_, _, _, HC.out.1.next (Below.refl _ _).drew⟩, HC.out.2.then_ (D' := F) (Chg.of_below (Below.refl _ _).drew) (fun _ _ e => e)⟩
        | trace_state
  · have HC := Lib.hid (h.cutG (c' := 2 * n) rfl hn (by omega) (by omega))
    have i1 : (n : Int) ≤ 2 * (n : Int) := by omega
    have i3 : 2 * (n : Int) ≤ (c : Int) := by omega
    clear h hh
    go_enter Tryd.func44, Tryd.ntmps44
    go_wp2
    go_region
    all_goals
      go_wp2
      go_end0
      first
        | exact ⟨rfl, ⟨_, _, _, HC.out.1⟩, HC.out.2⟩
        | exact ⟨rfl, ⟨_, _, _, HC.out.1.next (Below.refl _ _).drew⟩, HC.out.2.then_ (D' := F) (Chg.of_below (Below.refl _ _).drew) (fun _ _ e => e)⟩
        | trace_state
theorem gate_atW {w : World} {e : TypeId} {v : Value} {l : List D2} {x y : Int} {K : Nat} (h : OwnW 2 w e v (l ++ [(x, y)]).length (e2Cells (l ++ [(x, y)]))) (hK : l.length = K) :
    ∃ b c, v = .slice (some ⟨b, 0, none⟩) (K + 1) c ∧ K + 1 ≤ c ∧ b < w.heap.size ∧ w.cell? ⟨b, K * 2, none⟩ = some (.int .i64 x) ∧ w.cell? ⟨b, K * 2 + 1, none⟩ = some (.int .i64 y) := by
  have hl : (l ++ [(x, y)]).length = K + 1 := by rw [List.length_append, hK]; rfl
  have hown := h.2
  rw [hl] at hown
  rcases hown with ⟨_, e⟩ | ⟨g, cap, cur, rfl, hh, hn, _⟩
  · omega
  · rw [hl] at h
    obtain ⟨b, off, hA, hlt, hc⟩ := h.hasK.spot (Nat.succ_pos _)
    cases hA
    have hx : (l ++ [(x, y)])[K]'(by omega) = (x, y) := by subst hK; simp
    obtain ⟨z0, z1⟩ := e2Cells_at (l := l ++ [(x, y)]) (i := K) (by omega)
    rw [hx] at z0 z1
    have c0 := hc _ _ z0
    have c1 := hc _ _ z1
    rw [Nat.zero_add] at c0 c1
    exact ⟨g, cap, rfl, hn, hlt, c0, c1⟩
theorem take_K {l : List D2} {d : D2} {K : Nat} (hK : l.length = K) : (l ++ [d]).take K = l := by subst hK; simp
set_option maxRecDepth 100000 in
set_option maxHeartbeats 1000000 in
theorem growTake_any (F : Nat → Prop) (g : Nat) (N E : Int) (T : List P3) (U l : List D2) (x y : Int) (w : World) (hF : ∀ k, w.heap.size ≤ k → F k) (h : GR w F g N E T (l ++ [(x, y)]) U) (hl : l.length ≤ 10000000) :
    Calls Tryd.prog 49 #[.pointer (some ⟨g, 0, none⟩)] w fun e w' => e = .returned (.agg #[.int .i64 x, .int .i64 y]) ∧ GR w' F g N E T l U ∧ Chg F w w' := by
  obtain ⟨K, hK⟩ : ∃ K, l.length = K := ⟨_, rfl⟩
  have h0 := h
  obtain ⟨a, d, mp, h⟩ := h
  obtain ⟨b, c, rfl, hKc, hlt, g0, g1⟩ := gate_atW h.rG hK
  have hlg := h.box.lt
  have x2 : w.cell? ⟨g, 2, none⟩ = some (.slice (some ⟨b, 0, none⟩) (K + 1) c) := h.box.cell 2
  have HB1 := Lib.hid (new_alloc (Below.refl w.heap.size w) (.cells #[.int .i64 0, .int .i64 0] 71))
  have HB2 := Lib.hid (new_alloc HB1.out (.cells #[.int .i64 x, .int .i64 y] 71))
  have m2 : (w.alloc (.cells #[.int .i64 0, .int .i64 0] 71)).cell? ⟨g, 2, none⟩ = some (.slice (some ⟨b, 0, none⟩) (K + 1) c) := (HB1.out.cell (p := ⟨g, 2, none⟩) hlg).trans x2
  have m0 : (w.alloc (.cells #[.int .i64 0, .int .i64 0] 71)).cell? ⟨b, K * 2, none⟩ = some (.int .i64 x) := (HB1.out.cell (p := ⟨b, K * 2, none⟩) hlt).trans g0
  have m1 : (w.alloc (.cells #[.int .i64 0, .int .i64 0] 71)).cell? ⟨b, K * 2 + 1, none⟩ = some (.int .i64 y) := (HB1.out.cell (p := ⟨b, K * 2 + 1, none⟩) hlt).trans g1
  have n4 : IntKind.wrap .i64 (((K + 1 : Nat) : Int) - 1) = (K : Int) := wrap_nat (by omega) (by omega)
  have n5 : IntKind.wrap .i64 ((K : Int) + 1 - 1) = (K : Int) := wrap_nat (by omega) (by omega)
  have n6 : IntKind.wrap .i64 (K : Int) = (K : Int) := wrap_nat rfl (by omega)
  have n7 : K ≤ c := by omega
  have n8 : (K : Int) < ((K + 1 : Nat) : Int) := by omega
  have n9 : (K : Int) < (K : Int) + 1 := by omega
  have HG2 := Lib.hid ((h0.but (B := w.heap.size) 2 (Nat.le_refl _)).next HB2.out)
  have HTk : Hid ((l ++ [(x, y)]).take K = l) := take_K hK
  have HCut := Lib.hid (growCut_any (cutF F w.heap.size 2) g N E T (l ++ [(x, y)]) U K _ HG2.out (by rw [List.length_append]; omega) (by rw [List.length_append]; simp; omega))
  have HFr := Lib.hid hF
  have HR0 : Hid (Blk ((w.alloc (.cells #[.int .i64 0, .int .i64 0] 71)).alloc (.cells #[.int .i64 x, .int .i64 y] 71)) w.heap.size 71 #[.int .i64 0, .int .i64 0]) := (Blk.new w _ _).alloc _
  have HE0 : Hid (Blk ((w.alloc (.cells #[.int .i64 0, .int .i64 0] 71)).alloc (.cells #[.int .i64 x, .int .i64 y] 71)) (w.heap.size + 1) 71 #[.int .i64 x, .int .i64 y]) := blk_second
  obtain ⟨ez, es⟩ := zero_of_info edgeInfoG
  clear h h0 hF hl hlt hlg g0 g1 x2
  go_enter Tryd.func49, Tryd.ntmps49
  go_wp2_with fail
  refine HCut.out.mono ?_
  rintro e w2 ⟨rfl, hg2, hc2⟩
  rw [HTk.out] at hg2
  have hR := HR0.out.chg hc2 (fun e => e.2 ⟨Nat.le_refl _, by omega⟩)
  have hE := HE0.out.chg hc2 (fun e => e.2 ⟨by omega, by omega⟩)
  have hR2 := (hR.set_ 0 (.int .i64 x)).set_ 1 (.int .i64 y)
  have HEn : Hid (Blk ((w2.setCell ⟨w.heap.size, 0, none⟩ (.int .i64 x)).setCell ⟨w.heap.size, 1, none⟩ (.int .i64 y)) w.heap.size 71 #[.int .i64 x, .int .i64 y]) := hR2
  have hs : ∀ (V : World) (i : Nat) (u : Value), GR V (cutF F w.heap.size 2) g N E T l U ∧ Chg F w V → GR (V.setCell ⟨w.heap.size, i, none⟩ u) (cutF F w.heap.size 2) g N E T l U ∧ Chg F w (V.setCell ⟨w.heap.size, i, none⟩ u) := fun V i u hh =>
    ⟨hh.1.chg (Chg.of_grown (grown_set V ⟨w.heap.size, i, none⟩ u)) (fun k _ hk e => by cases e; exact hk.2 ⟨Nat.le_refl _, by show w.heap.size < w.heap.size + 2; omega⟩), hh.2.then_ (D' := F) ((Chg.of_grown (grown_set V ⟨w.heap.size, i, none⟩ u)).wide fun k _ e => by cases e; exact HFr.out _ (Nat.le_refl _)) (fun _ _ e => e)⟩
  have HFin := Lib.hid (hs _ 1 (.int .i64 y) (hs _ 0 (.int .i64 x) ⟨hg2, (Chg.of_below (D := F) HB2.out).then_ (D' := F) (cutF.wide hc2) (fun _ _ e => e)⟩))
  have r0 := hR.cell 0
  have r1 := hR.cell 1
  have q0 := hR.frozen 0
  have q1 := hR.frozen 1
  have e0 := hE.cell 0
  have e1 := hE.cell 1
  clear hg2 hc2 hR hE hR2 hs HCut HG2 HR0 HE0
  go_wp2
  try rw [Exit.noGoto_ret]
  exact bodyPost_ret (results_cellM Tryd.results49 rfl (edge_loadG _ _ _ _ HEn.out)) rfl ⟨rfl, HFin.out.1.among (fun k _ e => e.1), HFin.out.2⟩
end Go.Proofs.YthjmojglcfmkmaaDoor

/- The landed grower: shut gates taken from the pile's end; how many are open. -/
namespace Go.Proofs.YthjmojglcfmkmaaDoor
open Go.RowKit

/-- Gates whose other side is used, taken from the pile's end. -/
def popU (U : List D2) (l : List D2) : List D2 := (l.reverse.dropWhile fun d => decide ((d.2, d.1) ∈ U)).reverse
theorem popU_nil (U : List D2) : popU U [] = [] := rfl
theorem popU_shut {U l : List D2} {d : D2} (h : (d.2, d.1) ∈ U) : popU U (l ++ [d]) = popU U l := by
  unfold popU
  rw [List.reverse_append, List.reverse_singleton, List.singleton_append, List.dropWhile_cons_of_pos (by simpa using h)]
theorem popU_open {U l : List D2} {d : D2} (h : (d.2, d.1) ∉ U) : popU U (l ++ [d]) = l ++ [d] := by
  unfold popU
  rw [List.reverse_append, List.reverse_singleton, List.singleton_append, List.dropWhile_cons_of_neg (by simpa using h), List.reverse_cons, List.reverse_reverse]
set_option maxRecDepth 100000 in
set_option maxHeartbeats 1000000 in
theorem growTakeShut_any (F : Nat → Prop) (g : Nat) (N E : Int) (T : List P3) (P U : List D2) (w : World) (h : GR w F g N E T P U) (hin : ∀ d ∈ P, in64 d) (hU : P ≠ [] → U ≠ []) (hP : P.length ≤ 10000000) :
    Calls Tryd.prog 27 #[.pointer (some ⟨g, 0, none⟩)] w (GDone F g N E T (popU U P) U w) := by
  obtain ⟨a, d, mp, hx⟩ := h
  obtain ⟨A, c, rfl, hh⟩ := hx.rG.has
  have x2 := hx.box.cell 2
  have HX := Lib.hid hx
  have HIn := Lib.hid hin
  have HU := Lib.hid hU
  have HP := Lib.hid hP
  clear hx hh hin hU hP
  go_enter Tryd.func27, Tryd.ntmps27
  go_wp2
  go_loopg [2] P.length (fun k s2 wx => ∃ n : Nat, n = k ∧ s2 = .int .i64 (n : Int) ∧ Hid (n ≤ P.length) ∧ Hid (popU U (P.take n) = popU U P) ∧ Hid (GrX wx F g a (.slice A P.length c) mp N E T P U) ∧ Hid (Below w.heap.size w wx))
  case atStart => exact ⟨P.length, rfl, rfl, Nat.le_refl _, by rw [List.take_length]; rfl, HX, Below.refl _ _⟩
  case round =>
    obtain ⟨n, rfl, rfl, HnP, HPo, HX, HB⟩ := hrel
    clear x2
    cases n with
    | zero =>
      have HE : Hid (P.take 0 = popU U P) := by
        show _ = _
        rw [← HPo.out, List.take_zero]
        rfl
      have HCut := Lib.hid (growCut_any F g N E T P U 0 wr ⟨_, _, _, HX.out⟩ (Nat.zero_le _) (Nat.le_trans HP.out (by decide)))
      rw [HE.out] at HCut
      go_wp2_with fail
      refine HCut.out.mono ?_
      rintro e w2 ⟨rfl, hg2, hc2⟩
      have HG2 := Lib.hid hg2
      have HC2 : Hid (Chg F w w2) := (Chg.of_below (D := F) HB.out).then_ (D' := F) hc2 (fun _ _ e => e)
      clear hg2 hc2
      go_wp2
      go_end0
      exact ⟨rfl, HG2.out, HC2.out⟩
    | succ k =>
      have hk : k < P.length := by have := HnP.out; omega
      have HTk : Hid (P.take (k + 1) = P.take k ++ [P[k]]) := List.take_succ_eq_append_getElem hk
      obtain ⟨b, off, hA, hlt, hc⟩ := HX.out.rG.hasK.spot (by omega)
      obtain ⟨z0, z1⟩ := e2Cells_at hk
      have c0 := hc _ _ z0
      have c1 := hc _ _ z1
      rw [← Nat.add_assoc] at c1
      have HI := Lib.hid (HIn.out P[k] (List.getElem_mem hk))
      generalize P[k] = e at *
      obtain ⟨x, y⟩ := e
      simp only at c0 c1
      subst hA
      have x2 := HX.out.box.cell 2
      have HSh := Lib.hid (isShut_any F g N E T P U x y wr ⟨_, _, _, HX.out⟩ (HU.out (fun e => by rw [e] at hk; cases hk)) HI.out)
      have ti : decide ((0 : Int) < ((k + 1 : Nat) : Int)) = true := decide_eq_true (by omega)
      have ti2 : decide ((0 : Int) < (k : Int) + 1) = true := decide_eq_true (by omega)
      have hkz : k ≤ 10000000 := by have := HP.out; omega
      have n4 : IntKind.wrap .i64 (((k + 1 : Nat) : Int) - 1) = (k : Int) := wrap_nat (by omega) (by omega)
      have n5 : IntKind.wrap .i64 ((k : Int) + 1 - 1) = (k : Int) := wrap_nat (by omega) (by omega)
      have n6 : IntKind.wrap .i64 (k : Int) = (k : Int) := wrap_nat rfl (by omega)
      have n8 : (k : Int) < (P.length : Int) := by omega
      by_cases hs : (y, x) ∈ U
      · have HN : Hid (popU U (P.take k) = popU U P) := by
          show _ = _
          rw [← HPo.out, HTk.out]
          exact (popU_shut (d := (x, y)) hs).symm
        rw [decide_eq_true hs] at HSh
        clear hs hc z0 z1 hlt HI HTk HPo
        go_wp2_with fail
        refine HSh.out.mono ?_
        rintro e w2 ⟨rfl, hb2⟩
        have HX2 := Lib.hid (HX.out.next hb2)
        have HB2 := Lib.hid (new_call HB.out hb2)
        clear hb2 HX HB c0 c1 x2 HSh
        go_wp2
        go_roundg k
        case measure => omega
        case rel => exact ⟨k, rfl, rfl, by have := HnP.out; show _ ≤ _; omega, HN, HX2, HB2⟩
      · have HE : Hid (P.take (k + 1) = popU U P) := by
          show _ = _
          rw [← HPo.out, HTk.out]
          exact (popU_open (d := (x, y)) hs).symm
        have HCut := Lib.hid (fun W (hW : Below wr.heap.size wr W) => growCut_any F g N E T P U (k + 1) W ⟨_, _, _, HX.out.next hW⟩ HnP.out (Nat.le_trans HP.out (by decide)))
        rw [HE.out] at HCut
        rw [decide_eq_false hs] at HSh
        clear hs hc z0 z1 hlt HI HTk HPo
        go_wp2_with fail
        refine HSh.out.mono ?_
        rintro e w2 ⟨rfl, hb2⟩
        have HC2 := Lib.hid (HCut.out w2 hb2)
        have HB2 := Lib.hid (new_call HB.out hb2)
        clear hb2 HX HB c0 c1 x2 HSh HCut
        go_wp2_with fail
        refine HC2.out.mono ?_
        rintro e w3 ⟨rfl, hg3, hc3⟩
        have HG3 := Lib.hid hg3
        have HC3 : Hid (Chg F w w3) := (Chg.of_below (D := F) HB2.out).then_ (D' := F) hc3 (fun _ _ e => e)
        clear hg3 hc3
        go_wp2
        go_end0
        exact ⟨rfl, HG3.out, HC3.out⟩
end Go.Proofs.YthjmojglcfmkmaaDoor

/- The landed grower: how many gates are open, and vertices; what is wrong with a known vertex. -/
namespace Go.Proofs.YthjmojglcfmkmaaDoor
open Go.RowKit

def openU (U P : List D2) : Nat := P.countP fun d => !decide ((d.2, d.1) ∈ U)
theorem openU_next {U P : List D2} {i : Nat} (hi : i < P.length) : openU U (P.take (i + 1)) = openU U (P.take i) + if (P[i].2, P[i].1) ∈ U then 0 else 1 := by
  unfold openU
  rw [List.take_succ_eq_append_getElem hi, List.countP_append, List.countP_singleton]
  by_cases h : (P[i].2, P[i].1) ∈ U <;> simp [h]
theorem openU_le (U P : List D2) : openU U P ≤ P.length := List.countP_le_length
set_option maxRecDepth 100000 in
set_option maxHeartbeats 1000000 in
theorem growOpen_any (F : Nat → Prop) (g : Nat) (N E : Int) (T : List P3) (P U : List D2) (w : World) (h : GR w F g N E T P U) (hin : ∀ d ∈ P, in64 d) (hU : P ≠ [] → U ≠ []) (hP : P.length ≤ 10000000) :
    Calls Tryd.prog 16 #[.pointer (some ⟨g, 0, none⟩)] w fun e w' => e = .returned (.int .i64 (openU U P : Int)) ∧ Below w.heap.size w w' := by
  obtain ⟨a, d, mp, hx⟩ := h
  obtain ⟨A, c, rfl, hh⟩ := hx.rG.has
  have x2 := hx.box.cell 2
  have HX := Lib.hid hx
  have HIn := Lib.hid hin
  have HU := Lib.hid hU
  have HP := Lib.hid hP
  clear hx hh hin hU hP
  go_enter Tryd.func16, Tryd.ntmps16
  go_wp2
  go_loopg [3, 13] P.length (fun n s3 s13 wx => ∃ i : Nat, i + n = P.length ∧ s13 = .int .i64 (i : Int) ∧ s3 = .int .i64 (openU U (P.take i) : Int) ∧ Hid (Below w.heap.size w wx))
  case atStart => exact ⟨0, by omega, rfl, rfl, Below.refl _ _⟩
  case round =>
    obtain ⟨i, hin, rfl, rfl, HB⟩ := hrel
    clear x2
    by_cases hi : i < P.length
    · have ti : decide ((i : Int) < (P.length : Int)) = true := decide_eq_true (by omega)
      have i2 : (i : Int) < (P.length : Int) := by omega
      have HX1 := Lib.hid (HX.out.next HB.out)
      obtain ⟨b, off, hA, hlt, hc⟩ := HX1.out.rG.hasK.spot (by omega)
      obtain ⟨z0, z1⟩ := e2Cells_at hi
      have c0 := hc _ _ z0
      have c1 := hc _ _ z1
      rw [← Nat.add_assoc] at c1
      have HI := Lib.hid (HIn.out P[i] (List.getElem_mem hi))
      have HNx := Lib.hid (openU_next (U := U) hi)
      have hle := openU_le U (P.take i)
      rw [List.length_take] at hle
      have hP := HP.out
      have hib : i ≤ 10000000 := by omega
      have n1 : IntKind.wrap .i64 ((openU U (P.take i) : Int) + 1) = ((openU U (P.take i) + 1 : Nat) : Int) := wrap_nat (by omega) (by omega)
      have n2 : IntKind.wrap .i64 ((openU U (P.take i) : Int) + 1) = (openU U (P.take i) : Int) + 1 := by rw [n1]; omega
      generalize openU U (P.take i) = r at *
      generalize P[i] = e at *
      obtain ⟨x, y⟩ := e
      simp only at c0 c1
      subst hA
      have HB2 := Lib.hid (new_alloc HB.out (.cells #[.int .i64 x, .int .i64 y] 71))
      have HKt := Lib.hid (Blk.new wr 71 #[.int .i64 x, .int .i64 y])
      have HSh := Lib.hid (isShut_any F g N E T P U x y (wr.alloc (.cells #[.int .i64 x, .int .i64 y] 71)) ⟨_, _, _, HX.out.next HB2.out⟩ (HU.out (fun e => by rw [e] at hi; cases hi)) HI.out)
      have k0 := HKt.out.cell 0
      have k1 := HKt.out.cell 1
      obtain ⟨ez, es⟩ := zero_of_info edgeInfoG
      by_cases hs : (y, x) ∈ U
      · have HN : Hid (openU U (P.take (i + 1)) = r) := by show _ = _; rw [HNx.out, if_pos hs]; rfl
        rw [decide_eq_true hs] at HSh
        clear hs hc z0 z1 hlt HI HNx HX1 hle hP n1 n2
        go_wp2_with fail
        refine HSh.out.mono ?_
        rintro e w2 ⟨rfl, hb2⟩
        have HB3 := Lib.hid (new_call HB2.out hb2)
        clear hb2 c0 c1 HSh k0 k1
        go_wp2
        go_roundg (P.length - (i + 1))
        case measure => omega
        case rel => exact ⟨i + 1, by omega, by go_num, by rw [HN.out], HB3⟩
      · have HN : Hid (openU U (P.take (i + 1)) = r + 1) := by show _ = _; rw [HNx.out, if_neg hs]
        rw [decide_eq_false hs] at HSh
        clear hs hc z0 z1 hlt HI HNx HX1 hle hP n1
        go_wp2_with fail
        refine HSh.out.mono ?_
        rintro e w2 ⟨rfl, hb2⟩
        have HB3 := Lib.hid (new_call HB2.out hb2)
        clear hb2 c0 c1 HSh k0 k1
        go_wp2
        go_roundg (P.length - (i + 1))
        case measure => omega
        case rel => exact ⟨i + 1, by omega, by go_num, by rw [HN.out]; rfl, HB3⟩
    · have ti : decide ((i : Int) < (P.length : Int)) = false := decide_eq_false (by omega)
      have hE : P.take i = P := List.take_of_length_le (by omega)
      rw [hE]
      go_wp2
      go_ret
      exact ⟨rfl, HB.out⟩
set_option maxRecDepth 100000 in
theorem growVerts_any (F : Nat → Prop) (g : Nat) (N E : Int) (T : List P3) (P U : List D2) (w : World) (h : GR w F g N E T P U) :
    Calls Tryd.prog 13 #[.pointer (some ⟨g, 0, none⟩)] w fun e w' => e = .returned (.int .i64 N) ∧ w = w' := by
  obtain ⟨a, d, mp, hx⟩ := h
  have x1 := hx.box.cell 1
  clear hx
  go_enter Tryd.func13, Tryd.ntmps13
  go_wp2
  go_ret
  exact ⟨rfl, rfl⟩
end Go.Proofs.YthjmojglcfmkmaaDoor

/- The landed grower: its triangles, copied; what is wrong with a known vertex. -/
namespace Go.Proofs.YthjmojglcfmkmaaDoor
open Go.RowKit

set_option maxRecDepth 100000 in
theorem clone3_any (A : Option Addr) (n c : Nat) (l : List P3) (w : World) (h : HasK 3 w A n c (p3Cells l)) (hn : n ≤ 1000000000) :
    Calls Tryd.prog 37 #[.slice A n c] w fun e w' => ∃ A' c', e = .returned (.slice A' n c') ∧ HasK 3 w' A' n c' (p3Cells l) ∧ Below w.heap.size w w' := by
  have q : ∀ (w : World) (a : Option Addr) (n c n' c' : Nat), (binOp .eql 26 (.slice a n c) (.slice none n' c')).run Tryd.prog w = .ok (.bool a.isNone) w := fun w a n c n' c' => Lib.run_eql_slice_nil w _ _ a n c n' c' Tryd.underlying26
  have hl := h.len
  have HH := Lib.hid h
  rw [p3Cells_len] at hl
  cases A with
  | none =>
    have hc := h.bare rfl
    have h0 : n = 0 := by
      rcases Nat.eq_zero_or_pos n with h0 | h0
      · exact h0
      · obtain ⟨b, off, hA, _⟩ := h.spot h0; cases hA
    subst h0
    have hb0 : l = [] := List.eq_nil_of_length_eq_zero (by omega)
    subst hb0
    clear h hc hl
    go_enter Tryd.func37, Tryd.ntmps37
    go_wp2
    go_ret
    exact ⟨none, 0, rfl, HasK.none _ _ _ _ (fun _ => rfl), Below.refl _ _⟩
  | some a =>
    have HO : Hid (OwnK 3 (w.alloc (.cells #[] 58)) w.heap.size 58 (.slice (some ⟨w.heap.size, 0, none⟩) 0 0) 0 []) := World.ownsRow_made w #[] 0 (Nat.le_refl _) (Nat.zero_le _) rfl
    have HB : Hid (Below w.heap.size w (w.alloc (.cells #[] 58))) := new_alloc (Below.refl _ _) _
    have HN := Lib.hid (HH.out.alloc (.cells #[] 58))
    have HSz : Hid (0 + n ≤ 1099511627776) := by show _ ≤ _; omega
    clear h
    go_enter Tryd.func37, Tryd.ntmps37
    go_wp2_with (at_builtin
                 go_loud (
                 (refine wpList_joinGK rfl _ _ 26 rfl elemT3 (by decide) w.heap.size _ 0 [] rfl HO.out _ n c (p3Cells l) rfl HN.out (p3Cells_one _) HSz.out (by decide) (by simp) ?_)
                 rintro v5 w5 ho hg hw
                 rw [List.nil_append, Nat.zero_add] at ho
                 obtain ⟨A5, c5, rfl, hh5⟩ := OwnK.has ho
                 have HR := Lib.hid hh5
                 have HB5 : Hid (Below w.heap.size w w5) := HB.out.grown hg (by simp) (fun k e => by cases e; exact Nat.le_refl _)
                 clear ho hg hw hh5))
    go_ret
    exact ⟨A5, c5, rfl, HR.out, HB5.out⟩
set_option maxRecDepth 100000 in
theorem growTris_any (F : Nat → Prop) (g : Nat) (N E : Int) (T : List P3) (P U : List D2) (w : World) (h : GR w F g N E T P U) (hT : T.length ≤ 100000000) :
    Calls Tryd.prog 15 #[.pointer (some ⟨g, 0, none⟩)] w fun e w' => ∃ A' c', e = .returned (.slice A' T.length c') ∧ HasK 3 w' A' T.length c' (p3Cells T) ∧ Below w.heap.size w w' := by
  obtain ⟨a, d, mp, hx⟩ := h
  obtain ⟨A, c, rfl, hh⟩ := hx.rT.has
  have x0 := hx.box.cell 0
  have HC := Lib.hid (clone3_any A T.length c T w hh (by omega))
  clear hx hh
  go_enter Tryd.func15, Tryd.ntmps15
  go_wp2_with fail
  refine HC.out.mono ?_
  rintro e w2 ⟨A', c', rfl, hh2, hb2⟩
  have HH := Lib.hid hh2
  have HB := Lib.hid hb2
  clear hh2 hb2
  go_wp2
  go_ret
  exact ⟨A', c', rfl, HH.out, HB.out⟩
/-- What is wrong with a known vertex behind the gate p q. -/
def refV (N : Int) (U : List D2) (p q v : Int) : Int := if v < 0 ∨ N ≤ v ∨ v = p ∨ v = q then 11 else if (p, v) ∈ U ∨ (v, q) ∈ U then 80 else 0
set_option maxRecDepth 100000 in
set_option maxHeartbeats 2000000 in
theorem refusalOf_any (F : Nat → Prop) (g : Nat) (N E : Int) (T : List P3) (U l : List D2) (p q v : Int) (w : World) (h : GR w F g N E T (l ++ [(p, q)]) U) (hU : U ≠ []) (hl : l.length ≤ 10000000) (hN : N ≤ 100000) (hp : 0 ≤ p ∧ p ≤ 100000) (hq : 0 ≤ q ∧ q ≤ 100000) :
    Calls Tryd.prog 45 #[.pointer (some ⟨g, 0, none⟩), .int .i64 v] w fun e w' => e = .returned (.int .i64 (refV N U p q v)) ∧ Below w.heap.size w w' := by
  obtain ⟨K, hK⟩ : ∃ K, l.length = K := ⟨_, rfl⟩
  have h0 := h
  obtain ⟨a, d, mp, h⟩ := h
  obtain ⟨b, c, rfl, hKc, hlt, g0, g1⟩ := gate_atW h.rG hK
  have hlg := h.box.lt
  have x2 : w.cell? ⟨g, 2, none⟩ = some (.slice (some ⟨b, 0, none⟩) (K + 1) c) := h.box.cell 2
  have x1 : w.cell? ⟨g, 1, none⟩ = some (.int .i64 N) := h.box.cell 1
  have n4 : IntKind.wrap .i64 (((K + 1 : Nat) : Int) - 1) = (K : Int) := wrap_nat (by omega) (by omega)
  have n5 : IntKind.wrap .i64 ((K : Int) + 1 - 1) = (K : Int) := wrap_nat (by omega) (by omega)
  have n6 : IntKind.wrap .i64 (K : Int) = (K : Int) := wrap_nat rfl (by omega)
  have n7 : K ≤ c := by omega
  have n8 : (K : Int) < ((K + 1 : Nat) : Int) := by omega
  have n9 : (K : Int) < (K : Int) + 1 := by omega
  have HB1 := Lib.hid (new_alloc (Below.refl w.heap.size w) (.cells #[.int .i64 p, .int .i64 q] 71))
  have HE := Lib.hid (Blk.new w 71 #[.int .i64 p, .int .i64 q])
  have HG := Lib.hid h0
  have HU := Lib.hid hU
  have HI : Hid (¬ (v < 0 ∨ N ≤ v ∨ v = p ∨ v = q) → in64 (p, v) ∧ in64 (v, q)) := fun h => by
    have hp' := wf64 hp.1 (by omega)
    have hq' := wf64 hq.1 (by omega)
    have hv := wf64 (x := v) (by omega) (by omega)
    exact ⟨⟨hp', hv⟩, hv, hq'⟩
  obtain ⟨ez, es⟩ := zero_of_info edgeInfoG
  clear h h0 hU hl hN hp hq
  go_enter Tryd.func45, Tryd.ntmps45
  go_wp2
  go_region
  generalize hW1 : (w.alloc (.cells #[.int .i64 p, .int .i64 q] 71)).drew = W1
  have HBa : Hid (Below w.heap.size w W1) := by show Below _ _ _; rw [← hW1]; exact HB1.out.drew
  have HEa : Hid (Blk W1 w.heap.size 71 #[.int .i64 p, .int .i64 q]) := by show Blk _ _ _ _; rw [← hW1]; exact HE.out
  clear hW1 HB1 HE x2 g0 g1
  have e0 := HEa.out.cell 0
  have e1 := HEa.out.cell 1
  go_wp2
  go_region
  generalize hW2 : W1.drew = W2
  have HB2 : Hid (Below w.heap.size w W2) := by show Below _ _ _; rw [← hW2]; exact HBa.out.drew
  have HG2 : Hid (GR W2 F g N E T (l ++ [(p, q)]) U) := HG.out.next HB2.out
  have x1' : W2.cell? ⟨g, 1, none⟩ = some (.int .i64 N) := (HB2.out.cell (p := ⟨g, 1, none⟩) hlg).trans x1
  clear hW2 HBa HEa e0 e1 x1 HG
  by_cases h1 : v < 0
  · have t1 : decide (v < 0) = true := decide_eq_true h1
    have HR : Hid (refV N U p q v = 11) := if_pos (Or.inl h1)
    clear h1 HI
    go_wp2
    go_ret
    exact ⟨by rw [HR.out]; rfl, HB2.out⟩
  · have t1 : decide (v < 0) = false := decide_eq_false h1
    by_cases h2 : N ≤ v
    · have t2 : decide (N ≤ v) = true := decide_eq_true h2
      have HR : Hid (refV N U p q v = 11) := if_pos (Or.inr (Or.inl h2))
      clear h1 h2 HI
      go_wp2
      go_ret
      exact ⟨by rw [HR.out]; rfl, HB2.out⟩
    · have t2 : decide (N ≤ v) = false := decide_eq_false h2
      by_cases h3 : v = p
      · have t3 : (v == p) = true := beq_iff_eq.2 h3
        have HR : Hid (refV N U p q v = 11) := if_pos (Or.inr (Or.inr (Or.inl h3)))
        clear h1 h2 h3 HI
        go_wp2
        go_ret
        exact ⟨by rw [HR.out]; rfl, HB2.out⟩
      · have t3 : (v == p) = false := beq_eq_false_iff_ne.2 h3
        by_cases h4 : v = q
        · have t4 : (v == q) = true := beq_iff_eq.2 h4
          have HR : Hid (refV N U p q v = 11) := if_pos (Or.inr (Or.inr (Or.inr h4)))
          clear h1 h2 h3 h4 HI
          go_wp2
          go_ret
          exact ⟨by rw [HR.out]; rfl, HB2.out⟩
        · have t4 : (v == q) = false := beq_eq_false_iff_ne.2 h4
          have hno : ¬ (v < 0 ∨ N ≤ v ∨ v = p ∨ v = q) := by omega
          have HR : Hid (refV N U p q v = if (p, v) ∈ U ∨ (v, q) ∈ U then 80 else 0) := if_neg hno
          obtain ⟨i1, i2⟩ := HI.out hno
          have HI1 := Lib.hid i1
          have HI2 := Lib.hid i2
          have HU1 := Lib.hid (isUsed_gr F g N E T (l ++ [(p, q)]) U p v W2 HG2.out HU.out i1)
          clear h1 h2 h3 h4 hno i1 i2 HI
          by_cases e1 : (p, v) ∈ U
          · rw [decide_eq_true e1] at HU1
            have HR2 : Hid (refV N U p q v = 80) := HR.out.trans (if_pos (Or.inl e1))
            clear e1
            go_wp2_with fail
            refine HU1.out.mono ?_
            rintro e w3 ⟨rfl, hb⟩
            have HB3 := Lib.hid (new_call HB2.out hb)
            clear hb
            go_wp2
            go_ret
            exact ⟨by rw [HR2.out]; rfl, HB3.out⟩
          · rw [decide_eq_false e1] at HU1
            go_wp2_with fail
            refine HU1.out.mono ?_
            rintro e w3 ⟨rfl, hb⟩
            have HB3 := Lib.hid (new_call HB2.out hb)
            have HU2 := Lib.hid (isUsed_gr F g N E T (l ++ [(p, q)]) U v q w3 (HG2.out.next hb) HU.out HI2.out)
            clear hb
            by_cases e2 : (v, q) ∈ U
            · rw [decide_eq_true e2] at HU2
              have HR2 : Hid (refV N U p q v = 80) := HR.out.trans (if_pos (Or.inr e2))
              clear e1 e2
              go_wp2_with fail
              refine HU2.out.mono ?_
              rintro e w4 ⟨rfl, hb⟩
              have HB4 := Lib.hid (new_call HB3.out hb)
              clear hb
              go_wp2
              go_ret
              exact ⟨by rw [HR2.out]; rfl, HB4.out⟩
            · rw [decide_eq_false e2] at HU2
              have HR2 : Hid (refV N U p q v = 0) := HR.out.trans (if_neg (fun h => h.elim e1 e2))
              clear e1 e2
              go_wp2_with fail
              refine HU2.out.mono ?_
              rintro e w4 ⟨rfl, hb⟩
              have HB4 := Lib.hid (new_call HB3.out hb)
              clear hb
              go_wp2
              go_ret
              exact ⟨by rw [HR2.out]; rfl, HB4.out⟩
end Go.Proofs.YthjmojglcfmkmaaDoor
