import Derived.Test.YtjahphfjobnkaaaDoorWalkPlain
import Derived.Test.YtjahphfjobnkaaaDoorMeshRefG
import Derived.Test.YtjahphfjobnkaaaDoorMeshOwn
import Derived.Deep.RegionLaw
import Derived.Deep.LoopGhost
import Derived.Test.YtjahphfjobnkaaaDoorMeshCodeR
/- Layer 11: the five rows of a walk, in memory of the call's own: vertices, triangles, the triangles by new numbers, gates, steps. -/
namespace Go.Proofs.YtjahphfjobnkaaaDoor
open Go.RowKit

/-- Two rows lie in two blocks. -/
def Apt (x y : Value) : Prop := ∀ g, x.ownBlock = some g → y.ownBlock ≠ some g
theorem Apt.symm {x y : Value} (h : Apt x y) : Apt y x := fun g hy hx => h g hx hy
theorem Apt.nil (y : Value) : Apt (.slice none 0 0) y := fun g h => by cases h
theorem OwnK.zlt {k : Nat} {w : World} {base : Nat} {e : TypeId} {v : Value} {n : Nat} {xs : List Value} (h : OwnK k w base e v n xs) : ∀ g, v.ownBlock = some g → g < w.heap.size := fun g hg => (World.ownsRow.lt h g hg).2
theorem OwnK.besides {k : Nat} {w w' : World} {base : Nat} {e : TypeId} {v x : Value} {n : Nat} {xs : List Value} (h : OwnK k w base e v n xs) (hg : w.grownBy w' x.ownBlock) (ha : Apt x v) : OwnK k w' base e v n xs :=
  World.ownsRow.kept h hg (by
    cases hv : v.ownBlock with
    | none => exact Or.inl rfl
    | some g => exact Or.inr fun e => ha g e.symm hv)
theorem Apt.newer {k : Nat} {w : World} {base : Nat} {e : TypeId} {x x' y : Value} {n : Nat} {xs : List Value} (h : Apt x y) (hy : OwnK k w base e y n xs) (hw : ∀ g, x'.ownBlock = some g → x.ownBlock = some g ∨ w.heap.size ≤ g) : Apt x' y := fun g hg hyg => by
  rcases hw g hg with h1 | h1
  · exact h g h1 hyg
  · have := hy.zlt g hyg
    omega
/-- append(own, other...), of elements of k cells, with where the row lies. -/
theorem wpList_joinGK {k : Nat} {P : Program} {w : World} {ops : Array Oper} {rest : List Oper} {o : Oper} {a : Act} {Q : Exit → Act → World → Prop} (hgd : o.guard = Option.none) (s x : Operand) (t : TypeId)
    (ho : o.op = .call { callee := .builtin .append, args := #[s, x], argTypes := #[t, t] }) {e : TypeId} {bytes : Nat} (E : ElemK P t e k bytes) (hk : 0 < k)
    (base : Nat) (v : Value) (n : Nat) (xs : List Value) (hs : a.eval s = v) (hown : OwnK k w base e v n xs) (A : Option Addr) (m c : Nat) (news : List Value) (hx : a.eval x = .slice A m c) (hh : HasK k w A m c news)
    (h1 : ∀ u ∈ news, u.oneCell' = true) (hsz : n + m ≤ 1099511627776) (hby : bytes ≤ 64) (hbase : base ≤ w.heap.size)
    (h : ∀ v' w', OwnK k w' base e v' (n + m) (xs ++ news) → w.grownBy w' v.ownBlock → (∀ g, v'.ownBlock = some g → v.ownBlock = some g ∨ w.heap.size ≤ g) → wpList P ops Q rest (a.put o.dst v') w') : wpList P ops Q (o :: rest) a w := by
  refine wpList_plain hgd fun K hK => ?_
  obtain ⟨v', w', hrun, h2, h3, h4⟩ := run_joinK w t o.type E hk base v n xs hown A m c news hh h1 hsz hby hbase
  have h5 := run_where (P := P) w t o.type E hk base v n xs hown A m c news hh h1 hsz hby hbase hrun
  unfold Oper.wp execOp
  simp only [ho, resolve, invoke, builtin, Sem.run_bind, Sem.run_pure, Result.andThen_ok, List.map_toArray, List.map_cons, List.map_nil, hs, hx, hrun]
  exact hK _ _ (h v' w' h2 h4 h5)
theorem stepInfo : (Tryd.prog.info? 62).map (fun i => (i.zero, i.size)) = some (some (.agg #[.int .i64 0, .int .i64 0]), 2) := by kernel_rfl
theorem elemSt : ElemK Tryd.prog 28 62 2 16 := by
  have h : (Tryd.prog.info? 62).map (fun i => (i.zero, i.size, i.bytes)) = some (some (.agg #[.int .i64 0, .int .i64 0]), 2, 16) := by kernel_rfl
  obtain ⟨i, h1, h2, h3, h4⟩ := info_parts h
  exact ⟨Tryd.underlying28, i, _, h1, h2, h3, h4, rfl⟩

theorem own_away {F : Nat → Prop} {row : Option Nat} {v : Value} (hr : ∀ k, row = some k → ¬ F k) (hf : ∀ g, v.ownBlock = some g → F g) : v.ownBlock = none ∨ v.ownBlock ≠ row := by
  cases hv : v.ownBlock with
  | none => exact Or.inl rfl
  | some g => exact Or.inr fun e => hr g e.symm (hf g hv)
/-- The five rows; their blocks are among F, and no two the same. -/
structure WRows (w : World) (F : Nat → Prop) (eg : TypeId) (a b c d f : Value) (s : WS) : Prop where
  rV : OwnK 1 w 0 3 a s.V.length (intVs s.V)
  rO : OwnK 1 w 0 3 b s.O.length (natVs s.O)
  rN : OwnK 3 w 0 50 c s.N.length (p3Cells s.N)
  rG : OwnK 2 w 0 eg d s.G.length (e2Cells s.G)
  rS : OwnK 2 w 0 62 f s.S.length (e2Cells s.S)
  fV : ∀ g, a.ownBlock = some g → F g
  fO : ∀ g, b.ownBlock = some g → F g
  fN : ∀ g, c.ownBlock = some g → F g
  fG : ∀ g, d.ownBlock = some g → F g
  fS : ∀ g, f.ownBlock = some g → F g
  aVO : Apt a b
  aVN : Apt a c
  aVG : Apt a d
  aVS : Apt a f
  aON : Apt b c
  aOG : Apt b d
  aOS : Apt b f
  aNG : Apt c d
  aNS : Apt c f
  aGS : Apt d f
section
variable {w w' : World} {F : Nat → Prop} {eg : TypeId} {a b c d f : Value} {s : WS}
theorem WRows.nil (w : World) (F : Nat → Prop) (eg : TypeId) : WRows w F eg (.slice none 0 0) (.slice none 0 0) (.slice none 0 0) (.slice none 0 0) (.slice none 0 0) ⟨[], [], [], [], []⟩ :=
  ⟨OwnK.nil _ _ _ _, OwnK.nil _ _ _ _, OwnK.nil _ _ _ _, OwnK.nil _ _ _ _, OwnK.nil _ _ _ _, (fun g h => by cases h), (fun g h => by cases h), (fun g h => by cases h), (fun g h => by cases h), (fun g h => by cases h), Apt.nil _, Apt.nil _, Apt.nil _, Apt.nil _, Apt.nil _, Apt.nil _, Apt.nil _, Apt.nil _, Apt.nil _, Apt.nil _⟩
theorem WRows.kept (h : WRows w F eg a b c d f s) (hb : Below w.heap.size w w') : WRows w' F eg a b c d f s :=
  ⟨h.rV.keep hb, h.rO.keep hb, h.rN.keep hb, h.rG.keep hb, h.rS.keep hb, h.fV, h.fO, h.fN, h.fG, h.fS, h.aVO, h.aVN, h.aVG, h.aVS, h.aON, h.aOG, h.aOS, h.aNG, h.aNS, h.aGS⟩
theorem WRows.among {F' : Nat → Prop} (h : WRows w F eg a b c d f s) (hf : ∀ k, k < w.heap.size → F k → F' k) : WRows w F' eg a b c d f s :=
  ⟨h.rV, h.rO, h.rN, h.rG, h.rS, (fun g hg => hf g (h.rV.zlt g hg) (h.fV g hg)), (fun g hg => hf g (h.rO.zlt g hg) (h.fO g hg)), (fun g hg => hf g (h.rN.zlt g hg) (h.fN g hg)), (fun g hg => hf g (h.rG.zlt g hg) (h.fG g hg)), (fun g hg => hf g (h.rS.zlt g hg) (h.fS g hg)), h.aVO, h.aVN, h.aVG, h.aVS, h.aON, h.aOG, h.aOS, h.aNG, h.aNS, h.aGS⟩
/-- What is written elsewhere. -/
theorem WRows.away (h : WRows w F eg a b c d f s) {row : Option Nat} (hg : w.grownBy w' row) (hr : ∀ k, row = some k → ¬ F k) : WRows w' F eg a b c d f s :=
  ⟨World.ownsRow.kept h.rV hg (own_away hr h.fV), World.ownsRow.kept h.rO hg (own_away hr h.fO), World.ownsRow.kept h.rN hg (own_away hr h.fN), World.ownsRow.kept h.rG hg (own_away hr h.fG), World.ownsRow.kept h.rS hg (own_away hr h.fS), h.fV, h.fO, h.fN, h.fG, h.fS, h.aVO, h.aVN, h.aVG, h.aVS, h.aON, h.aOG, h.aOS, h.aNG, h.aNS, h.aGS⟩
theorem WRows.putV (h : WRows w F eg a b c d f s) {a' : Value} {l : List Int} (ho : OwnK 1 w' 0 3 a' l.length (intVs l)) (hg : w.grownBy w' a.ownBlock) (hw : ∀ g, a'.ownBlock = some g → a.ownBlock = some g ∨ w.heap.size ≤ g) (hF : ∀ g, w.heap.size ≤ g → F g) : WRows w' F eg a' b c d f { s with V := l } :=
  ⟨ho, h.rO.besides hg h.aVO, h.rN.besides hg h.aVN, h.rG.besides hg h.aVG, h.rS.besides hg h.aVS, (fun g hg' => (hw g hg').elim (h.fV g) (hF g)), h.fO, h.fN, h.fG, h.fS, h.aVO.newer h.rO hw, h.aVN.newer h.rN hw, h.aVG.newer h.rG hw, h.aVS.newer h.rS hw, h.aON, h.aOG, h.aOS, h.aNG, h.aNS, h.aGS⟩
theorem WRows.chgV (h : WRows w F eg a b c d f s) (hg : w.grownBy w' a.ownBlock) : Chg F w w' := (Chg.of_grown hg).wide fun k _ e => h.fV k e
theorem WRows.putO (h : WRows w F eg a b c d f s) {b' : Value} {l : List Nat} (ho : OwnK 1 w' 0 3 b' l.length (natVs l)) (hg : w.grownBy w' b.ownBlock) (hw : ∀ g, b'.ownBlock = some g → b.ownBlock = some g ∨ w.heap.size ≤ g) (hF : ∀ g, w.heap.size ≤ g → F g) : WRows w' F eg a b' c d f { s with O := l } :=
  ⟨h.rV.besides hg h.aVO.symm, ho, h.rN.besides hg h.aON, h.rG.besides hg h.aOG, h.rS.besides hg h.aOS, h.fV, (fun g hg' => (hw g hg').elim (h.fO g) (hF g)), h.fN, h.fG, h.fS, (h.aVO.symm.newer h.rV hw).symm, h.aVN, h.aVG, h.aVS, h.aON.newer h.rN hw, h.aOG.newer h.rG hw, h.aOS.newer h.rS hw, h.aNG, h.aNS, h.aGS⟩
theorem WRows.chgO (h : WRows w F eg a b c d f s) (hg : w.grownBy w' b.ownBlock) : Chg F w w' := (Chg.of_grown hg).wide fun k _ e => h.fO k e
theorem WRows.putN (h : WRows w F eg a b c d f s) {c' : Value} {l : List P3} (ho : OwnK 3 w' 0 50 c' l.length (p3Cells l)) (hg : w.grownBy w' c.ownBlock) (hw : ∀ g, c'.ownBlock = some g → c.ownBlock = some g ∨ w.heap.size ≤ g) (hF : ∀ g, w.heap.size ≤ g → F g) : WRows w' F eg a b c' d f { s with N := l } :=
  ⟨h.rV.besides hg h.aVN.symm, h.rO.besides hg h.aON.symm, ho, h.rG.besides hg h.aNG, h.rS.besides hg h.aNS, h.fV, h.fO, (fun g hg' => (hw g hg').elim (h.fN g) (hF g)), h.fG, h.fS, h.aVO, (h.aVN.symm.newer h.rV hw).symm, h.aVG, h.aVS, (h.aON.symm.newer h.rO hw).symm, h.aOG, h.aOS, h.aNG.newer h.rG hw, h.aNS.newer h.rS hw, h.aGS⟩
theorem WRows.chgN (h : WRows w F eg a b c d f s) (hg : w.grownBy w' c.ownBlock) : Chg F w w' := (Chg.of_grown hg).wide fun k _ e => h.fN k e
theorem WRows.putG (h : WRows w F eg a b c d f s) {d' : Value} {l : List (Int × Int)} (ho : OwnK 2 w' 0 eg d' l.length (e2Cells l)) (hg : w.grownBy w' d.ownBlock) (hw : ∀ g, d'.ownBlock = some g → d.ownBlock = some g ∨ w.heap.size ≤ g) (hF : ∀ g, w.heap.size ≤ g → F g) : WRows w' F eg a b c d' f { s with G := l } :=
  ⟨h.rV.besides hg h.aVG.symm, h.rO.besides hg h.aOG.symm, h.rN.besides hg h.aNG.symm, ho, h.rS.besides hg h.aGS, h.fV, h.fO, h.fN, (fun g hg' => (hw g hg').elim (h.fG g) (hF g)), h.fS, h.aVO, h.aVN, (h.aVG.symm.newer h.rV hw).symm, h.aVS, h.aON, (h.aOG.symm.newer h.rO hw).symm, h.aOS, (h.aNG.symm.newer h.rN hw).symm, h.aNS, h.aGS.newer h.rS hw⟩
theorem WRows.chgG (h : WRows w F eg a b c d f s) (hg : w.grownBy w' d.ownBlock) : Chg F w w' := (Chg.of_grown hg).wide fun k _ e => h.fG k e
theorem WRows.putS (h : WRows w F eg a b c d f s) {f' : Value} {l : List (Int × Int)} (ho : OwnK 2 w' 0 62 f' l.length (e2Cells l)) (hg : w.grownBy w' f.ownBlock) (hw : ∀ g, f'.ownBlock = some g → f.ownBlock = some g ∨ w.heap.size ≤ g) (hF : ∀ g, w.heap.size ≤ g → F g) : WRows w' F eg a b c d f' { s with S := l } :=
  ⟨h.rV.besides hg h.aVS.symm, h.rO.besides hg h.aOS.symm, h.rN.besides hg h.aNS.symm, h.rG.besides hg h.aGS.symm, ho, h.fV, h.fO, h.fN, h.fG, (fun g hg' => (hw g hg').elim (h.fS g) (hF g)), h.aVO, h.aVN, h.aVG, (h.aVS.symm.newer h.rV hw).symm, h.aON, h.aOG, (h.aOS.symm.newer h.rO hw).symm, h.aNG, (h.aNS.symm.newer h.rN hw).symm, (h.aGS.symm.newer h.rG hw).symm⟩
theorem WRows.chgS (h : WRows w F eg a b c d f s) (hg : w.grownBy w' f.ownBlock) : Chg F w w' := (Chg.of_grown hg).wide fun k _ e => h.fS k e
end
end Go.Proofs.YtjahphfjobnkaaaDoor

/- lapidaryref11: find, meet. -/
namespace Go.Proofs.YtjahphfjobnkaaaDoor
open Go.RowKit

theorem find_at {l : List Int} {x : Int} {i : Nat} (hi : i < l.length) (hx : l[i] = x) (hb : x ∉ l.take i) : findW l x = i := by
  have hm : x ∈ l := hx ▸ List.getElem_mem hi
  unfold findW
  rw [if_pos hm]
  have e : l = l.take i ++ (x :: l.drop (i + 1)) := by rw [← hx, ← List.drop_eq_getElem_cons hi, List.take_append_drop]
  have h2 : l.idxOf x = i := by
    have h3 : (l.take i ++ (x :: l.drop (i + 1))).idxOf x = i := by
      rw [List.idxOf_append, if_neg hb, List.idxOf_cons_self, List.length_take]
      omega
    rw [← e] at h3
    exact h3
  rw [h2]
theorem find_no {l : List Int} {x : Int} (h : x ∉ l) : findW l x = -1 := if_neg h
theorem find_yes {l : List Int} {x : Int} (h : x ∈ l) : findW l x = (l.idxOf x : Int) := if_pos h
set_option maxRecDepth 100000 in
theorem ref11find_any (A : Option Addr) (n c : Nat) (l : List Int) (x : Int) (w : World) (h : Has w A n c (intVs l)) (hn : n ≤ 1000000000) : Calls Tryd.prog 27 #[.slice A n c, .int .i64 x] w fun e w' => e = .returned (.int .i64 (findW l x)) ∧ w = w' := by
  have HL : Hid (l.length = n) := by have := h.len; rw [intVs_len] at this; exact this
  have HH := Lib.hid h
  clear h
  go_enter Tryd.func27, Tryd.ntmps27
  go_wp2
  go_loopg [5] n (fun g s5 wx => ∃ i : Nat, i + g = n ∧ s5 = .int .i64 i ∧ w = wx ∧ Hid (x ∉ l.take i))
  case atStart => exact ⟨0, by omega, rfl, rfl, by show _ ∉ _; rw [List.take_zero]; exact List.not_mem_nil⟩
  case round =>
    obtain ⟨i, hig, rfl, rfl, HR⟩ := hrel
    by_cases hi : i < n
    · have ti : decide ((i : Int) < (n : Int)) = true := by simp; omega
      have i2 : (i : Int) < (n : Int) := by omega
      have hil : i < l.length := by rw [HL.out]; exact hi
      obtain ⟨b, off, rfl, _, hc⟩ := HH.out.spot (by omega)
      have c0 := hc _ _ (intVs_at hil)
      have HY : Hid (l[i] = x → findW l x = i) := fun e => find_at hil e HR.out
      have HN : Hid (l[i] ≠ x → x ∉ l.take (i + 1)) := fun e hm => by
        rw [List.take_succ_eq_append_getElem hil] at hm
        rcases List.mem_append.1 hm with h1 | h1
        · exact HR.out h1
        · exact e (List.mem_singleton.1 h1).symm
      clear hc
      generalize l[i] = y at *
      by_cases e : y = x
      · have tq : (y == x) = true := beq_iff_eq.2 e
        have HE := Lib.hid (HY.out e)
        clear e HY HN
        go_wp2
        go_ret
        exact ⟨by rw [HE.out]; rfl, rfl⟩
      · have tq : (y == x) = false := beq_eq_false_iff_ne.2 e
        have HE := Lib.hid (HN.out e)
        clear e HY HN
        go_wp2
        go_roundg (gk - 1)
        case measure => omega
        case rel => exact ⟨i + 1, by omega, by go_num, rfl, HE⟩
    · have ti : decide ((i : Int) < (n : Int)) = false := by simp; omega
      have HE : Hid (findW l x = -1) := find_no fun hm => HR.out (by rw [List.take_of_length_le (by rw [HL.out]; omega)]; exact hm)
      go_wp2
      go_ret
      exact ⟨by rw [HE.out]; rfl, rfl⟩
theorem wInfo : (Tryd.prog.info? 37).map (fun i => (i.zero, i.size)) = some (some (.agg #[.slice none 0 0, .slice none 0 0, .slice none 0 0, .slice none 0 0, .slice none 0 0]), 5) := by kernel_rfl
theorem w_load (W : World) (a b c d f : Value) (g : Nat) (h : Blk W g 37 #[a, b, c, d, f]) : (loadVar 37 ⟨g, 0, none⟩).run Tryd.prog W = .ok (.agg #[a, b, c, d, f]) W := by
  obtain ⟨kz, ks⟩ := zero_of_info wInfo
  exact run_loadVar_row _ _ _ _ _ _ _ h Tryd.underlying37 rfl (by rw [ks]; rfl)
/-- A walk's answer: the rows, in blocks among F; nothing but F's blocks has turned. -/
def WOut (F : Nat → Prop) (s : WS) (w : World) (e : Ending) (w' : World) : Prop := ∃ a b c d f, e = .returned (.agg #[a, b, c, d, f]) ∧ WRows w' F 79 a b c d f s ∧ Chg F w w'
/-- F, but for K blocks from g on. -/
def cutF (F : Nat → Prop) (g K : Nat) : Nat → Prop := fun k => F k ∧ ¬ (g ≤ k ∧ k < g + K)
theorem cutF.new {F : Nat → Prop} {g K : Nat} (hF : ∀ k, g ≤ k → F k) {B : Nat} (hB : g + K ≤ B) : ∀ k, B ≤ k → cutF F g K k := fun k hk => ⟨hF k (by omega), by omega⟩
theorem WRows.cut {w : World} {F : Nat → Prop} {eg : TypeId} {a b c d f : Value} {s : WS} (h : WRows w F eg a b c d f s) (K : Nat) : WRows w (cutF F w.heap.size K) eg a b c d f s := h.among fun k hk hf => ⟨hf, by omega⟩
theorem HasK.plain {w : World} {A : Option Addr} {n c : Nat} {xs : List Value} (h : HasK 1 w A n c xs) : Has w A n c xs := ⟨by have := h.len; omega, h.cap, h.bare, h.spot⟩
/-- A walk in a block of the call's own, which has K blocks of its own. -/
structure WBox (w : World) (F : Nat → Prop) (K : Nat) (g : Nat) (a b c d f : Value) (s : WS) (wx : World) : Prop where
  box : Blk wx g 37 #[a, b, c, d, f]
  rows : WRows wx (cutF F w.heap.size K) 79 a b c d f s
  chg : Chg F w wx
  lt : w.heap.size + K ≤ wx.heap.size
  ge : w.heap.size ≤ g
  le : g < w.heap.size + K
  hF : ∀ k, w.heap.size ≤ k → F k
section
variable {w : World} {F : Nat → Prop} {K g : Nat} {a b c d f : Value} {s : WS} {wx w' : World}
theorem WBox.next (h : WBox w F K g a b c d f s wx) (hb : Below wx.heap.size wx w') : WBox w F K g a b c d f s w' :=
  ⟨h.box.below hb h.box.lt, h.rows.kept hb, h.chg.then_ (Chg.of_below (D := F) hb) (fun _ _ e => e), Nat.le_trans h.lt hb.size, h.ge, h.le, h.hF⟩
theorem WBox.no (h : WBox w F K g a b c d f s wx) : ¬ cutF F w.heap.size K g := fun e => e.2 ⟨h.ge, h.le⟩
theorem WBox.far (h : WBox w F K g a b c d f s wx) {p : Addr} (h1 : w.heap.size ≤ p.block) (h2 : p.block < w.heap.size + K) (hne : g ≠ p.block) (u : Value) : WBox w F K g a b c d f s (wx.setCell p u) :=
  ⟨h.box.far hne u, h.rows.away (grown_set wx p u) (fun k e => by cases e; exact fun e => e.2 ⟨h1, h2⟩), h.chg.then_ (D' := F) ((Chg.of_grown (grown_set wx p u)).wide fun k _ e => by cases e; exact h.hF _ h1) (fun _ _ e => e), by simpa using h.lt, h.ge, h.le, h.hF⟩
/-- A struct stored into the box. -/
theorem WBox.set {a' b' c' d' f' : Value} {s' : WS} {w0 : World} (h : WBox w F K g a b c d f s wx) (hr : WRows w' (cutF F w.heap.size K) 79 a' b' c' d' f' s') (hc : Chg (cutF F w.heap.size K) wx w')
    (he : w0 = ((((w'.setCell ⟨g, 0, none⟩ a').setCell ⟨g, 1, none⟩ b').setCell ⟨g, 2, none⟩ c').setCell ⟨g, 3, none⟩ d').setCell ⟨g, 4, none⟩ f') : WBox w F K g a' b' c' d' f' s' w0 := by
  subst he
  have hno := h.no
  have hb : Blk w' g 37 #[a, b, c, d, f] := h.box.chg hc hno
  have hch : Chg F w w' := h.chg.then_ hc (fun _ _ e => e.1)
  have hs : ∀ (V : World) (i : Nat) (u : Value), WRows V (cutF F w.heap.size K) 79 a' b' c' d' f' s' → Chg F w V → WRows (V.setCell ⟨g, i, none⟩ u) (cutF F w.heap.size K) 79 a' b' c' d' f' s' ∧ Chg F w (V.setCell ⟨g, i, none⟩ u) := fun V i u h1 h2 =>
    ⟨h1.away (grown_set V ⟨g, i, none⟩ u) (fun k e => by cases e; exact hno), h2.then_ (D' := F) ((Chg.of_grown (grown_set V ⟨g, i, none⟩ u)).wide fun k _ e => by cases e; exact h.hF _ h.ge) (fun _ _ e => e)⟩
  obtain ⟨r0, k0⟩ := hs _ 0 a' hr hch
  obtain ⟨r1, k1⟩ := hs _ 1 b' r0 k0
  obtain ⟨r2, k2⟩ := hs _ 2 c' r1 k1
  obtain ⟨r3, k3⟩ := hs _ 3 d' r2 k2
  obtain ⟨r4, k4⟩ := hs _ 4 f' r3 k3
  refine ⟨?_, r4, k4, ?_, h.ge, h.le, h.hF⟩
  · exact ((((hb.set_ 0 a').set_ 1 b').set_ 2 c').set_ 3 d').set_ 4 f'
  · have := h.lt
    have := hc.size
    simp
    omega
end
section
variable {w : World} {F : Nat → Prop} {K g : Nat} {a b c d f : Value} {s : WS} {wx w' : World}
/-- One row, appended to, stored into the box. -/
theorem WBox.putV (h : WBox w F K g a b c d f s wx) {a' : Value} {l : List Int} (ho : OwnK 1 w' 0 3 a' l.length (intVs l)) (hg : wx.grownBy w' a.ownBlock) (hw : ∀ q, a'.ownBlock = some q → a.ownBlock = some q ∨ wx.heap.size ≤ q) : WBox w F K g a' b c d f { s with V := l } (w'.setCell ⟨g, 0, none⟩ a') ∧ Blk w' g 37 #[a, b, c, d, f] := by
  have hno := h.no
  have hlt := h.lt
  have hr := h.rows.putV ho hg hw (cutF.new h.hF hlt)
  have hc := h.rows.chgV hg
  have hb : Blk w' g 37 #[a, b, c, d, f] := h.box.chg hc hno
  refine ⟨⟨hb.set_ 0 a', hr.away (grown_set w' _ _) (fun k e => by cases e; exact hno), ?_, ?_, h.ge, h.le, h.hF⟩, hb⟩
  · exact (h.chg.then_ hc (fun _ _ e => e.1)).then_ (D' := F) ((Chg.of_grown (grown_set w' ⟨g, 0, none⟩ a')).wide fun k _ e => by cases e; exact h.hF _ h.ge) (fun _ _ e => e)
  · have := hc.size
    simp
    omega
/-- One row, appended to, stored into the box. -/
theorem WBox.putO (h : WBox w F K g a b c d f s wx) {b' : Value} {l : List Nat} (ho : OwnK 1 w' 0 3 b' l.length (natVs l)) (hg : wx.grownBy w' b.ownBlock) (hw : ∀ q, b'.ownBlock = some q → b.ownBlock = some q ∨ wx.heap.size ≤ q) : WBox w F K g a b' c d f { s with O := l } (w'.setCell ⟨g, 1, none⟩ b') ∧ Blk w' g 37 #[a, b, c, d, f] := by
  have hno := h.no
  have hlt := h.lt
  have hr := h.rows.putO ho hg hw (cutF.new h.hF hlt)
  have hc := h.rows.chgO hg
  have hb : Blk w' g 37 #[a, b, c, d, f] := h.box.chg hc hno
  refine ⟨⟨hb.set_ 1 b', hr.away (grown_set w' _ _) (fun k e => by cases e; exact hno), ?_, ?_, h.ge, h.le, h.hF⟩, hb⟩
  · exact (h.chg.then_ hc (fun _ _ e => e.1)).then_ (D' := F) ((Chg.of_grown (grown_set w' ⟨g, 1, none⟩ b')).wide fun k _ e => by cases e; exact h.hF _ h.ge) (fun _ _ e => e)
  · have := hc.size
    simp
    omega
/-- One row, appended to, stored into the box. -/
theorem WBox.putN (h : WBox w F K g a b c d f s wx) {c' : Value} {l : List P3} (ho : OwnK 3 w' 0 50 c' l.length (p3Cells l)) (hg : wx.grownBy w' c.ownBlock) (hw : ∀ q, c'.ownBlock = some q → c.ownBlock = some q ∨ wx.heap.size ≤ q) : WBox w F K g a b c' d f { s with N := l } (w'.setCell ⟨g, 2, none⟩ c') ∧ Blk w' g 37 #[a, b, c, d, f] := by
  have hno := h.no
  have hlt := h.lt
  have hr := h.rows.putN ho hg hw (cutF.new h.hF hlt)
  have hc := h.rows.chgN hg
  have hb : Blk w' g 37 #[a, b, c, d, f] := h.box.chg hc hno
  refine ⟨⟨hb.set_ 2 c', hr.away (grown_set w' _ _) (fun k e => by cases e; exact hno), ?_, ?_, h.ge, h.le, h.hF⟩, hb⟩
  · exact (h.chg.then_ hc (fun _ _ e => e.1)).then_ (D' := F) ((Chg.of_grown (grown_set w' ⟨g, 2, none⟩ c')).wide fun k _ e => by cases e; exact h.hF _ h.ge) (fun _ _ e => e)
  · have := hc.size
    simp
    omega
/-- One row, appended to, stored into the box. -/
theorem WBox.putG (h : WBox w F K g a b c d f s wx) {d' : Value} {l : List (Int × Int)} (ho : OwnK 2 w' 0 79 d' l.length (e2Cells l)) (hg : wx.grownBy w' d.ownBlock) (hw : ∀ q, d'.ownBlock = some q → d.ownBlock = some q ∨ wx.heap.size ≤ q) : WBox w F K g a b c d' f { s with G := l } (w'.setCell ⟨g, 3, none⟩ d') ∧ Blk w' g 37 #[a, b, c, d, f] := by
  have hno := h.no
  have hlt := h.lt
  have hr := h.rows.putG ho hg hw (cutF.new h.hF hlt)
  have hc := h.rows.chgG hg
  have hb : Blk w' g 37 #[a, b, c, d, f] := h.box.chg hc hno
  refine ⟨⟨hb.set_ 3 d', hr.away (grown_set w' _ _) (fun k e => by cases e; exact hno), ?_, ?_, h.ge, h.le, h.hF⟩, hb⟩
  · exact (h.chg.then_ hc (fun _ _ e => e.1)).then_ (D' := F) ((Chg.of_grown (grown_set w' ⟨g, 3, none⟩ d')).wide fun k _ e => by cases e; exact h.hF _ h.ge) (fun _ _ e => e)
  · have := hc.size
    simp
    omega
/-- One row, appended to, stored into the box. -/
theorem WBox.putS (h : WBox w F K g a b c d f s wx) {f' : Value} {l : List (Int × Int)} (ho : OwnK 2 w' 0 62 f' l.length (e2Cells l)) (hg : wx.grownBy w' f.ownBlock) (hw : ∀ q, f'.ownBlock = some q → f.ownBlock = some q ∨ wx.heap.size ≤ q) : WBox w F K g a b c d f' { s with S := l } (w'.setCell ⟨g, 4, none⟩ f') ∧ Blk w' g 37 #[a, b, c, d, f] := by
  have hno := h.no
  have hlt := h.lt
  have hr := h.rows.putS ho hg hw (cutF.new h.hF hlt)
  have hc := h.rows.chgS hg
  have hb : Blk w' g 37 #[a, b, c, d, f] := h.box.chg hc hno
  refine ⟨⟨hb.set_ 4 f', hr.away (grown_set w' _ _) (fun k e => by cases e; exact hno), ?_, ?_, h.ge, h.le, h.hF⟩, hb⟩
  · exact (h.chg.then_ hc (fun _ _ e => e.1)).then_ (D' := F) ((Chg.of_grown (grown_set w' ⟨g, 4, none⟩ f')).wide fun k _ e => by cases e; exact h.hF _ h.ge) (fun _ _ e => e)
  · have := hc.size
    simp
    omega
end
end Go.Proofs.YtjahphfjobnkaaaDoor

/- lapidaryref11: meet. -/
namespace Go.Proofs.YtjahphfjobnkaaaDoor
open Go.RowKit

/-- The box and the result's cell, as a call begins. -/
theorem wbox_new {w : World} {F : Nat → Prop} (hF : ∀ k, w.heap.size ≤ k → F k) {a b c d f : Value} {s : WS} (h : WRows w F 79 a b c d f s) {K : Nat} (hK : 0 < K) {w1 : World} (hb : Below (w.heap.size + 1) (w.alloc (.cells #[a, b, c, d, f] 37)) w1) (hz : w.heap.size + K ≤ w1.heap.size) : WBox w F K w.heap.size a b c d f s w1 :=
  ⟨(Blk.new w _ _).below hb (Nat.lt_succ_self _), (h.cut K).kept ((new_alloc (Below.refl _ _) _).trans (hb.mono (Nat.le_succ _))), Chg.of_below ((new_alloc (Below.refl _ _) _).trans (hb.mono (Nat.le_succ _))), hz, Nat.le_refl _, by omega, hF⟩
/-- A struct handed back through a cell. -/
theorem wout_end {w : World} {F : Nat → Prop} {K g q : Nat} {a b c d f : Value} {s : WS} {wx : World} (h : WBox w F K g a b c d f s wx) (hq : w.heap.size ≤ q) (hq2 : q < w.heap.size + K) (hne : g ≠ q) {cs : Array Value} (hz : cs.size = 5) (hb : Blk wx q 37 cs) :
    Blk (((((wx.setCell ⟨q, 0, none⟩ a).setCell ⟨q, 1, none⟩ b).setCell ⟨q, 2, none⟩ c).setCell ⟨q, 3, none⟩ d).setCell ⟨q, 4, none⟩ f) q 37 #[a, b, c, d, f] ∧
    WOut F s w (.returned (.agg #[a, b, c, d, f])) (((((wx.setCell ⟨q, 0, none⟩ a).setCell ⟨q, 1, none⟩ b).setCell ⟨q, 2, none⟩ c).setCell ⟨q, 3, none⟩ d).setCell ⟨q, 4, none⟩ f) := by
  have h5 := ((((h.far (p := ⟨q, 0, none⟩) hq hq2 hne a).far (p := ⟨q, 1, none⟩) hq hq2 hne b).far (p := ⟨q, 2, none⟩) hq hq2 hne c).far (p := ⟨q, 3, none⟩) hq hq2 hne d).far (p := ⟨q, 4, none⟩) hq hq2 hne f
  refine ⟨?_, a, b, c, d, f, rfl, h5.rows.among fun k _ e => e.1, h5.chg⟩
  obtain ⟨l⟩ := cs
  match l, hz with
  | [c0, c1, c2, c3, c4], _ => exact ((((hb.set_ 0 a).set_ 1 b).set_ 2 c).set_ 3 d).set_ 4 f
set_option maxRecDepth 100000 in
set_option maxHeartbeats 1000000 in
theorem ref11meet_any (F : Nat → Prop) (a b c d f : Value) (s : WS) (v : Int) (w : World) (hF : ∀ k, w.heap.size ≤ k → F k) (h : WRows w F 79 a b c d f s) (hl : s.V.length ≤ 100000000) :
    Calls Tryd.prog 28 #[.agg #[a, b, c, d, f], .int .i64 v] w (WOut F { s with V := meetW s.V v } w) := by
  obtain ⟨Ab, cb, rfl, _⟩ := h.rO.has
  obtain ⟨Ac, cc, rfl, _⟩ := h.rN.has
  obtain ⟨Ad, cd, rfl, _⟩ := h.rG.has
  obtain ⟨Af, cf, rfl, _⟩ := h.rS.has
  obtain ⟨A, ca, rfl, hh⟩ := h.rV.has
  have HX0 : Hid (WBox w F 2 w.heap.size _ _ _ _ _ s ((w.alloc (.cells #[.slice A s.V.length ca, .slice Ab s.O.length cb, .slice Ac s.N.length cc, .slice Ad s.G.length cd, .slice Af s.S.length cf] 37)).alloc (.cells #[.slice none 0 0, .slice none 0 0, .slice none 0 0, .slice none 0 0, .slice none 0 0] 37))) := wbox_new hF h (K := 2) (by decide) ((Below.refl _ _).alloc (by simp) _) (by simp)
  have HQ0 : Hid (Blk ((w.alloc (.cells #[.slice A s.V.length ca, .slice Ab s.O.length cb, .slice Ac s.N.length cc, .slice Ad s.G.length cd, .slice Af s.S.length cf] 37)).alloc (.cells #[.slice none 0 0, .slice none 0 0, .slice none 0 0, .slice none 0 0, .slice none 0 0] 37)) (w.heap.size + 1) 37 #[.slice none 0 0, .slice none 0 0, .slice none 0 0, .slice none 0 0, .slice none 0 0]) := by
    have h := Blk.new (w.alloc (.cells #[.slice A s.V.length ca, .slice Ab s.O.length cb, .slice Ac s.N.length cc, .slice Ad s.G.length cd, .slice Af s.S.length cf] 37)) 37 #[.slice none 0 0, .slice none 0 0, .slice none 0 0, .slice none 0 0, .slice none 0 0]
    rw [show (w.alloc (.cells #[.slice A s.V.length ca, .slice Ab s.O.length cb, .slice Ac s.N.length cc, .slice Ad s.G.length cd, .slice Af s.S.length cf] 37)).heap.size = w.heap.size + 1 from Array.size_push _] at h
    exact h
  have HFi := Lib.hid (fun W (hW : Below w.heap.size w W) => ref11find_any A s.V.length ca s.V v W (hh.plain.kept hW) (by omega))
  obtain ⟨kz, ks⟩ := zero_of_info wInfo
  have HRE : Hid ({ s with V := s.V } = s) := rfl
  clear hF h hh
  have m0 := HX0.out.box.cell 0
  have m1 := HX0.out.box.cell 1
  have m2 := HX0.out.box.cell 2
  have m3 := HX0.out.box.cell 3
  have m4 := HX0.out.box.cell 4
  have HBl : Hid (Below w.heap.size w ((w.alloc (.cells #[.slice A s.V.length ca, .slice Ab s.O.length cb, .slice Ac s.N.length cc, .slice Ad s.G.length cd, .slice Af s.S.length cf] 37)).alloc (.cells #[.slice none 0 0, .slice none 0 0, .slice none 0 0, .slice none 0 0, .slice none 0 0] 37))) := new_alloc (new_alloc (Below.refl _ _) _) _
  go_enter Tryd.func28, Tryd.ntmps28
  go_wp2_with fail
  generalize (w.alloc (.cells #[.slice A s.V.length ca, .slice Ab s.O.length cb, .slice Ac s.N.length cc, .slice Ad s.G.length cd, .slice Af s.S.length cf] 37)).alloc (.cells #[.slice none 0 0, .slice none 0 0, .slice none 0 0, .slice none 0 0, .slice none 0 0] 37) = W at *
  refine (HFi.out _ HBl.out).mono ?_
  rintro e w1 ⟨rfl, rfl⟩
  by_cases hm : v ∈ s.V
  · have HE : Hid (meetW s.V v = s.V) := if_pos hm
    have hq : findW s.V v = (s.V.idxOf v : Int) := find_yes hm
    generalize findW s.V v = q at *
    have tq : decide (q < 0) = false := decide_eq_false (by omega)
    clear hm hq HFi
    have z0 := HQ0.out.cell 0
    have z1 := HQ0.out.cell 1
    have z2 := HQ0.out.cell 2
    have z3 := HQ0.out.cell 3
    have z4 := HQ0.out.cell 4
    have q0 := HQ0.out.frozen 0
    have q1 := HQ0.out.frozen 1
    have q2 := HQ0.out.frozen 2
    have q3 := HQ0.out.frozen 3
    have q4 := HQ0.out.frozen 4
    have HEnd := Lib.hid (wout_end (q := w.heap.size + 1) HX0.out (Nat.le_succ _) (Nat.lt_succ_self _) (Nat.ne_of_lt (Nat.lt_succ_self _)) rfl HQ0.out)
    go_wp2
    try rw [Exit.noGoto_ret]
    exact bodyPost_ret (results_cellM Tryd.results28 rfl (w_load _ _ _ _ _ _ _ HEnd.out.1)) rfl (by rw [HE.out]; exact HEnd.out.2)
  · have HE : Hid (meetW s.V v = s.V ++ [v]) := if_neg hm
    have hq : findW s.V v = -1 := find_no hm
    generalize findW s.V v = q at *
    subst hq
    clear hm HFi
    have HN := Lib.hid (Has.new_at W #[.int .i64 v] 3 _ rfl).toK
    have HX1 := Lib.hid (HX0.out.next (new_alloc (Below.refl _ _) (.cells #[.int .i64 v] 3)))
    have HQ1 := Lib.hid (HQ0.out.alloc (.cells #[.int .i64 v] 3))
    clear HX0 HQ0
    go_wp2_with (at_builtin
                 (refine wpList_joinGK rfl _ _ 32 rfl elemMi.toK (by decide) 0 _ s.V.length (intVs s.V) rfl HX1.out.rows.rV _ 1 1 (intVs [v]) rfl HN.out (intVs_one _) (by omega) (by decide) (Nat.zero_le _) ?_)
                 rintro v5 w5 ho hg hw
                 obtain ⟨A5, c5, rfl, _⟩ := OwnK.has ho
                 obtain ⟨hX, hB⟩ := HX1.out.putV (l := s.V ++ [v]) (by rw [List.length_append, intVs_app]; exact ho) hg hw
                 have HQ5 := Lib.hid (HQ1.out.chg (HX1.out.rows.chgV hg) (fun e => e.2 ⟨Nat.le_succ _, Nat.lt_succ_self _⟩))
                 have f0 := hB.frozen 0
                 have HX5 := Lib.hid hX
                 have HB5 := Lib.hid hB
                 clear hX hB ho hg hw
                 have HQ6 := Lib.hid (HQ5.out.far (p := ⟨w.heap.size, 0, none⟩) (Ne.symm (Nat.ne_of_lt (Nat.lt_succ_self _))) (.slice A5 (s.V.length + 1) c5))
                 have k0 := HB5.out.cell 0
                 have k1 := HB5.out.cell 1
                 have k2 := HB5.out.cell 2
                 have k3 := HB5.out.cell 3
                 have k4 := HB5.out.cell 4
                 have z0 := HQ5.out.cell 0
                 have z1 := HQ5.out.cell 1
                 have z2 := HQ5.out.cell 2
                 have z3 := HQ5.out.cell 3
                 have z4 := HQ5.out.cell 4
                 have q0 := HQ5.out.frozen 0
                 have q1 := HQ5.out.frozen 1
                 have q2 := HQ5.out.frozen 2
                 have q3 := HQ5.out.frozen 3
                 have q4 := HQ5.out.frozen 4
                 have HEnd := Lib.hid (wout_end (q := w.heap.size + 1) HX5.out (Nat.le_succ _) (Nat.lt_succ_self _) (Nat.ne_of_lt (Nat.lt_succ_self _)) rfl HQ6.out))
    try rw [Exit.noGoto_ret]
    exact bodyPost_ret (results_cellM Tryd.results28 rfl (w_load _ _ _ _ _ _ _ HEnd.out.1)) rfl (by rw [HE.out]; exact HEnd.out.2)
end Go.Proofs.YtjahphfjobnkaaaDoor
