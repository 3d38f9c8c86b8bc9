import Derived.Test.YthjmojglcfmkmaaDoorWalkPlain
import Derived.Test.YthjmojglcfmkmaaDoorMeshRefG
import Derived.Test.YthjmojglcfmkmaaDoorMeshOwn
import Derived.Deep.RegionLaw
import Derived.Deep.LoopGhost
import Derived.Test.YthjmojglcfmkmaaDoorMeshCodeR
/- Layer 11: the five rows of a walk, in memory of the call's own: vertices, triangles, the triangles by new numbers, gates, steps. -/
namespace Go.Proofs.YthjmojglcfmkmaaDoor
open Go.RowKit

/-- Two rows lie in two blocks. -/
def Apt (x y : Value) : Prop := ∀ g, x.ownBlock = some g → y.ownBlock ≠ some g
theorem Apt.symm {x y : Value} (h : Apt x y) : Apt y x := fun g hy hx => h g hx hy
theorem Apt.nil (y : Value) : Apt (.slice none 0 0) y := fun g h => by cases h
theorem OwnK.zlt {k : Nat} {w : World} {base : Nat} {e : TypeId} {v : Value} {n : Nat} {xs : List Value} (h : OwnK k w base e v n xs) : ∀ g, v.ownBlock = some g → g < w.heap.size := fun g hg => (World.ownsRow.lt h g hg).2
theorem OwnK.besides {k : Nat} {w w' : World} {base : Nat} {e : TypeId} {v x : Value} {n : Nat} {xs : List Value} (h : OwnK k w base e v n xs) (hg : w.grownBy w' x.ownBlock) (ha : Apt x v) : OwnK k w' base e v n xs :=
  World.ownsRow.kept h hg (by
    cases hv : v.ownBlock with
    | none => exact Or.inl rfl
    | some g => exact Or.inr fun e => ha g e.symm hv)
theorem Apt.newer {k : Nat} {w : World} {base : Nat} {e : TypeId} {x x' y : Value} {n : Nat} {xs : List Value} (h : Apt x y) (hy : OwnK k w base e y n xs) (hw : ∀ g, x'.ownBlock = some g → x.ownBlock = some g ∨ w.heap.size ≤ g) : Apt x' y := fun g hg hyg => by
  rcases hw g hg with h1 | h1
  · exact h g h1 hyg
  · have := hy.zlt g hyg
    omega
/-- append(own, other...), of elements of k cells, with where the row lies. -/
theorem wpList_joinGK {k : Nat} {P : Program} {w : World} {ops : Array Oper} {rest : List Oper} {o : Oper} {a : Act} {Q : Exit → Act → World → Prop} (hgd : o.guard = Option.none) (s x : Operand) (t : TypeId)
    (ho : o.op = .call { callee := .builtin .append, args := #[s, x], argTypes := #[t, t] }) {e : TypeId} {bytes : Nat} (E : ElemK P t e k bytes) (hk : 0 < k)
    (base : Nat) (v : Value) (n : Nat) (xs : List Value) (hs : a.eval s = v) (hown : OwnK k w base e v n xs) (A : Option Addr) (m c : Nat) (news : List Value) (hx : a.eval x = .slice A m c) (hh : HasK k w A m c news)
    (h1 : ∀ u ∈ news, u.oneCell' = true) (hsz : n + m ≤ 1099511627776) (hby : bytes ≤ 64) (hbase : base ≤ w.heap.size)
    (h : ∀ v' w', OwnK k w' base e v' (n + m) (xs ++ news) → w.grownBy w' v.ownBlock → (∀ g, v'.ownBlock = some g → v.ownBlock = some g ∨ w.heap.size ≤ g) → wpList P ops Q rest (a.put o.dst v') w') : wpList P ops Q (o :: rest) a w := by
  refine wpList_plain hgd fun K hK => ?_
  obtain ⟨v', w', hrun, h2, h3, h4⟩ := run_joinK w t o.type E hk base v n xs hown A m c news hh h1 hsz hby hbase
  have h5 := run_where (P := P) w t o.type E hk base v n xs hown A m c news hh h1 hsz hby hbase hrun
  unfold Oper.wp execOp
  simp only [ho, resolve, invoke, builtin, Sem.run_bind, Sem.run_pure, Result.andThen_ok, List.map_toArray, List.map_cons, List.map_nil, hs, hx, hrun]
  exact hK _ _ (h v' w' h2 h4 h5)
theorem stepInfo : (Tryd.prog.info? 33).map (fun i => (i.zero, i.size)) = some (some (.agg #[.int .i64 0, .int .i64 0]), 2) := by kernel_rfl
theorem elemSt : ElemK Tryd.prog 22 33 2 16 := by
  have h : (Tryd.prog.info? 33).map (fun i => (i.zero, i.size, i.bytes)) = some (some (.agg #[.int .i64 0, .int .i64 0]), 2, 16) := by kernel_rfl
  obtain ⟨i, h1, h2, h3, h4⟩ := info_parts h
  exact ⟨Tryd.underlying22, i, _, h1, h2, h3, h4, rfl⟩

theorem own_away {F : Nat → Prop} {row : Option Nat} {v : Value} (hr : ∀ k, row = some k → ¬ F k) (hf : ∀ g, v.ownBlock = some g → F g) : v.ownBlock = none ∨ v.ownBlock ≠ row := by
  cases hv : v.ownBlock with
  | none => exact Or.inl rfl
  | some g => exact Or.inr fun e => hr g e.symm (hf g hv)
/-- The five rows; their blocks are among F, and no two the same. -/
structure WRows (w : World) (F : Nat → Prop) (eg : TypeId) (a b c d f : Value) (s : WS) : Prop where
  rV : OwnK 1 w 0 3 a s.V.length (intVs s.V)
  rO : OwnK 1 w 0 3 b s.O.length (natVs s.O)
  rN : OwnK 3 w 0 58 c s.N.length (p3Cells s.N)
  rG : OwnK 2 w 0 eg d s.G.length (e2Cells s.G)
  rS : OwnK 2 w 0 33 f s.S.length (e2Cells s.S)
  fV : ∀ g, a.ownBlock = some g → F g
  fO : ∀ g, b.ownBlock = some g → F g
  fN : ∀ g, c.ownBlock = some g → F g
  fG : ∀ g, d.ownBlock = some g → F g
  fS : ∀ g, f.ownBlock = some g → F g
  aVO : Apt a b
  aVN : Apt a c
  aVG : Apt a d
  aVS : Apt a f
  aON : Apt b c
  aOG : Apt b d
  aOS : Apt b f
  aNG : Apt c d
  aNS : Apt c f
  aGS : Apt d f
section
variable {w w' : World} {F : Nat → Prop} {eg : TypeId} {a b c d f : Value} {s : WS}
theorem WRows.nil (w : World) (F : Nat → Prop) (eg : TypeId) : WRows w F eg (.slice none 0 0) (.slice none 0 0) (.slice none 0 0) (.slice none 0 0) (.slice none 0 0) ⟨[], [], [], [], []⟩ :=
  ⟨OwnK.nil _ _ _ _, OwnK.nil _ _ _ _, OwnK.nil _ _ _ _, OwnK.nil _ _ _ _, OwnK.nil _ _ _ _, (fun g h => by cases h), (fun g h => by cases h), (fun g h => by cases h), (fun g h => by cases h), (fun g h => by cases h), Apt.nil _, Apt.nil _, Apt.nil _, Apt.nil _, Apt.nil _, Apt.nil _, Apt.nil _, Apt.nil _, Apt.nil _, Apt.nil _⟩
theorem WRows.kept (h : WRows w F eg a b c d f s) (hb : Below w.heap.size w w') : WRows w' F eg a b c d f s :=
  ⟨h.rV.keep hb, h.rO.keep hb, h.rN.keep hb, h.rG.keep hb, h.rS.keep hb, h.fV, h.fO, h.fN, h.fG, h.fS, h.aVO, h.aVN, h.aVG, h.aVS, h.aON, h.aOG, h.aOS, h.aNG, h.aNS, h.aGS⟩
theorem WRows.among {F' : Nat → Prop} (h : WRows w F eg a b c d f s) (hf : ∀ k, k < w.heap.size → F k → F' k) : WRows w F' eg a b c d f s :=
  ⟨h.rV, h.rO, h.rN, h.rG, h.rS, (fun g hg => hf g (h.rV.zlt g hg) (h.fV g hg)), (fun g hg => hf g (h.rO.zlt g hg) (h.fO g hg)), (fun g hg => hf g (h.rN.zlt g hg) (h.fN g hg)), (fun g hg => hf g (h.rG.zlt g hg) (h.fG g hg)), (fun g hg => hf g (h.rS.zlt g hg) (h.fS g hg)), h.aVO, h.aVN, h.aVG, h.aVS, h.aON, h.aOG, h.aOS, h.aNG, h.aNS, h.aGS⟩
/-- What is written elsewhere. -/
theorem WRows.away (h : WRows w F eg a b c d f s) {row : Option Nat} (hg : w.grownBy w' row) (hr : ∀ k, row = some k → ¬ F k) : WRows w' F eg a b c d f s :=
  ⟨World.ownsRow.kept h.rV hg (own_away hr h.fV), World.ownsRow.kept h.rO hg (own_away hr h.fO), World.ownsRow.kept h.rN hg (own_away hr h.fN), World.ownsRow.kept h.rG hg (own_away hr h.fG), World.ownsRow.kept h.rS hg (own_away hr h.fS), h.fV, h.fO, h.fN, h.fG, h.fS, h.aVO, h.aVN, h.aVG, h.aVS, h.aON, h.aOG, h.aOS, h.aNG, h.aNS, h.aGS⟩
theorem WRows.putV (h : WRows w F eg a b c d f s) {a' : Value} {l : List Int} (ho : OwnK 1 w' 0 3 a' l.length (intVs l)) (hg : w.grownBy w' a.ownBlock) (hw : ∀ g, a'.ownBlock = some g → a.ownBlock = some g ∨ w.heap.size ≤ g) (hF : ∀ g, w.heap.size ≤ g → F g) : WRows w' F eg a' b c d f { s with V := l } :=
  ⟨ho, h.rO.besides hg h.aVO, h.rN.besides hg h.aVN, h.rG.besides hg h.aVG, h.rS.besides hg h.aVS, (fun g hg' => (hw g hg').elim (h.fV g) (hF g)), h.fO, h.fN, h.fG, h.fS, h.aVO.newer h.rO hw, h.aVN.newer h.rN hw, h.aVG.newer h.rG hw, h.aVS.newer h.rS hw, h.aON, h.aOG, h.aOS, h.aNG, h.aNS, h.aGS⟩
theorem WRows.chgV (h : WRows w F eg a b c d f s) (hg : w.grownBy w' a.ownBlock) : Chg F w w' := (Chg.of_grown hg).wide fun k _ e => h.fV k e
theorem WRows.putO (h : WRows w F eg a b c d f s) {b' : Value} {l : List Nat} (ho : OwnK 1 w' 0 3 b' l.length (natVs l)) (hg : w.grownBy w' b.ownBlock) (hw : ∀ g, b'.ownBlock = some g → b.ownBlock = some g ∨ w.heap.size ≤ g) (hF : ∀ g, w.heap.size ≤ g → F g) : WRows w' F eg a b' c d f { s with O := l } :=
  ⟨h.rV.besides hg h.aVO.symm, ho, h.rN.besides hg h.aON, h.rG.besides hg h.aOG, h.rS.besides hg h.aOS, h.fV, (fun g hg' => (hw g hg').elim (h.fO g) (hF g)), h.fN, h.fG, h.fS, (h.aVO.symm.newer h.rV hw).symm, h.aVN, h.aVG, h.aVS, h.aON.newer h.rN hw, h.aOG.newer h.rG hw, h.aOS.newer h.rS hw, h.aNG, h.aNS, h.aGS⟩
theorem WRows.chgO (h : WRows w F eg a b c d f s) (hg : w.grownBy w' b.ownBlock) : Chg F w w' := (Chg.of_grown hg).wide fun k _ e => h.fO k e
theorem WRows.putN (h : WRows w F eg a b c d f s) {c' : Value} {l : List P3} (ho : OwnK 3 w' 0 58 c' l.length (p3Cells l)) (hg : w.grownBy w' c.ownBlock) (hw : ∀ g, c'.ownBlock = some g → c.ownBlock = some g ∨ w.heap.size ≤ g) (hF : ∀ g, w.heap.size ≤ g → F g) : WRows w' F eg a b c' d f { s with N := l } :=
  ⟨h.rV.besides hg h.aVN.symm, h.rO.besides hg h.aON.symm, ho, h.rG.besides hg h.aNG, h.rS.besides hg h.aNS, h.fV, h.fO, (fun g hg' => (hw g hg').elim (h.fN g) (hF g)), h.fG, h.fS, h.aVO, (h.aVN.symm.newer h.rV hw).symm, h.aVG, h.aVS, (h.aON.symm.newer h.rO hw).symm, h.aOG, h.aOS, h.aNG.newer h.rG hw, h.aNS.newer h.rS hw, h.aGS⟩
theorem WRows.chgN (h : WRows w F eg a b c d f s) (hg : w.grownBy w' c.ownBlock) : Chg F w w' := (Chg.of_grown hg).wide fun k _ e => h.fN k e
theorem WRows.putG (h : WRows w F eg a b c d f s) {d' : Value} {l : List (Int × Int)} (ho : OwnK 2 w' 0 eg d' l.length (e2Cells l)) (hg : w.grownBy w' d.ownBlock) (hw : ∀ g, d'.ownBlock = some g → d.ownBlock = some g ∨ w.heap.size ≤ g) (hF : ∀ g, w.heap.size ≤ g → F g) : WRows w' F eg a b c d' f { s with G := l } :=
  ⟨h.rV.besides hg h.aVG.symm, h.rO.besides hg h.aOG.symm, h.rN.besides hg h.aNG.symm, ho, h.rS.besides hg h.aGS, h.fV, h.fO, h.fN, (fun g hg' => (hw g hg').elim (h.fG g) (hF g)), h.fS, h.aVO, h.aVN, (h.aVG.symm.newer h.rV hw).symm, h.aVS, h.aON, (h.aOG.symm.newer h.rO hw).symm, h.aOS, (h.aNG.symm.newer h.rN hw).symm, h.aNS, h.aGS.newer h.rS hw⟩
theorem WRows.chgG (h : WRows w F eg a b c d f s) (hg : w.grownBy w' d.ownBlock) : Chg F w w' := (Chg.of_grown hg).wide fun k _ e => h.fG k e
theorem WRows.putS (h : WRows w F eg a b c d f s) {f' : Value} {l : List (Int × Int)} (ho : OwnK 2 w' 0 33 f' l.length (e2Cells l)) (hg : w.grownBy w' f.ownBlock) (hw : ∀ g, f'.ownBlock = some g → f.ownBlock = some g ∨ w.heap.size ≤ g) (hF : ∀ g, w.heap.size ≤ g → F g) : WRows w' F eg a b c d f' { s with S := l } :=
  ⟨h.rV.besides hg h.aVS.symm, h.rO.besides hg h.aOS.symm, h.rN.besides hg h.aNS.symm, h.rG.besides hg h.aGS.symm, ho, h.fV, h.fO, h.fN, h.fG, (fun g hg' => (hw g hg').elim (h.fS g) (hF g)), h.aVO, h.aVN, h.aVG, (h.aVS.symm.newer h.rV hw).symm, h.aON, h.aOG, (h.aOS.symm.newer h.rO hw).symm, h.aNG, (h.aNS.symm.newer h.rN hw).symm, (h.aGS.symm.newer h.rG hw).symm⟩
theorem WRows.chgS (h : WRows w F eg a b c d f s) (hg : w.grownBy w' f.ownBlock) : Chg F w w' := (Chg.of_grown hg).wide fun k _ e => h.fS k e
end
end Go.Proofs.YthjmojglcfmkmaaDoor

/- lapidaryref11: find, meet. -/
namespace Go.Proofs.YthjmojglcfmkmaaDoor
open Go.RowKit

theorem find_at {l : List Int} {x : Int} {i : Nat} (hi : i < l.length) (hx : l[i] = x) (hb : x ∉ l.take i) : findW l x = i := by
  have hm : x ∈ l := hx ▸ List.getElem_mem hi
  unfold findW
  rw [if_pos hm]
  have e : l = l.take i ++ (x :: l.drop (i + 1)) := by rw [← hx, ← List.drop_eq_getElem_cons hi, List.take_append_drop]
  have h2 : l.idxOf x = i := by
    have h3 : (l.take i ++ (x :: l.drop (i + 1))).idxOf x = i := by
      rw [List.idxOf_append, if_neg hb, List.idxOf_cons_self, List.length_take]
      omega
    rw [← e] at h3
    exact h3
  rw [h2]
theorem find_no {l : List Int} {x : Int} (h : x ∉ l) : findW l x = -1 := if_neg h
theorem find_yes {l : List Int} {x : Int} (h : x ∈ l) : findW l x = (l.idxOf x : Int) := if_pos h
/-- A walk's answer: the rows, in blocks among F; nothing but F's blocks has turned. -/
def WOut (F : Nat → Prop) (s : WS) (w : World) (e : Ending) (w' : World) : Prop := ∃ a b c d f, e = .returned (.agg #[a, b, c, d, f]) ∧ WRows w' F 66 a b c d f s ∧ Chg F w w'
/-- F, but for K blocks from g on. -/
def cutF (F : Nat → Prop) (g K : Nat) : Nat → Prop := fun k => F k ∧ ¬ (g ≤ k ∧ k < g + K)
theorem cutF.new {F : Nat → Prop} {g K : Nat} (hF : ∀ k, g ≤ k → F k) {B : Nat} (hB : g + K ≤ B) : ∀ k, B ≤ k → cutF F g K k := fun k hk => ⟨hF k (by omega), by omega⟩
theorem WRows.cut {w : World} {F : Nat → Prop} {eg : TypeId} {a b c d f : Value} {s : WS} (h : WRows w F eg a b c d f s) (K : Nat) : WRows w (cutF F w.heap.size K) eg a b c d f s := h.among fun k hk hf => ⟨hf, by omega⟩
theorem HasK.plain {w : World} {A : Option Addr} {n c : Nat} {xs : List Value} (h : HasK 1 w A n c xs) : Has w A n c xs := ⟨by have := h.len; omega, h.cap, h.bare, h.spot⟩
section
variable {w : World} {F : Nat → Prop} {K g : Nat} {a b c d f : Value} {s : WS} {wx w' : World}
end
section
variable {w : World} {F : Nat → Prop} {K g : Nat} {a b c d f : Value} {s : WS} {wx w' : World}
end
end Go.Proofs.YthjmojglcfmkmaaDoor

/- lapidaryref11: meet. -/
namespace Go.Proofs.YthjmojglcfmkmaaDoor
open Go.RowKit

end Go.Proofs.YthjmojglcfmkmaaDoor
