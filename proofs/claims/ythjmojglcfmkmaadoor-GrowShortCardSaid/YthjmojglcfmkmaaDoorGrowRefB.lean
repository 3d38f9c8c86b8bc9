import Derived.Test.YthjmojglcfmkmaaDoorWalkRefH
import Derived.Test.YthjmojglcfmkmaaDoorGrowPlain
import Derived.Deep.RegionHeld3
import Derived.Deep.CutRange
/- Rows of the call's own whose block holds more than the slice may use (a slice cut by three indexes): what they are, and what an append makes of them. -/
namespace Go.Proofs.YthjmojglcfmkmaaDoor
open Go.RowKit

/-- The slice value v is the call's own and holds n elements, the cells xs; its block may be greater than its capacity. -/
def OwnW (k : Nat) (w : World) (e : TypeId) (v : Value) (n : Nat) (xs : List Value) : Prop :=
  xs.length = n * k ∧ ((v = .slice none 0 0 ∧ n = 0) ∨ ∃ g cap cur, v = .slice (some ⟨g, 0, none⟩) n cap ∧ w.heap[g]? = some (.cells cur e (0, 0)) ∧ n ≤ cap ∧ cap ≤ maxLen ∧ cap * k ≤ cur.size ∧ cur.toList.take (n * k) = xs)
section
variable {k : Nat} {w w' : World} {e : TypeId} {v : Value} {n : Nat} {xs : List Value}
theorem OwnW.nil (k : Nat) (w : World) (e : TypeId) : OwnW k w e (.slice none 0 0) 0 [] := ⟨by simp, Or.inl ⟨rfl, rfl⟩⟩
theorem OwnW.zlt (h : OwnW k w e v n xs) : ∀ g, v.ownBlock = some g → g < w.heap.size := by
  intro g hg
  rcases h.2 with ⟨rfl, _⟩ | ⟨g', cap, cur, rfl, hh, _⟩
  · cases hg
  · have e : g' = g := Option.some.inj hg
    subst e
    exact (Array.getElem?_eq_some_iff.1 hh).1
theorem OwnW.kept {row : Option Nat} (h : OwnW k w e v n xs) (hg : w.grownBy w' row) (hne : v.ownBlock = none ∨ v.ownBlock ≠ row) : OwnW k w' e v n xs := by
  refine ⟨h.1, ?_⟩
  rcases h.2 with hn | ⟨g, cap, cur, rfl, hh, rest⟩
  · exact Or.inl hn
  · refine Or.inr ⟨g, cap, cur, rfl, ?_, rest⟩
    rw [hg.block g (Array.getElem?_eq_some_iff.1 hh).1 (by simpa [Value.ownBlock] using hne)]
    exact hh
theorem OwnW.keep (h : OwnW k w e v n xs) (hb : Below w.heap.size w w') : OwnW k w' e v n xs :=
  OwnW.kept (row := none) h ⟨hb.os, hb.tape, hb.output, hb.size, fun k hk _ => hb.block k hk⟩ (by
    cases v with
    | slice a _ _ => cases a <;> simp [Value.ownBlock]
    | _ => simp [Value.ownBlock])
theorem OwnW.chg {D : Nat → Prop} (h : OwnW k w e v n xs) (hc : Chg D w w') (hd : ∀ g, v.ownBlock = some g → ¬ D g) : OwnW k w' e v n xs := by
  refine ⟨h.1, ?_⟩
  rcases h.2 with hn | ⟨g, cap, cur, rfl, hh, rest⟩
  · exact Or.inl hn
  · refine Or.inr ⟨g, cap, cur, rfl, ?_, rest⟩
    rw [hc.block g (Array.getElem?_eq_some_iff.1 hh).1 (hd g rfl)]
    exact hh
theorem OwnW.has (h : OwnW k w e v n xs) : ∃ A c, v = .slice A n c ∧ HasK k w A n c xs := by
  obtain ⟨hl, hcase⟩ := h
  rcases hcase with ⟨rfl, rfl⟩ | ⟨g, cap, cur, rfl, hh, hn, hcap, hsz, htake⟩
  · exact ⟨none, 0, rfl, by have hx := List.eq_nil_of_length_eq_zero (show xs.length = 0 by omega); subst hx; exact HasK.none _ _ _ _ fun _ => rfl⟩
  · refine ⟨_, _, rfl, hl, hn, (fun h => by cases h), fun _ => ⟨g, 0, rfl, (Array.getElem?_eq_some_iff.1 hh).1, fun j u hu => ?_⟩⟩
    rw [Nat.zero_add, cell_of_row w g j cur e (0, 0) hh]
    rw [← htake, List.getElem?_take] at hu
    split at hu
    · simpa using hu
    · cases hu
theorem OwnW.hasK {A : Option Addr} {c : Nat} (h : OwnW k w e (.slice A n c) n xs) : HasK k w A n c xs := by
  obtain ⟨A', c', e, h2⟩ := h.has
  cases e
  exact h2
theorem OwnW.of_own {base : Nat} (h : OwnK k w base e v n xs) : OwnW k w e v n xs := by
  obtain ⟨hl, hcase⟩ := h
  refine ⟨hl, ?_⟩
  rcases hcase with h | ⟨g, cap, cur, h1, _, h3, h4, h5, h6, h7⟩
  · exact Or.inl h
  · exact Or.inr ⟨g, cap, cur, h1, h3, h4, h5, Nat.le_of_eq h6.symm, h7⟩
/-- Cut, and its capacity too. -/
theorem OwnW.cut {A : Option Addr} {c m c' : Nat} (h : OwnW k w e (.slice A n c) n xs) (hm : m ≤ n) (hc : m ≤ c') (hc' : c' ≤ c) : OwnW k w e (.slice A m c') m (xs.take (m * k)) := by
  obtain ⟨hl, hcase⟩ := h
  have hmk : m * k ≤ n * k := Nat.mul_le_mul_right _ hm
  refine ⟨by rw [List.length_take]; omega, ?_⟩
  rcases hcase with ⟨h1, rfl⟩ | ⟨g, cap, cur, h1, hh, hn, hcap, hsz, htake⟩
  · obtain rfl : m = 0 := by omega
    injection h1 with e1 e2 e3
    subst e1 e3
    obtain rfl : c' = 0 := by omega
    exact Or.inl ⟨rfl, rfl⟩
  · injection h1 with e1 e2 e3
    subst e1 e3
    refine Or.inr ⟨g, c', cur, rfl, hh, hc, Nat.le_trans hc' hcap, Nat.le_trans (Nat.mul_le_mul_right _ hc') hsz, ?_⟩
    rw [← htake, List.take_take, Nat.min_eq_left hmk]
end
theorem hasK_news {k : Nat} {w : World} {ad : Addr} {m c : Nat} {news : List Value} (hh : HasK k w (some ad) m c news) : ∀ j u, news[j]? = some u → w.cell? (ad.add j) = some u := fun j u hu => by
  have hl := hh.len
  have hj : j < news.length := by
    rcases Nat.lt_or_ge j news.length with hj | hj
    · exact hj
    · rw [List.getElem?_eq_none hj] at hu; cases hu
  obtain ⟨b, off, hA, _, hc⟩ := hh.spot (by
    rcases Nat.eq_zero_or_pos m with h0 | h0
    · subst h0; omega
    · exact h0)
  cases hA
  have e : (⟨b, off, none⟩ : Addr).add j = ⟨b, off + j, none⟩ := by
    unfold Addr.add
    by_cases hj : j = 0
    · subst hj; simp
    · simp [hj]
  rw [e]; exact hc j u hu
/-- What an append of some makes of such a row. -/
theorem run_joinW {k : Nat} {P : Program} (w : World) (t ty : TypeId) {e : TypeId} {bytes : Nat} (E : ElemK P t e k bytes) (hk : 0 < k)
    (v : Value) (n : Nat) (xs : List Value) (hown : OwnW k w e v n xs) (ad : Addr) (m c : Nat) (news : List Value) (hh : HasK k w (some ad) m c news)
    (h1 : ∀ u ∈ news, u.oneCell' = true) (hm : 0 < m) (hsz : n + m ≤ 1099511627776) (hby : bytes ≤ 64) :
    ∃ v' w', (Builtin.append_ #[t, t] ty #[v, .slice (some ad) m c]).run P w = .ok v' w' ∧ OwnW k w' e v' (n + m) (xs ++ news) ∧ w.grownBy w' v.ownBlock ∧ ∀ g, v'.ownBlock = some g → v.ownBlock = some g ∨ w.heap.size ≤ g := by
  obtain ⟨i, z, hi, hz, hsize, hbytes, hzs⟩ := E.info
  subst hsize
  subst hbytes
  have hl := hh.len
  have hnews := hasK_news hh
  have ht := E.under
  have hmul : (n + m) * i.bytes ≤ 1099511627776 * 64 := Nat.mul_le_mul hsz hby
  have hlen : (xs ++ news).length = (n + m) * i.size := by rw [List.length_append, hown.1, hl, Nat.add_mul]
  have h63 : n + m ≤ maxLen := by unfold maxLen; omega
  have grown : ∀ (old : Nat), old < n + m → ∀ (row : Option Nat),
      OwnW i.size (w.drew.alloc (.cells (xs.toArray ++ news.toArray ++ Builtin.zeroCells z.cells (grownCap w (n + m) old e - (n + m))) e)) e
        (.slice (some ⟨w.heap.size, 0, none⟩) (n + m) (grownCap w (n + m) old e)) (n + m) (xs ++ news) ∧
      w.grownBy (w.drew.alloc (.cells (xs.toArray ++ news.toArray ++ Builtin.zeroCells z.cells (grownCap w (n + m) old e - (n + m))) e)) row := by
    intro old ho row
    have hge := grownCap_ge w (n + m) old e
    have hcm : grownCap w (n + m) old e ≤ maxLen := grownCap_le_maxLen w (n + m) old e h63
    refine ⟨⟨hlen, Or.inr ⟨w.heap.size, _, _, rfl, heap_alloc_new w.drew _, hge, hcm, ?_, ?_⟩⟩, ⟨rfl, rfl, rfl, by simp, fun q hq _ => heap_alloc_old w.drew _ hq⟩⟩
    · simp only [Array.size_append, List.size_toArray, size_zeroCells, hzs, hown.1, hl, ← Nat.add_mul]
      refine Nat.le_of_eq ?_
      congr 1
      omega
    · simp only [Array.toList_append, List.append_assoc]
      rw [← List.append_assoc, ← hlen]
      exact List.take_left
  rcases hown.2 with ⟨rfl, rfl⟩ | ⟨g, cap, cur, rfl, hg, hnc, hcm, hcs, htake⟩
  · have hx : xs = [] := List.eq_nil_of_length_eq_zero (by simpa using hown.1)
    subst hx
    have hr := run_append_nil (P := P) w t ty e i z ht hi hz ad m c news hl hnews (by omega) (by omega) (by rw [Nat.zero_add] at hmul; omega)
    have hgr := grown 0 (by omega) (Value.ownBlock (.slice none 0 0))
    simp only [Nat.zero_add, List.nil_append, Array.empty_append] at hgr ⊢
    exact ⟨_, _, hr, hgr.1, hgr.2, fun g hg => Or.inr (by cases hg; exact Nat.le_refl _)⟩
  · by_cases hroom : n + m ≤ cap
    · have hfit : n * i.size + news.length ≤ cur.size := by
        rw [hl, ← Nat.add_mul]
        exact Nat.le_trans (Nat.mul_le_mul_right _ hroom) hcs
      have hr := run_append_room (P := P) w t ty e i ht hi g n cap cur hg ad m c news hl hnews h1 hroom hfit
      refine ⟨_, _, hr, ⟨hlen, Or.inr ⟨g, cap, _, rfl, setRow_heap w g cur _ e _ hg, hroom, hcm, ?_, ?_⟩⟩, ⟨rfl, rfl, rfl, by simp, fun k _ hk => setRow_other w g k _ (fun e => hk (by simp [Value.ownBlock, e]))⟩, fun q hq => Or.inl hq⟩
      · simp only [List.size_toArray, List.length_append, List.length_take, List.length_drop, Array.length_toList]
        omega
      · rw [htake, ← hlen]
        exact List.take_left
    · have holds : ∀ j u, xs[j]? = some u → w.cell? ((⟨g, 0, none⟩ : Addr).add j) = some u := hasK_news hown.hasK
      have hr := run_append_grow (P := P) w t ty e i z ht hi hz ⟨g, 0, none⟩ n cap xs hown.1 holds ad m c news hl hnews (by omega) (by omega) (growslice_fits (by omega) (by omega))
      have hgr := grown cap (by omega) (Value.ownBlock (.slice (some ⟨g, 0, none⟩) n cap))
      exact ⟨_, _, hr, hgr.1, hgr.2, fun q hq => Or.inr (by cases hq; exact Nat.le_refl _)⟩
theorem wpList_joinW {k : Nat} {P : Program} {w : World} {ops : Array Oper} {rest : List Oper} {o : Oper} {a : Act} {Q : Exit → Act → World → Prop} (hgd : o.guard = Option.none) (s x : Operand) (t : TypeId)
    (ho : o.op = .call { callee := .builtin .append, args := #[s, x], argTypes := #[t, t] }) {e : TypeId} {bytes : Nat} (E : ElemK P t e k bytes) (hk : 0 < k)
    (v : Value) (n : Nat) (xs : List Value) (hs : a.eval s = v) (hown : OwnW k w e v n xs) (ad : Addr) (m c : Nat) (news : List Value) (hx : a.eval x = .slice (some ad) m c) (hh : HasK k w (some ad) m c news)
    (h1 : ∀ u ∈ news, u.oneCell' = true) (hm : 0 < m) (hsz : n + m ≤ 1099511627776) (hby : bytes ≤ 64)
    (h : ∀ v' w', OwnW k w' e v' (n + m) (xs ++ news) → w.grownBy w' v.ownBlock → (∀ g, v'.ownBlock = some g → v.ownBlock = some g ∨ w.heap.size ≤ g) → wpList P ops Q rest (a.put o.dst v') w') : wpList P ops Q (o :: rest) a w := by
  refine wpList_plain hgd fun K hK => ?_
  obtain ⟨v', w', hrun, h2, h4, h5⟩ := run_joinW w t o.type E hk v n xs hown ad m c news hh h1 hm hsz hby
  unfold Oper.wp execOp
  simp only [ho, resolve, invoke, builtin, Sem.run_bind, Sem.run_pure, Result.andThen_ok, List.map_toArray, List.map_cons, List.map_nil, hs, hx, hrun]
  exact hK _ _ (h v' w' h2 h4 h5)
end Go.Proofs.YthjmojglcfmkmaaDoor

/- lapidaryref12: what is grown, in memory of the call's own; shut, border. -/
namespace Go.Proofs.YthjmojglcfmkmaaDoor
open Go.RowKit

/-- The three rows of what is grown; their blocks are among F, and no two the same. -/
structure GRows (w : World) (F : Nat → Prop) (a c d : Value) (T : List P3) (P B : List (Int × Int)) : Prop where
  rT : OwnK 3 w 0 58 a T.length (p3Cells T)
  rP : OwnK 2 w 0 66 c P.length (e2Cells P)
  rB : OwnK 2 w 0 66 d B.length (e2Cells B)
  fT : ∀ g, a.ownBlock = some g → F g
  fP : ∀ g, c.ownBlock = some g → F g
  fB : ∀ g, d.ownBlock = some g → F g
  aTP : Apt a c
  aTB : Apt a d
  aPB : Apt c d
section
variable {w w' : World} {F : Nat → Prop} {a c d : Value} {T : List P3} {P B : List (Int × Int)}
theorem GRows.nil (w : World) (F : Nat → Prop) : GRows w F (.slice none 0 0) (.slice none 0 0) (.slice none 0 0) [] [] [] :=
  ⟨OwnK.nil _ _ _ _, OwnK.nil _ _ _ _, OwnK.nil _ _ _ _, (fun g h => by cases h), (fun g h => by cases h), (fun g h => by cases h), Apt.nil _, Apt.nil _, Apt.nil _⟩
theorem GRows.kept (h : GRows w F a c d T P B) (hb : Below w.heap.size w w') : GRows w' F a c d T P B :=
  ⟨h.rT.keep hb, h.rP.keep hb, h.rB.keep hb, h.fT, h.fP, h.fB, h.aTP, h.aTB, h.aPB⟩
theorem GRows.among {F' : Nat → Prop} (h : GRows w F a c d T P B) (hf : ∀ k, k < w.heap.size → F k → F' k) : GRows w F' a c d T P B :=
  ⟨h.rT, h.rP, h.rB, (fun g hg => hf g (h.rT.zlt g hg) (h.fT g hg)), (fun g hg => hf g (h.rP.zlt g hg) (h.fP g hg)), (fun g hg => hf g (h.rB.zlt g hg) (h.fB g hg)), h.aTP, h.aTB, h.aPB⟩
theorem GRows.cut (h : GRows w F a c d T P B) (K : Nat) : GRows w (cutF F w.heap.size K) a c d T P B := h.among fun k hk hf => ⟨hf, by omega⟩
/-- What is written elsewhere. -/
theorem GRows.away (h : GRows w F a c d T P B) {row : Option Nat} (hg : w.grownBy w' row) (hr : ∀ k, row = some k → ¬ F k) : GRows w' F a c d T P B :=
  ⟨World.ownsRow.kept h.rT hg (own_away hr h.fT), World.ownsRow.kept h.rP hg (own_away hr h.fP), World.ownsRow.kept h.rB hg (own_away hr h.fB), h.fT, h.fP, h.fB, h.aTP, h.aTB, h.aPB⟩
theorem OwnK.chg {k : Nat} {base : Nat} {e : TypeId} {v : Value} {n : Nat} {xs : List Value} {D : Nat → Prop} (h : OwnK k w base e v n xs) (hc : Chg D w w') (hd : ∀ g, v.ownBlock = some g → ¬ D g) : OwnK k w' base e v n xs := by
  refine ⟨h.1, ?_⟩
  rcases h.2 with hn | ⟨g, cap, cur, rfl, hb, hh, rest⟩
  · exact Or.inl hn
  · refine Or.inr ⟨g, cap, cur, rfl, hb, ?_, rest⟩
    rw [hc.block g (Array.getElem?_eq_some_iff.1 hh).1 (hd g rfl)]
    exact hh
theorem GRows.chg {D : Nat → Prop} (h : GRows w F a c d T P B) (hc : Chg D w w') (hd : ∀ k, k < w.heap.size → F k → ¬ D k) : GRows w' F a c d T P B :=
  ⟨h.rT.chg hc (fun g hg => hd g (h.rT.zlt g hg) (h.fT g hg)), h.rP.chg hc (fun g hg => hd g (h.rP.zlt g hg) (h.fP g hg)), h.rB.chg hc (fun g hg => hd g (h.rB.zlt g hg) (h.fB g hg)), h.fT, h.fP, h.fB, h.aTP, h.aTB, h.aPB⟩
theorem GRows.putT (h : GRows w F a c d T P B) {a' : Value} {l : List P3} (ho : OwnK 3 w' 0 58 a' l.length (p3Cells l)) (hg : w.grownBy w' a.ownBlock) (hw : ∀ g, a'.ownBlock = some g → a.ownBlock = some g ∨ w.heap.size ≤ g) (hF : ∀ g, w.heap.size ≤ g → F g) : GRows w' F a' c d l P B :=
  ⟨ho, h.rP.besides hg h.aTP, h.rB.besides hg h.aTB, (fun g hg' => (hw g hg').elim (h.fT g) (hF g)), h.fP, h.fB, h.aTP.newer h.rP hw, h.aTB.newer h.rB hw, h.aPB⟩
theorem GRows.chgT (h : GRows w F a c d T P B) (hg : w.grownBy w' a.ownBlock) : Chg F w w' := (Chg.of_grown hg).wide fun k _ e => h.fT k e
theorem GRows.putP (h : GRows w F a c d T P B) {c' : Value} {l : List (Int × Int)} (ho : OwnK 2 w' 0 66 c' l.length (e2Cells l)) (hg : w.grownBy w' c.ownBlock) (hw : ∀ g, c'.ownBlock = some g → c.ownBlock = some g ∨ w.heap.size ≤ g) (hF : ∀ g, w.heap.size ≤ g → F g) : GRows w' F a c' d T l B :=
  ⟨h.rT.besides hg h.aTP.symm, ho, h.rB.besides hg h.aPB, h.fT, (fun g hg' => (hw g hg').elim (h.fP g) (hF g)), h.fB, (h.aTP.symm.newer h.rT hw).symm, h.aTB, h.aPB.newer h.rB hw⟩
theorem GRows.chgP (h : GRows w F a c d T P B) (hg : w.grownBy w' c.ownBlock) : Chg F w w' := (Chg.of_grown hg).wide fun k _ e => h.fP k e
theorem GRows.putB (h : GRows w F a c d T P B) {d' : Value} {l : List (Int × Int)} (ho : OwnK 2 w' 0 66 d' l.length (e2Cells l)) (hg : w.grownBy w' d.ownBlock) (hw : ∀ g, d'.ownBlock = some g → d.ownBlock = some g ∨ w.heap.size ≤ g) (hF : ∀ g, w.heap.size ≤ g → F g) : GRows w' F a c d' T P l :=
  ⟨h.rT.besides hg h.aTB.symm, h.rP.besides hg h.aPB.symm, ho, h.fT, h.fP, (fun g hg' => (hw g hg').elim (h.fB g) (hF g)), h.aTP, (h.aTB.symm.newer h.rT hw).symm, (h.aPB.symm.newer h.rP hw).symm⟩
theorem GRows.chgB (h : GRows w F a c d T P B) (hg : w.grownBy w' d.ownBlock) : Chg F w w' := (Chg.of_grown hg).wide fun k _ e => h.fB k e
/-- The last gate taken. -/
theorem GRows.pop {g n cd : Nat} {l : List (Int × Int)} {p q : Int} (h : GRows w F a (.slice (some ⟨g, 0, none⟩) (n + 1) cd) d T P B) (hP : P = l ++ [(p, q)]) (hn : l.length = n) : GRows w F a (.slice (some ⟨g, 0, none⟩) n cd) d T l B := by
  have hr := h.rP
  rw [hP, List.length_append, hn, e2Cells_app] at hr
  have hr2 := own2_pop (u := .int .i64 p) (v := .int .i64 q) hr (by rw [e2Cells_len, hn])
  rw [← hn] at hr2 ⊢
  exact ⟨h.rT, hr2, h.rB, h.fT, h.fP, h.fB, h.aTP, h.aTB, h.aPB⟩
/-- Another row of gates, which lies anew. -/
theorem GRows.otherP (h : GRows w F a c d T P B) {c' : Value} {l : List (Int × Int)} (ho : OwnK 2 w 0 66 c' l.length (e2Cells l)) (hf : ∀ g, c'.ownBlock = some g → F g) (h1 : Apt a c') (h2 : Apt c' d) : GRows w F a c' d T l B :=
  ⟨h.rT, ho, h.rB, h.fT, hf, h.fB, h1, h.aTB, h2⟩
end
theorem gInfo : (Tryd.prog.info? 29).map (fun i => (i.zero, i.size)) = some (some (.agg #[.slice none 0 0, .int .i64 0, .slice none 0 0, .slice none 0 0, .int .i64 0]), 5) := by kernel_rfl
theorem g_load (W : World) (a n c d e : Value) (g : Nat) (h : Blk W g 29 #[a, n, c, d, e]) : (loadVar 29 ⟨g, 0, none⟩).run Tryd.prog W = .ok (.agg #[a, n, c, d, e]) W := by
  obtain ⟨kz, ks⟩ := zero_of_info gInfo
  exact run_loadVar_row _ _ _ _ _ _ _ h Tryd.underlying29 rfl (by rw [ks]; rfl)
/-- What Step answers: the rows, in blocks among F; nothing but F's blocks has turned. -/
def GOut (F : Nat → Prop) (s : GS) (w : World) (e : Ending) (w' : World) : Prop := ∃ a c d, e = .returned (.agg #[a, .int .i64 (s.N : Int), c, d, .int .i64 s.E]) ∧ GRows w' F a c d s.T s.P s.B ∧ Chg F w w'
theorem shut_has (T : List P3) (p q : Int) : decide (0 ≤ hasF T q p) = shutG T (p, q) := by
  unfold shutG
  rcases hasF_ways T q p with ⟨h1, h2⟩ | ⟨i, hi, h1, h2, _⟩
  · rw [h1, decide_eq_false h2]
    rfl
  · rw [h1, decide_eq_true (mem_darts.2 ⟨_, List.getElem_mem hi, h2⟩)]
    exact decide_eq_true (by omega)
theorem has_in (T : List P3) (p q : Int) : decide (0 ≤ hasF T p q) = decide ((p, q) ∈ darts T) := shut_has T q p
set_option maxRecDepth 100000 in
theorem ref12shut_any (A : Option Addr) (n ca : Nat) (T : List P3) (x1 x2 x3 x4 : Value) (p q : Int) (w : World) (hT : HasK 3 w A n ca (p3Cells T)) (hn : n ≤ 100000) :
    Calls Tryd.prog 33 #[.agg #[.slice A n ca, x1, x2, x3, x4], .agg #[.int .i64 p, .int .i64 q]] w fun e w' => e = .returned (.bool (shutG T (p, q))) ∧ Below w.heap.size w w' := by
  have HB := Lib.hid (new_alloc (new_alloc (Below.refl w.heap.size w) (.cells #[.slice A n ca, x1, x2, x3, x4] 29)) (.cells #[.int .i64 p, .int .i64 q] 66))
  have HG : Hid (Blk ((w.alloc (.cells #[.slice A n ca, x1, x2, x3, x4] 29)).alloc (.cells #[.int .i64 p, .int .i64 q] 66)) w.heap.size 29 #[.slice A n ca, x1, x2, x3, x4]) := (Blk.new w _ _).alloc _
  have HE : Hid (Blk ((w.alloc (.cells #[.slice A n ca, x1, x2, x3, x4] 29)).alloc (.cells #[.int .i64 p, .int .i64 q] 66)) (w.heap.size + 1) 66 #[.int .i64 p, .int .i64 q]) := blk_second
  have HH := Lib.hid (ref10Has_any A n ca T q p ((w.alloc (.cells #[.slice A n ca, x1, x2, x3, x4] 29)).alloc (.cells #[.int .i64 p, .int .i64 q] 66)) (hT.kept HB.out) hn)
  have HS := Lib.hid (shut_has T p q)
  have m0 := HG.out.cell 0
  have k0 := HE.out.cell 0
  have k1 := HE.out.cell 1
  clear hT
  generalize hasF T q p = r at *
  generalize shutG T (p, q) = R at *
  go_enter Tryd.func33, Tryd.ntmps33
  go_wp2_with fail
  refine HH.out.mono ?_
  rintro e w1 ⟨rfl, rfl⟩
  go_wp2
  go_ret
  exact ⟨by rw [← HS.out]; rfl, HB.out⟩
/-- Is an edge one of the first borders? -/
theorem border_to {B : List (Int × Int)} {x y : Int} {i : Nat} (hi : i < B.length) (hno : (x, y) ∉ B.take i) (he : ¬ (B[i].1 = x ∧ B[i].2 = y)) : (x, y) ∉ B.take (i + 1) := by
  rw [List.take_succ_eq_append_getElem hi]
  intro h
  rcases List.mem_append.1 h with h | h
  · exact hno h
  · have e := List.mem_singleton.1 h
    exact he ⟨by rw [← e], by rw [← e]⟩
set_option maxRecDepth 100000 in
set_option maxHeartbeats 400000 in
theorem ref12border_any (x0 x1 x2 x4 : Value) (A : Option Addr) (n c : Nat) (B : List (Int × Int)) (x y : Int) (w : World) (hB : HasK 2 w A n c (e2Cells B)) (hn : n ≤ 100000) :
    Calls Tryd.prog 35 #[.agg #[x0, x1, x2, .slice A n c, x4], .int .i64 x, .int .i64 y] w fun e w' => e = .returned (.bool (decide ((x, y) ∈ B))) ∧ Below w.heap.size w w' := by
  have HL : Hid (B.length = n) := by have := hB.len; rw [e2Cells_len] at this; show _ = _; omega
  have HB := Lib.hid (new_alloc (Below.refl w.heap.size w) (.cells #[x0, x1, x2, .slice A n c, x4] 29))
  have HG := Lib.hid (Blk.new w 29 #[x0, x1, x2, .slice A n c, x4])
  have HH := Lib.hid (hB.kept HB.out)
  have m3 := HG.out.cell 3
  clear hB
  go_enter Tryd.func35, Tryd.ntmps35
  go_wp2
  generalize w.alloc (.cells #[x0, x1, x2, .slice A n c, x4] 29) = W at *
  go_loopg [7] n (fun g s7 wx => ∃ i : Nat, i + g = n ∧ s7 = .int .i64 i ∧ W = wx ∧ Hid ((x, y) ∉ B.take i))
  case atStart => exact ⟨0, by omega, rfl, rfl, by show _ ∉ _; rw [List.take_zero]; exact List.not_mem_nil⟩
  case round =>
    obtain ⟨i, hig, rfl, rfl, HR⟩ := hrel
    by_cases hi : i < n
    · have ti : decide ((i : Int) < (n : Int)) = true := by simp; omega
      have i2 : (i : Int) < (n : Int) := by omega
      have hil : i < B.length := by rw [HL.out]; exact hi
      obtain ⟨b, off, rfl, _, hc⟩ := HH.out.spot (by omega)
      obtain ⟨z0, z1⟩ := e2Cells_at hil
      have c0 := hc _ _ z0
      have c1 := hc _ _ z1
      have HN := Lib.hid (border_to hil HR.out)
      have HY : Hid (B[i].1 = x ∧ B[i].2 = y → decide ((x, y) ∈ B) = true) := fun e => decide_eq_true (by rw [← e.1, ← e.2]; exact List.getElem_mem hil)
      clear hc z0 z1
      rw [← Nat.add_assoc] at c1
      generalize B[i] = z at *
      obtain ⟨u, v⟩ := z
      simp only at c0 c1
      by_cases h1 : u = x
      · by_cases h2 : v = y
        · have t1 : (u == x) = true := beq_iff_eq.2 h1
          have t2 : (v == y) = true := beq_iff_eq.2 h2
          have HE := Lib.hid (HY.out ⟨h1, h2⟩)
          clear h1 h2 HY HN
          go_wp2
          go_ret
          exact ⟨by rw [HE.out]; rfl, HB.out⟩
        · have t1 : (u == x) = true := beq_iff_eq.2 h1
          have t2 : (v == y) = false := beq_eq_false_iff_ne.2 h2
          have HE := Lib.hid (HN.out fun h => h2 h.2)
          clear h1 h2 HY HN
          go_wp2
          go_roundg (gk - 1)
          case measure => omega
          case rel => exact ⟨i + 1, by omega, by go_num, rfl, HE⟩
      · have t1 : (u == x) = false := beq_eq_false_iff_ne.2 h1
        have HE := Lib.hid (HN.out fun h => h1 h.1)
        clear h1 HY HN
        go_wp2
        go_roundg (gk - 1)
        case measure => omega
        case rel => exact ⟨i + 1, by omega, by go_num, rfl, HE⟩
    · have ti : decide ((i : Int) < (n : Int)) = false := by simp; omega
      have HE : Hid (decide ((x, y) ∈ B) = false) := decide_eq_false fun hm => HR.out (by rw [List.take_of_length_le (by rw [HL.out]; omega)]; exact hm)
      go_wp2
      go_ret
      exact ⟨by rw [HE.out]; rfl, HB.out⟩
end Go.Proofs.YthjmojglcfmkmaaDoor

/- lapidaryref12: Step, its state in memory. -/
namespace Go.Proofs.YthjmojglcfmkmaaDoor
open Go.RowKit

theorem step_form {s : GS} {Q : List (Int × Int)} (h0 : s.E = 0) (hq : popG s.T s.P = Q) {x : Int × Int} (hf : formG Q x) : stepG s x = ⟨s.T, s.N, Q, s.B, 11⟩ := by
  unfold stepG
  rw [if_neg (by rw [h0]; decide)]
  simp only [hq]
  rw [if_pos hf]
theorem step_long {s : GS} {Q : List (Int × Int)} (h0 : s.E = 0) (hq : popG s.T s.P = Q) {x : Int × Int} (hf : ¬ formG Q x) (hl : longG s x) : stepG s x = ⟨s.T, s.N, Q, s.B, 3⟩ := by
  unfold stepG
  rw [if_neg (by rw [h0]; decide)]
  simp only [hq]
  rw [if_neg hf, if_pos hl]
theorem step_zero {s : GS} {Q : List (Int × Int)} (h0 : s.E = 0) (hq : popG s.T s.P = Q) {x : Int × Int} (hf : ¬ formG Q x) (hl : ¬ longG s x) (hx : x.1 = 0) :
    stepG s x = ⟨s.T ++ [((s.N : Int), (s.N : Int) + 1, (s.N : Int) + 2)], s.N + 3, Q ++ [((s.N : Int), (s.N : Int) + 1), ((s.N : Int) + 1, (s.N : Int) + 2), ((s.N : Int) + 2, (s.N : Int))], s.B, s.E⟩ := by
  unfold stepG
  rw [if_neg (by rw [h0]; decide)]
  simp only [hq]
  rw [if_neg hf, if_neg hl, if_pos hx]
theorem step_one {s : GS} {l : List (Int × Int)} {p q : Int} (h0 : s.E = 0) (hq : popG s.T s.P = l ++ [(p, q)]) {x : Int × Int} (hf : ¬ formG (l ++ [(p, q)]) x) (hl : ¬ longG s x) (hx : x.1 = 1) :
    stepG s x = ⟨s.T, s.N, l, s.B ++ [(q, p)], s.E⟩ := by
  unfold stepG
  rw [if_neg (by rw [h0]; decide)]
  simp only [hq]
  rw [if_neg hf, if_neg hl, if_neg (by omega)]
  simp only [List.getLast?_concat, List.dropLast_concat]
  rw [if_pos hx]
theorem step_two {s : GS} {l : List (Int × Int)} {p q : Int} (h0 : s.E = 0) (hq : popG s.T s.P = l ++ [(p, q)]) {x : Int × Int} (hf : ¬ formG (l ++ [(p, q)]) x) (hl : ¬ longG s x) (hx : x.1 = 2) :
    stepG s x = overG s (l ++ [(p, q)]) p q s.N (s.N + 1) := by
  unfold stepG
  rw [if_neg (by rw [h0]; decide)]
  simp only [hq]
  rw [if_neg hf, if_neg hl, if_neg (by omega)]
  simp only [List.getLast?_concat]
  rw [if_neg (by omega), if_pos hx]
theorem step_three_bad {s : GS} {l : List (Int × Int)} {p q : Int} (h0 : s.E = 0) (hq : popG s.T s.P = l ++ [(p, q)]) {x : Int × Int} (hf : ¬ formG (l ++ [(p, q)]) x) (hl : ¬ longG s x) (hx : x.1 = 3) (hb : x.2 < 0 ∨ (s.N : Int) ≤ x.2 ∨ x.2 = p ∨ x.2 = q) :
    stepG s x = ⟨s.T, s.N, l ++ [(p, q)], s.B, 11⟩ := by
  unfold stepG
  rw [if_neg (by rw [h0]; decide)]
  simp only [hq]
  rw [if_neg hf, if_neg hl, if_neg (by omega)]
  simp only [List.getLast?_concat]
  rw [if_neg (by omega), if_neg (by omega), if_pos hb]
theorem step_three {s : GS} {l : List (Int × Int)} {p q : Int} (h0 : s.E = 0) (hq : popG s.T s.P = l ++ [(p, q)]) {x : Int × Int} (hf : ¬ formG (l ++ [(p, q)]) x) (hl : ¬ longG s x) (hx : x.1 = 3) (hb : ¬ (x.2 < 0 ∨ (s.N : Int) ≤ x.2 ∨ x.2 = p ∨ x.2 = q)) :
    stepG s x = overG s (l ++ [(p, q)]) p q x.2 s.N := by
  unfold stepG
  rw [if_neg (by rw [h0]; decide)]
  simp only [hq]
  rw [if_neg hf, if_neg hl, if_neg (by omega)]
  simp only [List.getLast?_concat]
  rw [if_neg (by omega), if_neg (by omega), if_neg hb]
theorem over_bad {s : GS} {l : List (Int × Int)} {p q v : Int} {N : Nat} (h : (p, v) ∈ darts s.T ∨ (v, q) ∈ darts s.T ∨ (p, v) ∈ s.B ∨ (v, q) ∈ s.B) : overG s (l ++ [(p, q)]) p q v N = ⟨s.T, s.N, l ++ [(p, q)], s.B, 80⟩ := by
  unfold overG
  rw [if_pos h]
theorem over_fine {s : GS} {l : List (Int × Int)} {p q v : Int} {N : Nat} (h : ¬ ((p, v) ∈ darts s.T ∨ (v, q) ∈ darts s.T ∨ (p, v) ∈ s.B ∨ (v, q) ∈ s.B)) : overG s (l ++ [(p, q)]) p q v N = ⟨s.T ++ [(q, p, v)], N, l ++ [(p, v), (v, q)], s.B, s.E⟩ := by
  unfold overG
  rw [if_neg h, List.dropLast_concat]
theorem pop_end {T : List P3} {l : List (Int × Int)} {d : Int × Int} (h : shutG T d = true) : popG T (l ++ [d]) = popG T l := popG_app fun x hx => by rw [List.mem_singleton.1 hx]; exact h
theorem pop_stay {T : List P3} {l : List (Int × Int)} {d : Int × Int} (h : shutG T d = false) : popG T (l ++ [d]) = l ++ [d] := popG_self fun x hx => by
  rw [List.getLast?_concat] at hx
  cases hx
  exact h
theorem last_form {α : Type} {l : List α} (h : l ≠ []) : ∃ r x, l = r ++ [x] := ⟨l.dropLast, l.getLast h, (List.dropLast_concat_getLast h).symm⟩

/-- What is grown, a step, and the result's cell, in blocks of the call's own. -/
structure GX (w : World) (F : Nat → Prop) (k v : Int) (a c d : Value) (N E : Int) (T : List P3) (P B : List (Int × Int)) (wx : World) : Prop where
  box : Blk wx w.heap.size 29 #[a, .int .i64 N, c, d, .int .i64 E]
  st : Blk wx (w.heap.size + 1) 33 #[.int .i64 k, .int .i64 v]
  re : Blk wx (w.heap.size + 1 + 1) 29 #[.slice none 0 0, .int .i64 0, .slice none 0 0, .slice none 0 0, .int .i64 0]
  rows : GRows wx (cutF F w.heap.size 3) a c d T P B
  chg : Chg F w wx
  hF : ∀ k, w.heap.size ≤ k → F k
section
variable {w : World} {F : Nat → Prop} {k v : Int} {a c d : Value} {N E : Int} {T : List P3} {P B : List (Int × Int)} {wx w' : World}
theorem GX.n0 : ¬ cutF F w.heap.size 3 w.heap.size := fun e => e.2 ⟨by omega, by omega⟩
theorem GX.n1 : ¬ cutF F w.heap.size 3 (w.heap.size + 1) := fun e => e.2 ⟨by omega, by omega⟩
theorem GX.n2 : ¬ cutF F w.heap.size 3 (w.heap.size + 1 + 1) := fun e => e.2 ⟨by omega, by omega⟩
theorem GX.next (h : GX w F k v a c d N E T P B wx) (hb : Below wx.heap.size wx w') : GX w F k v a c d N E T P B w' :=
  ⟨h.box.below hb h.box.lt, h.st.below hb h.st.lt, h.re.below hb h.re.lt, h.rows.kept hb, h.chg.then_ (Chg.of_below (D := F) hb) (fun _ _ e => e), h.hF⟩
theorem GX.fresh (h : GX w F k v a c d N E T P B wx) : ∀ q, wx.heap.size ≤ q → cutF F w.heap.size 3 q := cutF.new h.hF (by have := h.re.lt; omega)
/-- One cell of the box stored, the rows being known. -/
theorem GX.store {a' c' d' : Value} {N' E' : Int} {T' : List P3} {P' B' : List (Int × Int)} (h : GX w F k v a c d N E T P B wx) (hc : Chg (cutF F w.heap.size 3) wx w') (hr : GRows w' (cutF F w.heap.size 3) a' c' d' T' P' B') (j : Nat) (u : Value)
    (he : (#[a, .int .i64 N, c, d, .int .i64 E] : Array Value).setIfInBounds j u = #[a', .int .i64 N', c', d', .int .i64 E']) :
    GX w F k v a' c' d' N' E' T' P' B' (w'.setCell ⟨w.heap.size, j, none⟩ u) ∧ Blk w' w.heap.size 29 #[a, .int .i64 N, c, d, .int .i64 E] := by
  have hb := h.box.chg hc GX.n0
  have hb2 := hb.set_ j u
  rw [he] at hb2
  have h1 : w.heap.size + 1 ≠ w.heap.size := by omega
  have h2 : w.heap.size + 1 + 1 ≠ w.heap.size := by omega
  refine ⟨⟨hb2, (h.st.chg hc GX.n1).far h1 _, (h.re.chg hc GX.n2).far h2 _, hr.away (grown_set w' _ _) (fun k e => by cases e; exact GX.n0), ?_, h.hF⟩, hb⟩
  exact (h.chg.then_ (D' := F) (hc.wide fun k _ e => e.1) (fun _ _ e => e)).then_ (D' := F) ((Chg.of_grown (grown_set w' ⟨w.heap.size, j, none⟩ u)).wide fun k _ e => by cases e; exact h.hF _ (Nat.le_refl _)) (fun _ _ e => e)
/-- .. where nothing else has turned. -/
theorem GX.set {a' c' d' : Value} {N' E' : Int} {T' : List P3} {P' B' : List (Int × Int)} (h : GX w F k v a c d N E T P B wx) (hr : GRows wx (cutF F w.heap.size 3) a' c' d' T' P' B') (j : Nat) (u : Value)
    (he : (#[a, .int .i64 N, c, d, .int .i64 E] : Array Value).setIfInBounds j u = #[a', .int .i64 N', c', d', .int .i64 E']) : GX w F k v a' c' d' N' E' T' P' B' (wx.setCell ⟨w.heap.size, j, none⟩ u) :=
  (h.store (Chg.refl _ _) hr j u he).1
theorem GX.putT (h : GX w F k v a c d N E T P B wx) {a' : Value} {l : List P3} (ho : OwnK 3 w' 0 58 a' l.length (p3Cells l)) (hg : wx.grownBy w' a.ownBlock) (hw : ∀ q, a'.ownBlock = some q → a.ownBlock = some q ∨ wx.heap.size ≤ q) :
    GX w F k v a' c d N E l P B (w'.setCell ⟨w.heap.size, 0, none⟩ a') ∧ Blk w' w.heap.size 29 #[a, .int .i64 N, c, d, .int .i64 E] := h.store (h.rows.chgT hg) (h.rows.putT ho hg hw h.fresh) 0 a' rfl
theorem GX.putP (h : GX w F k v a c d N E T P B wx) {c' : Value} {l : List (Int × Int)} (ho : OwnK 2 w' 0 66 c' l.length (e2Cells l)) (hg : wx.grownBy w' c.ownBlock) (hw : ∀ q, c'.ownBlock = some q → c.ownBlock = some q ∨ wx.heap.size ≤ q) :
    GX w F k v a c' d N E T l B (w'.setCell ⟨w.heap.size, 2, none⟩ c') ∧ Blk w' w.heap.size 29 #[a, .int .i64 N, c, d, .int .i64 E] := h.store (h.rows.chgP hg) (h.rows.putP ho hg hw h.fresh) 2 c' rfl
theorem GX.putB (h : GX w F k v a c d N E T P B wx) {d' : Value} {l : List (Int × Int)} (ho : OwnK 2 w' 0 66 d' l.length (e2Cells l)) (hg : wx.grownBy w' d.ownBlock) (hw : ∀ q, d'.ownBlock = some q → d.ownBlock = some q ∨ wx.heap.size ≤ q) :
    GX w F k v a c d' N E T P l (w'.setCell ⟨w.heap.size, 3, none⟩ d') ∧ Blk w' w.heap.size 29 #[a, .int .i64 N, c, d, .int .i64 E] := h.store (h.rows.chgB hg) (h.rows.putB ho hg hw h.fresh) 3 d' rfl
/-- So many vertices. -/
theorem GX.setN (h : GX w F k v a c d N E T P B wx) (M : Int) : GX w F k v a c d M E T P B (wx.setCell ⟨w.heap.size, 1, none⟩ (.int .i64 M)) := h.set h.rows 1 _ rfl
/-- Handed back. -/
theorem GX.fin (h : GX w F k v a c d N E T P B wx) {M : Nat} (hM : (M : Int) = N) :
    Blk (((((wx.setCell ⟨w.heap.size + 1 + 1, 0, none⟩ a).setCell ⟨w.heap.size + 1 + 1, 1, none⟩ (.int .i64 N)).setCell ⟨w.heap.size + 1 + 1, 2, none⟩ c).setCell ⟨w.heap.size + 1 + 1, 3, none⟩ d).setCell ⟨w.heap.size + 1 + 1, 4, none⟩ (.int .i64 E)) (w.heap.size + 1 + 1) 29 #[a, .int .i64 N, c, d, .int .i64 E] ∧
    GOut F ⟨T, M, P, B, E⟩ w (.returned (.agg #[a, .int .i64 N, c, d, .int .i64 E])) (((((wx.setCell ⟨w.heap.size + 1 + 1, 0, none⟩ a).setCell ⟨w.heap.size + 1 + 1, 1, none⟩ (.int .i64 N)).setCell ⟨w.heap.size + 1 + 1, 2, none⟩ c).setCell ⟨w.heap.size + 1 + 1, 3, none⟩ d).setCell ⟨w.heap.size + 1 + 1, 4, none⟩ (.int .i64 E)) := by
  have hs : ∀ (V : World) (i : Nat) (u : Value), GRows V (cutF F w.heap.size 3) a c d T P B ∧ Chg F w V → GRows (V.setCell ⟨w.heap.size + 1 + 1, i, none⟩ u) (cutF F w.heap.size 3) a c d T P B ∧ Chg F w (V.setCell ⟨w.heap.size + 1 + 1, i, none⟩ u) := fun V i u g =>
    ⟨g.1.away (grown_set V ⟨w.heap.size + 1 + 1, i, none⟩ u) (fun k e => by cases e; exact GX.n2), g.2.then_ (D' := F) ((Chg.of_grown (grown_set V ⟨w.heap.size + 1 + 1, i, none⟩ u)).wide fun k _ e => by cases e; exact h.hF _ (by show w.heap.size ≤ w.heap.size + 1 + 1; omega)) (fun _ _ e => e)⟩
  have h5 := hs _ 4 (.int .i64 E) (hs _ 3 d (hs _ 2 c (hs _ 1 (.int .i64 N) (hs _ 0 a ⟨h.rows, h.chg⟩))))
  exact ⟨((((h.re.set_ 0 a).set_ 1 _).set_ 2 c).set_ 3 d).set_ 4 _, a, c, d, by rw [← hM], h5.1.among fun k _ e => e.1, h5.2⟩
end
theorem gx_new {w : World} {F : Nat → Prop} (hF : ∀ k, w.heap.size ≤ k → F k) {k v : Int} {a c d : Value} {N E : Int} {T : List P3} {P B : List (Int × Int)} (h : GRows w F a c d T P B) :
    GX w F k v a c d N E T P B (((w.alloc (.cells #[a, .int .i64 N, c, d, .int .i64 E] 29)).alloc (.cells #[.int .i64 k, .int .i64 v] 33)).alloc (.cells #[.slice none 0 0, .int .i64 0, .slice none 0 0, .slice none 0 0, .int .i64 0] 29)) := by
  have hb : Below w.heap.size w (((w.alloc (.cells #[a, .int .i64 N, c, d, .int .i64 E] 29)).alloc (.cells #[.int .i64 k, .int .i64 v] 33)).alloc (.cells #[.slice none 0 0, .int .i64 0, .slice none 0 0, .slice none 0 0, .int .i64 0] 29)) := new_alloc (new_alloc (new_alloc (Below.refl _ _) _) _) _
  refine ⟨((Blk.new w _ _).alloc _).alloc _, blk_second.alloc _, ?_, (h.cut 3).kept hb, Chg.of_below hb, hF⟩
  have h2 := Blk.new ((w.alloc (.cells #[a, .int .i64 N, c, d, .int .i64 E] 29)).alloc (.cells #[.int .i64 k, .int .i64 v] 33)) 29 #[.slice none 0 0, .int .i64 0, .slice none 0 0, .slice none 0 0, .int .i64 0]
  have e : ((w.alloc (.cells #[a, .int .i64 N, c, d, .int .i64 E] 29)).alloc (.cells #[.int .i64 k, .int .i64 v] 33)).heap.size = w.heap.size + 1 + 1 := by simp
  rw [e] at h2
  exact h2
/-- Tests on a step's kind, as the chapter orders them. -/
theorem form_ways (Q : List (Int × Int)) (k v : Int) :
    (k < 0 ∧ formG Q (k, v)) ∨ (¬ k < 0 ∧ 3 < k ∧ formG Q (k, v)) ∨ (¬ k < 0 ∧ ¬ 3 < k ∧ k < 3 ∧ v ≠ 0 ∧ formG Q (k, v)) ∨
    (k = 0 ∧ v = 0 ∧ 0 < Q.length ∧ formG Q (k, v)) ∨ (k = 0 ∧ v = 0 ∧ Q.length = 0 ∧ ¬ formG Q (k, v)) ∨
    ((k = 1 ∨ k = 2) ∧ v = 0 ∧ Q.length = 0 ∧ formG Q (k, v)) ∨ ((k = 1 ∨ k = 2) ∧ v = 0 ∧ 0 < Q.length ∧ ¬ formG Q (k, v)) ∨
    (k = 3 ∧ Q.length = 0 ∧ formG Q (k, v)) ∨ (k = 3 ∧ 0 < Q.length ∧ ¬ formG Q (k, v)) := by
  have hf : formG Q (k, v) ↔ (k < 0 ∨ 3 < k ∨ (k < 3 ∧ v ≠ 0) ∨ (k = 0 ∧ ¬ Q.length = 0) ∨ (0 < k ∧ Q.length = 0)) := by
    unfold formG
    simp only [ne_eq, ← List.length_eq_zero_iff]
  rw [hf]
  clear hf
  generalize Q.length = n
  by_cases h1 : k < 0
  · exact Or.inl ⟨h1, Or.inl h1⟩
  · by_cases h2 : 3 < k
    · exact Or.inr (Or.inl ⟨h1, h2, Or.inr (Or.inl h2)⟩)
    · by_cases h3 : k < 3
      · by_cases h4 : v = 0
        · subst h4
          by_cases h5 : k = 0
          · subst h5
            by_cases h6 : n = 0
            · exact Or.inr (Or.inr (Or.inr (Or.inr (Or.inl ⟨rfl, rfl, h6, by omega⟩))))
            · exact Or.inr (Or.inr (Or.inr (Or.inl ⟨rfl, rfl, by omega, by omega⟩)))
          · by_cases h6 : n = 0
            · exact Or.inr (Or.inr (Or.inr (Or.inr (Or.inr (Or.inl ⟨by omega, rfl, h6, by omega⟩)))))
            · exact Or.inr (Or.inr (Or.inr (Or.inr (Or.inr (Or.inr (Or.inl ⟨by omega, rfl, by omega, by omega⟩))))))
        · exact Or.inr (Or.inr (Or.inl ⟨h1, h2, h3, h4, by omega⟩))
      · by_cases h6 : n = 0
        · exact Or.inr (Or.inr (Or.inr (Or.inr (Or.inr (Or.inr (Or.inr (Or.inl ⟨by omega, h6, by omega⟩)))))))
        · exact Or.inr (Or.inr (Or.inr (Or.inr (Or.inr (Or.inr (Or.inr (Or.inr ⟨by omega, by omega, by omega⟩)))))))
end Go.Proofs.YthjmojglcfmkmaaDoor
