/- Of any whole numbers and any two more WideMany answers true: many are added as one behind the other, in whichever order; how two stand is the sign of one less the other one, where nothing goes beyond. Conditions: none. -/
import Derived.Test.YtjecognpechapaaKnown08
import Derived.Test.YtjecognpechapaaLaw
import Derived.Test.YtjecognpechapaaLawInts
namespace Go.Proofs.Ytjecognpechapaa.wideMany
open Go.ChangeShapes Go.WideShapes Go.ChangeAt Go.RowKit

theorem OwnK.chg8 {k : Nat} {w w' : World} {base : Nat} {e : TypeId} {v : Value} {n : Nat} {xs : List Value} {D : Nat → Prop} (h : OwnK k w base e v n xs) (hc : Chg D w w') (hd : ∀ g, v.ownBlock = some g → ¬ D g) : OwnK k w' base e v n xs := by
  refine ⟨h.1, ?_⟩
  rcases h.2 with h1 | ⟨g', cap, cur, h1, h2, h3, h4⟩
  · exact Or.inl h1
  · refine Or.inr ⟨g', cap, cur, h1, h2, (hc.block g' (World.ownsRow.lt h g' (by rw [h1]; rfl)).2 (hd g' (by rw [h1]; rfl))).trans h3, h4⟩
/-- append(own, other...) of structs, with all that is known of it. -/
theorem wpList_joinG8 {k : Nat} {P : Program} {w : World} {ops : Array Oper} {rest : List Oper} {o : Oper} {a : Act} {Q : Exit → Act → World → Prop} (hgd : o.guard = Option.none) (s x : Operand) (t : TypeId)
    (ho : o.op = .call { callee := .builtin .append, args := #[s, x], argTypes := #[t, t] }) {e : TypeId} {bytes : Nat} (E : ElemK P t e k bytes) (hk : 0 < k)
    (base : Nat) (v : Value) (n : Nat) (xs : List Value) (hs : a.eval s = v) (hown : OwnK k w base e v n xs) (A : Option Addr) (m c : Nat) (news : List Value) (hx : a.eval x = .slice A m c) (hh : HasK k w A m c news)
    (h1 : ∀ u ∈ news, u.oneCell' = true) (hsz : n + m ≤ 1099511627776) (hby : bytes ≤ 64) (hbase : base ≤ w.heap.size)
    (h : ∀ v' w', OwnK k w' base e v' (n + m) (xs ++ news) → w.grownBy w' v.ownBlock → (∀ g, v'.ownBlock = some g → v.ownBlock = some g ∨ w.heap.size ≤ g) → wpList P ops Q rest (a.put o.dst v') w') : wpList P ops Q (o :: rest) a w := by
  refine wpList_plain hgd fun K hK => ?_
  obtain ⟨v', w', hrun, h2, h3, h4⟩ := run_joinK (P := P) w t o.type E hk base v n xs hown A m c news hh h1 hsz hby hbase
  have h5 := run_where (P := P) w t o.type E hk base v n xs hown A m c news hh h1 hsz hby hbase hrun
  unfold Oper.wp execOp
  simp only [ho, resolve, invoke, builtin, Sem.run_bind, Sem.run_pure, Result.andThen_ok, List.map_toArray, List.map_cons, List.map_nil, hs, hx, hrun]
  exact hK _ _ (h v' w' h2 h4 h5)
theorem has_cell {w : World} {b off n c : Nat} {xs : List Value} (h : Has w (some ⟨b, off, none⟩) n c xs) (hn : 0 < n) {j : Nat} {u : Value} (hj : xs[j]? = some u) : w.cell? ⟨b, off + j, none⟩ = some u := by
  obtain ⟨_, _, e, _, hc⟩ := h.spot hn
  cases e
  exact hc j u hj
/-- The products by a, as wide numbers. -/
def prodsN (a : Int) (l : List Int) : List (Int × Int) := l.map fun x => (hiW (x * a), loW (x * a))
theorem prodsN_app (a : Int) (l r : List Int) : prodsN a (l ++ r) = prodsN a l ++ prodsN a r := by simp [prodsN]
theorem prodsN_len (a : Int) (l : List Int) : (prodsN a l).length = l.length := by simp [prodsN]
/-- Their sum. -/
def sumA (a : Int) : List Int → Int
  | [] => 0
  | x :: l => x * a + sumA a l
theorem sumA_app (a : Int) (l r : List Int) : sumA a (l ++ r) = sumA a l + sumA a r := by
  induction l with
  | nil => simp [sumA]
  | cons x l ih => show x * a + sumA a (l ++ r) = x * a + sumA a l + sumA a r; rw [ih]; omega
theorem sumA_rev (a : Int) (l : List Int) : sumA a l.reverse = sumA a l := by
  induction l with
  | nil => rfl
  | cons x l ih => rw [List.reverse_cons, sumA_app, ih]; show sumA a l + (x * a + 0) = x * a + sumA a l; omega
theorem sum_prods (a : Int) (l : List Int) : Cong (sumN (prodsN a l)) (sumA a l) := by
  induction l with
  | nil => exact Cong.refl _
  | cons x l ih => exact (cong_num (x * a)).symm.add ih
theorem numV_prods (a : Int) (l : List Int) : numV (valW 0 0 + sumN (prodsN a l)) = numV (sumA a l) := by
  rw [show valW 0 0 = 0 from rfl, Int.zero_add]
  exact numV_cong (sum_prods a l)
theorem prods_ok (a : Int) (l : List Int) : ∀ p ∈ prodsN a l, okN p := by
  intro p hp
  obtain ⟨x, _, rfl⟩ := List.mem_map.1 hp
  exact ⟨hi_in _, lo_in _⟩
set_option maxRecDepth 100000 in
set_option maxHeartbeats 4000000 in
theorem walk (A : Option Addr) (n c : Nat) (l : List Int) (a b : Int) (w : World) (h : Has w A n c (intVs l)) (hl : ∀ x ∈ l, -9223372036854775808 ≤ x ∧ x ≤ 9223372036854775807) (hn : n ≤ 9223372036854775807) (ha : -9223372036854775808 ≤ a ∧ a ≤ 9223372036854775807) (hb : -9223372036854775808 ≤ b ∧ b ≤ 9223372036854775807) :
    Calls Try.prog 7 #[.slice A n c, .int .i64 a, .int .i64 b] w fun e w' => e = .returned (.bool true) ∧ Below w.heap.size w w' := by
  by_cases h60 : 60 < n
  · have t : decide ((60 : Int) < (n : Int)) = true := by simp; omega
    clear h hl
    go_enter Try.func7, Try.ntmps7
    go_wp2_with (go_at_call 16; refine (known08 _).mono ?_; rintro e w9 ⟨rfl, hb9⟩)
    go_ret
    exact ⟨rfl, hb9⟩
  have t60 : decide ((60 : Int) < (n : Int)) = false := by simp; omega
  have HL : Hid (l.length = n) := by have := h.len; rw [intVs_len] at this; exact this
  have HH := Lib.hid h
  have HBy := Lib.hid hl
  have HAb : Hid (i64W a ∧ i64W b) := ⟨ha, hb⟩
  have HO0 := Lib.hid (fun W => wideOf_any 0 W (by unfold i64W; decide))
  rw [num0] at HO0
  have HOa := Lib.hid (fun W => wideOf_any a W ha)
  have HOb := Lib.hid (fun W => wideOf_any b W hb)
  have HNb := Lib.hid (fun W => wideNegC_any b W)
  have HAd := Lib.hid (fun V => wideAddC_any a (-b) V)
  have hab : inW (a + -b) := by unfold inW; omega
  have HSg := Lib.hid (fun W => wideSignC_any (a + -b) W hab)
  have HCm := Lib.hid (fun W => wideCmpC_any a b W (by unfold inW; omega) (by unfold inW; omega))
  have hcmp : cmpI (a + -b) 0 = cmpI a b := by
    unfold cmpI
    by_cases h1 : a < b
    · rw [if_pos (by omega), if_pos h1]
    · by_cases h2 : b < a
      · rw [if_neg (by omega), if_pos (by omega), if_neg h1, if_pos h2]
      · rw [if_neg (by omega), if_neg (by omega), if_neg h1, if_neg h2]
  rw [hcmp] at HSg
  clear hcmp hab
  unfold numV at HOa HOb HNb HAd HSg HCm
  generalize a + -b = D at *
  have hk : (decide (a < b) = true ∧ decide (b < a) = false ∧ cmpI a b = -1) ∨ (decide (a < b) = false ∧ decide (b < a) = true ∧ cmpI a b = 1) ∨ (decide (a < b) = false ∧ decide (b < a) = false ∧ cmpI a b = 0) := by
    unfold cmpI
    by_cases h1 : a < b
    · exact Or.inl ⟨by simpa using h1, by simp; omega, if_pos h1⟩
    · by_cases h2 : b < a
      · exact Or.inr (Or.inl ⟨by simpa using h1, by simpa using h2, by rw [if_neg h1, if_pos h2]⟩)
      · exact Or.inr (Or.inr ⟨by simpa using h1, by simpa using h2, by rw [if_neg h1, if_neg h2]⟩)
  have HK := Lib.hid hk
  have HMl : Hid (∀ x W, i64W x → Calls Try.prog 12 #[.int .i64 x, .int .i64 a] W fun e w' => e = .returned (.agg #[.int .i64 (hiW (x * a)), .int .u64 (loW (x * a))]) ∧ Below W.heap.size W w') := fun x W hx => wideMul_any x a W hx HAb.out.1
  clear h hl ha hb hk
  go_enter Try.func7, Try.ntmps7
  go_wp2_with fail
  refine (HO0.out _).mono ?_
  rintro e w1 ⟨rfl, hb1⟩
  have HB1 := Lib.hid (new_alloc hb1 (.cells #[.int .i64 0, .int .u64 0] 25))
  have HG1 : Hid (Blk (w1.alloc (.cells #[.int .i64 0, .int .u64 0] 25)) w1.heap.size 25 #[.int .i64 (hiW (sumA a [])), .int .u64 (loW (sumA a []))]) := by
    show Blk _ _ _ _
    rw [show sumA a [] = 0 from rfl, hi0, lo0]
    exact Blk.new w1 _ _
  have HZ : Hid (w.heap.size ≤ w1.heap.size) := hb1.size
  clear hb1
  go_wp2
  generalize w1.heap.size = G at *
  go_loopg [7, 8, 10] n (fun g s7 s8 s10 wx => ∃ (i : Nat) (A7 : Option Addr) (c7 : Nat) (A8 : Option Addr) (c8 : Nat), i + g = n ∧ s10 = .int .i64 i ∧ s7 = .slice A7 i c7 ∧ s8 = .slice A8 i c8 ∧ Hid (OwnK 2 wx (G + 1) 25 (.slice A7 i c7) i (numCells (prodsN a (l.take i)))) ∧ Hid (OwnK 2 wx (G + 1) 25 (.slice A8 i c8) i (numCells (prodsN a (l.reverse.take i)))) ∧ Hid (∀ g, (Value.slice A7 i c7).ownBlock = some g → (Value.slice A8 i c8).ownBlock ≠ some g) ∧ Hid (Blk wx G 25 #[.int .i64 (hiW (sumA a (l.take i))), .int .u64 (loW (sumA a (l.take i)))]) ∧ Hid (Below w.heap.size w wx))
  case atStart => exact ⟨0, none, 0, none, 0, by omega, rfl, rfl, rfl, OwnK.nil _ _ _ _, OwnK.nil _ _ _ _, (fun g hg => by cases hg), HG1, HB1⟩
  case round =>
    obtain ⟨i, A7, c7, A8, c8, hig, rfl, rfl, rfl, HO, HM, HDj, HG, HB⟩ := hrel
    clear HB1 HG1
    have hz : G + 1 ≤ wr.heap.size := HG.out.lt
    by_cases hi : i < n
    · have ti : decide ((i : Int) < (n : Int)) = true := by simp; omega
      have hil : i < l.length := by rw [HL.out]; exact hi
      obtain ⟨m, hm⟩ : ∃ m, n - 1 - i = m := ⟨_, rfl⟩
      have hml : m < l.length := by rw [HL.out]; omega
      have hmn : (m : Int) < (n : Int) := by omega
      have hin : (i : Int) < (n : Int) := by omega
      obtain ⟨bb, off, rfl, _, _⟩ := HH.out.spot (by omega)
      have HIx : Hid ((intVs l)[i]? = some (.int .i64 l[i])) := intVs_at hil
      have HIy : Hid ((intVs l)[m]? = some (.int .i64 l[m])) := intVs_at hml
      have hx := HBy.out _ (List.getElem_mem hil)
      have hy := HBy.out _ (List.getElem_mem hml)
      have HS7 : Hid (numCells (prodsN a (l.take i)) ++ numCells [(hiW (l[i] * a), loW (l[i] * a))] = numCells (prodsN a (l.take (i + 1)))) := by
        show _ = _
        rw [← numCells_app, List.take_succ_eq_append_getElem hil, prodsN_app]
        rfl
      have HS8 : Hid (numCells (prodsN a (l.reverse.take i)) ++ numCells [(hiW (l[m] * a), loW (l[m] * a))] = numCells (prodsN a (l.reverse.take (i + 1)))) := by
        show _ = _
        have hir : i < l.reverse.length := by rw [List.length_reverse]; exact hil
        have e : l.reverse[i] = l[m] := by
          rw [List.getElem_reverse]
          congr 1
          have := HL.out
          omega
        rw [← numCells_app, List.take_succ_eq_append_getElem hir, prodsN_app, e]
        rfl
      have HS9 : Hid (sumA a (l.take (i + 1)) = sumA a (l.take i) + l[i] * a) := by
        show _ = _
        rw [List.take_succ_eq_append_getElem hil, sumA_app]
        show _ + (l[i] * a + 0) = _
        rw [Int.add_zero]
      generalize l[i] = x at *
      generalize l[m] = y at *
      have HMx := Lib.hid (fun W => HMl.out x W hx)
      have HMy := Lib.hid (fun W => HMl.out y W hy)
      have g1 : IntKind.wrap .i64 ((n : Int) - 1) = (n : Int) - 1 := by rw [IntKind.wrap_i64]; omega
      have g2 : IntKind.wrap .i64 ((n : Int) - 1 - (i : Int)) = (m : Int) := by rw [IntKind.wrap_i64]; omega
      have g3 : wrap64 ((n : Int) - 1) = (n : Int) - 1 := by unfold wrap64; omega
      have g4 : wrap64 ((n : Int) - 1 - (i : Int)) = (m : Int) := by unfold wrap64; omega
      have hn0 : 0 < n := by omega
      clear hil hml hm hx hy
      have z1 := has_cell (HH.out.kept HB.out) hn0 HIx.out
      go_wp2_with fail
      refine (HMx.out _).mono ?_
      rintro e w2 ⟨rfl, hb2⟩
      have hal2 := Lib.hid (new_alloc hb2 (.cells #[.int .i64 (hiW (x * a)), .int .u64 (loW (x * a))] 25))
      have HO2 := Lib.hid ((HO.out.keep hb2).alloc (.cells #[.int .i64 (hiW (x * a)), .int .u64 (loW (x * a))] 25))
      have HN2 := Lib.hid (HasK.new_at 2 w2 #[.int .i64 (hiW (x * a)), .int .u64 (loW (x * a))] 25 _ 1 rfl rfl)
      clear hb2 z1
      go_wp2_with (at_builtin
                   refine wpList_joinG8 rfl _ _ 52 rfl elemN (by decide) (G + 1) _ i _ rfl HO2.out _ 1 1 (numCells [(hiW (x * a), loW (x * a))]) rfl HN2.out (numCells_one _) (by omega) (by decide) (Nat.le_trans hz hal2.out.size) ?_
                   intro v3 w3 hown3 hgr3 hwh3
                   rw [HS7.out] at hown3
                   obtain ⟨A3, c3, hv3, _⟩ := hown3.has
                   subst hv3
                   have hc3 := Chg.of_grown hgr3
                   have HO3 := Lib.hid hown3
                   have HM3 := Lib.hid (OwnK.chg8 (HM.out.keep hal2.out) hc3 fun g hg e => HDj.out g e hg)
                   have HD3 : Hid (∀ g, (Value.slice A3 (i + 1) c3).ownBlock = some g → (Value.slice A8 i c8).ownBlock ≠ some g) := fun g hg h8 => by
                     rcases hwh3 g hg with h | h
                     · exact HDj.out g h h8
                     · have h2 := (World.ownsRow.lt HM.out g h8).2
                       have h3 := hal2.out.size
                       omega
                   have hb3 : Below (G + 1) wr w3 := (hal2.out.mono hz).trans (hc3.below (fun g e => row_ge HO.out g e) (Nat.le_trans hz hal2.out.size))
                   have HG3 := Lib.hid (HG.out.below hb3 (Nat.lt_succ_self G))
                   have HB3 : Hid (Below w.heap.size w w3) := HB.out.trans (hb3.mono (by have := HZ.out; omega))
                   have hz3 : G + 1 ≤ w3.heap.size := HG3.out.lt
                   have z2 := has_cell (HH.out.kept HB3.out) hn0 HIy.out
                   clear hown3 hgr3 hwh3 hc3 hb3)
      refine (HMy.out _).mono ?_
      rintro e w4 ⟨rfl, hb4⟩
      have hal4 := Lib.hid (new_alloc hb4 (.cells #[.int .i64 (hiW (y * a)), .int .u64 (loW (y * a))] 25))
      have HM4 := Lib.hid ((HM3.out.keep hb4).alloc (.cells #[.int .i64 (hiW (y * a)), .int .u64 (loW (y * a))] 25))
      have HN4 := Lib.hid (HasK.new_at 2 w4 #[.int .i64 (hiW (y * a)), .int .u64 (loW (y * a))] 25 _ 1 rfl rfl)
      clear hb4 z2
      go_wp2_with (at_builtin
                   refine wpList_joinG8 rfl _ _ 52 rfl elemN (by decide) (G + 1) _ i _ rfl HM4.out _ 1 1 (numCells [(hiW (y * a), loW (y * a))]) rfl HN4.out (numCells_one _) (by omega) (by decide) (Nat.le_trans hz3 hal4.out.size) ?_
                   intro v5 w5 hown5 hgr5 hwh5
                   rw [HS8.out] at hown5
                   obtain ⟨A5, c5, hv5, _⟩ := hown5.has
                   subst hv5
                   have hc5 := Chg.of_grown hgr5
                   have HM5 := Lib.hid hown5
                   have HO5 := Lib.hid (OwnK.chg8 (HO3.out.keep hal4.out) hc5 fun g hg e => HD3.out g hg e)
                   have HD5 : Hid (∀ g, (Value.slice A3 (i + 1) c3).ownBlock = some g → (Value.slice A5 (i + 1) c5).ownBlock ≠ some g) := fun g hg h8 => by
                     rcases hwh5 g h8 with h | h
                     · exact HD3.out g hg h
                     · have h2 := (World.ownsRow.lt HO3.out g hg).2
                       have h3 := hal4.out.size
                       omega
                   have hb5 : Below (G + 1) w3 w5 := (hal4.out.mono hz3).trans (hc5.below (fun g e => row_ge HM3.out g e) (Nat.le_trans hz3 hal4.out.size))
                   have HG5 := Lib.hid (HG3.out.below hb5 (Nat.lt_succ_self G))
                   have HB5 : Hid (Below w.heap.size w w5) := HB3.out.trans (hb5.mono (by have := HZ.out; omega))
                   have hz5 : G + 1 ≤ w5.heap.size := HG5.out.lt
                   clear hown5 hgr5 hwh5 hc5 hb5)
      have HGs := HG5
      obtain ⟨s, hs⟩ : ∃ s, sumA a (l.take i) = s := ⟨_, rfl⟩
      rw [hs] at HG5 HS9
      have HAs := Lib.hid (fun V => wideAddC_any s (x * a) V)
      unfold numV at HAs
      rw [← HS9.out] at HAs
      have HCl : Hid (∀ W, Below w5.heap.size w5 W → W.cell? ⟨bb, off + i, none⟩ = some (.int .i64 x) ∧ W.cell? ⟨G, 0, none⟩ = some (.int .i64 (hiW s)) ∧ W.cell? ⟨G, 1, none⟩ = some (.int .u64 (loW s))) := fun W hW =>
        ⟨has_cell (HH.out.kept (new_call HB5.out hW)) hn0 HIx.out, (HG5.out.below hW HG5.out.lt).cell 0, (HG5.out.below hW HG5.out.lt).cell 1⟩
      obtain ⟨z1, z2, z3⟩ := HCl.out w5 (Below.refl _ _)
      clear HGs hs HS9 HG hz hz3
      go_wp2
      go_region_law (first
        | (go_simp; go_at_call 12; (with_reducible refine (HMx.out _).mono ?_); rintro e w6 ⟨rfl, hb6⟩; have HB6 := Lib.hid (new_call (Below.refl w5.heap.size w5).drew hb6); have HB7 := Lib.hid (new_alloc HB6.out (.cells #[.int .i64 (hiW (x * a)), .int .u64 (loW (x * a))] 25)); obtain ⟨s1, s2, s3⟩ := HCl.out w6 HB6.out; obtain ⟨t1, t2, t3⟩ := HCl.out _ HB7.out; clear hb6)
        | (go_simp; go_at_call 18; (with_reducible refine (HAs.out _).mono ?_); rintro e w8 ⟨rfl, hb8⟩; have HB8 := Lib.hid (new_call HB6.out hb8); have HG8 := Lib.hid (HG5.out.below HB8.out HG5.out.lt); have fz := HG8.out.frozen 0; have fz1 := HG8.out.frozen 1; obtain ⟨q1, q2, q3⟩ := HCl.out w8 HB8.out; clear hb8))
      all_goals
        clear HB6 HB7 HMx HMy HAs HCl HG5
        have hc9 : Hid (Chg (fun k => k = G) w8 ((w8.setCell ⟨G, 0, none⟩ (.int .i64 (hiW (sumA a (l.take (i + 1)))))).setCell ⟨G, 1, none⟩ (.int .u64 (loW (sumA a (l.take (i + 1))))))) := Chg.of_far ((((Far1.refl G w8).set 0 _).set 1 _).farD rfl)
        have HO9 := Lib.hid (OwnK.chg8 (HO5.out.keep HB8.out) hc9.out fun g hg (e : g = G) => by have := row_ge HO5.out g hg; omega)
        have HM9 := Lib.hid (OwnK.chg8 (HM5.out.keep HB8.out) hc9.out fun g hg (e : g = G) => by have := row_ge HM5.out g hg; omega)
        have HG9 := Lib.hid ((HG8.out.set_ 0 (.int .i64 (hiW (sumA a (l.take (i + 1)))))).set_ 1 (.int .u64 (loW (sumA a (l.take (i + 1))))))
        have HB9 : Hid (Below w.heap.size w ((w8.setCell ⟨G, 0, none⟩ (.int .i64 (hiW (sumA a (l.take (i + 1)))))).setCell ⟨G, 1, none⟩ (.int .u64 (loW (sumA a (l.take (i + 1))))))) := ((new_call HB5.out HB8.out).setCell HZ.out _).setCell HZ.out _
        clear hc9 HB8 HG8 HO5 HM5 HB5
        go_wp2
        go_roundg (gk - 1)
        case measure => omega
        case rel => exact ⟨i + 1, A3, c3, A5, c5, by omega, by go_num, rfl, rfl, HO9, HM9, HD5, HG9, HB9⟩
    · have ti : decide ((i : Int) < (n : Int)) = false := by simp; omega
      obtain rfl : i = n := by omega
      rw [List.take_of_length_le (by rw [HL.out]; exact Nat.le_refl _)] at HO HG
      rw [List.take_of_length_le (by rw [List.length_reverse, HL.out]; exact Nat.le_refl _)] at HM
      obtain ⟨_, _, e7, hh7⟩ := HO.out.has
      cases e7
      obtain ⟨_, _, e8, hh8⟩ := HM.out.has
      cases e8
      have HC7 : Hid (∀ W, Below wr.heap.size wr W → Calls Try.prog 18 #[.agg #[.int .i64 0, .int .u64 0], .slice A7 i c7] W fun e w' => e = .returned (numV (sumA a l)) ∧ Below W.heap.size W w') := fun W hW => by
        have h1 := wideAdd_any 0 0 A7 i c7 (prodsN a l) W (by unfold i64W; decide) (by unfold u64W; decide) (hh7.kept hW) (prods_ok a l) (by omega)
        rw [numV_prods] at h1
        exact h1
      have HC8 : Hid (∀ W, Below wr.heap.size wr W → Calls Try.prog 18 #[.agg #[.int .i64 0, .int .u64 0], .slice A8 i c8] W fun e w' => e = .returned (numV (sumA a l)) ∧ Below W.heap.size W w') := fun W hW => by
        have h1 := wideAdd_any 0 0 A8 i c8 (prodsN a l.reverse) W (by unfold i64W; decide) (by unfold u64W; decide) (hh8.kept hW) (prods_ok a l.reverse) (by omega)
        rw [numV_prods, sumA_rev] at h1
        exact h1
      unfold numV at HC7 HC8
      generalize sumA a l = s at *
      clear hh7 hh8 HO HM HDj hz HMl HBy HH HL
      go_wp2_with fail
      refine (HOa.out _).mono ?_
      rintro e w2 ⟨rfl, hb2⟩
      have HB2 : Hid (Below wr.heap.size wr w2) := hb2
      clear hb2
      go_wp2_with fail
      refine (HOb.out _).mono ?_
      rintro e w3 ⟨rfl, hb3⟩
      have HB3 := Lib.hid (new_call HB2.out hb3)
      clear hb3
      go_wp2_with fail
      refine (HNb.out _).mono ?_
      rintro e w4 ⟨rfl, hb4⟩
      have HB4 := Lib.hid (new_call HB3.out hb4)
      clear hb4
      go_wp2_with fail
      refine (HAd.out w4).mono ?_
      rintro e w5 ⟨rfl, hb5⟩
      have HB5 := Lib.hid (new_call HB4.out hb5)
      have HD5 := Lib.hid (Blk.new w5 25 #[.int .i64 (hiW D), .int .u64 (loW D)])
      have HB6 := Lib.hid (new_alloc HB5.out (.cells #[.int .i64 (hiW D), .int .u64 (loW D)] 25))
      have HG6 := Lib.hid (HG.out.below HB6.out HG.out.lt)
      clear hb5 HB2 HB3 HB4 HG HOa HOb HNb HAd
      rcases HK.out with ⟨t1, t2, hk⟩ | ⟨t1, t2, hk⟩ | ⟨t1, t2, hk⟩
      all_goals
        rw [hk] at HSg HCm
        clear HK hk
        have HOa := Lib.hid (fun W => wideOf_any a W HAb.out.1)
        have HOb := Lib.hid (fun W => wideOf_any b W HAb.out.2)
        unfold numV at HOa HOb
        go_wp2_with (with_reducible fail)
        obtain ⟨W0, hW0⟩ : ∃ W0, w5.alloc (.cells #[.int .i64 (hiW D), .int .u64 (loW D)] 25) = W0 := ⟨_, rfl⟩
        rw [hW0] at HD5 HB6 HG6 ⊢
        have HS : Hid (∀ W, Below W0.heap.size W0 W → W.cell? ⟨G, 0, none⟩ = some (.int .i64 (hiW s)) ∧ W.cell? ⟨G, 1, none⟩ = some (.int .u64 (loW s)) ∧ W.cell? ⟨w5.heap.size, 0, none⟩ = some (.int .i64 (hiW D)) ∧ W.cell? ⟨w5.heap.size, 1, none⟩ = some (.int .u64 (loW D))) := fun W hW =>
          ⟨(HG6.out.below hW HG6.out.lt).cell 0, (HG6.out.below hW HG6.out.lt).cell 1, (HD5.out.below hW HD5.out.lt).cell 0, (HD5.out.below hW HD5.out.lt).cell 1⟩
        have HBv0 : Hid (Below W0.heap.size W0 W0.drew) := (Below.refl _ _).drew
        clear HD5 HG6 hW0
        go_region_held3 (fun W => W.cell? ⟨G, 0, none⟩ = some (.int .i64 (hiW s)) ∧ W.cell? ⟨G, 1, none⟩ = some (.int .u64 (loW s)) ∧ W.cell? ⟨w5.heap.size, 0, none⟩ = some (.int .i64 (hiW D)) ∧ W.cell? ⟨w5.heap.size, 1, none⟩ = some (.int .u64 (loW D))) (first | (with_reducible exact HS.out _ HBv9.out) | (with_reducible exact HS.out _ HBv8.out) | (with_reducible exact HS.out _ HBv7.out) | (with_reducible exact HS.out _ HBv6.out) | (with_reducible exact HS.out _ HBv5.out) | (with_reducible exact HS.out _ HBv4.out) | (with_reducible exact HS.out _ HBv3.out) | (with_reducible exact HS.out _ HBv2.out) | (with_reducible exact HS.out _ HBv1.out) | (with_reducible exact HS.out _ HBv0.out)) (first
          | (go_at_call 15; (with_reducible refine (HO0.out W0.drew).mono ?_); rintro e v1 ⟨rfl, hb1⟩; have HBv1 := Lib.hid (new_call HBv0.out hb1); clear hb1)
          | (go_at_call 18; (with_reducible refine (HC7.out v1 (new_call HB6.out HBv1.out)).mono ?_); rintro e v2 ⟨rfl, hb2⟩; have HBv2 := Lib.hid (new_call HBv1.out hb2); clear hb2)
          | (go_at_call 15; (with_reducible refine (HO0.out v2).mono ?_); rintro e v3 ⟨rfl, hb3⟩; have HBv3 := Lib.hid (new_call HBv2.out hb3); clear hb3)
          | (go_at_call 18; (with_reducible refine (HC8.out v3 (new_call HB6.out HBv3.out)).mono ?_); rintro e v4 ⟨rfl, hb4⟩; have HBv4 := Lib.hid (new_call HBv3.out hb4); clear hb4)
          | (go_at_call 24; (with_reducible refine (HSg.out v4).mono ?_); rintro e v5 ⟨rfl, hb5⟩; have HBv5 := Lib.hid (new_call HBv4.out hb5); clear hb5)
          | (go_at_call 15; (with_reducible refine (HOa.out v5).mono ?_); rintro e v6 ⟨rfl, hb6⟩; have HBv6 := Lib.hid (new_call HBv5.out hb6); clear hb6)
          | (go_at_call 15; (with_reducible refine (HOb.out v6).mono ?_); rintro e v7 ⟨rfl, hb7⟩; have HBv7 := Lib.hid (new_call HBv6.out hb7); clear hb7)
          | (go_at_call 22; (with_reducible refine (HCm.out v7).mono ?_); rintro e v8 ⟨rfl, hb8⟩; have HBv8 := Lib.hid (new_call HBv7.out hb8); clear hb8)
          | (go_at_call 16; (with_reducible refine (known08 _).mono ?_); rintro e v9 ⟨rfl, hb9⟩; have HBv9 := Lib.hid (new_call HBv8.out hb9); clear hb9))
        all_goals
          go_wp2
          go_ret
          exact ⟨rfl, new_call HB.out (new_call HB6.out HBv9.out)⟩

set_option maxRecDepth 100000 in
theorem lifted (os : Os) (started : os.Started) (H : Type) (enc : TypeId × Value → H) :
    ReturnsInHanded {} Try.checked os 7 .any (Rows.wideManySpec.pre6 enc Try.prog Try.f7 Rows.wideManyRow.domain false) (Rows.wideManySpec.post enc Try.prog Try.f7 false true false false) := by
  refine returnsInHanded_of_change (C := Try.checked) Try.own started (by kernel_rfl) Try.func7
    (ChangeSpec.witness6 (enc := enc) (C := Try.checked) false ⟨#[], #[.slice none 0 0, .int .i64 0, .int .i64 0], []⟩ 8 (by kernel_rfl) (by kernel_rfl) (by kernel_rfl) (by kernel_rfl)) ?_
  intro W base args ds gs before hval0 hW _ _
  have hval : ∀ (j : Nat) t v, Try.f7.params[j]? = some t → args[j]? = some v → Value.okWide Try.prog W .any base t v := hval0
  have hW' := hW
  obtain ⟨p, q, hA0, hV, rfl, _, _⟩ := hW
  have hA : DataW.TrodAll enc Try.prog W 0 (fun _ => true) true Try.f7.params.toList args.toList ds p := hA0
  rw [Try.params7] at hA hval
  obtain ⟨v0, v1, v2, d0, d1, d2, p0, p1, p2, rfl, rfl, rfl, h0, h1, h2⟩ := trodAll_three hA
  obtain ⟨rfl, rfl⟩ := trodVars_none hV
  obtain ⟨A0, n0, c0, bs0, rfl, hh0, hb0, hn0⟩ := open_intsl (hval 0 27 v0 rfl rfl) h0
  obtain ⟨a1, rfl, rfl, rfl, w1⟩ := open_int Try.underlying3 (hval 1 3 v1 rfl rfl) h1
  obtain ⟨a2, rfl, rfl, rfl, w2⟩ := open_int Try.underlying3 (hval 2 3 v2 rfl rfl) h2
  exact (walk A0 n0 c0 bs0 a1 a2 W hh0 hb0 hn0 (wf_i64 w1) (wf_i64 w2)).mono fun e W' he =>
    law_post rfl rfl (by rw [Try.params7]; intro t ht; simp at ht; rcases ht with rfl | rfl | rfl <;> exact ⟨by kernel_rfl, of_decide_eq_true (by kernel_rfl)⟩) hW' rfl he

theorem proved : Rows.WideManySaid :=
  OpenClaim.holds_of_wide 7 Try.f7 rfl rfl rfl rfl rfl rfl rfl ⟨rfl, rfl, rfl, rfl, rfl⟩ rfl rfl rfl rfl rfl (by kernel_rfl) Try.func7 (by kernel_rfl)
    (of_decide_eq_true (by kernel_rfl)) (by unfold Func.isWrapper; first | (rw [if_pos (by decide +kernel)]; kernel_rfl) | (rw [if_neg (by decide +kernel)]; exact ⟨rfl, rfl⟩))
    (fun os started H enc _ => lifted os started H enc)
end Go.Proofs.Ytjecognpechapaa.wideMany
