/- The canon of a canon is itself, and its steps are the steps; each vertex and each triangle is met once; it has the same triangles, by other numbers, turning the same way, with the same points: whatever mesh comes in, WalkOnce answers true. -/
import Derived.Test.YtjahphfjobnkaaaDoorKnown11
import Derived.Test.YtjahphfjobnkaaaDoorLawMesh
import Derived.Test.YtjahphfjobnkaaaDoorLawLaid
import Derived.Deep.CutRange
import Derived.BigQuiet
import Derived.WalkSmall
namespace Go.Proofs.YtjahphfjobnkaaaDoor.walkOnce
open Go.ChangeShapes Go.WideShapes Go.ChangeAt Go.RowKit

/-- Which numbers were met among the first. -/
def metB (l : List Nat) (i : Nat) (j : Nat) : Bool := decide (j ∈ l.take i)
theorem metB_next {l : List Nat} {i : Nat} (hi : i < l.length) : putB (metB l i) l[i] true = metB l (i + 1) := by
  funext j
  unfold putB metB
  rw [List.take_succ_eq_append_getElem hi]
  by_cases h0 : j = l[i]
  · rw [if_pos h0, h0]
    exact (decide_eq_true (List.mem_append.2 (Or.inr (List.mem_singleton.2 rfl)))).symm
  · rw [if_neg h0]
    exact decide_eq_decide.2 ⟨fun h => List.mem_append.2 (Or.inl h), fun h => (List.mem_append.1 h).resolve_right fun e => h0 (List.mem_singleton.1 e)⟩
theorem metB_not {l : List Nat} (hnd : l.Nodup) {i : Nat} (hi : i < l.length) : metB l i l[i] = false := by
  unfold metB
  refine decide_eq_false fun h => ?_
  obtain ⟨k, hk, e⟩ := List.mem_take_iff_getElem.1 h
  exact (List.pairwise_iff_getElem.1 hnd) k i (by omega) hi (by omega) e
theorem metB_zero (l : List Nat) : metB l 0 = fun _ => false := by
  funext j
  unfold metB
  simp
/-- What the law asks of the canon, in plain words. -/
structure OnceM (P T : List P3) (n m : Nat) (C N : List P3) (S : List (Int × Int)) (V O : List Nat) : Prop where
  ck : CheckIs C N 0
  st : (walkF N).S = S
  c2 : canonP C N = C
  n2 : (walkF N).N = N
  cl : C.length = n
  nl : N.length = m
  vl : V.length = n
  ol : O.length = m
  vlt : ∀ i, ∀ hi : i < V.length, V[i] < n
  olt : ∀ i, ∀ hi : i < O.length, O[i] < m
  vnd : V.Nodup
  ond : O.Nodup
  pts : ∀ i, ∀ hi : i < V.length, C[i]? = P[V[i]]?
  edg : ∀ j, ∀ hj : j < O.length, ∃ hi : O[j] < T.length, ∃ a b c : Nat, ∃ x y z : Nat, N[j]? = some ((a : Int), (b : Int), (c : Int)) ∧ V[a]? = some x ∧ V[b]? = some y ∧ V[c]? = some z ∧ ((x : Int), (y : Int)) ∈ dirs T[O[j]] ∧ ((y : Int), (z : Int)) ∈ dirs T[O[j]]
theorem onceM {P T : List P3} (hc : CheckIs P T 0) : OnceM P T P.length T.length (canonP P T) (walkF T).N (walkF T).S ((walkF T).V.map Int.toNat) (walkF T).O ∧ (walkF T).V = ((walkF T).V.map Int.toNat).map fun (k : Nat) => (k : Int) := by
  obtain ⟨h1, h2, h3, h4, h5, h6, _⟩ := canon_twice hc
  have hall := verts_all hc
  obtain ⟨_, hp, hn, _⟩ := check_zero hc
  have hpp : T.all (triM P.length) = true := by unfold plainM at hp; rw [Bool.and_eq_true] at hp; exact hp.2
  have hi : WInv T (walkF T) := walk_inv hpp hn T.length (Nat.le_refl _)
  have hcast : (walkF T).V = ((walkF T).V.map Int.toNat).map fun (k : Nat) => (k : Int) := by
    rw [List.map_map]
    conv => lhs; rw [← List.map_id (walkF T).V]
    refine List.map_congr_left fun x hx => ?_
    have := ((hall x).1 hx).1
    show x = ((x.toNat : Nat) : Int)
    omega
  refine ⟨⟨h1, h2, h4, h3, h5, h6, ?_, ?_, ?_, ?_, ?_, hi.ok.nd, ?_, ?_⟩, hcast⟩
  · rw [List.length_map]; exact verts_count hi.vnd hall
  · rw [← hi.ok.len]; exact h6
  · intro i hi2
    rw [List.getElem_map]
    have := (hall _).1 (List.getElem_mem (by rw [List.length_map] at hi2; exact hi2))
    omega
  · intro i hi2
    exact hi.ok.lt _ (List.getElem_mem hi2)
  · refine List.pairwise_map.2 (List.Pairwise.imp_of_mem (fun {a b} ha hb hab => ?_) hi.vnd)
    have h1 := ((hall a).1 ha).1
    have h2 := ((hall b).1 hb).1
    intro e
    exact hab (by omega)
  · intro i hi2
    have hi3 : i < (walkF T).V.length := by rw [List.length_map] at hi2; exact hi2
    have hv := (hall _).1 (List.getElem_mem hi3)
    have hlt : ((walkF T).V[i]).toNat < P.length := by omega
    unfold canonP
    rw [List.getElem?_map, List.getElem?_eq_getElem hi3, List.getElem_map, List.getElem?_eq_getElem hlt]
    rw [Option.map_some, List.getElem?_eq_getElem hlt, Option.getD_some]
  · intro j hj
    obtain ⟨hi2, a, b, c, x, y, z, e1, e2, e3, e4, d1, d2⟩ := canon_edges hc (List.getElem?_eq_getElem hj)
    have hx := ((hall x).1 (List.mem_of_getElem? e2)).1
    have hy := ((hall y).1 (List.mem_of_getElem? e3)).1
    have hz := ((hall z).1 (List.mem_of_getElem? e4)).1
    refine ⟨hi2, a, b, c, x.toNat, y.toNat, z.toNat, e1, ?_, ?_, ?_, ?_, ?_⟩
    · rw [List.getElem?_map, e2]; rfl
    · rw [List.getElem?_map, e3]; rfl
    · rw [List.getElem?_map, e4]; rfl
    · rw [Int.toNat_of_nonneg hx, Int.toNat_of_nonneg hy]; exact d1
    · rw [Int.toNat_of_nonneg hy, Int.toNat_of_nonneg hz]; exact d2
theorem has_one {t : P3} {x y : Int} (h : (x, y) ∈ dirs t) : hasF [t] x y = 0 := hasF_at (T := [t]) (i := 0) (Nat.zero_lt_one) h (fun _ hj => absurd hj (Nat.not_lt_zero _))
set_option maxRecDepth 100000 in
set_option maxHeartbeats 6400000 in
theorem walk (A : Option Addr) (n c : Nat) (P : List P3) (B : Option Addr) (m d : Nat) (T : List P3) (W : World) (hbe : BehW W) (hp : HasK 3 W A n c (p3Cells P)) (ht : HasK 3 W B m d (p3Cells T)) (_ : ∀ x ∈ P, i64T x) (_ : ∀ x ∈ T, i64T x) (_ : n ≤ 9223372036854775807) (_ : m ≤ 9223372036854775807) : Calls Tryd.prog 5 #[.agg #[.slice A n c, .slice B m d]] W fun e w' => e = .returned (.bool true) ∧ Below W.heap.size W w' := by
  have HK0 := Lib.hid (MeshAt.new W (.slice A n c) (.slice B m d))
  have m0 := HK0.out.b0.cell 0
  have m1 := HK0.out.b0.cell 1
  have HKn := Lib.hid (fun w (hW : Below W.heap.size W w) => known11 w (hbe.kept hW))
  by_cases hl : n ≤ 40 ∧ m ≤ 60
  · have HLo := Lib.hid (fun w => lawlong_any A n c B m d false w (by rw [decide_eq_false (by omega), decide_eq_false (by omega)]; rfl))
    obtain ⟨r, hr⟩ := check_total P T
    have hTm : T.length = m := by have := ht.len; rw [p3Cells_len] at this; omega
    have hPn : P.length = n := by have := hp.len; rw [p3Cells_len] at this; omega
    have hmz := zeroMesh
    by_cases h0 : r = 0
    · subst h0
      obtain ⟨hon, hcast⟩ := onceM hr
      rw [hTm, hPn] at hon
      have HCa := Lib.hid (fun w (hW : Below W.heap.size W w) => walkCanon_any A n c P B m d T 0 w (hbe.kept hW) (hp.kept hW) (ht.kept hW) (by omega) (by omega) hr)
      have HSt := Lib.hid (fun w (hW : Below W.heap.size W w) => walkSteps_any A n c P B m d T 0 w (hbe.kept hW) (hp.kept hW) (ht.kept hW) (by omega) (by omega) hr)
      have HOr := Lib.hid (fun w (hW : Below W.heap.size W w) => walkOrder_any A n c P B m d T 0 w (hbe.kept hW) (hp.kept hW) (ht.kept hW) (by omega) (by omega) hr)
      rw [if_pos rfl, if_pos rfl] at HCa HOr
      rw [if_pos rfl] at HSt
      unfold Canond at HCa
      unfold Orderd at HOr
      rw [hon.cl, hon.nl] at HCa
      have hvl2 : (walkF T).V.length = n := by have := hon.vl; rw [List.length_map] at this; exact this
      rw [hvl2, hon.ol, hcast] at HOr
      have HSz : Hid ((walkF T).S.length ≤ 100000) := by
        have := ((walk_fine T T.length (Nat.le_refl _)).small (Nat.le_refl _) (by omega)).S
        have h3 := (walk_fine T T.length (Nat.le_refl _)).sz
        show (walkTo T T.length).S.length ≤ _
        omega
      have HSz2 : Hid (n ≤ 100000 ∧ m ≤ 100000) := ⟨by omega, by omega⟩
      have HOn := Lib.hid hon
      have HSc := Lib.hid (fun w A2 c2 B2 d2 (hW : Below W.heap.size W w) (h1 : HasK 3 w A2 n c2 (p3Cells (canonP P T))) (h2 : HasK 3 w B2 m d2 (p3Cells (walkF T).N)) => walkSteps_any A2 n c2 _ B2 m d2 _ 0 w (hbe.kept hW) h1 h2 (by omega) (by omega) hon.ck)
      rw [if_pos rfl, hon.st] at HSc
      have HIs : Hid (∀ w A2 c2 B2 d2, Below W.heap.size W w → HasK 3 w A2 n c2 (p3Cells (canonP P T)) → HasK 3 w B2 m d2 (p3Cells (walkF T).N) → Calls Tryd.prog 19 #[.agg #[.slice A2 n c2, .slice B2 m d2]] w fun e w' => e = .returned (.bool true) ∧ Below w.heap.size w w') := fun w A2 c2 B2 d2 hW h1 h2 => by
        have := walkIs_any A2 n c2 _ B2 m d2 _ 0 w (hbe.kept hW) h1 h2 (by omega) (by omega) hon.ck
        rw [decide_eq_true ⟨rfl, hon.c2, hon.n2⟩] at this
        exact this
      have HSs : Hid (∀ w A2 c2 B2 d2, HasK 2 w A2 (walkF T).S.length c2 (e2Cells (walkF T).S) → HasK 2 w B2 (walkF T).S.length d2 (e2Cells (walkF T).S) → Calls Tryd.prog 14 #[.slice A2 (walkF T).S.length c2, .slice B2 (walkF T).S.length d2] w fun e w' => e = .returned (.bool true) ∧ Below w.heap.size w w') := fun w A2 c2 B2 d2 h1 h2 => by
        have h9 := HSz.out
        have := ref11SameSteps_any A2 _ c2 (walkF T).S B2 _ d2 (walkF T).S w h1 h2 (by omega) (by omega)
        rw [decide_eq_true rfl] at this
        exact this
      have HP := Lib.hid (fun w (hW : Below W.heap.size W w) => hp.kept hW)
      have HT := Lib.hid (fun w (hW : Below W.heap.size W w) => ht.kept hW)
      have HTm := Lib.hid hTm
      have HPn := Lib.hid hPn
      clear hp ht hbe hr hon hcast hvl2 hTm hPn
      generalize canonP P T = C at *
      generalize (walkF T).N = N at *
      generalize (walkF T).S = S at *
      generalize (walkF T).V.map Int.toNat = V at *
      generalize (walkF T).O = O at *
      have tnn : ((n : Int) != (n : Int)) = false := bne_self_eq_false _
      have tmm : ((m : Int) != (m : Int)) = false := bne_self_eq_false _
      obtain ⟨hn40, hm60⟩ := hl
      have hmk := fun w => run_makeBool n (by omega) w
      have hmk2 := fun w => run_makeBool m (by omega) w
      go_enter Tryd.func5, Tryd.ntmps5
      go_wp2_with fail
      refine (HLo.out _).mono ?_
      rintro e w1 ⟨rfl, hb1⟩
      have HK1 := Lib.hid (HK0.out.next hb1)
      clear hb1 HK0 m0 m1
      have m0 := HK1.out.b0.cell 0
      have m1 := HK1.out.b0.cell 1
      go_wp2_with fail
      refine (HCa.out _ HK1.out.bel).mono ?_
      rintro e w2 ⟨A2, c2, B2, d2, rfl, h1, h2, hb2⟩
      have HK2 := Lib.hid ((HK1.out.next hb2).next (new_alloc (Below.refl _ w2) (.cells #[.slice A2 n c2, .slice B2 m d2] 25)))
      have HC2 := Lib.hid (Blk.new w2 25 #[.slice A2 n c2, .slice B2 m d2])
      have HP2 := Lib.hid (h1.alloc (.cells #[.slice A2 n c2, .slice B2 m d2] 25))
      have HT2 := Lib.hid (h2.alloc (.cells #[.slice A2 n c2, .slice B2 m d2] 25))
      clear h1 h2 hb2 HK1 m0 m1 HCa
      have m0 := HK2.out.b0.cell 0
      have m1 := HK2.out.b0.cell 1
      go_wp2_with fail
      generalize w2.alloc (.cells #[.slice A2 n c2, .slice B2 m d2] 25) = W2 at *
      generalize w2.heap.size = G at *
      refine (HSt.out _ HK2.out.bel).mono ?_
      rintro e w3 ⟨A3, c3, rfl, h3, hb3⟩
      have HK3 := Lib.hid (HK2.out.next hb3)
      have HC3 := Lib.hid (HC2.out.below hb3 HC2.out.lt)
      have HP3 := Lib.hid (HP2.out.kept hb3)
      have HT3 := Lib.hid (HT2.out.kept hb3)
      have HS3 := Lib.hid h3
      clear h3 hb3 HK2 HC2 HP2 HT2 m0 m1 HSt
      have k0 := HC3.out.cell 0
      have k1 := HC3.out.cell 1
      go_wp2_with fail
      refine (HSc.out _ _ _ _ _ HK3.out.bel HP3.out HT3.out).mono ?_
      rintro e w4 ⟨A4, c4, rfl, h4, hb4⟩
      have HK4 := Lib.hid (HK3.out.next hb4)
      have HC4 := Lib.hid (HC3.out.below hb4 HC3.out.lt)
      have HP4 := Lib.hid (HP3.out.kept hb4)
      have HT4 := Lib.hid (HT3.out.kept hb4)
      have HS4 := Lib.hid (HS3.out.kept hb4)
      have HU4 := Lib.hid h4
      clear h4 hb4 HK3 HC3 HP3 HT3 HS3 k0 k1 HSc
      have m0 := HK4.out.b0.cell 0
      have m1 := HK4.out.b0.cell 1
      go_wp2_with fail
      refine (HOr.out _ HK4.out.bel).mono ?_
      rintro e w5 ⟨Av, cv, Ao, co, rfl, h5, h6, hb5⟩
      have HK5 := Lib.hid (HK4.out.next hb5)
      have HC5 := Lib.hid (HC4.out.below hb5 HC4.out.lt)
      have HP5 := Lib.hid (HP4.out.kept hb5)
      have HT5 := Lib.hid (HT4.out.kept hb5)
      have HS5 := Lib.hid (HSs.out _ _ _ _ _ (HS4.out.kept hb5) (HU4.out.kept hb5))
      have HV5 : Hid (Has w5 Av n cv (natVs V)) := h5
      have HO5 : Hid (Has w5 Ao m co (natVs O)) := h6
      clear h5 h6 hb5 HK4 HC4 HP4 HT4 HS4 HU4 m0 m1 HOr HSs
      have m0 := HK5.out.b0.cell 0
      have m1 := HK5.out.b0.cell 1
      have k0 := HC5.out.cell 0
      have k1 := HC5.out.cell 1
      go_wp2_with fail
      refine HS5.out.mono ?_
      rintro e w6 ⟨rfl, hb6⟩
      have HK6 := Lib.hid (HK5.out.next hb6)
      have HC6 := Lib.hid (HC5.out.below hb6 HC5.out.lt)
      have HP6 := Lib.hid (HP5.out.kept hb6)
      have HT6 := Lib.hid (HT5.out.kept hb6)
      have HV6 := Lib.hid (HV5.out.kept hb6)
      have HO6 := Lib.hid (HO5.out.kept hb6)
      clear hb6 HK5 HC5 HP5 HT5 HV5 HO5 HS5 m0 m1 k0 k1
      have m0 := HK6.out.b0.cell 0
      have m1 := HK6.out.b0.cell 1
      have k0 := HC6.out.cell 0
      have k1 := HC6.out.cell 1
      go_wp2_with fail
      refine (HIs.out _ _ _ _ _ HK6.out.bel HP6.out HT6.out).mono ?_
      rintro e w7 ⟨rfl, hb7⟩
      have HK7 := Lib.hid (HK6.out.next hb7)
      have HC7 := Lib.hid (HC6.out.below hb7 HC6.out.lt)
      have HP7 := Lib.hid (HP6.out.kept hb7)
      have HT7 := Lib.hid (HT6.out.kept hb7)
      have HV7 := Lib.hid (HV6.out.kept hb7)
      have HO7 := Lib.hid (HO6.out.kept hb7)
      clear hb7 HK6 HC6 HP6 HT6 HV6 HO6 HIs m0 m1 k0 k1
      have HMe : Hid (∀ w, Below w7.heap.size w7 w → (w.cell? ⟨W.heap.size, 0, none⟩ = some (.slice A n c) ∧ w.cell? ⟨W.heap.size, 1, none⟩ = some (.slice B m d)) ∧ w.cell? ⟨G, 0, none⟩ = some (.slice A2 n c2) ∧ w.cell? ⟨G, 1, none⟩ = some (.slice B2 m d2)) := fun w hw => ⟨⟨(HK7.out.next hw).b0.cell 0, (HK7.out.next hw).b0.cell 1⟩, (HC7.out.below hw HC7.out.lt).cell 0, (HC7.out.below hw HC7.out.lt).cell 1⟩
      have HMB : Hid (∀ w, Below w7.heap.size w7 w → Below W.heap.size W w) := fun w hw => (HK7.out.next hw).bel
      obtain ⟨⟨m0, m1⟩, k0, k1⟩ := HMe.out w7 (Below.refl _ _)
      clear HK7 HC7
      rw [← metB_zero V] at hmk
      rw [← metB_zero O] at hmk2
      have HR0 := Lib.hid (Blk.new w7 4 (rowB (metB V 0) n))
      have HB0 := Lib.hid (new_alloc (Below.refl w7.heap.size w7) (.cells (rowB (metB V 0) n) 4))
      go_wp2
      generalize w7.alloc (.cells (rowB (metB V 0) n) 4) = W8 at *
      clear m0 m1 k0 k1 hmk
      go_loopg [13] n (fun g s13 wx => ∃ i : Nat, i + g = n ∧ s13 = .int .i64 (i : Int) ∧ Hid (Blk wx w7.heap.size 4 (rowB (metB V i) n)) ∧ Hid (Below w7.heap.size w7 wx))
      case atStart => exact ⟨0, by omega, rfl, HR0, HB0⟩
      case round =>
        clear HR0 HB0
        obtain ⟨i, hig, rfl, HR, HB⟩ := hrel
        obtain ⟨⟨m0, m1⟩, k0, k1⟩ := HMe.out _ HB.out
        by_cases hi : i < n
        · have ti : decide ((i : Int) < (n : Int)) = true := by simp; omega
          have i2 : (i : Int) < (n : Int) := by omega
          have hiV : i < V.length := by rw [HOn.out.vl]; exact hi
          have hq := HOn.out.vlt i hiV
          have hiC : i < C.length := by rw [HOn.out.cl]; exact hi
          have hpt := HOn.out.pts i hiV
          have hqP : V[i] < P.length := by rw [HPn.out]; exact hq
          rw [List.getElem?_eq_getElem hiC, List.getElem?_eq_getElem hqP] at hpt
          obtain ⟨bv, ov, rfl, _, hcv⟩ := (HV7.out.kept HB.out).spot (by omega)
          have c0 := hcv i _ (natVs_at hiV)
          have HCv : Hid (∀ w, Below wr.heap.size wr w → w.cell? ⟨bv, ov + i, none⟩ = some (.int .i64 (V[i] : Int))) := fun w hw => by
            obtain ⟨_, _, e, _, h⟩ := ((HV7.out.kept HB.out).kept hw).spot (by omega)
            cases e
            exact h i _ (natVs_at hiV)
          have f0 := (HR.out.cell V[i]).trans (rowB_at _ hq)
          rw [metB_not HOn.out.vnd hiV] at f0
          have HNx := Lib.hid (metB_next hiV)
          obtain ⟨bc, oc, rfl, _, _⟩ := (HP7.out.kept HB.out).spot (by omega)
          obtain ⟨x0, x1, x2⟩ := p3_at (HP7.out.kept HB.out) hiC
          obtain ⟨bp, op, rfl, _, _⟩ := (HP.out _ (HMB.out _ HB.out)).spot (by omega)
          obtain ⟨y0, y1, y2⟩ := p3_at (HP.out _ (HMB.out _ HB.out)) hqP
          have hpt2 := Option.some.inj hpt
          rw [hpt2] at x0 x1 x2
          clear hpt hpt2 hcv
          generalize P[V[i]] = pt at *
          generalize V[i] = q at *
          obtain ⟨x, y, z⟩ := pt
          simp only at x0 x1 x2 y0 y1 y2
          have q2 : (q : Int) < (n : Int) := by omega
          have tq : decide ((q : Int) < 0) = false := decide_eq_false (by omega)
          have tq2 : decide ((n : Int) ≤ (q : Int)) = false := decide_eq_false (by omega)
          have tq3 : decide (n ≤ q) = false := decide_eq_false (by omega)
          go_upto_region 15 with (with_reducible fail)
          go_cut [151] from 106 to 157 (fun s151 wx => s151 = .bool false ∧ Hid (Below wr.heap.size wr wx))
          case first =>
            as_aux_lemma =>
              go_quiet (fail)
              go_wp2_with (with_reducible fail)
              go_meet
              case rel => exact ⟨rfl, below_drewN (Below.refl _ _) _⟩
          case rest =>
            as_aux_lemma =>
              obtain ⟨rfl, HBc⟩ := hcut
              clear c0 f0 x0 x1 x2 y0 y1 y2 m0 m1 k0 k1 tq tq2 tq3
              have c0 := HCv.out _ HBc.out
              have HRc := Lib.hid (HR.out.below HBc.out HR.out.lt)
              have f0 := (HRc.out.cell q).trans (rowB_at _ hq)
              have f1 := HRc.out.frozen q
              have HR2 : Hid (Blk (wc.setCell ⟨w7.heap.size, q, none⟩ (.bool true)) w7.heap.size 4 (rowB (metB V (i + 1)) n)) := by
                have h := HRc.out.set_ q (.bool true)
                rw [rowB_set, HNx.out] at h
                exact h
              have HB2 : Hid (Below w7.heap.size w7 (wc.setCell ⟨w7.heap.size, q, none⟩ (.bool true))) := (HB.out.trans (HBc.out.mono HB.out.size)).setCell (p := ⟨w7.heap.size, q, none⟩) (Nat.le_refl _) _
              clear HR HB HRc HCv HNx HBc
              go_wp2
              go_roundg (gk - 1)
              case measure => omega
              case rel => exact ⟨i + 1, by omega, by go_num, HR2, HB2⟩
        · have ti : decide ((i : Int) < (n : Int)) = false := by simp; omega
          obtain rfl : n = i := by omega
          clear HR
          generalize wr = w9 at *
          have HUp : Hid (∀ w, Below w9.heap.size w9 w → Below w7.heap.size w7 w) := fun w hw => HB.out.trans (hw.mono HB.out.size)
          have HR0 := Lib.hid (Blk.new w9 4 (rowB (metB O 0) m))
          have HB0 := Lib.hid (new_alloc (Below.refl w9.heap.size w9) (.cells (rowB (metB O 0) m) 4))
          clear HB
          go_wp2
          generalize w9.alloc (.cells (rowB (metB O 0) m) 4) = Wa at *
          clear m0 m1 k0 k1 hmk2
          go_loopg [15] m (fun g s15 wx => ∃ i : Nat, i + g = m ∧ s15 = .int .i64 (i : Int) ∧ Hid (Blk wx w9.heap.size 4 (rowB (metB O i) m)) ∧ Hid (Below w9.heap.size w9 wx))
          case atStart => exact ⟨0, by omega, rfl, HR0, HB0⟩
          case round =>
            clear HR0 HB0
            obtain ⟨i, hig, rfl, HR, HB⟩ := hrel
            obtain ⟨⟨m0, m1⟩, k0, k1⟩ := HMe.out _ (HUp.out _ HB.out)
            by_cases hi : i < m
            · have ti : decide ((i : Int) < (m : Int)) = true := by simp; omega
              have i2 : (i : Int) < (m : Int) := by omega
              have hiO : i < O.length := by rw [HOn.out.ol]; exact hi
              have hq := HOn.out.olt i hiO
              obtain ⟨hqT, a, b, cc, x, y, z, e1, e2, e3, e4, d1, d2'⟩ := HOn.out.edg i hiO
              obtain ⟨bo, oo, rfl, _, hco⟩ := (HO7.out.kept (HUp.out _ HB.out)).spot (by omega)
              have c0 := hco i _ (natVs_at hiO)
              have HCo : Hid (∀ w, Below w9.heap.size w9 w → w.cell? ⟨bo, oo + i, none⟩ = some (.int .i64 (O[i] : Int))) := fun w hw => by
                obtain ⟨_, _, e, _, h⟩ := (HO7.out.kept (HUp.out _ hw)).spot (by omega)
                cases e
                exact h i _ (natVs_at hiO)
              have hiN : i < N.length := by rw [HOn.out.nl]; exact hi
              rw [List.getElem?_eq_getElem hiN] at e1
              have e1' := Option.some.inj e1
              obtain ⟨b2, o2, rfl, _, _⟩ := (HT7.out.kept (HUp.out _ HB.out)).spot (by omega)
              have HCn : Hid (∀ w, Below w9.heap.size w9 w → w.cell? ⟨b2, o2 + i * 3, none⟩ = some (.int .i64 (a : Int)) ∧ w.cell? ⟨b2, o2 + i * 3 + 1, none⟩ = some (.int .i64 (b : Int)) ∧ w.cell? ⟨b2, o2 + i * 3 + 2, none⟩ = some (.int .i64 (cc : Int))) := fun w hw => by
                have h := p3_at (HT7.out.kept (HUp.out _ hw)) hiN
                rw [e1'] at h
                exact h
              have hnm : 0 < n := by
                obtain ⟨h2, _⟩ := List.getElem?_eq_some_iff.1 e2
                have h3 := HOn.out.vl
                omega
              obtain ⟨bv, ov, rfl, _, _⟩ := (HV7.out.kept (HUp.out _ HB.out)).spot hnm
              have HCw : Hid (∀ (j u : Nat), V[j]? = some u → ∀ w, Below w9.heap.size w9 w → w.cell? ⟨bv, ov + j, none⟩ = some (.int .i64 (u : Int))) := fun j u hu w hw => by
                obtain ⟨_, _, e, _, h⟩ := (HV7.out.kept (HUp.out _ hw)).spot hnm
                cases e
                obtain ⟨hj, rfl⟩ := List.getElem?_eq_some_iff.1 hu
                exact h j _ (natVs_at hj)
              have HCa := Lib.hid (HCw.out a x e2)
              have HCb := Lib.hid (HCw.out b y e3)
              have HCc := Lib.hid (HCw.out cc z e4)
              have ha : a < n := by obtain ⟨h2, _⟩ := List.getElem?_eq_some_iff.1 e2; have h3 := HOn.out.vl; omega
              have hb : b < n := by obtain ⟨h2, _⟩ := List.getElem?_eq_some_iff.1 e3; have h3 := HOn.out.vl; omega
              have hc : cc < n := by obtain ⟨h2, _⟩ := List.getElem?_eq_some_iff.1 e4; have h3 := HOn.out.vl; omega
              obtain ⟨bt, ot, rfl, _, _⟩ := (HT.out _ (HMB.out _ (HUp.out _ HB.out))).spot (by omega)
              have HCt : Hid (∀ w, Below w9.heap.size w9 w → w.cell? ⟨bt, ot + O[i] * 3, none⟩ = some (.int .i64 T[O[i]].1) ∧ w.cell? ⟨bt, ot + O[i] * 3 + 1, none⟩ = some (.int .i64 T[O[i]].2.1) ∧ w.cell? ⟨bt, ot + O[i] * 3 + 2, none⟩ = some (.int .i64 T[O[i]].2.2)) := fun w hw => p3_at (HT.out _ (HMB.out _ (HUp.out _ hw))) hqT
              have HH1 : Hid (∀ g w, HasK 3 w (some ⟨g, 0, none⟩) 1 1 (p3Cells [T[O[i]]]) → Calls Tryd.prog 20 #[.slice (some ⟨g, 0, none⟩) 1 1, .int .i64 (x : Int), .int .i64 (y : Int)] w fun e w' => e = .returned (.int .i64 0) ∧ w = w') := fun g w h => by
                have := ref10Has_any (some ⟨g, 0, none⟩) 1 1 _ (x : Int) (y : Int) w h (by decide)
                rw [has_one d1] at this
                exact this
              have HH2 : Hid (∀ g w, HasK 3 w (some ⟨g, 0, none⟩) 1 1 (p3Cells [T[O[i]]]) → Calls Tryd.prog 20 #[.slice (some ⟨g, 0, none⟩) 1 1, .int .i64 (y : Int), .int .i64 (z : Int)] w fun e w' => e = .returned (.int .i64 0) ∧ w = w') := fun g w h => by
                have := ref10Has_any (some ⟨g, 0, none⟩) 1 1 _ (y : Int) (z : Int) w h (by decide)
                rw [has_one d2'] at this
                exact this
              have f0 := (HR.out.cell O[i]).trans (rowB_at _ hq)
              rw [metB_not HOn.out.ond hiO] at f0
              have HNx := Lib.hid (metB_next hiO)
              clear e1 e1' e2 e3 e4 d1 d2' HCw hco
              generalize T[O[i]] = t at *
              generalize O[i] = q at *
              obtain ⟨t1, t2, t3⟩ := t
              simp only at HCt
              have q2 : (q : Int) < (m : Int) := by omega
              have a2 : (a : Int) < (n : Int) := by omega
              have b2' : (b : Int) < (n : Int) := by omega
              have cc2 : (cc : Int) < (n : Int) := by omega
              have tq : decide ((q : Int) < 0) = false := decide_eq_false (by omega)
              have tq2 : decide ((m : Int) ≤ (q : Int)) = false := decide_eq_false (by omega)
              have tq3 : decide (m ≤ q) = false := decide_eq_false (by omega)
              go_upto_region 22 with (with_reducible fail)
              go_cut [191] from 162 to 246 (fun s191 wx => s191 = .bool false ∧ Hid (Below wr.heap.size wr wx))
              case first =>
                as_aux_lemma =>
                  go_quiet (fail)
                  go_wp2_with (with_reducible fail)
                  go_meet
                  case rel => exact ⟨rfl, below_drewN (Below.refl _ _) _⟩
              case rest =>
                as_aux_lemma =>
                  obtain ⟨rfl, HBc⟩ := hcut
                  clear c0 f0 m0 m1 k0 k1 tq tq2 tq3
                  have HBn := Lib.hid (HB.out.trans (HBc.out.mono HB.out.size))
                  have c0 := HCo.out _ HBn.out
                  have HRc := Lib.hid (HR.out.below HBc.out HR.out.lt)
                  have f0 := (HRc.out.cell q).trans (rowB_at _ hq)
                  have f1 := HRc.out.frozen q
                  have HR2 : Hid (Blk (wc.setCell ⟨w9.heap.size, q, none⟩ (.bool true)) w9.heap.size 4 (rowB (metB O (i + 1)) m)) := by
                    have h := HRc.out.set_ q (.bool true)
                    rw [rowB_set, HNx.out] at h
                    exact h
                  have HB2 : Hid (Below w9.heap.size w9 (wc.setCell ⟨w9.heap.size, q, none⟩ (.bool true))) := HBn.out.setCell (p := ⟨w9.heap.size, q, none⟩) (Nat.le_refl _) _
                  clear HR HB HRc HNx HBc HBn
                  obtain ⟨⟨_, _⟩, k0, k1⟩ := HMe.out _ (HUp.out _ HB2.out)
                  obtain ⟨n0, n1, n2⟩ := HCn.out _ HB2.out
                  go_upto_region 26 with (with_reducible fail)
                  have HR3 := Lib.hid (HR2.out.alloc (.cells #[.int .i64 (a : Int), .int .i64 (b : Int), .int .i64 (cc : Int)] 50))
                  have HB3 := Lib.hid (new_alloc HB2.out (.cells #[.int .i64 (a : Int), .int .i64 (b : Int), .int .i64 (cc : Int)] 50))
                  have HX3 := Lib.hid (Blk.new (wc.setCell ⟨w9.heap.size, q, none⟩ (.bool true)) 50 #[.int .i64 (a : Int), .int .i64 (b : Int), .int .i64 (cc : Int)])
                  clear HR2 HB2 c0 f0 f1 k0 k1 n0 n1 n2
                  rw [show (wc.setCell ⟨w9.heap.size, q, none⟩ (.bool true)).heap.size = wc.heap.size by simp] at HX3
                  generalize (wc.setCell ⟨w9.heap.size, q, none⟩ (.bool true)).alloc (.cells #[.int .i64 (a : Int), .int .i64 (b : Int), .int .i64 (cc : Int)] 50) = Wx at *
                  generalize wc.heap.size = Hx at *
                  go_cut [246] from 162 to 246 (fun s246 wx => s246 = .bool false ∧ Hid (Below Wx.heap.size Wx wx))
                  case first =>
                    as_aux_lemma =>
                      have HSx : Hid (∀ w, Below Wx.heap.size Wx w → w.cell? ⟨W.heap.size, 1, none⟩ = some (.slice (some ⟨bt, ot, none⟩) m d) ∧ w.cell? ⟨bo, oo + i, none⟩ = some (.int .i64 (q : Int)) ∧ (w.cell? ⟨bt, ot + q * 3, none⟩ = some (.int .i64 t1) ∧ w.cell? ⟨bt, ot + q * 3 + 1, none⟩ = some (.int .i64 t2) ∧ w.cell? ⟨bt, ot + q * 3 + 2, none⟩ = some (.int .i64 t3)) ∧ (w.cell? ⟨Hx, 0, none⟩ = some (.int .i64 (a : Int)) ∧ w.cell? ⟨Hx, 1, none⟩ = some (.int .i64 (b : Int)) ∧ w.cell? ⟨Hx, 2, none⟩ = some (.int .i64 (cc : Int))) ∧ w.cell? ⟨bv, ov + a, none⟩ = some (.int .i64 (x : Int)) ∧ w.cell? ⟨bv, ov + b, none⟩ = some (.int .i64 (y : Int)) ∧ w.cell? ⟨bv, ov + cc, none⟩ = some (.int .i64 (z : Int))) := fun w hw => by
                        have hB := HB3.out.trans (hw.mono HB3.out.size)
                        have hX := HX3.out.below hw HX3.out.lt
                        exact ⟨(HMe.out _ (HUp.out _ hB)).1.2, HCo.out _ hB, HCt.out _ hB, ⟨hX.cell 0, hX.cell 1, hX.cell 2⟩, HCa.out _ hB, HCb.out _ hB, HCc.out _ hB⟩
                      clear HR3 HB3 HX3 HMe HUp HCo HCt HCa HCb HCc HCn HV7 HO7 HP7 HT7 HP HT HOn HKn HMB HTm HPn HSz HSz2 HLo
                      refine wp_region_held_drew (S := fun w => w.cell? ⟨W.heap.size, 1, none⟩ = some (.slice (some ⟨bt, ot, none⟩) m d) ∧ w.cell? ⟨bo, oo + i, none⟩ = some (.int .i64 (q : Int)) ∧ (w.cell? ⟨bt, ot + q * 3, none⟩ = some (.int .i64 t1) ∧ w.cell? ⟨bt, ot + q * 3 + 1, none⟩ = some (.int .i64 t2) ∧ w.cell? ⟨bt, ot + q * 3 + 2, none⟩ = some (.int .i64 t3)) ∧ (w.cell? ⟨Hx, 0, none⟩ = some (.int .i64 (a : Int)) ∧ w.cell? ⟨Hx, 1, none⟩ = some (.int .i64 (b : Int)) ∧ w.cell? ⟨Hx, 2, none⟩ = some (.int .i64 (cc : Int))) ∧ w.cell? ⟨bv, ov + a, none⟩ = some (.int .i64 (x : Int)) ∧ w.cell? ⟨bv, ov + b, none⟩ = some (.int .i64 (y : Int)) ∧ w.cell? ⟨bv, ov + cc, none⟩ = some (.int .i64 (z : Int))) (by kernel_rfl) (HSx.out _ (Below.refl _ _).drew) (fun hHeld => ?_)
                      refine wpAnyH_take (i := 0) (oi := { dst := some 203, op := Go.Op.fieldAddr 25 (Go.Operand.tmp 1) 1, type := 0, pos := "law.go:73", after := #[], guard := none }) (v := ?uvr26x0) rfl (by kernel_rfl) (by kernel_rfl) (by kernel_rfl) (fun _ _ _ h => h) (Or.inl ⟨by rfl, ?uyr26x0⟩) (by assumption) ?urr26x0
                      case uyr26x0 => (intro w hSw; (try dsimp only at hSw); go_simp; try with_reducible rfl)
                      (try simp only [Act.put, List.setIfInBounds_toArray, List.set_cons_zero, List.set_cons_succ])
                      refine wpAnyH_take (i := 1) (oi := { dst := some 204, op := Go.Op.load 23 (Go.Operand.tmp 203), type := 23, pos := "law.go:73", after := #[{ on := 0, ground := Go.Ground.data }], guard := none }) (v := ?uvr26x1) rfl (by kernel_rfl) (by kernel_rfl) (by kernel_rfl) (fun _ _ _ h => h) (Or.inl ⟨by rfl, ?uyr26x1⟩) (by assumption) ?urr26x1
                      case uyr26x1 => (intro w hSw; (try dsimp only at hSw); go_simp; try with_reducible rfl)
                      (try simp only [Act.put, List.setIfInBounds_toArray, List.set_cons_zero, List.set_cons_succ])
                      refine wpAnyH_take (i := 2) (oi := { dst := some 205, op := Go.Op.move (Go.Operand.tmp 10), type := 32, pos := "law.go:73", after := #[], guard := none }) (v := ?uvr26x2) rfl (by kernel_rfl) (by kernel_rfl) (by kernel_rfl) (fun _ _ _ h => h) (Or.inl ⟨by rfl, ?uyr26x2⟩) (by assumption) ?urr26x2
                      case uyr26x2 => (intro w hSw; (try dsimp only at hSw); go_simp; try with_reducible rfl)
                      (try simp only [Act.put, List.setIfInBounds_toArray, List.set_cons_zero, List.set_cons_succ])
                      refine wpAnyH_take (i := 3) (oi := { dst := some 206, op := Go.Op.move (Go.Operand.tmp 15), type := 3, pos := "law.go:73", after := #[], guard := none }) (v := ?uvr26x3) rfl (by kernel_rfl) (by kernel_rfl) (by kernel_rfl) (fun _ _ _ h => h) (Or.inl ⟨by rfl, ?uyr26x3⟩) (by assumption) ?urr26x3
                      case uyr26x3 => (intro w hSw; (try dsimp only at hSw); go_simp; try with_reducible rfl)
                      (try simp only [Act.put, List.setIfInBounds_toArray, List.set_cons_zero, List.set_cons_succ])
                      refine wpAnyH_take (i := 4) (oi := { dst := some 207, op := Go.Op.indexAddr 32 (Go.Operand.tmp 205) (Go.Operand.tmp 206), type := 0, pos := "law.go:73", after := #[{ on := 2, ground := Go.Ground.data }, { on := 3, ground := Go.Ground.data }], guard := none }) (v := ?uvr26x4) rfl (by kernel_rfl) (by kernel_rfl) (by kernel_rfl) (fun _ _ _ h => h) (Or.inl ⟨by rfl, ?uyr26x4⟩) (by assumption) ?urr26x4
                      case uyr26x4 => (intro w hSw; (try dsimp only at hSw); go_simp; try with_reducible rfl)
                      (try simp only [Act.put, List.setIfInBounds_toArray, List.set_cons_zero, List.set_cons_succ])
                      refine wpAnyH_take (i := 5) (oi := { dst := some 208, op := Go.Op.load 3 (Go.Operand.tmp 207), type := 3, pos := "law.go:73", after := #[{ on := 4, ground := Go.Ground.data }], guard := none }) (v := ?uvr26x5) rfl (by kernel_rfl) (by kernel_rfl) (by kernel_rfl) (fun _ _ _ h => h) (Or.inl ⟨by rfl, ?uyr26x5⟩) (by assumption) ?urr26x5
                      case uyr26x5 => (intro w hSw; (try dsimp only at hSw); go_simp; try with_reducible rfl)
                      (try simp only [Act.put, List.setIfInBounds_toArray, List.set_cons_zero, List.set_cons_succ])
                      refine wpAnyH_take (i := 6) (oi := { dst := some 209, op := Go.Op.indexAddr 23 (Go.Operand.tmp 204) (Go.Operand.tmp 208), type := 0, pos := "law.go:73", after := #[{ on := 1, ground := Go.Ground.data }, { on := 5, ground := Go.Ground.data }], guard := none }) (v := ?uvr26x6) rfl (by kernel_rfl) (by kernel_rfl) (by kernel_rfl) (fun _ _ _ h => h) (Or.inl ⟨by rfl, ?uyr26x6⟩) (by assumption) ?urr26x6
                      case uyr26x6 => (intro w hSw; (try dsimp only at hSw); go_simp; try with_reducible rfl)
                      (try simp only [Act.put, List.setIfInBounds_toArray, List.set_cons_zero, List.set_cons_succ])
                      refine wpAnyH_take (i := 7) (oi := { dst := some 210, op := Go.Op.load 50 (Go.Operand.tmp 209), type := 50, pos := "law.go:73", after := #[{ on := 6, ground := Go.Ground.data }], guard := none }) (v := ?uvr26x7) rfl (by kernel_rfl) (by kernel_rfl) (by kernel_rfl) (fun _ _ _ h => h) (Or.inl ⟨by rfl, ?uyr26x7⟩) (by assumption) ?urr26x7
                      case uyr26x7 => (intro w hSw; (try dsimp only at hSw); go_simp; try with_reducible rfl)
                      (try simp only [Act.put, List.setIfInBounds_toArray, List.set_cons_zero, List.set_cons_succ])
                      refine wpAnyH_take (i := 9) (oi := { dst := some 212, op := Go.Op.move (Go.Operand.tmp 9), type := 32, pos := "law.go:73", after := #[], guard := none }) (v := ?uvr26x8) rfl (by kernel_rfl) (by kernel_rfl) (by kernel_rfl) (fun _ _ _ h => h) (Or.inl ⟨by rfl, ?uyr26x8⟩) (by assumption) ?urr26x8
                      case uyr26x8 => (intro w hSw; (try dsimp only at hSw); go_simp; try with_reducible rfl)
                      (try simp only [Act.put, List.setIfInBounds_toArray, List.set_cons_zero, List.set_cons_succ])
                      refine wpAnyH_take (i := 10) (oi := { dst := some 213, op := Go.Op.indexAddr 50 (Go.Operand.tmp 16) (Go.Operand.const (Go.Value.int Go.IntKind.i64 0)), type := 0, pos := "law.go:73", after := #[], guard := none }) (v := ?uvr26x9) rfl (by kernel_rfl) (by kernel_rfl) (by kernel_rfl) (fun _ _ _ h => h) (Or.inl ⟨by rfl, ?uyr26x9⟩) (by assumption) ?urr26x9
                      case uyr26x9 => (intro w hSw; (try dsimp only at hSw); go_simp; try with_reducible rfl)
                      (try simp only [Act.put, List.setIfInBounds_toArray, List.set_cons_zero, List.set_cons_succ])
                      refine wpAnyH_take (i := 11) (oi := { dst := some 214, op := Go.Op.load 3 (Go.Operand.tmp 213), type := 3, pos := "law.go:73", after := #[{ on := 10, ground := Go.Ground.data }], guard := none }) (v := ?uvr26x10) rfl (by kernel_rfl) (by kernel_rfl) (by kernel_rfl) (fun _ _ _ h => h) (Or.inl ⟨by rfl, ?uyr26x10⟩) (by assumption) ?urr26x10
                      case uyr26x10 => (intro w hSw; (try dsimp only at hSw); go_simp; try with_reducible rfl)
                      (try simp only [Act.put, List.setIfInBounds_toArray, List.set_cons_zero, List.set_cons_succ])
                      refine wpAnyH_take (i := 12) (oi := { dst := some 215, op := Go.Op.indexAddr 32 (Go.Operand.tmp 212) (Go.Operand.tmp 214), type := 0, pos := "law.go:73", after := #[{ on := 9, ground := Go.Ground.data }, { on := 11, ground := Go.Ground.data }], guard := none }) (v := ?uvr26x11) rfl (by kernel_rfl) (by kernel_rfl) (by kernel_rfl) (fun _ _ _ h => h) (Or.inl ⟨by rfl, ?uyr26x11⟩) (by assumption) ?urr26x11
                      case uyr26x11 => (intro w hSw; (try dsimp only at hSw); go_simp; try with_reducible rfl)
                      (try simp only [Act.put, List.setIfInBounds_toArray, List.set_cons_zero, List.set_cons_succ])
                      refine wpAnyH_take (i := 13) (oi := { dst := some 216, op := Go.Op.load 3 (Go.Operand.tmp 215), type := 3, pos := "law.go:73", after := #[{ on := 12, ground := Go.Ground.data }], guard := none }) (v := ?uvr26x12) rfl (by kernel_rfl) (by kernel_rfl) (by kernel_rfl) (fun _ _ _ h => h) (Or.inl ⟨by rfl, ?uyr26x12⟩) (by assumption) ?urr26x12
                      case uyr26x12 => (intro w hSw; (try dsimp only at hSw); go_simp; try with_reducible rfl)
                      (try simp only [Act.put, List.setIfInBounds_toArray, List.set_cons_zero, List.set_cons_succ])
                      refine wpAnyH_take (i := 14) (oi := { dst := some 217, op := Go.Op.move (Go.Operand.tmp 9), type := 32, pos := "law.go:73", after := #[], guard := none }) (v := ?uvr26x13) rfl (by kernel_rfl) (by kernel_rfl) (by kernel_rfl) (fun _ _ _ h => h) (Or.inl ⟨by rfl, ?uyr26x13⟩) (by assumption) ?urr26x13
                      case uyr26x13 => (intro w hSw; (try dsimp only at hSw); go_simp; try with_reducible rfl)
                      (try simp only [Act.put, List.setIfInBounds_toArray, List.set_cons_zero, List.set_cons_succ])
                      refine wpAnyH_take (i := 15) (oi := { dst := some 218, op := Go.Op.indexAddr 50 (Go.Operand.tmp 16) (Go.Operand.const (Go.Value.int Go.IntKind.i64 1)), type := 0, pos := "law.go:73", after := #[], guard := none }) (v := ?uvr26x14) rfl (by kernel_rfl) (by kernel_rfl) (by kernel_rfl) (fun _ _ _ h => h) (Or.inl ⟨by rfl, ?uyr26x14⟩) (by assumption) ?urr26x14
                      case uyr26x14 => (intro w hSw; (try dsimp only at hSw); go_simp; try with_reducible rfl)
                      (try simp only [Act.put, List.setIfInBounds_toArray, List.set_cons_zero, List.set_cons_succ])
                      refine wpAnyH_take (i := 16) (oi := { dst := some 219, op := Go.Op.load 3 (Go.Operand.tmp 218), type := 3, pos := "law.go:73", after := #[{ on := 15, ground := Go.Ground.data }], guard := none }) (v := ?uvr26x15) rfl (by kernel_rfl) (by kernel_rfl) (by kernel_rfl) (fun _ _ _ h => h) (Or.inl ⟨by rfl, ?uyr26x15⟩) (by assumption) ?urr26x15
                      case uyr26x15 => (intro w hSw; (try dsimp only at hSw); go_simp; try with_reducible rfl)
                      (try simp only [Act.put, List.setIfInBounds_toArray, List.set_cons_zero, List.set_cons_succ])
                      refine wpAnyH_take (i := 17) (oi := { dst := some 220, op := Go.Op.indexAddr 32 (Go.Operand.tmp 217) (Go.Operand.tmp 219), type := 0, pos := "law.go:73", after := #[{ on := 14, ground := Go.Ground.data }, { on := 16, ground := Go.Ground.data }], guard := none }) (v := ?uvr26x16) rfl (by kernel_rfl) (by kernel_rfl) (by kernel_rfl) (fun _ _ _ h => h) (Or.inl ⟨by rfl, ?uyr26x16⟩) (by assumption) ?urr26x16
                      case uyr26x16 => (intro w hSw; (try dsimp only at hSw); go_simp; try with_reducible rfl)
                      (try simp only [Act.put, List.setIfInBounds_toArray, List.set_cons_zero, List.set_cons_succ])
                      refine wpAnyH_take (i := 18) (oi := { dst := some 221, op := Go.Op.load 3 (Go.Operand.tmp 220), type := 3, pos := "law.go:73", after := #[{ on := 17, ground := Go.Ground.data }], guard := none }) (v := ?uvr26x17) rfl (by kernel_rfl) (by kernel_rfl) (by kernel_rfl) (fun _ _ _ h => h) (Or.inl ⟨by rfl, ?uyr26x17⟩) (by assumption) ?urr26x17
                      case uyr26x17 => (intro w hSw; (try dsimp only at hSw); go_simp; try with_reducible rfl)
                      (try simp only [Act.put, List.setIfInBounds_toArray, List.set_cons_zero, List.set_cons_succ])
                      refine wpAnyH_ready (rs := [8]) (by kernel_rfl) (by simp) ?_
                      refine AllReadyH.cons (o := { dst := some 211, op := Go.Op.buildSlice 23 1 #[(0, Go.Operand.tmp 210)], type := 23, pos := "law.go:73", after := #[{ on := 7, ground := Go.Ground.data }], guard := none }) rfl (fun K hK => ?_) AllReadyH.nil
                      go_simp
                      have HB1 : Hid (Below Wx.heap.size Wx (Wx.alloc (.cells #[.int .i64 t1, .int .i64 t2, .int .i64 t3] 50)).drew) := (new_alloc (Below.refl _ _) _).drew
                      refine hK.out _ _ ?_ (fun hHeld => ?_)
                      · exact HSx.out _ HB1.out
                      clear hK K
                      (try simp only [Act.put, List.setIfInBounds_toArray, List.set_cons_zero, List.set_cons_succ])
                      refine wpAnyH_ready (rs := [19]) (by kernel_rfl) (by simp) ?_
                      refine AllReadyH.cons (o := { dst := some 222, op := Go.Op.call { callee := Go.Callee.value (Go.Operand.func 20), args := #[Go.Operand.tmp 211, Go.Operand.tmp 216, Go.Operand.tmp 221], argTypes := #[23, 3, 3] }, type := 3, pos := "law.go:73", after := #[{ on := 8, ground := Go.Ground.data }, { on := 13, ground := Go.Ground.data }, { on := 18, ground := Go.Ground.data }], guard := none }) rfl (fun K hK => ?_) AllReadyH.nil
                      go_simp
                      (go_at_call 20; (with_reducible refine (HH1.out _ _ ((HasK.new_at 3 Wx #[.int .i64 t1, .int .i64 t2, .int .i64 t3] 50 Wx.heap.size 1 rfl rfl).kept (Below.refl _ _).drew)).mono ?_); rintro e v1 ⟨rfl, rfl⟩)
                      refine hK.out _ _ ?_ (fun hHeld => ?_)
                      · exact HSx.out _ HB1.out
                      clear hK K
                      (try simp only [Act.put, List.setIfInBounds_toArray, List.set_cons_zero, List.set_cons_succ])
                      refine wpAnyH_take (i := 20) (oi := { dst := some 223, op := Go.Op.binOp Go.BinOp.neq 3 (Go.Operand.tmp 222) (Go.Operand.const (Go.Value.int Go.IntKind.i64 0)) 3, type := 4, pos := "law.go:73", after := #[{ on := 19, ground := Go.Ground.data }], guard := none }) (v := ?uvr26x18) rfl (by kernel_rfl) (by kernel_rfl) (by kernel_rfl) (fun _ _ _ h => h) (Or.inl ⟨by rfl, ?uyr26x18⟩) (by assumption) ?urr26x18
                      case uyr26x18 => (intro w hSw; (try dsimp only at hSw); go_simp; try with_reducible rfl)
                      (try simp only [Act.put, List.setIfInBounds_toArray, List.set_cons_zero, List.set_cons_succ])
                      refine wpAnyH_take (i := 21) (oi := { dst := some 224, op := Go.Op.move (Go.Operand.tmp 223), type := 4, pos := "law.go:73", after := #[{ on := 20, ground := Go.Ground.data }, { on := 19, ground := Go.Ground.chain }], guard := none }) (v := ?uvr26x19) rfl (by kernel_rfl) (by kernel_rfl) (by kernel_rfl) (fun _ _ _ h => h) (Or.inl ⟨by rfl, ?uyr26x19⟩) (by assumption) ?urr26x19
                      case uyr26x19 => (intro w hSw; (try dsimp only at hSw); go_simp; try with_reducible rfl)
                      (try simp only [Act.put, List.setIfInBounds_toArray, List.set_cons_zero, List.set_cons_succ])
                      refine wpAnyH_take (i := 22) (oi := { dst := some 225, op := Go.Op.fieldAddr 25 (Go.Operand.tmp 1) 1, type := 0, pos := "law.go:73", after := #[{ on := 21, ground := Go.Ground.guard }], guard := some (21, false) }) (v := ?uvr26x20) rfl (by kernel_rfl) (by kernel_rfl) (by kernel_rfl) (fun _ _ _ h => h) (Or.inl ⟨by rfl, ?uyr26x20⟩) (by assumption) ?urr26x20
                      case uyr26x20 => (intro w hSw; (try dsimp only at hSw); go_simp; try with_reducible rfl)
                      (try simp only [Act.put, List.setIfInBounds_toArray, List.set_cons_zero, List.set_cons_succ])
                      refine wpAnyH_take (i := 23) (oi := { dst := some 226, op := Go.Op.load 23 (Go.Operand.tmp 225), type := 23, pos := "law.go:73", after := #[{ on := 22, ground := Go.Ground.data }, { on := 21, ground := Go.Ground.guard }], guard := some (21, false) }) (v := ?uvr26x21) rfl (by kernel_rfl) (by kernel_rfl) (by kernel_rfl) (fun _ _ _ h => h) (Or.inl ⟨by rfl, ?uyr26x21⟩) (by assumption) ?urr26x21
                      case uyr26x21 => (intro w hSw; (try dsimp only at hSw); go_simp; try with_reducible rfl)
                      (try simp only [Act.put, List.setIfInBounds_toArray, List.set_cons_zero, List.set_cons_succ])
                      refine wpAnyH_take (i := 24) (oi := { dst := some 227, op := Go.Op.move (Go.Operand.tmp 10), type := 32, pos := "law.go:73", after := #[{ on := 21, ground := Go.Ground.guard }], guard := some (21, false) }) (v := ?uvr26x22) rfl (by kernel_rfl) (by kernel_rfl) (by kernel_rfl) (fun _ _ _ h => h) (Or.inl ⟨by rfl, ?uyr26x22⟩) (by assumption) ?urr26x22
                      case uyr26x22 => (intro w hSw; (try dsimp only at hSw); go_simp; try with_reducible rfl)
                      (try simp only [Act.put, List.setIfInBounds_toArray, List.set_cons_zero, List.set_cons_succ])
                      refine wpAnyH_take (i := 25) (oi := { dst := some 228, op := Go.Op.move (Go.Operand.tmp 15), type := 3, pos := "law.go:73", after := #[{ on := 21, ground := Go.Ground.guard }], guard := some (21, false) }) (v := ?uvr26x23) rfl (by kernel_rfl) (by kernel_rfl) (by kernel_rfl) (fun _ _ _ h => h) (Or.inl ⟨by rfl, ?uyr26x23⟩) (by assumption) ?urr26x23
                      case uyr26x23 => (intro w hSw; (try dsimp only at hSw); go_simp; try with_reducible rfl)
                      (try simp only [Act.put, List.setIfInBounds_toArray, List.set_cons_zero, List.set_cons_succ])
                      refine wpAnyH_take (i := 26) (oi := { dst := some 229, op := Go.Op.indexAddr 32 (Go.Operand.tmp 227) (Go.Operand.tmp 228), type := 0, pos := "law.go:73", after := #[{ on := 24, ground := Go.Ground.data }, { on := 25, ground := Go.Ground.data }, { on := 21, ground := Go.Ground.guard }], guard := some (21, false) }) (v := ?uvr26x24) rfl (by kernel_rfl) (by kernel_rfl) (by kernel_rfl) (fun _ _ _ h => h) (Or.inl ⟨by rfl, ?uyr26x24⟩) (by assumption) ?urr26x24
                      case uyr26x24 => (intro w hSw; (try dsimp only at hSw); go_simp; try with_reducible rfl)
                      (try simp only [Act.put, List.setIfInBounds_toArray, List.set_cons_zero, List.set_cons_succ])
                      refine wpAnyH_take (i := 27) (oi := { dst := some 230, op := Go.Op.load 3 (Go.Operand.tmp 229), type := 3, pos := "law.go:73", after := #[{ on := 26, ground := Go.Ground.data }, { on := 21, ground := Go.Ground.guard }], guard := some (21, false) }) (v := ?uvr26x25) rfl (by kernel_rfl) (by kernel_rfl) (by kernel_rfl) (fun _ _ _ h => h) (Or.inl ⟨by rfl, ?uyr26x25⟩) (by assumption) ?urr26x25
                      case uyr26x25 => (intro w hSw; (try dsimp only at hSw); go_simp; try with_reducible rfl)
                      (try simp only [Act.put, List.setIfInBounds_toArray, List.set_cons_zero, List.set_cons_succ])
                      refine wpAnyH_take (i := 28) (oi := { dst := some 231, op := Go.Op.indexAddr 23 (Go.Operand.tmp 226) (Go.Operand.tmp 230), type := 0, pos := "law.go:73", after := #[{ on := 23, ground := Go.Ground.data }, { on := 27, ground := Go.Ground.data }, { on := 21, ground := Go.Ground.guard }], guard := some (21, false) }) (v := ?uvr26x26) rfl (by kernel_rfl) (by kernel_rfl) (by kernel_rfl) (fun _ _ _ h => h) (Or.inl ⟨by rfl, ?uyr26x26⟩) (by assumption) ?urr26x26
                      case uyr26x26 => (intro w hSw; (try dsimp only at hSw); go_simp; try with_reducible rfl)
                      (try simp only [Act.put, List.setIfInBounds_toArray, List.set_cons_zero, List.set_cons_succ])
                      refine wpAnyH_take (i := 29) (oi := { dst := some 232, op := Go.Op.load 50 (Go.Operand.tmp 231), type := 50, pos := "law.go:73", after := #[{ on := 28, ground := Go.Ground.data }, { on := 21, ground := Go.Ground.guard }], guard := some (21, false) }) (v := ?uvr26x27) rfl (by kernel_rfl) (by kernel_rfl) (by kernel_rfl) (fun _ _ _ h => h) (Or.inl ⟨by rfl, ?uyr26x27⟩) (by assumption) ?urr26x27
                      case uyr26x27 => (intro w hSw; (try dsimp only at hSw); go_simp; try with_reducible rfl)
                      (try simp only [Act.put, List.setIfInBounds_toArray, List.set_cons_zero, List.set_cons_succ])
                      refine wpAnyH_take (i := 31) (oi := { dst := some 234, op := Go.Op.move (Go.Operand.tmp 9), type := 32, pos := "law.go:73", after := #[{ on := 21, ground := Go.Ground.guard }], guard := some (21, false) }) (v := ?uvr26x28) rfl (by kernel_rfl) (by kernel_rfl) (by kernel_rfl) (fun _ _ _ h => h) (Or.inl ⟨by rfl, ?uyr26x28⟩) (by assumption) ?urr26x28
                      case uyr26x28 => (intro w hSw; (try dsimp only at hSw); go_simp; try with_reducible rfl)
                      (try simp only [Act.put, List.setIfInBounds_toArray, List.set_cons_zero, List.set_cons_succ])
                      refine wpAnyH_take (i := 32) (oi := { dst := some 235, op := Go.Op.indexAddr 50 (Go.Operand.tmp 16) (Go.Operand.const (Go.Value.int Go.IntKind.i64 1)), type := 0, pos := "law.go:73", after := #[{ on := 21, ground := Go.Ground.guard }], guard := some (21, false) }) (v := ?uvr26x29) rfl (by kernel_rfl) (by kernel_rfl) (by kernel_rfl) (fun _ _ _ h => h) (Or.inl ⟨by rfl, ?uyr26x29⟩) (by assumption) ?urr26x29
                      case uyr26x29 => (intro w hSw; (try dsimp only at hSw); go_simp; try with_reducible rfl)
                      (try simp only [Act.put, List.setIfInBounds_toArray, List.set_cons_zero, List.set_cons_succ])
                      refine wpAnyH_take (i := 33) (oi := { dst := some 236, op := Go.Op.load 3 (Go.Operand.tmp 235), type := 3, pos := "law.go:73", after := #[{ on := 32, ground := Go.Ground.data }, { on := 21, ground := Go.Ground.guard }], guard := some (21, false) }) (v := ?uvr26x30) rfl (by kernel_rfl) (by kernel_rfl) (by kernel_rfl) (fun _ _ _ h => h) (Or.inl ⟨by rfl, ?uyr26x30⟩) (by assumption) ?urr26x30
                      case uyr26x30 => (intro w hSw; (try dsimp only at hSw); go_simp; try with_reducible rfl)
                      (try simp only [Act.put, List.setIfInBounds_toArray, List.set_cons_zero, List.set_cons_succ])
                      refine wpAnyH_take (i := 34) (oi := { dst := some 237, op := Go.Op.indexAddr 32 (Go.Operand.tmp 234) (Go.Operand.tmp 236), type := 0, pos := "law.go:73", after := #[{ on := 31, ground := Go.Ground.data }, { on := 33, ground := Go.Ground.data }, { on := 21, ground := Go.Ground.guard }], guard := some (21, false) }) (v := ?uvr26x31) rfl (by kernel_rfl) (by kernel_rfl) (by kernel_rfl) (fun _ _ _ h => h) (Or.inl ⟨by rfl, ?uyr26x31⟩) (by assumption) ?urr26x31
                      case uyr26x31 => (intro w hSw; (try dsimp only at hSw); go_simp; try with_reducible rfl)
                      (try simp only [Act.put, List.setIfInBounds_toArray, List.set_cons_zero, List.set_cons_succ])
                      refine wpAnyH_take (i := 35) (oi := { dst := some 238, op := Go.Op.load 3 (Go.Operand.tmp 237), type := 3, pos := "law.go:73", after := #[{ on := 34, ground := Go.Ground.data }, { on := 21, ground := Go.Ground.guard }], guard := some (21, false) }) (v := ?uvr26x32) rfl (by kernel_rfl) (by kernel_rfl) (by kernel_rfl) (fun _ _ _ h => h) (Or.inl ⟨by rfl, ?uyr26x32⟩) (by assumption) ?urr26x32
                      case uyr26x32 => (intro w hSw; (try dsimp only at hSw); go_simp; try with_reducible rfl)
                      (try simp only [Act.put, List.setIfInBounds_toArray, List.set_cons_zero, List.set_cons_succ])
                      refine wpAnyH_take (i := 36) (oi := { dst := some 239, op := Go.Op.move (Go.Operand.tmp 9), type := 32, pos := "law.go:73", after := #[{ on := 21, ground := Go.Ground.guard }], guard := some (21, false) }) (v := ?uvr26x33) rfl (by kernel_rfl) (by kernel_rfl) (by kernel_rfl) (fun _ _ _ h => h) (Or.inl ⟨by rfl, ?uyr26x33⟩) (by assumption) ?urr26x33
                      case uyr26x33 => (intro w hSw; (try dsimp only at hSw); go_simp; try with_reducible rfl)
                      (try simp only [Act.put, List.setIfInBounds_toArray, List.set_cons_zero, List.set_cons_succ])
                      refine wpAnyH_take (i := 37) (oi := { dst := some 240, op := Go.Op.indexAddr 50 (Go.Operand.tmp 16) (Go.Operand.const (Go.Value.int Go.IntKind.i64 2)), type := 0, pos := "law.go:73", after := #[{ on := 21, ground := Go.Ground.guard }], guard := some (21, false) }) (v := ?uvr26x34) rfl (by kernel_rfl) (by kernel_rfl) (by kernel_rfl) (fun _ _ _ h => h) (Or.inl ⟨by rfl, ?uyr26x34⟩) (by assumption) ?urr26x34
                      case uyr26x34 => (intro w hSw; (try dsimp only at hSw); go_simp; try with_reducible rfl)
                      (try simp only [Act.put, List.setIfInBounds_toArray, List.set_cons_zero, List.set_cons_succ])
                      refine wpAnyH_take (i := 38) (oi := { dst := some 241, op := Go.Op.load 3 (Go.Operand.tmp 240), type := 3, pos := "law.go:73", after := #[{ on := 37, ground := Go.Ground.data }, { on := 21, ground := Go.Ground.guard }], guard := some (21, false) }) (v := ?uvr26x35) rfl (by kernel_rfl) (by kernel_rfl) (by kernel_rfl) (fun _ _ _ h => h) (Or.inl ⟨by rfl, ?uyr26x35⟩) (by assumption) ?urr26x35
                      case uyr26x35 => (intro w hSw; (try dsimp only at hSw); go_simp; try with_reducible rfl)
                      (try simp only [Act.put, List.setIfInBounds_toArray, List.set_cons_zero, List.set_cons_succ])
                      refine wpAnyH_take (i := 39) (oi := { dst := some 242, op := Go.Op.indexAddr 32 (Go.Operand.tmp 239) (Go.Operand.tmp 241), type := 0, pos := "law.go:73", after := #[{ on := 36, ground := Go.Ground.data }, { on := 38, ground := Go.Ground.data }, { on := 21, ground := Go.Ground.guard }], guard := some (21, false) }) (v := ?uvr26x36) rfl (by kernel_rfl) (by kernel_rfl) (by kernel_rfl) (fun _ _ _ h => h) (Or.inl ⟨by rfl, ?uyr26x36⟩) (by assumption) ?urr26x36
                      case uyr26x36 => (intro w hSw; (try dsimp only at hSw); go_simp; try with_reducible rfl)
                      (try simp only [Act.put, List.setIfInBounds_toArray, List.set_cons_zero, List.set_cons_succ])
                      refine wpAnyH_take (i := 40) (oi := { dst := some 243, op := Go.Op.load 3 (Go.Operand.tmp 242), type := 3, pos := "law.go:73", after := #[{ on := 39, ground := Go.Ground.data }, { on := 21, ground := Go.Ground.guard }], guard := some (21, false) }) (v := ?uvr26x37) rfl (by kernel_rfl) (by kernel_rfl) (by kernel_rfl) (fun _ _ _ h => h) (Or.inl ⟨by rfl, ?uyr26x37⟩) (by assumption) ?urr26x37
                      case uyr26x37 => (intro w hSw; (try dsimp only at hSw); go_simp; try with_reducible rfl)
                      (try simp only [Act.put, List.setIfInBounds_toArray, List.set_cons_zero, List.set_cons_succ])
                      refine wpAnyH_ready (rs := [30]) (by kernel_rfl) (by simp) ?_
                      refine AllReadyH.cons (o := { dst := some 233, op := Go.Op.buildSlice 23 1 #[(0, Go.Operand.tmp 232)], type := 23, pos := "law.go:73", after := #[{ on := 29, ground := Go.Ground.data }, { on := 21, ground := Go.Ground.guard }], guard := some (21, false) }) rfl (fun K hK => ?_) AllReadyH.nil
                      go_simp
                      have HB2 : Hid (Below Wx.heap.size Wx ((Wx.alloc (.cells #[.int .i64 t1, .int .i64 t2, .int .i64 t3] 50)).alloc (.cells #[.int .i64 t1, .int .i64 t2, .int .i64 t3] 50)).drew) := (new_alloc (new_alloc (Below.refl _ _) _) _).drew
                      refine hK.out _ _ ?_ (fun hHeld => ?_)
                      · exact HSx.out _ HB2.out
                      clear hK K
                      (try simp only [Act.put, List.setIfInBounds_toArray, List.set_cons_zero, List.set_cons_succ])
                      refine wpAnyH_ready (rs := [41]) (by kernel_rfl) (by simp) ?_
                      refine AllReadyH.cons (o := { dst := some 244, op := Go.Op.call { callee := Go.Callee.value (Go.Operand.func 20), args := #[Go.Operand.tmp 233, Go.Operand.tmp 238, Go.Operand.tmp 243], argTypes := #[23, 3, 3] }, type := 3, pos := "law.go:73", after := #[{ on := 30, ground := Go.Ground.data }, { on := 35, ground := Go.Ground.data }, { on := 40, ground := Go.Ground.data }, { on := 21, ground := Go.Ground.chain }, { on := 21, ground := Go.Ground.guard }], guard := some (21, false) }) rfl (fun K hK => ?_) AllReadyH.nil
                      go_simp
                      (go_at_call 20; (with_reducible refine (HH2.out _ _ ((HasK.new_at 3 (Wx.alloc (.cells #[.int .i64 t1, .int .i64 t2, .int .i64 t3] 50)) #[.int .i64 t1, .int .i64 t2, .int .i64 t3] 50 (Wx.heap.size + 1) 1 (by simp) rfl).kept (Below.refl _ _).drew)).mono ?_); rintro e v1 ⟨rfl, rfl⟩)
                      refine hK.out _ _ ?_ (fun hHeld => ?_)
                      · exact HSx.out _ HB2.out
                      clear hK K
                      (try simp only [Act.put, List.setIfInBounds_toArray, List.set_cons_zero, List.set_cons_succ])
                      refine wpAnyH_take (i := 42) (oi := { dst := some 245, op := Go.Op.binOp Go.BinOp.neq 3 (Go.Operand.tmp 244) (Go.Operand.const (Go.Value.int Go.IntKind.i64 0)) 3, type := 4, pos := "law.go:73", after := #[{ on := 41, ground := Go.Ground.data }, { on := 21, ground := Go.Ground.guard }], guard := some (21, false) }) (v := ?uvr26x38) rfl (by kernel_rfl) (by kernel_rfl) (by kernel_rfl) (fun _ _ _ h => h) (Or.inl ⟨by rfl, ?uyr26x38⟩) (by assumption) ?urr26x38
                      case uyr26x38 => (intro w hSw; (try dsimp only at hSw); go_simp; try with_reducible rfl)
                      (try simp only [Act.put, List.setIfInBounds_toArray, List.set_cons_zero, List.set_cons_succ])
                      refine wpAnyH_take (i := 43) (oi := { dst := some 246, op := Go.Op.pick (Go.Operand.tmp 224) (Go.Operand.const (Go.Value.bool true)) (Go.Operand.tmp 245), type := 4, pos := "law.go:73", after := #[{ on := 21, ground := Go.Ground.data }, { on := 42, ground := Go.Ground.data }], guard := none }) (v := ?uvr26x39) rfl (by kernel_rfl) (by kernel_rfl) (by kernel_rfl) (fun _ _ _ h => h) (Or.inl ⟨by rfl, ?uyr26x39⟩) (by assumption) ?urr26x39
                      case uyr26x39 => (intro w hSw; (try dsimp only at hSw); go_simp; try with_reducible rfl)
                      (try simp only [Act.put, List.setIfInBounds_toArray, List.set_cons_zero, List.set_cons_succ])
                      refine wpAnyH_done (by kernel_rfl) ?_ _
                      go_wp2_with (with_reducible fail)
                      go_meet
                      case rel => exact ⟨rfl, HB2.out⟩
                  case rest =>
                    as_aux_lemma =>
                      obtain ⟨rfl, HBd⟩ := hcut
                      have HR4 := Lib.hid (HR3.out.below HBd.out HR3.out.lt)
                      have HB4 := Lib.hid (HB3.out.trans (HBd.out.mono HB3.out.size))
                      clear HR3 HB3 HBd HX3
                      go_wp2
                      go_roundg (gk - 1)
                      case measure => omega
                      case rel => exact ⟨i + 1, by omega, by go_num, HR4, HB4⟩
            · have ti : decide ((i : Int) < (m : Int)) = false := by simp; omega
              have HBe := Lib.hid (HMB.out _ (HUp.out _ HB.out))
              clear m0 m1 k0 k1
              go_wp2_with (with_reducible fail)
              refine (HKn.out _ HBe.out).mono ?_
              rintro e wz ⟨rfl, hbz⟩
              go_wp2
              go_ret
              exact ⟨rfl, new_call HBe.out hbz⟩
    · have HCa := Lib.hid (fun w (hW : Below W.heap.size W w) => walkCanon_any A n c P B m d T r w (hbe.kept hW) (hp.kept hW) (ht.kept hW) (by omega) (by omega) hr)
      rw [if_neg h0, if_neg h0] at HCa
      have HIs : Hid (∀ w, Below W.heap.size W w → Calls Tryd.prog 19 #[.agg #[.slice A n c, .slice B m d]] w fun e w' => e = .returned (.bool false) ∧ Below w.heap.size w w') := fun w hW => by
        have := walkIs_any A n c P B m d T r w (hbe.kept hW) (hp.kept hW) (ht.kept hW) (by omega) (by omega) hr
        rw [decide_eq_false fun h => h0 h.1] at this
        exact this
      have tr : (r != 0) = true := bne_iff_ne.2 h0
      clear hp ht hr hl h0 hbe hTm hPn
      go_enter Tryd.func5, Tryd.ntmps5
      go_wp2_with fail
      refine (HLo.out _).mono ?_
      rintro e w1 ⟨rfl, hb1⟩
      have HK1 := Lib.hid (HK0.out.next hb1)
      clear hb1 HK0 m0 m1
      have m0 := HK1.out.b0.cell 0
      have m1 := HK1.out.b0.cell 1
      go_wp2_with fail
      refine (HCa.out _ HK1.out.bel).mono ?_
      rintro e w2 ⟨A2, c2, B2, d2, rfl, _, _, hb2⟩
      have HK2 := Lib.hid ((HK1.out.next hb2).next (new_alloc (Below.refl _ w2) (.cells #[.slice A2 0 c2, .slice B2 0 d2] 25)))
      have HC2 := Lib.hid (Blk.new w2 25 #[.slice A2 0 c2, .slice B2 0 d2])
      clear hb2 HK1 m0 m1
      have m0 := HK2.out.b0.cell 0
      have m1 := HK2.out.b0.cell 1
      have k1 := HC2.out.cell 1
      go_wp2_with fail
      refine (HIs.out _ HK2.out.bel).mono ?_
      rintro e w3 ⟨rfl, hb3⟩
      have HK3 := Lib.hid (HK2.out.next hb3)
      clear hb3 HK2 HC2 m0 m1 k1
      go_wp2_with fail
      refine (HKn.out _ HK3.out.bel).mono ?_
      rintro e w5 ⟨rfl, hb5⟩
      go_wp2
      go_ret
      exact ⟨rfl, new_call HK3.out.bel hb5⟩
  · have HLo := Lib.hid (fun w => lawlong_any A n c B m d true w (by rw [Bool.or_eq_true, decide_eq_true_eq, decide_eq_true_eq]; omega))
    clear hp ht hl hbe
    go_enter Tryd.func5, Tryd.ntmps5
    go_wp2_with fail
    refine (HLo.out _).mono ?_
    rintro e w1 ⟨rfl, hb1⟩
    have HK1 := Lib.hid (HK0.out.next hb1)
    clear hb1 HK0 m0 m1
    go_wp2_with fail
    refine (HKn.out _ HK1.out.bel).mono ?_
    rintro e w9 ⟨rfl, hb9⟩
    go_wp2
    go_ret
    exact ⟨rfl, new_call HK1.out.bel hb9⟩

set_option maxRecDepth 100000 in
theorem reads (os : Os) {H : Type} (enc : TypeId × Value → H) : ∃ places, DataW.whole enc Tryd.prog ((laidWorld os).forCall (fun _ _ => 0) ⟨#[], #[.agg #[.slice none 0 0, .slice none 0 0]], []⟩).memory Tryd.f5.params.toList Rows.walkOnceSpec.vars false (#[.agg #[.slice none 0 0, .slice none 0 0]] : Array Value).toList 8 = some ([.agg [.nil, .nil]], [], places) := ⟨[], by kernel_rfl⟩
set_option maxRecDepth 100000 in
theorem lifted (os : Os) (started : os.Started) (H : Type) (enc : TypeId × Value → H) (F : Stop.Interp) :
    ReturnsInHanded {} Tryd.checked os 5 .any ((OpenSpec.ofChange Rows.walkOnceSpec).preRow enc Tryd.prog Tryd.f5 Rows.walkOnceRow.domain false Rows.walkOnceRow.laid) (((OpenSpec.ofChange Rows.walkOnceSpec).at F).post enc Tryd.prog Tryd.f5 false true false false) := by
  obtain ⟨places, hx⟩ := reads os enc
  refine returnsInHanded_of_row (C := Tryd.checked) (s := OpenSpec.ofChange Rows.walkOnceSpec) Tryd.own started (by kernel_rfl) Tryd.func5
    (witness_row_at (enc := enc) (C := Tryd.checked) false (laidWorld os) #[.agg #[.slice none 0 0, .slice none 0 0]] rfl (by kernel_rfl) (by kernel_rfl) (by kernel_rfl)
      (OpenSpec.preRow_of_cond 8 hx (by kernel_rfl) (fun k hk => by cases hk) (by kernel_rfl) (laidMet_of_run' 8 (by kernel_rfl) (by kernel_rfl)))) ?_
  intro W base args ds gs before hval0 hW _ _ hsz0 hL _ _
  have hbe : BehW W := behW_of_laid hL
  have hval : ∀ (j : Nat) t v, Tryd.f5.params[j]? = some t → args[j]? = some v → Value.okWide Tryd.prog W .any base t v := hval0
  have hW' := hW
  obtain ⟨p, q, hA0, hV, rfl, _, _⟩ := hW
  have hA : DataW.TrodAll enc Tryd.prog W 0 (fun _ => true) true Tryd.f5.params.toList args.toList ds p := hA0
  rw [Tryd.params5] at hA hval
  obtain ⟨v0, d0, rfl, rfl, h0⟩ := trodAll_one hA
  obtain ⟨rfl, rfl⟩ := trodVars_none hV
  obtain ⟨A0, n0, c0, P0, B0, m0, e0, T0, rfl, hp0, ht0, bp0, bt0, hn0, hm0⟩ := open_mesh (hval 0 25 v0 rfl rfl) h0
  exact (walk A0 n0 c0 P0 B0 m0 e0 T0 W hbe hp0 ht0 bp0 bt0 hn0 hm0).mono fun e W' he =>
    law_post rfl rfl (by rw [Tryd.params5]; intro t ht; simp at ht; subst ht; exact ⟨by kernel_rfl, of_decide_eq_true (by kernel_rfl)⟩) hW' rfl he

theorem said : Rows.WalkOnceSaid :=
  OpenClaim.holds_of_cond 5 Tryd.f5 rfl rfl rfl rfl rfl rfl rfl ⟨rfl, rfl, rfl, rfl, rfl⟩ rfl rfl rfl rfl rfl (by kernel_rfl) Tryd.func5 (by kernel_rfl)
    (of_decide_eq_true (by kernel_rfl)) (by unfold Func.isWrapper; first | (rw [if_pos (by decide +kernel)]; kernel_rfl) | (rw [if_neg (by decide +kernel)]; exact ⟨rfl, rfl⟩))
    (fun os started H enc _ F => by rw [OpenClaim.pre_eq_preRow]; exact lifted os started H enc F)
theorem plain (f : FuncId) (fn : Func) (hf : Tryd.pinned.checked.prog.funcNamed "lapidary/lapidarylaw11.WalkOnce" = some f) (hfn : Tryd.pinned.checked.prog.funcs[f]? = some fn) :
    false = Tryd.pinned.checked.prog.looks [] ∧ ∀ (j : Nat) t, fn.params[j]? = some t → Tryd.pinned.checked.prog.wantsStandIn t = false := by
  obtain rfl : f = 5 := Option.some.inj ((show Tryd.prog.funcNamed "lapidary/lapidarylaw11.WalkOnce" = some 5 by kernel_rfl).symm.trans hf) |>.symm
  obtain rfl : fn = Tryd.f5 := (Option.some.inj (Tryd.func5.symm.trans hfn)).symm
  refine ⟨by kernel_rfl, fun j t ht => ?_⟩
  rw [Tryd.params5] at ht
  have hm : t ∈ [25] := by simpa using Array.mem_of_getElem? ht
  have hall : ([25].all fun u => !Tryd.prog.wantsStandIn u) = true := by kernel_rfl
  exact (show Tryd.prog.wantsStandIn t = false by simpa using List.all_eq_true.1 hall t hm)
theorem proved : Rows.WalkOnceCardSaid :=
  Claim7.holds_tied_plain_at .later [] _ _ _ _ said (fun _ h => by cases h) (by kernel_rfl) (fun _ h => by cases h) walkOnce_row_tie rfl ⟨rfl, rfl⟩ (by kernel_rfl) rfl plain (by kernel_rfl)
end Go.Proofs.YtjahphfjobnkaaaDoor.walkOnce
