/- Of a surface as many edges of the border begin at a vertex as end there, one at most; without a border three edges are to two triangles, and Euler's number is even for each piece: whatever mesh comes in, MeshBorders answers true. -/
import Derived.Test.YtckjmnbglbegmaaDoorMeshBord
import Derived.Test.YtckjmnbglbegmaaDoorLawMesh
import Derived.Test.YtckjmnbglbegmaaDoorLawLaid
namespace Go.Proofs.YtckjmnbglbegmaaDoor.meshBorders
open Go.ChangeShapes Go.WideShapes Go.ChangeAt Go.RowKit

set_option maxRecDepth 100000 in
set_option maxHeartbeats 6400000 in
theorem walk (A : Option Addr) (n c : Nat) (P : List P3) (B : Option Addr) (m d : Nat) (T : List P3) (W : World) (hbe : BehW W) (hp : HasK 3 W A n c (p3Cells P)) (ht : HasK 3 W B m d (p3Cells T)) (_ : ∀ x ∈ P, i64T x) (_ : ∀ x ∈ T, i64T x) (_ : n ≤ 9223372036854775807) (_ : m ≤ 9223372036854775807) : Calls Tryd.prog 6 #[.agg #[.slice A n c, .slice B m d]] W fun e w' => e = .returned (.bool true) ∧ Below W.heap.size W w' := by
  have HK0 := Lib.hid (MeshAt.new W (.slice A n c) (.slice B m d))
  have m0 := HK0.out.b0.cell 0
  have m1 := HK0.out.b0.cell 1
  have HKn := Lib.hid (fun w (hW : Below W.heap.size W w) => known10 w (hbe.kept hW))
  by_cases hl : n ≤ 40 ∧ m ≤ 60
  · have HLo := Lib.hid (fun w => lawlong_any A n c B m d false w (by rw [decide_eq_false (by omega), decide_eq_false (by omega)]; rfl))
    obtain ⟨r, hr⟩ := check_total P T
    have hPn : P.length = n := by have := hp.len; rw [p3Cells_len] at this; omega
    have hTm : T.length = m := by have := ht.len; rw [p3Cells_len] at this; omega
    have HCk := Lib.hid (fun w (hW : Below W.heap.size W w) => meshCheck_any A n c P B m d T r w (hbe.kept hW) (hp.kept hW) (ht.kept hW) (by omega) (by omega) hr)
    by_cases h0 : r = 0
    · subst h0
      obtain ⟨p, hpp⟩ := pieces_total T
      obtain ⟨_, hplm, hnd, hfn⟩ := check_zero hr
      have HEd : Hid (∀ w, Below W.heap.size W w → Calls Tryd.prog 16 #[.agg #[.slice A n c, .slice B m d]] w (Edgd w (edgesF P.length T false) 0)) := fun w hW => by
        have := meshEdges_any A n c P B m d T 0 w (hbe.kept hW) (hp.kept hW) (ht.kept hW) (by omega) (by omega) hr
        rw [if_pos rfl] at this
        exact this
      have HBo : Hid (∀ w, Below W.heap.size W w → Calls Tryd.prog 17 #[.agg #[.slice A n c, .slice B m d]] w (Edgd w (edgesF P.length T true) 0)) := fun w hW => by
        have := meshBorder_any A n c P B m d T 0 w (hbe.kept hW) (hp.kept hW) (ht.kept hW) (by omega) (by omega) hr
        rw [if_pos rfl] at this
        exact this
      have HPi : Hid (∀ w, Below W.heap.size W w → Calls Tryd.prog 18 #[.agg #[.slice A n c, .slice B m d]] w (Piecd w p 0)) := fun w hW => by
        have := meshPieces_any A n c P B m d T 0 p w (hbe.kept hW) (hp.kept hW) (ht.kept hW) (by omega) (by omega) hr (fun _ => hpp)
        rw [if_pos rfl] at this
        exact this
      have HEu : Hid (∀ w, Below W.heap.size W w → Calls Tryd.prog 19 #[.agg #[.slice A n c, .slice B m d]] w fun e w' => e = .returned (.tuple #[.int .i64 (eulerF P T), .int .i64 0]) ∧ Below w.heap.size w w') := fun w hW => by
        have := meshEuler_any A n c P B m d T 0 w (hbe.kept hW) (hp.kept hW) (ht.kept hW) (by omega) (by omega) hr
        rw [if_pos rfl] at this
        exact this
      have hLe : (edgesF P.length T false).length ≤ 1600 := Nat.le_trans (edges_le _ _ _) (by rw [hPn]; exact Nat.mul_le_mul hl.1 hl.1)
      have hMe : (edgesF P.length T true).length ≤ 1600 := Nat.le_trans (edges_le _ _ _) (by rw [hPn]; exact Nat.mul_le_mul hl.1 hl.1)
      have hpl : p.length ≤ 60 := by rw [hpp.len, hTm]; exact hl.2
      have heu : eulerF P T = (n : Int) - (edgesF P.length T false).length + m := by unfold eulerF; rw [hPn, hTm]
      have hct : 2 * (edgesF P.length T false).length = 3 * m + (edgesF P.length T true).length := by have := edges_count hplm hnd; rw [hTm] at this; exact this
      have hce : edgesF P.length T true = [] → n % 2 = (m + (edgesF P.length T false).length) % 2 ∧ n + m ≤ (edgesF P.length T false).length + 2 * maxNext p := fun h => by
        have := closed_euler hr h hpp
        constructor <;> omega
      have HIn : Hid (∀ e ∈ edgesF P.length T true, ∃ u v : Nat, u < n ∧ v < n ∧ e = ((u : Int), (v : Int))) := fun e he => hPn ▸ border_in he
      have HVt : Hid (∀ v : Nat, v < n → cntTo (edgesF P.length T true) Prod.fst (edgesF P.length T true).length v = cntTo (edgesF P.length T true) Prod.snd (edgesF P.length T true).length v ∧ cntTo (edgesF P.length T true) Prod.fst (edgesF P.length T true).length v ≤ 1) := fun v hv => by
        rw [cntTo_all, cntTo_all]
        exact border_vertex hplm hnd (hfn v (by rw [hPn]; exact hv))
      have HMx : Hid (∀ i, i ≤ p.length → maxNext (p.take i) ≤ i) := num_le (f := fun j => p[j]?.getD 0) hpp.rise (fun i hi => by simp only [List.getElem?_eq_getElem hi, Option.getD_some])
      generalize edgesF P.length T false = L at *
      generalize edgesF P.length T true = M at *
      rw [heu] at HEu
      have hn1 : n ≤ 100000 := by omega
      have hmk := fun w => run_makeCnt n hn1 w
      obtain ⟨hl1, hl2⟩ := hl
      clear hp ht hr hPn hTm hpp hnd heu hfn hplm
      go_enter Tryd.func6, Tryd.ntmps6
      go_wp2_with fail
      refine (HLo.out _).mono ?_
      rintro e w1 ⟨rfl, hb1⟩
      have HK1 := Lib.hid (HK0.out.next hb1)
      clear hb1 HK0 m0 m1
      have m0 := HK1.out.b0.cell 0
      have m1 := HK1.out.b0.cell 1
      go_wp2_with fail
      refine (HCk.out _ HK1.out.bel).mono ?_
      rintro e w2 ⟨rfl, hb2⟩
      have HK2 := Lib.hid (HK1.out.next hb2)
      clear hb2 HK1 m0 m1
      have m0 := HK2.out.b0.cell 0
      have m1 := HK2.out.b0.cell 1
      go_wp2_with fail
      refine (HEd.out _ HK2.out.bel).mono ?_
      rintro e w3 ⟨A3, c3, rfl, _, hb3, _⟩
      have HK3 := Lib.hid (HK2.out.next hb3)
      clear hb3 HK2 m0 m1
      have m0 := HK3.out.b0.cell 0
      have m1 := HK3.out.b0.cell 1
      go_wp2_with fail
      refine (HBo.out _ HK3.out.bel).mono ?_
      rintro e w4 ⟨A4, c4, rfl, hh4, hb4, _⟩
      have HK4 := Lib.hid (HK3.out.next hb4)
      have HM4 := Lib.hid hh4
      clear hb4 hh4 HK3 m0 m1
      have m0 := HK4.out.b0.cell 0
      have m1 := HK4.out.b0.cell 1
      go_wp2_with fail
      refine (HPi.out _ HK4.out.bel).mono ?_
      rintro e w5 ⟨A5, c5, rfl, hh5, hb5, _⟩
      have HK5 := Lib.hid (HK4.out.next hb5)
      have HM5 := Lib.hid (HM4.out.kept hb5)
      have HP5 := Lib.hid hh5
      clear hb5 hh5 HK4 HM4 m0 m1
      have m0 := HK5.out.b0.cell 0
      have m1 := HK5.out.b0.cell 1
      go_wp2_with fail
      refine (HEu.out _ HK5.out.bel).mono ?_
      rintro e w6 ⟨rfl, hb6⟩
      have HK6 := Lib.hid (HK5.out.next hb6)
      have HM6 := Lib.hid (HM5.out.kept hb6)
      have HP6 := Lib.hid (HP5.out.kept hb6)
      clear hb6 HK5 HM5 HP5 m0 m1
      have m0 := HK6.out.b0.cell 0
      have m1 := HK6.out.b0.cell 1
      have m2 := (HK6.out.next (new_alloc (Below.refl _ _) (.cells (cntA (fun _ => 0) n) 3))).b0.cell 0
      have HB6 : Hid (BordW w6 n (cntTo M Prod.fst 0) (cntTo M Prod.snd 0) ((w6.alloc (.cells (cntA (fun _ => 0) n) 3)).alloc (.cells (cntA (fun _ => 0) n) 3))) := by
        show BordW _ _ _ _ _
        rw [← cntTo_zero, ← cntTo_zero]
        exact BordW.new w6 n
      go_wp2_with fail
      generalize (w6.alloc (.cells (cntA (fun _ => 0) n) 3)).alloc (.cells (cntA (fun _ => 0) n) 3) = W7 at *
      clear m0 m1 m2
      have HMe : Hid (∀ w, Below w6.heap.size w6 w → w.cell? ⟨W.heap.size, 0, none⟩ = some (.slice A n c) ∧ w.cell? ⟨W.heap.size, 1, none⟩ = some (.slice B m d)) := fun w hw => ⟨(HK6.out.next hw).b0.cell 0, (HK6.out.next hw).b0.cell 1⟩
      go_loopg [13] M.length (fun g s13 wx => ∃ i : Nat, i + g = M.length ∧ s13 = .int .i64 i ∧ Hid (BordW w6 n (cntTo M Prod.fst i) (cntTo M Prod.snd i) wx))
      case atStart => exact ⟨0, by omega, rfl, HB6⟩
      case round =>
        clear HB6
        obtain ⟨i, hig, rfl, HB⟩ := hrel
        by_cases hi : i < M.length
        · have ti : decide ((i : Int) < (M.length : Int)) = true := by simp; omega
          have i2 : (i : Int) < (M.length : Int) := by omega
          obtain ⟨u, v, hu, hv, he⟩ := HIn.out M[i] (List.getElem_mem hi)
          obtain ⟨b, off, rfl, _, _⟩ := (HM6.out.kept HB.out.bel).spot (by omega)
          have hF := cntTo_next (s := Prod.fst) hi (u := u) (by rw [he])
          have hG := cntTo_next (s := Prod.snd) hi (u := v) (by rw [he])
          have hFl := cntTo_le M Prod.fst i u
          have hGl := cntTo_le M Prod.snd i v
          have c0 := (e2_at (HM6.out.kept HB.out.bel) hi).1
          rw [he] at c0
          simp only at c0
          have f0 := HB.out.b0.cell u
          rw [cntA_at _ hu] at f0
          have f1 := HB.out.b0.frozen u
          have HBa := Lib.hid (HB.out.put0 u (cntTo M Prod.fst i u + 1))
          have e1 : ((cntTo M Prod.fst i u + 1 : Nat) : Int) = (cntTo M Prod.fst i u : Int) + 1 := by omega
          have e2 : ((cntTo M Prod.snd i v + 1 : Nat) : Int) = (cntTo M Prod.snd i v : Int) + 1 := by omega
          rw [← hF, e1] at HBa
          have d0 := (e2_at (HM6.out.kept HBa.out.bel) hi).2
          rw [he] at d0
          simp only at d0
          have g0 := HBa.out.b1.cell v
          rw [cntA_at _ hv] at g0
          have g1 := HBa.out.b1.frozen v
          have HBb := Lib.hid (HBa.out.put1 v (cntTo M Prod.snd i v + 1))
          rw [← hG, e2] at HBb
          have u2 : (u : Int) < (n : Int) := by omega
          have v2 : (v : Int) < (n : Int) := by omega
          have x1 : IntKind.wrap .i64 (((cntTo M Prod.fst i u : Nat) : Int) + 1) = ((cntTo M Prod.fst i u : Nat) : Int) + 1 := by rw [IntKind.wrap_i64]; omega
          have x2 : IntKind.wrap .i64 (((cntTo M Prod.snd i v : Nat) : Int) + 1) = ((cntTo M Prod.snd i v : Nat) : Int) + 1 := by rw [IntKind.wrap_i64]; omega
          clear hF hG hFl hGl he HB HBa e1 e2
          generalize cntTo M Prod.fst i u = a at *
          generalize cntTo M Prod.snd i v = e at *
          go_wp2
          go_roundg (M.length - (i + 1))
          case measure => omega
          case rel => exact ⟨i + 1, by omega, by go_num, HBb⟩
        · have ti : decide ((i : Int) < (M.length : Int)) = false := by simp; omega
          obtain rfl : i = M.length := by omega
          obtain ⟨m0, m1⟩ := HMe.out wr HB.out.bel
          go_wp2
          clear m0 m1
          go_loopg [14] n (fun g s14 wx => ∃ v : Nat, v + g = n ∧ s14 = .int .i64 v ∧ Hid (BordW w6 n (cntTo M Prod.fst M.length) (cntTo M Prod.snd M.length) wx))
          case atStart => exact ⟨0, by omega, rfl, HB⟩
          case round =>
            clear HB
            obtain ⟨v, hvg, rfl, HB⟩ := hrel
            obtain ⟨m0, m1⟩ := HMe.out wr HB.out.bel
            by_cases hv : v < n
            · have tv : decide ((v : Int) < (n : Int)) = true := by simp; omega
              have v2 : (v : Int) < (n : Int) := by omega
              have c0 := HB.out.b0.cell v
              rw [cntA_at _ hv] at c0
              have c1 := HB.out.b1.cell v
              rw [cntA_at _ hv] at c1
              obtain ⟨q1, q2⟩ := HVt.out v hv
              rw [← q1] at c1
              generalize cntTo M Prod.fst M.length v = a at *
              have t1 : ((a : Int) != (a : Int)) = false := by simp
              have t2 : decide ((1 : Int) < (a : Int)) = false := decide_eq_false (by omega)
              clear q1 q2
              go_wp2
              go_quiet (fail)
              go_wp2
              go_roundg (n - (v + 1))
              case measure => omega
              case rel => exact ⟨v + 1, by omega, by go_num, HB.out.next ⟨rfl, rfl, rfl, Nat.le_refl _, fun _ _ => rfl⟩⟩
            · have tv : decide ((v : Int) < (n : Int)) = false := by simp; omega
              go_wp2
              clear m0 m1
              go_loopg [15, 16] p.length (fun g s15 s16 wx => ∃ i : Nat, i + g = p.length ∧ s16 = .int .i64 i ∧ s15 = .int .i64 ((maxNext (p.take i) : Nat) : Int) ∧ Hid (BordW w6 n (cntTo M Prod.fst M.length) (cntTo M Prod.snd M.length) wx))
              case atStart => exact ⟨0, by omega, rfl, rfl, HB⟩
              case round =>
                clear HB
                obtain ⟨i, hig, rfl, rfl, HB⟩ := hrel
                by_cases hi : i < p.length
                · have ti : decide ((i : Int) < (p.length : Int)) = true := by simp; omega
                  have i2 : (i : Int) < (p.length : Int) := by omega
                  obtain ⟨b, off, rfl, _, hc⟩ := (HP6.out.kept HB.out.bel).spot (by omega)
                  have c0 := hc i _ (natVs_at hi)
                  have hst := maxNext_step hi
                  have hb1 := HMx.out i (by omega)
                  have hb2 := HMx.out (i + 1) (by omega)
                  rw [hst] at hb2
                  have x1 : IntKind.wrap .i64 ((p[i] : Int) + 1) = (p[i] : Int) + 1 := by rw [IntKind.wrap_i64]; omega
                  generalize p[i] = k at *
                  generalize maxNext (p.take i) = mx at *
                  clear hc
                  go_wp2
                  go_roundg (p.length - (i + 1))
                  case measure => omega
                  case rel => exact ⟨i + 1, by omega, by go_num, by rw [hst]; congr 1; omega, HB⟩
                · have ti : decide ((i : Int) < (p.length : Int)) = false := by simp; omega
                  obtain rfl : i = p.length := by omega
                  rw [List.take_length]
                  obtain ⟨m0, m1⟩ := HMe.out wr HB.out.bel
                  have hmx := HMx.out p.length (Nat.le_refl _)
                  rw [List.take_length] at hmx
                  have HBe := Lib.hid (HK6.out.next HB.out.bel).bel
                  have y1 : IntKind.wrap .i64 (2 * (L.length : Int)) = 2 * (L.length : Int) := by rw [IntKind.wrap_i64]; omega
                  have y2 : IntKind.wrap .i64 (3 * (m : Int)) = 3 * (m : Int) := by rw [IntKind.wrap_i64]; omega
                  have y3 : IntKind.wrap .i64 (3 * (m : Int) + (M.length : Int)) = 3 * (m : Int) + (M.length : Int) := by rw [IntKind.wrap_i64]; omega
                  have y4 : IntKind.wrap .i64 (2 * ((maxNext p : Nat) : Int)) = 2 * ((maxNext p : Nat) : Int) := by rw [IntKind.wrap_i64]; omega
                  have te : ((2 * (L.length : Int)) == 3 * (m : Int) + (M.length : Int)) = true := beq_iff_eq.2 (by omega)
                  by_cases hM : M = []
                  · have hM0 : M.length = 0 := by rw [hM]; rfl
                    obtain ⟨e1, e2⟩ := hce hM
                    have tM : decide ((0 : Int) < (M.length : Int)) = false := decide_eq_false (by omega)
                    have tM' : decide (0 < M.length) = false := decide_eq_false (by omega)
                    have hE : ∃ k : Int, (n : Int) - (L.length : Int) + (m : Int) = 2 * k := ⟨((n : Int) - (L.length : Int) + (m : Int)) / 2, by omega⟩
                    have tr : Int.tmod ((n : Int) - (L.length : Int) + (m : Int)) 2 = 0 := by
                      obtain ⟨k, hk⟩ := hE
                      rw [hk]
                      exact Int.mul_tmod_right _ _
                    have tq : decide ((n : Int) - (L.length : Int) + (m : Int) ≤ 2 * ((maxNext p : Nat) : Int)) = true := decide_eq_true (by omega)
                    clear hM hM0 e1 e2 hE hce HB
                    go_wp2_with fail
                    refine (HKn.out _ HBe.out).mono ?_
                    rintro e w9 ⟨rfl, hb9⟩
                    go_wp2
                    go_ret
                    exact ⟨rfl, new_call HBe.out hb9⟩
                  · have hM0 : 0 < M.length := List.length_pos_iff.2 hM
                    have tM : decide ((0 : Int) < (M.length : Int)) = true := decide_eq_true (by omega)
                    have tM' : decide (0 < M.length) = true := decide_eq_true hM0
                    clear hM hce HB
                    go_wp2_with fail
                    refine (HKn.out _ HBe.out).mono ?_
                    rintro e w9 ⟨rfl, hb9⟩
                    go_wp2
                    go_ret
                    exact ⟨rfl, new_call HBe.out hb9⟩
    · have t0 : (r != 0) = true := bne_iff_ne.2 h0
      clear hp ht hr hl hPn hTm
      go_enter Tryd.func6, Tryd.ntmps6
      go_wp2_with fail
      refine (HLo.out _).mono ?_
      rintro e w1 ⟨rfl, hb1⟩
      have HK1 := Lib.hid (HK0.out.next hb1)
      clear hb1 HK0 m0 m1
      have m0 := HK1.out.b0.cell 0
      have m1 := HK1.out.b0.cell 1
      go_wp2_with fail
      refine (HCk.out _ HK1.out.bel).mono ?_
      rintro e w2 ⟨rfl, hb2⟩
      have HK2 := Lib.hid (HK1.out.next hb2)
      clear hb2 HK1 m0 m1
      go_wp2_with fail
      refine (HKn.out _ HK2.out.bel).mono ?_
      rintro e w9 ⟨rfl, hb9⟩
      go_wp2
      go_ret
      exact ⟨rfl, new_call HK2.out.bel hb9⟩
  · have HLo := Lib.hid (fun w => lawlong_any A n c B m d true w (by
      by_cases h1 : 40 < n
      · rw [decide_eq_true h1]; rfl
      · rw [decide_eq_true (show 60 < m by omega)]; exact Bool.or_true _))
    clear hp ht hl
    go_enter Tryd.func6, Tryd.ntmps6
    go_wp2_with fail
    refine (HLo.out _).mono ?_
    rintro e w1 ⟨rfl, hb1⟩
    go_wp2_with fail
    refine (HKn.out _ (HK0.out.next hb1).bel).mono ?_
    rintro e w2 ⟨rfl, hb2⟩
    go_wp2
    go_ret
    exact ⟨rfl, new_call (HK0.out.next hb1).bel hb2⟩

set_option maxRecDepth 100000 in
theorem reads (os : Os) {H : Type} (enc : TypeId × Value → H) : ∃ places, DataW.whole enc Tryd.prog ((laidWorld os).forCall (fun _ _ => 0) ⟨#[], #[.agg #[.slice none 0 0, .slice none 0 0]], []⟩).memory Tryd.f6.params.toList Rows.meshBordersSpec.vars false (#[.agg #[.slice none 0 0, .slice none 0 0]] : Array Value).toList 8 = some ([.agg [.nil, .nil]], [], places) := ⟨[], by kernel_rfl⟩
set_option maxRecDepth 100000 in
theorem lifted (os : Os) (started : os.Started) (H : Type) (enc : TypeId × Value → H) (F : Stop.Interp) :
    ReturnsInHanded {} Tryd.checked os 6 .any ((OpenSpec.ofChange Rows.meshBordersSpec).preRow enc Tryd.prog Tryd.f6 Rows.meshBordersRow.domain false Rows.meshBordersRow.laid) (((OpenSpec.ofChange Rows.meshBordersSpec).at F).post enc Tryd.prog Tryd.f6 false true false false) := by
  obtain ⟨places, hx⟩ := reads os enc
  refine returnsInHanded_of_row (C := Tryd.checked) (s := OpenSpec.ofChange Rows.meshBordersSpec) Tryd.own started (by kernel_rfl) Tryd.func6
    (witness_row_at (enc := enc) (C := Tryd.checked) false (laidWorld os) #[.agg #[.slice none 0 0, .slice none 0 0]] rfl (by kernel_rfl) (by kernel_rfl) (by kernel_rfl)
      (OpenSpec.preRow_of_cond 8 hx (by kernel_rfl) (fun k hk => by cases hk) (by kernel_rfl) (laidMet_of_run' 8 (by kernel_rfl) (by kernel_rfl)))) ?_
  intro W base args ds gs before hval0 hW _ _ hsz0 hL _ _
  have hbe : BehW W := behW_of_laid hL
  have hval : ∀ (j : Nat) t v, Tryd.f6.params[j]? = some t → args[j]? = some v → Value.okWide Tryd.prog W .any base t v := hval0
  have hW' := hW
  obtain ⟨p, q, hA0, hV, rfl, _, _⟩ := hW
  have hA : DataW.TrodAll enc Tryd.prog W 0 (fun _ => true) true Tryd.f6.params.toList args.toList ds p := hA0
  rw [Tryd.params6] at hA hval
  obtain ⟨v0, d0, rfl, rfl, h0⟩ := trodAll_one hA
  obtain ⟨rfl, rfl⟩ := trodVars_none hV
  obtain ⟨A0, n0, c0, P0, B0, m0, e0, T0, rfl, hp0, ht0, bp0, bt0, hn0, hm0⟩ := open_mesh (hval 0 25 v0 rfl rfl) h0
  exact (walk A0 n0 c0 P0 B0 m0 e0 T0 W hbe hp0 ht0 bp0 bt0 hn0 hm0).mono fun e W' he =>
    law_post rfl rfl (by rw [Tryd.params6]; intro t ht; simp at ht; subst ht; exact ⟨by kernel_rfl, of_decide_eq_true (by kernel_rfl)⟩) hW' rfl he

theorem said : Rows.MeshBordersSaid :=
  OpenClaim.holds_of_cond 6 Tryd.f6 rfl rfl rfl rfl rfl rfl rfl ⟨rfl, rfl, rfl, rfl, rfl⟩ rfl rfl rfl rfl rfl (by kernel_rfl) Tryd.func6 (by kernel_rfl)
    (of_decide_eq_true (by kernel_rfl)) (by unfold Func.isWrapper; first | (rw [if_pos (by decide +kernel)]; kernel_rfl) | (rw [if_neg (by decide +kernel)]; exact ⟨rfl, rfl⟩))
    (fun os started H enc _ F => by rw [OpenClaim.pre_eq_preRow]; exact lifted os started H enc F)
theorem plain (f : FuncId) (fn : Func) (hf : Tryd.pinned.checked.prog.funcNamed "lapidary/lapidarylaw10.MeshBorders" = some f) (hfn : Tryd.pinned.checked.prog.funcs[f]? = some fn) :
    false = Tryd.pinned.checked.prog.looks [] ∧ ∀ (j : Nat) t, fn.params[j]? = some t → Tryd.pinned.checked.prog.wantsStandIn t = false := by
  obtain rfl : f = 6 := Option.some.inj ((show Tryd.prog.funcNamed "lapidary/lapidarylaw10.MeshBorders" = some 6 by kernel_rfl).symm.trans hf) |>.symm
  obtain rfl : fn = Tryd.f6 := (Option.some.inj (Tryd.func6.symm.trans hfn)).symm
  refine ⟨by kernel_rfl, fun j t ht => ?_⟩
  rw [Tryd.params6] at ht
  have hm : t ∈ [25] := by simpa using Array.mem_of_getElem? ht
  have hall : ([25].all fun u => !Tryd.prog.wantsStandIn u) = true := by kernel_rfl
  exact (show Tryd.prog.wantsStandIn t = false by simpa using List.all_eq_true.1 hall t hm)
theorem proved : Rows.MeshBordersCardSaid :=
  Claim7.holds_tied_plain_at .later [] _ _ _ _ said (fun _ h => by cases h) (by kernel_rfl) (fun _ h => by cases h) meshBorders_row_tie rfl ⟨rfl, rfl⟩ (by kernel_rfl) rfl plain (by kernel_rfl)
end Go.Proofs.YtckjmnbglbegmaaDoor.meshBorders
