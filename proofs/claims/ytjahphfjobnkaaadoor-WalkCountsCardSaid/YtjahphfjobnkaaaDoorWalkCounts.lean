/- There are as many seeds as pieces, as many borders as edges of the border, and as many others as triangles that begin no piece, and each seed, and each fresh one, meets vertices: whatever mesh comes in, WalkCounts answers true. -/
import Derived.Test.YtjahphfjobnkaaaDoorKnown11
import Derived.Test.YtjahphfjobnkaaaDoorMeshPieced
import Derived.Test.YtjahphfjobnkaaaDoorLawMesh
import Derived.Test.YtjahphfjobnkaaaDoorLawLaid
namespace Go.Proofs.YtjahphfjobnkaaaDoor.walkCounts
open Go.ChangeShapes Go.WideShapes Go.ChangeAt Go.RowKit

/-- All steps are of these kinds. -/
def kindsOk (s : WS) : Prop := ∀ x ∈ s.S, 0 ≤ x.1 ∧ x.1 ≤ 3
theorem kinds_app {S : List (Int × Int)} {x : Int × Int} (h : ∀ y ∈ S, 0 ≤ y.1 ∧ y.1 ≤ 3) (hx : 0 ≤ x.1 ∧ x.1 ≤ 3) : ∀ y ∈ S ++ [x], 0 ≤ y.1 ∧ y.1 ≤ 3 := fun y hy => by
  rcases List.mem_append.1 hy with hy | hy
  · exact h y hy
  · rw [List.mem_singleton.1 hy]; exact hx
theorem gate_kinds {T : List P3} {s : WS} (h : kindsOk s) (p q : Int) : kindsOk (gateTo T s p q) := by
  unfold gateTo
  split
  · exact kinds_app h ⟨by decide, by decide⟩
  · split
    · exact h
    · refine kinds_app h ?_
      split
      · exact ⟨by simp, by simp⟩
      · exact ⟨by simp, by simp⟩
theorem drain_kinds {T : List P3} : ∀ (k : Nat) (s : WS), kindsOk s → kindsOk (drainW T k s) := by
  intro k
  induction k with
  | zero => intro s h; exact h
  | succ k ih =>
    intro s h
    unfold drainW
    by_cases hg : s.G = []
    · rw [if_pos hg]; exact h
    · rw [if_neg hg]
      obtain ⟨p, q, _, e⟩ := gateW_last (T := T) hg
      exact ih _ (by rw [e]; exact gate_kinds h p q)
theorem walk_kinds (T : List P3) : ∀ i, kindsOk (walkTo T i) := by
  intro i
  induction i with
  | zero => intro x hx; cases hx
  | succ i ih =>
    unfold walkTo
    by_cases hm : i ∈ (walkTo T i).O
    · rw [if_pos hm]; exact ih
    · rw [if_neg hm]; exact drain_kinds _ _ (kinds_app ih ⟨by decide, by decide⟩)
theorem maxNext_step {p : List Nat} {i : Nat} (hi : i < p.length) : maxNext (p.take (i + 1)) = max (maxNext (p.take i)) (p[i] + 1) := by
  rw [List.take_succ_eq_append_getElem hi, maxNext_app]
  rw [show maxNext [p[i]] = p[i] + 1 by show max (p[i] + 1) 0 = _; omega]
def kCnt (S : List (Int × Int)) (k : Nat) : Nat := S.countP fun s => decide (s.1 = (k : Int))
theorem kCnt_next {S : List (Int × Int)} {i u : Nat} (hi : i < S.length) (hu : S[i].1 = (u : Int)) : kCnt (S.take (i + 1)) = updN (kCnt (S.take i)) u (kCnt (S.take i) u + 1) := by
  funext j
  unfold kCnt updN
  rw [List.take_succ_eq_append_getElem hi, kind_app, hu]
  by_cases e : j = u
  · subst e
    rw [if_pos rfl, if_pos rfl]
  · rw [if_neg (show ¬ ((u : Int) = (j : Int)) by omega), if_neg e, Nat.add_zero]
theorem kCnt_le (S : List (Int × Int)) (k : Nat) : kCnt S k ≤ S.length := List.countP_le_length
set_option maxRecDepth 100000 in
set_option maxHeartbeats 3200000 in
theorem walk (A : Option Addr) (n c : Nat) (P : List P3) (B : Option Addr) (m d : Nat) (T : List P3) (W : World) (hbe : BehW W) (hp : HasK 3 W A n c (p3Cells P)) (ht : HasK 3 W B m d (p3Cells T)) (_ : ∀ x ∈ P, i64T x) (_ : ∀ x ∈ T, i64T x) (_ : n ≤ 9223372036854775807) (_ : m ≤ 9223372036854775807) : Calls Tryd.prog 7 #[.agg #[.slice A n c, .slice B m d]] W fun e w' => e = .returned (.bool true) ∧ Below W.heap.size W w' := by
  have HK0 := Lib.hid (MeshAt.new W (.slice A n c) (.slice B m d))
  have m0 := HK0.out.b0.cell 0
  have m1 := HK0.out.b0.cell 1
  have HKn := Lib.hid (fun w (hW : Below W.heap.size W w) => known11 w (hbe.kept hW))
  by_cases hl : n ≤ 40 ∧ m ≤ 60
  · have HLo := Lib.hid (fun w => lawlong_any A n c B m d false w (by rw [decide_eq_false (by omega), decide_eq_false (by omega)]; rfl))
    obtain ⟨r, hr⟩ := check_total P T
    have HTm : Hid (T.length = m) := by have := ht.len; rw [p3Cells_len] at this; show _ = _; omega
    have hPn : P.length = n := by have := hp.len; rw [p3Cells_len] at this; omega
    have HCk := Lib.hid (fun w (hW : Below W.heap.size W w) => meshCheck_any A n c P B m d T r w (hbe.kept hW) (hp.kept hW) (ht.kept hW) (by omega) (by omega) hr)
    by_cases h0 : r = 0
    · subst h0
      obtain ⟨p, hpp⟩ := pieces_total T
      have HSt : Hid (∀ w, Below W.heap.size W w → Calls Tryd.prog 11 #[.agg #[.slice A n c, .slice B m d]] w (Stepsd w (walkF T).S 0)) := fun w hW => by
        have := walkSteps_any A n c P B m d T 0 w (hbe.kept hW) (hp.kept hW) (ht.kept hW) (by omega) (by omega) hr
        rw [if_pos rfl] at this
        exact this
      have HBo : Hid (∀ w, Below W.heap.size W w → Calls Tryd.prog 24 #[.agg #[.slice A n c, .slice B m d]] w (Edgd w (edgesF P.length T true) 0)) := fun w hW => by
        have := meshBorder_any A n c P B m d T 0 w (hbe.kept hW) (hp.kept hW) (ht.kept hW) (by omega) (by omega) hr
        rw [if_pos rfl] at this
        exact this
      have HPi : Hid (∀ w, Below W.heap.size W w → Calls Tryd.prog 25 #[.agg #[.slice A n c, .slice B m d]] w (Piecd w p 0)) := fun w hW => by
        have := meshPieces_any A n c P B m d T 0 p w (hbe.kept hW) (hp.kept hW) (ht.kept hW) (by omega) (by omega) hr (fun _ => hpp)
        rw [if_pos rfl] at this
        exact this
      have hMe : (edgesF P.length T true).length ≤ 1600 := Nat.le_trans (edges_le _ _ _) (by rw [hPn]; exact Nat.mul_le_mul hl.1 hl.1)
      have hpl : p.length ≤ 60 := by rw [hpp.len, HTm.out]; exact hl.2
      have HMx : Hid (∀ i, i ≤ p.length → maxNext (p.take i) ≤ i) := num_le (f := fun j => p[j]?.getD 0) hpp.rise (fun i hi => by simp only [List.getElem?_eq_getElem hi, Option.getD_some])
      obtain ⟨g1, g2, g3⟩ := walk_counts hr
      have g4 := walk_seeds hr hpp
      have HG1 : Hid (kCnt (walkF T).S 0 + kCnt (walkF T).S 2 + kCnt (walkF T).S 3 = m) := by show _ = _; rw [← HTm.out]; exact g1
      have HG2 : Hid (3 * kCnt (walkF T).S 0 + kCnt (walkF T).S 2 = n) := by show _ = _; rw [← hPn]; exact g2
      have HG3 : Hid (kCnt (walkF T).S 1 = (edgesF P.length T true).length) := g3
      have HG4 : Hid (kCnt (walkF T).S 0 = maxNext p) := g4
      have HKi := Lib.hid (walk_kinds T T.length)
      have hSl : (walkF T).S.length ≤ 1000000 := ((walk_fine T T.length (Nat.le_refl _)).small (Nat.le_refl _) (by have := HTm.out; omega)).S
      have HKi2 : Hid (∀ x ∈ (walkF T).S, 0 ≤ x.1 ∧ x.1 ≤ 3) := HKi.out
      have hmk : ∀ w, (Instr.makeSlice 32 (.int .i64 4) (.int .i64 4)).run Tryd.prog w = .ok (.slice (some ⟨w.heap.size, 0, none⟩) 4 4) (w.alloc (.cells (cntA (fun _ => 0) 4) 3)) := fun w => run_makeCnt 4 (by decide) w
      have hn40 := hl.1
      have hm60 := hl.2
      clear hp ht hr hl hPn hpp g1 g2 g3 g4 HKi hbe HTm
      generalize (walkF T).S = S at *
      generalize edgesF P.length T true = M at *
      go_enter Tryd.func7, Tryd.ntmps7
      go_wp2_with fail
      refine (HLo.out _).mono ?_
      rintro e w1 ⟨rfl, hb1⟩
      have HK1 := Lib.hid (HK0.out.next hb1)
      clear hb1 HK0 m0 m1
      have m0 := HK1.out.b0.cell 0
      have m1 := HK1.out.b0.cell 1
      go_wp2_with fail
      refine (HCk.out _ HK1.out.bel).mono ?_
      rintro e w2 ⟨rfl, hb2⟩
      have HK2 := Lib.hid (HK1.out.next hb2)
      clear hb2 HK1 m0 m1
      have m0 := HK2.out.b0.cell 0
      have m1 := HK2.out.b0.cell 1
      go_wp2_with fail
      refine (HSt.out _ HK2.out.bel).mono ?_
      rintro e w3 ⟨A3, c3, rfl, hh3, hb3⟩
      have HK3 := Lib.hid (HK2.out.next hb3)
      have HS3 := Lib.hid hh3
      clear hb3 hh3 HK2 m0 m1
      have m0 := HK3.out.b0.cell 0
      have m1 := HK3.out.b0.cell 1
      go_wp2_with fail
      refine (HBo.out _ HK3.out.bel).mono ?_
      rintro e w4 ⟨A4, c4, rfl, _, hb4, _⟩
      have HK4 := Lib.hid (HK3.out.next hb4)
      have HS4 := Lib.hid (HS3.out.kept hb4)
      clear hb4 HK3 HS3 m0 m1
      have m0 := HK4.out.b0.cell 0
      have m1 := HK4.out.b0.cell 1
      go_wp2_with fail
      refine (HPi.out _ HK4.out.bel).mono ?_
      rintro e w6 ⟨A5, c5, rfl, hh5, hb5, _⟩
      have HK6 := Lib.hid (HK4.out.next hb5)
      have HS6 := Lib.hid (HS4.out.kept hb5)
      have HP6 := Lib.hid hh5
      clear hb5 hh5 HK4 HS4 m0 m1
      have HC6 := Lib.hid (Blk.new w6 3 (cntA (fun _ => 0) 4))
      have HB6 := Lib.hid (new_alloc (Below.refl w6.heap.size w6) (.cells (cntA (fun _ => 0) 4) 3))
      have HMe : Hid (∀ w, Below w6.heap.size w6 w → w.cell? ⟨W.heap.size, 0, none⟩ = some (.slice A n c) ∧ w.cell? ⟨W.heap.size, 1, none⟩ = some (.slice B m d)) := fun w hw => ⟨(HK6.out.next hw).b0.cell 0, (HK6.out.next hw).b0.cell 1⟩
      obtain ⟨m0, m1⟩ := HMe.out _ HB6.out
      go_wp2_with fail
      generalize w6.alloc (.cells (cntA (fun _ => 0) 4) 3) = W7 at *
      clear m0 m1
      go_loopg [10] S.length (fun g s10 wx => ∃ i : Nat, i + g = S.length ∧ s10 = .int .i64 i ∧ Hid (Blk wx w6.heap.size 3 (cntA (kCnt (S.take i)) 4)) ∧ Hid (Below w6.heap.size w6 wx))
      case atStart => exact ⟨0, by omega, rfl, HC6, HB6⟩
      case round =>
        clear HC6 HB6
        obtain ⟨i, hig, rfl, HC, HB⟩ := hrel
        by_cases hi : i < S.length
        · have ti : decide ((i : Int) < (S.length : Int)) = true := by simp; omega
          have i2 : (i : Int) < (S.length : Int) := by omega
          obtain ⟨b, off, rfl, _, _⟩ := (HS6.out.kept HB.out).spot (by omega)
          have c0 := (e2_at (HS6.out.kept HB.out) hi).1
          obtain ⟨k1, k2⟩ := HKi2.out S[i] (List.getElem_mem hi)
          obtain ⟨u, hu⟩ := Int.eq_ofNat_of_zero_le k1
          have hnx := kCnt_next hi hu
          have hle := kCnt_le (S.take i) u
          rw [List.length_take] at hle
          rw [hu] at c0 k2
          have hu4 : u < 4 := by omega
          have t1 : decide ((u : Int) < 0) = false := decide_eq_false (by omega)
          have t2 : decide ((3 : Int) < (u : Int)) = false := decide_eq_false (by omega)
          have u2 : (u : Int) < 4 := by omega
          have f0 := HC.out.cell u
          rw [cntA_at _ hu4] at f0
          have f1 := HC.out.frozen u
          have HC2 : Hid (Blk (wr.setCell ⟨w6.heap.size, u, none⟩ (.int .i64 ((kCnt (S.take i) u : Int) + 1))) w6.heap.size 3 (cntA (kCnt (S.take (i + 1))) 4)) := by
            have h := HC.out.set_ u (.int .i64 ((kCnt (S.take i) u + 1 : Nat) : Int))
            rw [cntA_set, ← hnx] at h
            exact h
          have HB2 : Hid (Below w6.heap.size w6 (wr.setCell ⟨w6.heap.size, u, none⟩ (.int .i64 ((kCnt (S.take i) u : Int) + 1)))) := HB.out.setCell (p := ⟨w6.heap.size, u, none⟩) (Nat.le_refl _) _
          have x1 : IntKind.wrap .i64 (((kCnt (S.take i) u : Nat) : Int) + 1) = ((kCnt (S.take i) u : Nat) : Int) + 1 := by rw [IntKind.wrap_i64]; omega
          clear hnx hle hu k1 k2 HC HB
          generalize kCnt (S.take i) u = q at *
          go_wp2
          go_roundg (gk - 1)
          case measure => omega
          case rel => exact ⟨i + 1, by omega, by go_num, HC2, HB2⟩
        · have ti : decide ((i : Int) < (S.length : Int)) = false := by simp; omega
          obtain rfl : i = S.length := by omega
          rw [List.take_length] at HC
          go_wp2
          go_loopg [11, 12] p.length (fun g s11 s12 wx => ∃ i : Nat, i + g = p.length ∧ s12 = .int .i64 i ∧ s11 = .int .i64 ((maxNext (p.take i) : Nat) : Int) ∧ Hid (Blk wx w6.heap.size 3 (cntA (kCnt S) 4)) ∧ Hid (Below w6.heap.size w6 wx))
          case atStart => exact ⟨0, by omega, rfl, rfl, HC, HB⟩
          case round =>
            clear HC HB
            obtain ⟨i, hig, rfl, rfl, HC, HB⟩ := hrel
            by_cases hi : i < p.length
            · have ti : decide ((i : Int) < (p.length : Int)) = true := by simp; omega
              have i2 : (i : Int) < (p.length : Int) := by omega
              obtain ⟨b, off, rfl, _, hc⟩ := (HP6.out.kept HB.out).spot (by omega)
              have c0 := hc i _ (natVs_at hi)
              have hst := maxNext_step hi
              have hb1 := HMx.out i (by omega)
              have hb2 := HMx.out (i + 1) (by omega)
              rw [hst] at hb2
              have x1 : IntKind.wrap .i64 ((p[i] : Int) + 1) = (p[i] : Int) + 1 := by rw [IntKind.wrap_i64]; omega
              generalize p[i] = k at *
              generalize maxNext (p.take i) = mx at *
              clear hc
              go_wp2
              go_roundg (p.length - (i + 1))
              case measure => omega
              case rel => exact ⟨i + 1, by omega, by go_num, by rw [hst]; congr 1; omega, HC, HB⟩
            · have ti : decide ((i : Int) < (p.length : Int)) = false := by simp; omega
              obtain rfl : i = p.length := by omega
              rw [List.take_length]
              have HBe := Lib.hid (HK6.out.next HB.out).bel
              have hb0 := kCnt_le S 0
              have hb1 := kCnt_le S 1
              have hb2 := kCnt_le S 2
              have hb3 := kCnt_le S 3
              have h1 := HG1.out
              have h2 := HG2.out
              have h3 := HG3.out
              have h4 := HG4.out
              obtain ⟨m0, m1⟩ := HMe.out wr.drew HB.out.drew
              have n0 : wr.drew.cell? ⟨w6.heap.size, 0, none⟩ = some (.int .i64 ((kCnt S 0 : Nat) : Int)) := (HC.out.cell 0).trans (cntA_at _ (by decide))
              have n1 : wr.drew.cell? ⟨w6.heap.size, 1, none⟩ = some (.int .i64 ((kCnt S 1 : Nat) : Int)) := (HC.out.cell 1).trans (cntA_at _ (by decide))
              have n2 : wr.drew.cell? ⟨w6.heap.size, 2, none⟩ = some (.int .i64 ((kCnt S 2 : Nat) : Int)) := (HC.out.cell 2).trans (cntA_at _ (by decide))
              have n3 : wr.drew.cell? ⟨w6.heap.size, 3, none⟩ = some (.int .i64 ((kCnt S 3 : Nat) : Int)) := (HC.out.cell 3).trans (cntA_at _ (by decide))
              have HCn : Hid (∀ w, Below wr.drew.heap.size wr.drew w → (w.cell? ⟨w6.heap.size, 0, none⟩ = some (.int .i64 ((kCnt S 0 : Nat) : Int)) ∧ w.cell? ⟨w6.heap.size, 1, none⟩ = some (.int .i64 ((kCnt S 1 : Nat) : Int)) ∧ w.cell? ⟨w6.heap.size, 2, none⟩ = some (.int .i64 ((kCnt S 2 : Nat) : Int)) ∧ w.cell? ⟨w6.heap.size, 3, none⟩ = some (.int .i64 ((kCnt S 3 : Nat) : Int))) ∧ w.cell? ⟨W.heap.size, 0, none⟩ = some (.slice A n c) ∧ w.cell? ⟨W.heap.size, 1, none⟩ = some (.slice B m d)) := fun w hw => by
                have hbk : Blk w w6.heap.size 3 (cntA (kCnt S) 4) := Blk.below (w := wr.drew) HC.out hw HC.out.lt
                exact ⟨⟨(hbk.cell 0).trans (cntA_at _ (by decide)), (hbk.cell 1).trans (cntA_at _ (by decide)), (hbk.cell 2).trans (cntA_at _ (by decide)), (hbk.cell 3).trans (cntA_at _ (by decide))⟩, HMe.out w (HB.out.drew.trans (hw.mono HB.out.drew.size))⟩
              generalize kCnt S 0 = q0 at *
              generalize kCnt S 1 = q1 at *
              generalize kCnt S 2 = q2 at *
              generalize kCnt S 3 = q3 at *
              have y1 : IntKind.wrap .i64 ((q0 : Int) + (q2 : Int)) = (q0 : Int) + (q2 : Int) := by rw [IntKind.wrap_i64]; omega
              have y2 : IntKind.wrap .i64 ((q0 : Int) + (q2 : Int) + (q3 : Int)) = (q0 : Int) + (q2 : Int) + (q3 : Int) := by rw [IntKind.wrap_i64]; omega
              have y3 : IntKind.wrap .i64 (3 * (q0 : Int)) = 3 * (q0 : Int) := by rw [IntKind.wrap_i64]; omega
              have y4 : IntKind.wrap .i64 (3 * (q0 : Int) + (q2 : Int)) = 3 * (q0 : Int) + (q2 : Int) := by rw [IntKind.wrap_i64]; omega
              have z1 : (((q0 : Nat) : Int) == ((maxNext p : Nat) : Int)) = true := beq_iff_eq.2 (by omega)
              have z2 : (((q1 : Nat) : Int) == ((M.length : Nat) : Int)) = true := beq_iff_eq.2 (by omega)
              have z3 : ((q0 : Int) + (q2 : Int) + (q3 : Int) == (m : Int)) = true := beq_iff_eq.2 (by omega)
              have z4 : (3 * (q0 : Int) + (q2 : Int) == (n : Int)) = true := beq_iff_eq.2 (by omega)
              have HKe := Lib.hid (HKn.out wr.drew HBe.out.drew)
              clear h1 h2 h3 h4 hb0 hb1 hb2 hb3 HG1 HG2 HG3 HG4 HC HB
              go_wp2
              go_region_held3 (fun w => (w.cell? ⟨w6.heap.size, 0, none⟩ = some (.int .i64 ((q0 : Nat) : Int)) ∧ w.cell? ⟨w6.heap.size, 1, none⟩ = some (.int .i64 ((q1 : Nat) : Int)) ∧ w.cell? ⟨w6.heap.size, 2, none⟩ = some (.int .i64 ((q2 : Nat) : Int)) ∧ w.cell? ⟨w6.heap.size, 3, none⟩ = some (.int .i64 ((q3 : Nat) : Int))) ∧ w.cell? ⟨W.heap.size, 0, none⟩ = some (.slice A n c) ∧ w.cell? ⟨W.heap.size, 1, none⟩ = some (.slice B m d)) (first | (with_reducible exact ⟨⟨n0, n1, n2, n3⟩, m0, m1⟩) | (with_reducible exact HN9.out)) (first
                | (go_at_call 10; (with_reducible refine Calls.mono HKe.out ?_); rintro e w9 ⟨rfl, hb9⟩; have HN9 := Lib.hid (HCn.out w9 hb9); have HB9 := Lib.hid (new_call HBe.out.drew hb9); clear hb9))
              all_goals
                go_wp2
                go_ret
                exact ⟨rfl, HB9.out⟩
    · have tr : (r != 0) = true := bne_iff_ne.2 h0
      clear hp ht hr hl hPn h0 hbe
      go_enter Tryd.func7, Tryd.ntmps7
      go_wp2_with fail
      refine (HLo.out _).mono ?_
      rintro e w1 ⟨rfl, hb1⟩
      have HK1 := Lib.hid (HK0.out.next hb1)
      clear hb1 HK0 m0 m1
      have m0 := HK1.out.b0.cell 0
      have m1 := HK1.out.b0.cell 1
      go_wp2_with fail
      refine (HCk.out _ HK1.out.bel).mono ?_
      rintro e w2 ⟨rfl, hb2⟩
      have HK2 := Lib.hid (HK1.out.next hb2)
      clear hb2 HK1 m0 m1
      go_wp2_with fail
      refine (HKn.out _ HK2.out.bel).mono ?_
      rintro e w3 ⟨rfl, hb3⟩
      go_wp2
      go_ret
      exact ⟨rfl, new_call HK2.out.bel hb3⟩
  · have HLo := Lib.hid (fun w => lawlong_any A n c B m d true w (by rw [Bool.or_eq_true, decide_eq_true_eq, decide_eq_true_eq]; omega))
    clear hp ht hl
    go_enter Tryd.func7, Tryd.ntmps7
    go_wp2_with fail
    refine (HLo.out _).mono ?_
    rintro e w1 ⟨rfl, hb1⟩
    go_wp2_with fail
    refine (HKn.out _ (HK0.out.next hb1).bel).mono ?_
    rintro e w2 ⟨rfl, hb2⟩
    go_wp2
    go_ret
    exact ⟨rfl, new_call (HK0.out.next hb1).bel hb2⟩

set_option maxRecDepth 100000 in
theorem reads (os : Os) {H : Type} (enc : TypeId × Value → H) : ∃ places, DataW.whole enc Tryd.prog ((laidWorld os).forCall (fun _ _ => 0) ⟨#[], #[.agg #[.slice none 0 0, .slice none 0 0]], []⟩).memory Tryd.f7.params.toList Rows.walkCountsSpec.vars false (#[.agg #[.slice none 0 0, .slice none 0 0]] : Array Value).toList 8 = some ([.agg [.nil, .nil]], [], places) := ⟨[], by kernel_rfl⟩
set_option maxRecDepth 100000 in
theorem lifted (os : Os) (started : os.Started) (H : Type) (enc : TypeId × Value → H) (F : Stop.Interp) :
    ReturnsInHanded {} Tryd.checked os 7 .any ((OpenSpec.ofChange Rows.walkCountsSpec).preRow enc Tryd.prog Tryd.f7 Rows.walkCountsRow.domain false Rows.walkCountsRow.laid) (((OpenSpec.ofChange Rows.walkCountsSpec).at F).post enc Tryd.prog Tryd.f7 false true false false) := by
  obtain ⟨places, hx⟩ := reads os enc
  refine returnsInHanded_of_row (C := Tryd.checked) (s := OpenSpec.ofChange Rows.walkCountsSpec) Tryd.own started (by kernel_rfl) Tryd.func7
    (witness_row_at (enc := enc) (C := Tryd.checked) false (laidWorld os) #[.agg #[.slice none 0 0, .slice none 0 0]] rfl (by kernel_rfl) (by kernel_rfl) (by kernel_rfl)
      (OpenSpec.preRow_of_cond 8 hx (by kernel_rfl) (fun k hk => by cases hk) (by kernel_rfl) (laidMet_of_run' 8 (by kernel_rfl) (by kernel_rfl)))) ?_
  intro W base args ds gs before hval0 hW _ _ hsz0 hL _ _
  have hbe : BehW W := behW_of_laid hL
  have hval : ∀ (j : Nat) t v, Tryd.f7.params[j]? = some t → args[j]? = some v → Value.okWide Tryd.prog W .any base t v := hval0
  have hW' := hW
  obtain ⟨p, q, hA0, hV, rfl, _, _⟩ := hW
  have hA : DataW.TrodAll enc Tryd.prog W 0 (fun _ => true) true Tryd.f7.params.toList args.toList ds p := hA0
  rw [Tryd.params7] at hA hval
  obtain ⟨v0, d0, rfl, rfl, h0⟩ := trodAll_one hA
  obtain ⟨rfl, rfl⟩ := trodVars_none hV
  obtain ⟨A0, n0, c0, P0, B0, m0, e0, T0, rfl, hp0, ht0, bp0, bt0, hn0, hm0⟩ := open_mesh (hval 0 25 v0 rfl rfl) h0
  exact (walk A0 n0 c0 P0 B0 m0 e0 T0 W hbe hp0 ht0 bp0 bt0 hn0 hm0).mono fun e W' he =>
    law_post rfl rfl (by rw [Tryd.params7]; intro t ht; simp at ht; subst ht; exact ⟨by kernel_rfl, of_decide_eq_true (by kernel_rfl)⟩) hW' rfl he

theorem said : Rows.WalkCountsSaid :=
  OpenClaim.holds_of_cond 7 Tryd.f7 rfl rfl rfl rfl rfl rfl rfl ⟨rfl, rfl, rfl, rfl, rfl⟩ rfl rfl rfl rfl rfl (by kernel_rfl) Tryd.func7 (by kernel_rfl)
    (of_decide_eq_true (by kernel_rfl)) (by unfold Func.isWrapper; first | (rw [if_pos (by decide +kernel)]; kernel_rfl) | (rw [if_neg (by decide +kernel)]; exact ⟨rfl, rfl⟩))
    (fun os started H enc _ F => by rw [OpenClaim.pre_eq_preRow]; exact lifted os started H enc F)
theorem plain (f : FuncId) (fn : Func) (hf : Tryd.pinned.checked.prog.funcNamed "lapidary/lapidarylaw11.WalkCounts" = some f) (hfn : Tryd.pinned.checked.prog.funcs[f]? = some fn) :
    false = Tryd.pinned.checked.prog.looks [] ∧ ∀ (j : Nat) t, fn.params[j]? = some t → Tryd.pinned.checked.prog.wantsStandIn t = false := by
  obtain rfl : f = 7 := Option.some.inj ((show Tryd.prog.funcNamed "lapidary/lapidarylaw11.WalkCounts" = some 7 by kernel_rfl).symm.trans hf) |>.symm
  obtain rfl : fn = Tryd.f7 := (Option.some.inj (Tryd.func7.symm.trans hfn)).symm
  refine ⟨by kernel_rfl, fun j t ht => ?_⟩
  rw [Tryd.params7] at ht
  have hm : t ∈ [25] := by simpa using Array.mem_of_getElem? ht
  have hall : ([25].all fun u => !Tryd.prog.wantsStandIn u) = true := by kernel_rfl
  exact (show Tryd.prog.wantsStandIn t = false by simpa using List.all_eq_true.1 hall t hm)
theorem proved : Rows.WalkCountsCardSaid :=
  Claim7.holds_tied_plain_at .later [] _ _ _ _ said (fun _ h => by cases h) (by kernel_rfl) (fun _ h => by cases h) walkCounts_row_tie rfl ⟨rfl, rfl⟩ (by kernel_rfl) rfl plain (by kernel_rfl)
end Go.Proofs.YtjahphfjobnkaaaDoor.walkCounts
