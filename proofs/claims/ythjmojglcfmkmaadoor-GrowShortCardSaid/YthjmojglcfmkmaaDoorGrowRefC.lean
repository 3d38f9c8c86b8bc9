/- lapidaryref12: Step. -/
import Derived.Test.YthjmojglcfmkmaaDoorGrowRefB
import Derived.BigQuiet
namespace Go.Proofs.YthjmojglcfmkmaaDoor
open Go.RowKit

theorem OwnK.hasK' {k : Nat} {w : World} {base : Nat} {e : TypeId} {A : Option Addr} {n c : Nat} {xs : List Value} (h : OwnK k w base e (.slice A n c) n xs) : HasK k w A n c xs := by
  obtain ⟨A', c', e, h2⟩ := h.has
  cases e
  exact h2
theorem quiet_belowG (w : World) (n : Nat) : Below w.heap.size w (w.drewN n) := ⟨rfl, rfl, rfl, Nat.le_refl _, fun _ _ => rfl⟩
theorem below_nilG {w w' : World} (hg : w.grownBy w' (Value.slice none 0 0).ownBlock) : Below w.heap.size w w' := ⟨hg.os, hg.tape, hg.output, hg.size, fun k hk => hg.block k hk (by simp [Value.ownBlock])⟩
theorem wrap_nat {x : Int} {n : Nat} (h : x = n) (hn : n ≤ 1000000000) : IntKind.wrap .i64 x = (n : Int) := by rw [IntKind.wrap_i64]; omega
set_option maxRecDepth 100000 in
set_option maxHeartbeats 4000000 in
theorem ref12Step_any (F : Nat → Prop) (a c d : Value) (s : GS) (k v : Int) (w : World) (hF : ∀ k, w.heap.size ≤ k → F k) (h : GRows w F a c d s.T s.P s.B) (hlT : s.T.length ≤ 10000) (hlP : s.P.length ≤ 100000) (hlB : s.B.length ≤ 100000) (hN : s.N ≤ 100000) :
    Calls Tryd.prog 12 #[.agg #[a, .int .i64 (s.N : Int), c, d, .int .i64 s.E], .agg #[.int .i64 k, .int .i64 v]] w (GOut F (stepG s (k, v)) w) := by
  obtain ⟨At, ct, rfl, _⟩ := h.rT.has
  obtain ⟨Ab, cb, rfl, _⟩ := h.rB.has
  obtain ⟨Ac, cc, rfl, _⟩ := h.rP.has
  have HX0 := Lib.hid (gx_new (k := k) (v := v) (N := s.N) (E := s.E) hF h)
  obtain ⟨kz, ks⟩ := zero_of_info gInfo
  obtain ⟨sz, ss⟩ := zero_of_info stepInfo
  have HlT := Lib.hid hlT
  have HlP := Lib.hid hlP
  have HlB := Lib.hid hlB
  have HlN := Lib.hid hN
  clear hF h hlT hlP hlB hN
  have m0 := HX0.out.box.cell 0
  have m1 := HX0.out.box.cell 1
  have m2 := HX0.out.box.cell 2
  have m3 := HX0.out.box.cell 3
  have m4 := HX0.out.box.cell 4
  by_cases hE : s.E = 0
  · have te : (s.E != 0) = false := by rw [hE]; rfl
    have HE0 := Lib.hid hE
    clear hE
    go_enter Tryd.func12, Tryd.ntmps12
    go_wp2
    generalize ((w.alloc (.cells #[.slice At s.T.length ct, .int .i64 (s.N : Int), .slice Ac s.P.length cc, .slice Ab s.B.length cb, .int .i64 s.E] 29)).alloc (.cells #[.int .i64 k, .int .i64 v] 33)).alloc (.cells #[.slice none 0 0, .int .i64 0, .slice none 0 0, .slice none 0 0, .int .i64 0] 29) = W0 at *
    clear m0 m1 m2 m3 m4
    go_loopg [] s.P.length (fun g wx => ∃ (Q : List (Int × Int)) (A : Option Addr) (c : Nat), Q.length = g ∧ Hid (popG s.T s.P = popG s.T Q) ∧ Hid (Q.length ≤ 100000) ∧ Hid (GX w F k v (.slice At s.T.length ct) (.slice A Q.length c) (.slice Ab s.B.length cb) s.N s.E s.T Q s.B wx))
    case atStart => exact ⟨s.P, Ac, cc, rfl, rfl, HlP.out, HX0⟩
    case round =>
      obtain ⟨Q, A, c, hQ, HPo, HlQ, HX⟩ := hrel
      have HW : Hid (∃ Bv, Bv = (decide (Q ≠ []) && Q.getLast?.any (shutG s.T))) := ⟨_, rfl⟩
      obtain ⟨Bv, hBv⟩ := HW.out
      have HBv := Lib.hid hBv
      clear HW hBv
      have x0 := HX.out.box.cell 0
      have x1 := HX.out.box.cell 1
      have x2 := HX.out.box.cell 2
      have x3 := HX.out.box.cell 3
      have x4 := HX.out.box.cell 4
      go_upto_region 3 with (with_reducible fail)
      go_cut [30] from 15 to 38 (fun s30 wx => s30 = .bool Bv ∧ Hid (Below wr.heap.size wr wx))
      case first =>
        as_aux_lemma =>
          by_cases hq0 : Q = []
          · subst hq0
            have HE : Hid (Bv = false) := HBv.out.trans (by rfl)
            clear HBv
            have x2' : wr.cell? ⟨w.heap.size, 2, none⟩ = some (.slice A 0 c) := x2
            clear x2
            go_quiet (fail)
            go_wp2_with (with_reducible fail)
            go_meet
            case rel => exact ⟨congrArg Value.bool HE.out.symm, quiet_belowG _ _⟩
          · obtain ⟨l, ⟨p, q⟩, rfl⟩ := last_form hq0
            obtain ⟨K, hK⟩ : ∃ K, l.length = K := ⟨_, rfl⟩
            have hGl : (l ++ [(p, q)]).length = K + 1 := by rw [List.length_append, hK]; rfl
            have hd0 := HX.out.rows.rP
            rw [hGl] at hd0 HlQ HX x2
            obtain ⟨bg, cd, hA, hcd⟩ := own2_form hd0
            injection hA with e1 _ e3
            subst e1 e3
            have HG := Lib.hid (gate_at HX.out.rows.rP rfl hK)
            have g0 := HG.out.1
            have g1 := HG.out.2
            have hsh : Bv = shutG s.T (p, q) := HBv.out.trans (by rw [List.getLast?_concat]; simp)
            subst hsh
            have n4 : IntKind.wrap .i64 (((K + 1 : Nat) : Int) - 1) = (K : Int) := wrap_nat (by omega) (by have := HlQ.out; omega)
            have n5 : IntKind.wrap .i64 ((K : Int) + 1 - 1) = (K : Int) := wrap_nat (by omega) (by have := HlQ.out; omega)
            have n6 : IntKind.wrap .i64 (K : Int) = (K : Int) := wrap_nat rfl (by have := HlQ.out; omega)
            have n7 : K ≤ c := by omega
            have n8 : (K : Int) < ((K + 1 : Nat) : Int) := by omega
            have n9 : (K : Int) < (K : Int) + 1 := by omega
            have ti : decide ((0 : Int) < ((K + 1 : Nat) : Int)) = true := decide_eq_true (by omega)
            have ti2 : decide ((0 : Int) < (K : Int) + 1) = true := decide_eq_true (by omega)
            have HSh : Hid (∀ W, Below wr.heap.size wr W → Calls Tryd.prog 33 #[.agg #[.slice At s.T.length ct, .int .i64 (s.N : Int), .slice (some ⟨bg, 0, none⟩) (K + 1) c, .slice Ab s.B.length cb, .int .i64 s.E], .agg #[.int .i64 p, .int .i64 q]] W fun e w' => e = .returned (.bool (shutG s.T (p, q))) ∧ Below W.heap.size W w') := fun W hW => ref12shut_any At s.T.length ct s.T _ _ _ _ p q W (HX.out.next hW).rows.rT.hasK' (by have := HlT.out; omega)
            have hlt := HX.out.box.lt
            have hlt2 := HX.out.rows.rP.zlt bg rfl
            generalize shutG s.T (p, q) = R at *
            clear HG HBv hd0 hK hGl hq0
            go_region_held3 (fun W => W.cell? ⟨w.heap.size, 0, none⟩ = some (.slice At s.T.length ct) ∧ W.cell? ⟨w.heap.size, 1, none⟩ = some (.int .i64 (s.N : Int)) ∧ W.cell? ⟨w.heap.size, 2, none⟩ = some (.slice (some ⟨bg, 0, none⟩) (K + 1) c) ∧ W.cell? ⟨w.heap.size, 3, none⟩ = some (.slice Ab s.B.length cb) ∧ W.cell? ⟨w.heap.size, 4, none⟩ = some (.int .i64 s.E) ∧ W.cell? ⟨bg, K * 2, none⟩ = some (.int .i64 p) ∧ W.cell? ⟨bg, K * 2 + 1, none⟩ = some (.int .i64 q)) (first | exact ⟨x0, x1, x2, x3, x4, g0, g1⟩ | exact ⟨(hb5.out.cell (p := ⟨w.heap.size, 0, none⟩) hlt).trans x0, (hb5.out.cell (p := ⟨w.heap.size, 1, none⟩) hlt).trans x1, (hb5.out.cell (p := ⟨w.heap.size, 2, none⟩) hlt).trans x2, (hb5.out.cell (p := ⟨w.heap.size, 3, none⟩) hlt).trans x3, (hb5.out.cell (p := ⟨w.heap.size, 4, none⟩) hlt).trans x4, (hb5.out.cell (p := ⟨bg, K * 2, none⟩) hlt2).trans g0, (hb5.out.cell (p := ⟨bg, K * 2 + 1, none⟩) hlt2).trans g1⟩) (first
              | (go_at_call 33; refine Calls.mono (HSh.out _ (Below.refl _ _).drew) ?_; rintro e w5 ⟨rfl, hb⟩; have hb5 : Hid (Below wr.heap.size wr w5) := new_call (Below.refl _ _).drew hb; clear hb))
            go_wp2_with (with_reducible fail)
            go_meet
            case rel => exact ⟨rfl, hb5⟩
      case rest =>
        obtain ⟨rfl, HB⟩ := hcut
        have HX1 := Lib.hid (HX.out.next HB.out)
        clear x0 x1 x2 x3 x4 HX HB
        generalize wc = W1 at *
        by_cases hb : Bv = true
        · subst hb
          have hne : Q ≠ [] := fun e => by
            subst e
            have h := HBv.out
            simp at h
          obtain ⟨l, ⟨p, q⟩, rfl⟩ := last_form hne
          have hsh : shutG s.T (p, q) = true := by
            have h := HBv.out
            rw [List.getLast?_concat] at h
            simp at h
            first | exact h | exact h.symm
          have HPl : Hid (popG s.T s.P = popG s.T l) := HPo.out.trans (pop_end hsh)
          obtain ⟨K, hK⟩ : ∃ K, l.length = K := ⟨_, rfl⟩
          have hGl : (l ++ [(p, q)]).length = K + 1 := by rw [List.length_append, hK]; rfl
          rw [hGl] at HlQ HX1 hQ
          subst hQ
          have hd0 := HX1.out.rows.rP
          rw [hGl] at hd0
          obtain ⟨bg, cd, hA, hcd⟩ := own2_form hd0
          injection hA with e1 _ e3
          subst e1 e3
          have HP1 := Lib.hid (HX1.out.set (HX1.out.rows.pop rfl hK) 2 (.slice (some ⟨bg, 0, none⟩) K c) rfl)
          have n4 : IntKind.wrap .i64 (((K + 1 : Nat) : Int) - 1) = (K : Int) := wrap_nat (by omega) (by have := HlQ.out; omega)
          have n5 : IntKind.wrap .i64 ((K : Int) + 1 - 1) = (K : Int) := wrap_nat (by omega) (by have := HlQ.out; omega)
          have n6 : IntKind.wrap .i64 (K : Int) = (K : Int) := wrap_nat rfl (by have := HlQ.out; omega)
          have n7 : K ≤ c := by omega
          have x2 := HX1.out.box.cell 2
          have z2 := HX1.out.box.frozen 2
          clear HBv hne hsh HPo hd0 hGl HX1
          go_wp2
          go_roundg K
          case measure => omega
          case rel =>
            refine ⟨l, some ⟨bg, 0, none⟩, c, hK, HPl, ?_, ?_⟩
            · show _ ≤ _
              have := HlQ.out
              omega
            · rw [hK]
              exact HP1
        · have hb2 : Bv = false := by simpa using hb
          subst hb2
          have HQ : Hid (popG s.T s.P = Q) := by
            refine HPo.out.trans (popG_self fun d hd => ?_)
            have h := HBv.out
            rw [hd] at h
            have hne : Q ≠ [] := fun e => by subst e; cases hd
            rw [decide_eq_true hne] at h
            simpa using h.symm
          clear HBv HPo hb hQ
          have x2 := HX1.out.box.cell 2
          have y0 := HX1.out.st.cell 0
          have y1 := HX1.out.st.cell 1
          obtain ⟨n, hn⟩ : ∃ n, Q.length = n := ⟨_, rfl⟩
          have HQn := Lib.hid hn
          rw [hn] at HX1 x2 HlQ
          go_upto_region 6 with (with_reducible fail)
          go_cut [77] from 42 (fun s77 wx => s77 = .bool (decide (formG Q (k, v))) ∧ wx = W1)
          case first =>
            as_aux_lemma =>
              rcases form_ways Q k v with ⟨h1, hf⟩ | ⟨h1, h2, hf⟩ | ⟨h1, h2, h3, h4, hf⟩ | ⟨rfl, rfl, h3, hf⟩ | ⟨rfl, rfl, h3, hf⟩ | ⟨h1, rfl, h3, hf⟩ | ⟨h1, rfl, h3, hf⟩ | ⟨rfl, h3, hf⟩ | ⟨rfl, h3, hf⟩
              all_goals try rw [hn] at h3
              all_goals have Hf := Lib.hid hf
              all_goals clear hf HX1 HQ HlQ HlT HlP HlB HlN HE0 te HQn hn
              · have t1 : decide (k < 0) = true := decide_eq_true h1
                go_wp2_with (with_reducible fail)
                go_meet
                case rel => exact ⟨congrArg Value.bool (decide_eq_true Hf.out).symm, rfl⟩
              · have t1 : decide (k < 0) = false := decide_eq_false h1
                have t2 : decide (3 < k) = true := decide_eq_true h2
                go_wp2_with (with_reducible fail)
                go_meet
                case rel => exact ⟨congrArg Value.bool (decide_eq_true Hf.out).symm, rfl⟩
              · have t1 : decide (k < 0) = false := decide_eq_false h1
                have t2 : decide (3 < k) = false := decide_eq_false h2
                have t3 : decide (k < 3) = true := decide_eq_true h3
                have t4 : (v != 0) = true := bne_iff_ne.2 h4
                go_wp2_with (with_reducible fail)
                go_meet
                case rel => exact ⟨congrArg Value.bool (decide_eq_true Hf.out).symm, rfl⟩
              · have t1 : decide ((0 : Int) < (n : Int)) = true := decide_eq_true (by omega)
                have t2 : (0 : Int) < (n : Int) := by omega
                go_wp2_with (with_reducible fail)
                go_meet
                case rel => exact ⟨congrArg Value.bool (decide_eq_true Hf.out).symm, rfl⟩
              · subst h3
                go_wp2_with (with_reducible fail)
                go_meet
                case rel => exact ⟨congrArg Value.bool (decide_eq_false Hf.out).symm, rfl⟩
              · subst h3
                have t1 : decide (k < 0) = false := decide_eq_false (by omega)
                have t2 : decide (3 < k) = false := decide_eq_false (by omega)
                have t3 : decide (k < 3) = true := decide_eq_true (by omega)
                have t4 : (k == 0) = false := beq_eq_false_iff_ne.2 (by omega)
                have t5 : decide (0 < k) = true := decide_eq_true (by omega)
                clear h1
                go_wp2_with (with_reducible fail)
                go_meet
                case rel => exact ⟨congrArg Value.bool (decide_eq_true Hf.out).symm, rfl⟩
              · have t1 : decide (k < 0) = false := decide_eq_false (by omega)
                have t2 : decide (3 < k) = false := decide_eq_false (by omega)
                have t3 : decide (k < 3) = true := decide_eq_true (by omega)
                have t4 : (k == 0) = false := beq_eq_false_iff_ne.2 (by omega)
                have t5 : decide (0 < k) = true := decide_eq_true (by omega)
                have t6 : ((n : Int) == 0) = false := beq_eq_false_iff_ne.2 (by omega)
                clear h1
                go_wp2_with (with_reducible fail)
                go_meet
                case rel => exact ⟨congrArg Value.bool (decide_eq_false Hf.out).symm, rfl⟩
              · subst h3
                go_wp2_with (with_reducible fail)
                go_meet
                case rel => exact ⟨congrArg Value.bool (decide_eq_true Hf.out).symm, rfl⟩
              · have t1 : ((n : Int) == 0) = false := beq_eq_false_iff_ne.2 (by omega)
                go_wp2_with (with_reducible fail)
                go_meet
                case rel => exact ⟨congrArg Value.bool (decide_eq_false Hf.out).symm, rfl⟩
          case rest =>
            obtain ⟨rfl, rfl⟩ := hcut
            clear x2 y0 y1
            generalize wc = W2 at *
            by_cases hf : formG Q (k, v)
            · rw [decide_eq_true hf]
              have HE : Hid (stepG s (k, v) = ⟨s.T, s.N, Q, s.B, 11⟩) := step_form HE0.out HQ.out hf
              have HX2 := Lib.hid (HX1.out.set HX1.out.rows 4 (.int .i64 11) rfl)
              have HEnd := Lib.hid (HX2.out.fin rfl)
              have f4 := HX1.out.box.frozen 4
              have x4 := HX1.out.box.cell 4
              have x0 := HX2.out.box.cell 0
              have x1 := HX2.out.box.cell 1
              have x2 := HX2.out.box.cell 2
              have x3 := HX2.out.box.cell 3
              have x5 := HX2.out.box.cell 4
              have z0 := HX2.out.re.cell 0
              have z1 := HX2.out.re.cell 1
              have z2 := HX2.out.re.cell 2
              have z3 := HX2.out.re.cell 3
              have z4 := HX2.out.re.cell 4
              have q0 := HX2.out.re.frozen 0
              have q1 := HX2.out.re.frozen 1
              have q2 := HX2.out.re.frozen 2
              have q3 := HX2.out.re.frozen 3
              have q4 := HX2.out.re.frozen 4
              clear hf
              go_wp2
              try rw [Exit.noGoto_ret]
              exact bodyPost_ret (results_cellM Tryd.results12 rfl (g_load _ _ _ _ _ _ _ HEnd.out.1)) rfl (by rw [HE.out]; exact HEnd.out.2)
            · rw [decide_eq_false hf]
              have hk : k = 0 ∨ k = 1 ∨ k = 2 ∨ k = 3 := by unfold formG at hf; simp only [ne_eq, not_or, not_and] at hf; omega
              have hv : k < 3 → v = 0 := fun h => by unfold formG at hf; simp only [ne_eq, not_or, not_and] at hf; omega
              have Hf := Lib.hid hf
              clear hf
              have x0 := HX1.out.box.cell 0
              have x1 := HX1.out.box.cell 1
              have y0 := HX1.out.st.cell 0
              have y1 := HX1.out.st.cell 1
              by_cases hk2 : k = 2 ∨ k = 3
              · clear hk
                have hk0 : (k == 0) = false := beq_eq_false_iff_ne.2 (by omega)
                have hk1 : (k == 1) = false := beq_eq_false_iff_ne.2 (by omega)
                have hk1' : (k != 1) = true := bne_iff_ne.2 (by omega)
                go_upto_region 9 with (with_reducible fail)
                go_cut [108] from 78 (fun s108 wx => s108 = .bool (decide (longG s (k, v))) ∧ wx = W2)
                case first =>
                  as_aux_lemma =>
                    clear HX1 HQ HlQ HlP HlB HE0 te HQn hn Hf
                    by_cases h1 : 8000 ≤ s.T.length
                    · have HE : Hid (decide (longG s (k, v)) = true) := decide_eq_true (Or.inl ⟨by show k ≠ 1; omega, h1⟩)
                      have t1 : decide ((8000 : Int) ≤ (s.T.length : Int)) = true := decide_eq_true (by omega)
                      clear h1
                      go_wp2_with (with_reducible fail)
                      go_meet
                      case rel => exact ⟨congrArg Value.bool HE.out.symm, rfl⟩
                    · have t1 : decide ((8000 : Int) ≤ (s.T.length : Int)) = false := decide_eq_false (by omega)
                      rcases hk2 with rfl | rfl
                      · by_cases h2 : 3999 < s.N
                        · have HE : Hid (decide (longG s (2, v)) = true) := decide_eq_true (Or.inr (Or.inr ⟨rfl, h2⟩))
                          have t2 : decide ((3999 : Int) < (s.N : Int)) = true := decide_eq_true (by omega)
                          clear h1 h2
                          go_wp2_with (with_reducible fail)
                          go_meet
                          case rel => exact ⟨congrArg Value.bool HE.out.symm, rfl⟩
                        · have HE : Hid (decide (longG s (2, v)) = false) := decide_eq_false fun h => by unfold longG at h; simp only [ne_eq] at h; omega
                          have t2 : decide ((3999 : Int) < (s.N : Int)) = false := decide_eq_false (by omega)
                          clear h1 h2
                          go_wp2_with (with_reducible fail)
                          go_meet
                          case rel => exact ⟨congrArg Value.bool HE.out.symm, rfl⟩
                      · have HE : Hid (decide (longG s (3, v)) = false) := decide_eq_false fun h => by unfold longG at h; simp only [ne_eq] at h; omega
                        clear h1
                        go_wp2_with (with_reducible fail)
                        go_meet
                        case rel => exact ⟨congrArg Value.bool HE.out.symm, rfl⟩
                case rest =>
                  obtain ⟨rfl, rfl⟩ := hcut
                  clear x0 x1 y0 y1
                  generalize wc = W2 at *
                  by_cases hl : longG s (k, v)
                  · -- a piece
                    rw [decide_eq_true hl]
                    have HE : Hid (stepG s (k, v) = ⟨s.T, s.N, Q, s.B, 3⟩) := step_long HE0.out HQ.out Hf.out hl
                    have HXe := Lib.hid (HX1.out.set HX1.out.rows 4 (.int .i64 3) rfl)
                    have HEnd := Lib.hid (HXe.out.fin rfl)
                    have f4 := HX1.out.box.frozen 4
                    have x4 := HX1.out.box.cell 4
                    have y0 := HXe.out.box.cell 0
                    have y1 := HXe.out.box.cell 1
                    have y2 := HXe.out.box.cell 2
                    have y3 := HXe.out.box.cell 3
                    have y4 := HXe.out.box.cell 4
                    have z0 := HXe.out.re.cell 0
                    have z1 := HXe.out.re.cell 1
                    have z2 := HXe.out.re.cell 2
                    have z3 := HXe.out.re.cell 3
                    have z4 := HXe.out.re.cell 4
                    have q0 := HXe.out.re.frozen 0
                    have q1 := HXe.out.re.frozen 1
                    have q2 := HXe.out.re.frozen 2
                    have q3 := HXe.out.re.frozen 3
                    have q4 := HXe.out.re.frozen 4
                    clear hl
                    go_wp2
                    try rw [Exit.noGoto_ret]
                    exact bodyPost_ret (results_cellM Tryd.results12 rfl (g_load _ _ _ _ _ _ _ HEnd.out.1)) rfl (by rw [HE.out]; exact HEnd.out.2)
                  · rw [decide_eq_false hl]
                    have Hl := Lib.hid hl
                    clear hl
                    have hne : Q ≠ [] := fun e => Hf.out (Or.inr (Or.inr (Or.inr (Or.inr ⟨by show 0 < k; omega, e⟩))))
                    obtain ⟨l, ⟨p, q⟩, rfl⟩ := last_form hne
                    obtain ⟨K, hK⟩ : ∃ K, l.length = K := ⟨_, rfl⟩
                    have hGl : (l ++ [(p, q)]).length = K + 1 := by rw [List.length_append, hK]; rfl
                    obtain rfl : n = K + 1 := hn.symm.trans hGl
                    have hd0 := HX1.out.rows.rP
                    rw [hGl] at hd0
                    obtain ⟨bg, cd, hA, hcd⟩ := own2_form hd0
                    injection hA with e1 _ e3
                    subst e1 e3
                    have HG := Lib.hid (gate_at HX1.out.rows.rP rfl hK)
                    have g0 := HG.out.1
                    have g1 := HG.out.2
                    have n4 : IntKind.wrap .i64 (((K + 1 : Nat) : Int) - 1) = (K : Int) := wrap_nat (by omega) (by have := HlQ.out; omega)
                    have n5 : IntKind.wrap .i64 ((K : Int) + 1 - 1) = (K : Int) := wrap_nat (by omega) (by have := HlQ.out; omega)
                    have n6 : IntKind.wrap .i64 (K : Int) = (K : Int) := wrap_nat rfl (by have := HlQ.out; omega)
                    have n7 : K ≤ c := by omega
                    have n8 : (K : Int) < ((K + 1 : Nat) : Int) := by omega
                    have n9 : (K : Int) < (K : Int) + 1 := by omega
                    have y0 := HX1.out.st.cell 0
                    have y1 := HX1.out.st.cell 1
                    have x0 := HX1.out.box.cell 0
                    have x1 := HX1.out.box.cell 1
                    have x2 := HX1.out.box.cell 2
                    have x3 := HX1.out.box.cell 3
                    have x4 := HX1.out.box.cell 4
                    have HKl := Lib.hid hK
                    clear hne hGl hd0 HG hn HQn hK hcd
                    by_cases hbad : k = 3 ∧ (v < 0 ∨ (s.N : Int) ≤ v ∨ v = p ∨ v = q)
                    · -- a piece
                      obtain ⟨rfl, hb⟩ := hbad
                      have HE : Hid (stepG s (3, v) = ⟨s.T, s.N, l ++ [(p, q)], s.B, 11⟩) := step_three_bad HE0.out HQ.out Hf.out Hl.out rfl hb
                      have HXe := Lib.hid (HX1.out.set HX1.out.rows 4 (.int .i64 11) rfl)
                      have HEnd := Lib.hid (HXe.out.fin rfl)
                      have f4 := HX1.out.box.frozen 4
                      have b0 := HXe.out.box.cell 0
                      have b1 := HXe.out.box.cell 1
                      have b2 := HXe.out.box.cell 2
                      have b3 := HXe.out.box.cell 3
                      have b4 := HXe.out.box.cell 4
                      have z0 := HXe.out.re.cell 0
                      have z1 := HXe.out.re.cell 1
                      have z2 := HXe.out.re.cell 2
                      have z3 := HXe.out.re.cell 3
                      have z4 := HXe.out.re.cell 4
                      have q0 := HXe.out.re.frozen 0
                      have q1 := HXe.out.re.frozen 1
                      have q2 := HXe.out.re.frozen 2
                      have q3 := HXe.out.re.frozen 3
                      have q4 := HXe.out.re.frozen 4
                      clear hk2
                      by_cases e1 : v < 0
                      · have t1 : decide (v < 0) = true := decide_eq_true e1
                        clear hb
                        go_wp2
                        try rw [Exit.noGoto_ret]
                        exact bodyPost_ret (results_cellM Tryd.results12 rfl (g_load _ _ _ _ _ _ _ HEnd.out.1)) rfl (by rw [HE.out]; exact HEnd.out.2)
                      · have t1 : decide (v < 0) = false := decide_eq_false e1
                        by_cases e2 : (s.N : Int) ≤ v
                        · have t2 : decide ((s.N : Int) ≤ v) = true := decide_eq_true e2
                          clear hb
                          go_wp2
                          try rw [Exit.noGoto_ret]
                          exact bodyPost_ret (results_cellM Tryd.results12 rfl (g_load _ _ _ _ _ _ _ HEnd.out.1)) rfl (by rw [HE.out]; exact HEnd.out.2)
                        · have t2 : decide ((s.N : Int) ≤ v) = false := decide_eq_false e2
                          by_cases e3 : v = p
                          · have t3 : (v == p) = true := beq_iff_eq.2 e3
                            clear hb e3
                            go_wp2
                            try rw [Exit.noGoto_ret]
                            exact bodyPost_ret (results_cellM Tryd.results12 rfl (g_load _ _ _ _ _ _ _ HEnd.out.1)) rfl (by rw [HE.out]; exact HEnd.out.2)
                          · have t3 : (v == p) = false := beq_eq_false_iff_ne.2 e3
                            have t4 : (v == q) = true := beq_iff_eq.2 (by omega)
                            clear hb e3
                            go_wp2
                            try rw [Exit.noGoto_ret]
                            exact bodyPost_ret (results_cellM Tryd.results12 rfl (g_load _ _ _ _ _ _ _ HEnd.out.1)) rfl (by rw [HE.out]; exact HEnd.out.2)
                    · have key : Hid (∃ (vv : Int) (M : Nat) (Mz : Int), (M : Int) = Mz ∧ stepG s (k, v) = overG s (l ++ [(p, q)]) p q vv M ∧ ((k = 2 ∧ vv = (s.N : Int) ∧ Mz = (s.N : Int) + 1) ∨ (k = 3 ∧ vv = v ∧ Mz = (s.N : Int) ∧ ¬ (v < 0 ∨ (s.N : Int) ≤ v ∨ v = p ∨ v = q)))) := by
                        rcases hk2 with rfl | rfl
                        · exact ⟨(s.N : Int), s.N + 1, (s.N : Int) + 1, by omega, step_two HE0.out HQ.out Hf.out Hl.out rfl, Or.inl ⟨rfl, rfl, rfl⟩⟩
                        · have hb : ¬ (v < 0 ∨ (s.N : Int) ≤ v ∨ v = p ∨ v = q) := fun h => hbad ⟨rfl, h⟩
                          exact ⟨v, s.N, (s.N : Int), rfl, step_three HE0.out HQ.out Hf.out Hl.out rfl hb, Or.inr ⟨rfl, rfl, rfl, hb⟩⟩
                      obtain ⟨vv, M, Mz, hM, hE, hway⟩ := key.out
                      have HM := Lib.hid hM
                      have HS := Lib.hid hE
                      clear key hM hE hbad hv
                      have HWay := Lib.hid hway
                      clear hway
                      go_upto_if 190 with (with_reducible fail)
                      go_cut [9] from 191 (fun s9 wx => s9 = .int .i64 vv ∧ wx = W2)
                      case first =>
                        as_aux_lemma =>
                          rcases HWay.out with ⟨rfl, rfl, rfl⟩ | ⟨rfl, rfl, rfl, hb⟩
                          · clear hk2
                            go_wp2_with (with_reducible fail)
                            go_meet
                            case rel => exact ⟨rfl, rfl⟩
                          · have t1 : decide (vv < 0) = false := decide_eq_false fun h => hb (Or.inl h)
                            have t2 : decide ((s.N : Int) ≤ vv) = false := decide_eq_false fun h => hb (Or.inr (Or.inl h))
                            have t3 : (vv == p) = false := beq_eq_false_iff_ne.2 fun h => hb (Or.inr (Or.inr (Or.inl h)))
                            have t4 : (vv == q) = false := beq_eq_false_iff_ne.2 fun h => hb (Or.inr (Or.inr (Or.inr h)))
                            clear hk2 hb
                            go_wp2_with (with_reducible fail)
                            go_meet
                            case rel => exact ⟨rfl, rfl⟩
                      case rest =>
                        obtain ⟨rfl, rfl⟩ := hcut
                        generalize wc = W2 at *
                        have HTk := Lib.hid HX1.out.rows.rT.hasK'
                        have HlT3 : Hid (s.T.length ≤ 100000) := by have := HlT.out; show _ ≤ _; omega
                        have HlB3 : Hid (s.B.length ≤ 100000) := HlB.out
                        go_upto_region 30 with (with_reducible fail)
                        go_cut [238] from 213 (fun s238 wx => s238 = .bool (decide ((p, vv) ∈ darts s.T ∨ (vv, q) ∈ darts s.T ∨ (p, vv) ∈ s.B ∨ (vv, q) ∈ s.B)) ∧ Hid (Below W2.heap.size W2 wx))
                        case first =>
                          as_aux_lemma =>
                            clear HQ HlQ HlP HE0 te Hf Hl hk2 hk0 hk1 hk1' g0 g1 n4 n5 n6 n7 n8 n9 HM HS HWay HlT HlB y0 y1
                            by_cases e1 : (p, vv) ∈ darts s.T
                            · have HE1 : Hid (decide ((p, vv) ∈ darts s.T ∨ (vv, q) ∈ darts s.T ∨ (p, vv) ∈ s.B ∨ (vv, q) ∈ s.B) = true) := decide_eq_true (Or.inl e1)
                              go_wp2_with fail
                              refine (ref10Has_any At s.T.length ct s.T p vv W2 HTk.out HlT3.out).mono ?_
                              rintro e u1 ⟨rfl, rfl⟩
                              have u1b : decide (0 ≤ hasF s.T p vv) = true := (has_in s.T p vv).trans (decide_eq_true e1)
                              generalize hasF s.T p vv = ru1 at *
                              go_wp2_with (with_reducible fail)
                              go_meet
                              case rel => exact ⟨congrArg Value.bool HE1.out.symm, Below.refl _ _⟩
                            · by_cases e2 : (vv, q) ∈ darts s.T
                              · have HE1 : Hid (decide ((p, vv) ∈ darts s.T ∨ (vv, q) ∈ darts s.T ∨ (p, vv) ∈ s.B ∨ (vv, q) ∈ s.B) = true) := decide_eq_true (Or.inr (Or.inl e2))
                                go_wp2_with fail
                                refine (ref10Has_any At s.T.length ct s.T p vv W2 HTk.out HlT3.out).mono ?_
                                rintro e u1 ⟨rfl, rfl⟩
                                have u1b : decide (0 ≤ hasF s.T p vv) = false := (has_in s.T p vv).trans (decide_eq_false e1)
                                generalize hasF s.T p vv = ru1 at *
                                go_wp2_with fail
                                refine (ref10Has_any At s.T.length ct s.T vv q W2 HTk.out HlT3.out).mono ?_
                                rintro e u2 ⟨rfl, rfl⟩
                                have u2b : decide (0 ≤ hasF s.T vv q) = true := (has_in s.T vv q).trans (decide_eq_true e2)
                                generalize hasF s.T vv q = ru2 at *
                                go_wp2_with (with_reducible fail)
                                go_meet
                                case rel => exact ⟨congrArg Value.bool HE1.out.symm, Below.refl _ _⟩
                              · by_cases e3 : (p, vv) ∈ s.B
                                · have HE1 : Hid (decide ((p, vv) ∈ darts s.T ∨ (vv, q) ∈ darts s.T ∨ (p, vv) ∈ s.B ∨ (vv, q) ∈ s.B) = true) := decide_eq_true (Or.inr (Or.inr (Or.inl e3)))
                                  go_wp2_with fail
                                  refine (ref10Has_any At s.T.length ct s.T p vv W2 HTk.out HlT3.out).mono ?_
                                  rintro e u1 ⟨rfl, rfl⟩
                                  have u1b : decide (0 ≤ hasF s.T p vv) = false := (has_in s.T p vv).trans (decide_eq_false e1)
                                  generalize hasF s.T p vv = ru1 at *
                                  go_wp2_with fail
                                  refine (ref10Has_any At s.T.length ct s.T vv q W2 HTk.out HlT3.out).mono ?_
                                  rintro e u2 ⟨rfl, rfl⟩
                                  have u2b : decide (0 ≤ hasF s.T vv q) = false := (has_in s.T vv q).trans (decide_eq_false e2)
                                  generalize hasF s.T vv q = ru2 at *
                                  go_wp2_with fail
                                  refine (ref12border_any _ _ _ _ Ab s.B.length cb s.B p vv W2 HX1.out.rows.rB.hasK' HlB3.out).mono ?_
                                  rintro e u3 ⟨rfl, hb⟩
                                  rw [decide_eq_true e3]
                                  go_wp2_with (with_reducible fail)
                                  go_meet
                                  case rel => exact ⟨congrArg Value.bool HE1.out.symm, hb⟩
                                · have HE1 : Hid (decide ((p, vv) ∈ darts s.T ∨ (vv, q) ∈ darts s.T ∨ (p, vv) ∈ s.B ∨ (vv, q) ∈ s.B) = decide ((vv, q) ∈ s.B)) := decide_eq_decide.2 ⟨fun h => by simpa [e1, e2, e3] using h, fun h => Or.inr (Or.inr (Or.inr h))⟩
                                  go_wp2_with fail
                                  refine (ref10Has_any At s.T.length ct s.T p vv W2 HTk.out HlT3.out).mono ?_
                                  rintro e u1 ⟨rfl, rfl⟩
                                  have u1b : decide (0 ≤ hasF s.T p vv) = false := (has_in s.T p vv).trans (decide_eq_false e1)
                                  generalize hasF s.T p vv = ru1 at *
                                  go_wp2_with fail
                                  refine (ref10Has_any At s.T.length ct s.T vv q W2 HTk.out HlT3.out).mono ?_
                                  rintro e u2 ⟨rfl, rfl⟩
                                  have u2b : decide (0 ≤ hasF s.T vv q) = false := (has_in s.T vv q).trans (decide_eq_false e2)
                                  generalize hasF s.T vv q = ru2 at *
                                  go_wp2_with fail
                                  refine (ref12border_any _ _ _ _ Ab s.B.length cb s.B p vv W2 HX1.out.rows.rB.hasK' HlB3.out).mono ?_
                                  rintro e u3 ⟨rfl, hb⟩
                                  rw [decide_eq_false e3]
                                  have HXu := Lib.hid (HX1.out.next hb)
                                  have HBu := Lib.hid hb
                                  clear hb x0 x1 x2 x3 x4
                                  have x0 := HXu.out.box.cell 0
                                  have x1 := HXu.out.box.cell 1
                                  have x2 := HXu.out.box.cell 2
                                  have x3 := HXu.out.box.cell 3
                                  have x4 := HXu.out.box.cell 4
                                  go_wp2_with fail
                                  refine (ref12border_any _ _ _ _ Ab s.B.length cb s.B vv q u3 HXu.out.rows.rB.hasK' HlB3.out).mono ?_
                                  rintro e u4 ⟨rfl, hb⟩
                                  have HBv := Lib.hid (new_call HBu.out hb)
                                  clear hb
                                  go_wp2_with (with_reducible fail)
                                  go_meet
                                  case rel => exact ⟨congrArg Value.bool HE1.out.symm, HBv.out⟩
                        case rest =>
                          obtain ⟨rfl, HB2⟩ := hcut
                          have HX3 := Lib.hid (HX1.out.next HB2.out)
                          clear x0 x1 x2 x3 x4 y0 y1 g0 g1 HX1 HB2 HTk
                          generalize wc = W3 at *
                          by_cases hbad : (p, vv) ∈ darts s.T ∨ (vv, q) ∈ darts s.T ∨ (p, vv) ∈ s.B ∨ (vv, q) ∈ s.B
                          · -- a piece
                            rw [decide_eq_true hbad]
                            have HE : Hid (stepG s (k, v) = ⟨s.T, s.N, l ++ [(p, q)], s.B, 80⟩) := HS.out.trans (over_bad hbad)
                            have HXe := Lib.hid (HX3.out.set HX3.out.rows 4 (.int .i64 80) rfl)
                            have HEnd := Lib.hid (HXe.out.fin rfl)
                            have f4 := HX3.out.box.frozen 4
                            have x4 := HX3.out.box.cell 4
                            have y0 := HXe.out.box.cell 0
                            have y1 := HXe.out.box.cell 1
                            have y2 := HXe.out.box.cell 2
                            have y3 := HXe.out.box.cell 3
                            have y4 := HXe.out.box.cell 4
                            have z0 := HXe.out.re.cell 0
                            have z1 := HXe.out.re.cell 1
                            have z2 := HXe.out.re.cell 2
                            have z3 := HXe.out.re.cell 3
                            have z4 := HXe.out.re.cell 4
                            have q0 := HXe.out.re.frozen 0
                            have q1 := HXe.out.re.frozen 1
                            have q2 := HXe.out.re.frozen 2
                            have q3 := HXe.out.re.frozen 3
                            have q4 := HXe.out.re.frozen 4
                            clear hbad
                            go_wp2
                            try rw [Exit.noGoto_ret]
                            exact bodyPost_ret (results_cellM Tryd.results12 rfl (g_load _ _ _ _ _ _ _ HEnd.out.1)) rfl (by rw [HE.out]; exact HEnd.out.2)
                          · rw [decide_eq_false hbad]
                            have HE : Hid (stepG s (k, v) = ⟨s.T ++ [(q, p, vv)], M, l ++ [(p, vv), (vv, q)], s.B, s.E⟩) := HS.out.trans (over_fine hbad)
                            have y0 := HX3.out.st.cell 0
                            have x1 := HX3.out.box.cell 1
                            have f1 := HX3.out.box.frozen 1
                            have nn : IntKind.wrap .i64 ((s.N : Int) + 1) = (s.N : Int) + 1 := by rw [IntKind.wrap_i64]; have := HlN.out; omega
                            clear hbad HS
                            go_upto_if 243 with (with_reducible fail)
                            go_cut [] from 244 (fun wx => Hid (GX w F k v (.slice At s.T.length ct) (.slice (some ⟨bg, 0, none⟩) (K + 1) c) (.slice Ab s.B.length cb) Mz s.E s.T (l ++ [(p, q)]) s.B wx))
                            case first =>
                              as_aux_lemma =>
                                rcases HWay.out with ⟨rfl, rfl, rfl⟩ | ⟨rfl, rfl, rfl, _⟩
                                · clear hk2
                                  go_wp2_with (with_reducible fail)
                                  go_meet
                                  case rel => exact HX3.out.setN _
                                · clear hk2
                                  go_wp2_with (with_reducible fail)
                                  go_meet
                                  case rel => exact HX3
                            case rest =>
                              have HX4 := hcut
                              clear hcut y0 x1 f1 nn HX3 HWay hk0 hk1 hk1' hk2 Hf Hl HQ HE0
                              generalize wc = W4 at *
                              go_upto_region 35 with (with_reducible fail)
                              have HPop : Hid (HasK 2 W4 (some ⟨bg, 0, none⟩) K c (e2Cells l)) := by
                                have h := (HX4.out.rows.pop rfl HKl.out).rP
                                rw [HKl.out] at h
                                exact h.hasK'
                              have x2 := HX4.out.box.cell 2
                              have HlK : Hid (0 + K ≤ 1099511627776) := by have := HlQ.out; show _ ≤ _; omega
                              have HlK2 : Hid (K + 2 ≤ 1099511627776) := by have := HlQ.out; show _ ≤ _; omega
                              have HlT2 : Hid (s.T.length + 1 ≤ 1099511627776) := by have := HlT.out; show _ ≤ _; omega
                              go_wp2_with (at_builtin
                                           go_loud (first
                                           | ((refine wpList_joinGK rfl _ _ 27 rfl elemE2 (by decide) 0 _ 0 [] rfl (OwnK.nil _ _ _ _) _ K c (e2Cells l) rfl HPop.out (e2Cells_one _) HlK.out (by decide) (Nat.zero_le _) ?_)
                                              rintro v5 w5 ho hg hw
                                              rw [List.nil_append, Nat.zero_add] at ho
                                              obtain ⟨A5, c5, rfl, _⟩ := OwnK.has ho
                                              have HB5 := Lib.hid (below_nilG hg)
                                              have HF5 : Hid (∀ g, (Value.slice A5 K c5).ownBlock = some g → W4.heap.size ≤ g) := fun g h => (hw g h).elim (fun h => by cases h) id
                                              have HO5 := Lib.hid ho
                                              have HX5 := Lib.hid (HX4.out.next HB5.out)
                                              have HN6 : Hid (HasK 2 (w5.alloc (.cells #[.int .i64 p, .int .i64 vv, .int .i64 vv, .int .i64 q] 66)) (some ⟨w5.heap.size, 0, none⟩) 2 2 (e2Cells [(p, vv), (vv, q)])) := HasK.new_at 2 _ #[.int .i64 p, .int .i64 vv, .int .i64 vv, .int .i64 q] 66 _ 2 rfl rfl
                                              clear ho hg hw)
                                           | ((refine wpList_joinGK rfl _ _ 27 rfl elemE2 (by decide) 0 _ K (e2Cells l) rfl (HO5.out.alloc _) _ 2 2 (e2Cells [(p, vv), (vv, q)]) rfl HN6.out (e2Cells_one _) HlK2.out (by decide) (Nat.zero_le _) ?_)
                                              rintro v6 w6 ho hg hw
                                              obtain ⟨A6, c6, rfl, _⟩ := OwnK.has ho
                                              have HB6 : Hid (Below W4.heap.size W4 w6) := (new_alloc HB5.out _).grown hg (Nat.le_trans HB5.out.size (by simp)) HF5.out
                                              have HX6 := Lib.hid (HX4.out.next HB6.out)
                                              have HF6 : Hid (∀ g, (Value.slice A6 (K + 2) c6).ownBlock = some g → W4.heap.size ≤ g) := fun g h => (hw g h).elim (HF5.out g) (fun h => Nat.le_trans (Nat.le_trans HB5.out.size (by simp)) h)
                                              have HR6 := Lib.hid (HX6.out.rows.otherP (l := l ++ [(p, vv), (vv, q)]) (c' := .slice A6 (K + 2) c6) (by rw [List.length_append, HKl.out, e2Cells_app]; exact ho) (fun g h => HX4.out.fresh g (HF6.out g h)) (fun g h1 h2 => by have := HX4.out.rows.rT.zlt g h1; have := HF6.out g h2; omega) (fun g h1 h2 => by have := HX4.out.rows.rB.zlt g h2; have := HF6.out g h1; omega))
                                              have HX7 := Lib.hid (HX6.out.set HR6.out 2 (.slice A6 (K + 2) c6) rfl)
                                              have f6 := HX6.out.box.frozen 2
                                              have x6 := HX6.out.box.cell 2
                                              have hz : (w6.setCell ⟨w.heap.size, 2, none⟩ (.slice A6 (K + 2) c6)).heap.size = w6.heap.size := by simp
                                              have HX8 := Lib.hid (HX7.out.next (new_alloc (Below.refl _ _) (.cells #[.int .i64 q, .int .i64 p, .int .i64 vv] 58)))
                                              have HN8 : Hid (HasK 3 ((w6.setCell ⟨w.heap.size, 2, none⟩ (.slice A6 (K + 2) c6)).alloc (.cells #[.int .i64 q, .int .i64 p, .int .i64 vv] 58)) (some ⟨w6.heap.size, 0, none⟩) 1 1 (p3Cells [(q, p, vv)])) := HasK.new_at 3 _ #[.int .i64 q, .int .i64 p, .int .i64 vv] 58 _ 1 hz.symm rfl
                                              have x0 := HX7.out.box.cell 0
                                              clear ho hg hw hz x2)
                                           | ((refine wpList_joinGK rfl _ _ 26 rfl elemT3 (by decide) 0 _ s.T.length (p3Cells s.T) rfl HX8.out.rows.rT _ 1 1 (p3Cells [(q, p, vv)]) rfl HN8.out (p3Cells_one _) HlT2.out (by decide) (Nat.zero_le _) ?_)
                                              rintro v9 w9 ho hg hw
                                              obtain ⟨A9, c9, rfl, _⟩ := OwnK.has ho
                                              obtain ⟨hX, hB⟩ := HX8.out.putT (l := s.T ++ [(q, p, vv)]) (by rw [List.length_append, p3Cells_app]; exact ho) hg hw
                                              have HX9 := Lib.hid hX
                                              have f9 := hB.frozen 0
                                              have y9 := hB.cell 0
                                              have HEnd := Lib.hid (HX9.out.fin HM.out)
                                              have b0 := HX9.out.box.cell 0
                                              have b1 := HX9.out.box.cell 1
                                              have b2 := HX9.out.box.cell 2
                                              have b3 := HX9.out.box.cell 3
                                              have b4 := HX9.out.box.cell 4
                                              have z0 := HX9.out.re.cell 0
                                              have z1 := HX9.out.re.cell 1
                                              have z2 := HX9.out.re.cell 2
                                              have z3 := HX9.out.re.cell 3
                                              have z4 := HX9.out.re.cell 4
                                              have q0 := HX9.out.re.frozen 0
                                              have q1 := HX9.out.re.frozen 1
                                              have q2 := HX9.out.re.frozen 2
                                              have q3 := HX9.out.re.frozen 3
                                              have q4 := HX9.out.re.frozen 4
                                              clear hX hB ho hg hw x0 x6 f6)))
                              try rw [Exit.noGoto_ret]
                              exact bodyPost_ret (results_cellM Tryd.results12 rfl (g_load _ _ _ _ _ _ _ HEnd.out.1)) rfl (by rw [HE.out]; exact HEnd.out.2)
              · by_cases hk0 : k = 0
                · subst hk0
                  obtain rfl : v = 0 := hv (by omega)
                  clear hk hk2 hv
                  by_cases hl : longG s (0, 0)
                  · as_aux_lemma =>
                      have HE : Hid (stepG s (0, 0) = ⟨s.T, s.N, Q, s.B, 3⟩) := step_long HE0.out HQ.out Hf.out hl
                      have HXe := Lib.hid (HX1.out.set HX1.out.rows 4 (.int .i64 3) rfl)
                      have HEnd := Lib.hid (HXe.out.fin rfl)
                      have f4 := HX1.out.box.frozen 4
                      have x4 := HX1.out.box.cell 4
                      have y0 := HXe.out.box.cell 0
                      have y1 := HXe.out.box.cell 1
                      have y2 := HXe.out.box.cell 2
                      have y3 := HXe.out.box.cell 3
                      have y4 := HXe.out.box.cell 4
                      have z0 := HXe.out.re.cell 0
                      have z1 := HXe.out.re.cell 1
                      have z2 := HXe.out.re.cell 2
                      have z3 := HXe.out.re.cell 3
                      have z4 := HXe.out.re.cell 4
                      have q0 := HXe.out.re.frozen 0
                      have q1 := HXe.out.re.frozen 1
                      have q2 := HXe.out.re.frozen 2
                      have q3 := HXe.out.re.frozen 3
                      have q4 := HXe.out.re.frozen 4
                      rcases (show 8000 ≤ s.T.length ∨ (¬ 8000 ≤ s.T.length ∧ 3997 < s.N) by unfold longG at hl; simp only [ne_eq] at hl; omega) with h1 | ⟨h1, h2⟩
                      · have t1 : decide ((8000 : Int) ≤ (s.T.length : Int)) = true := decide_eq_true (by omega)
                        clear hl h1
                        go_wp2
                        try rw [Exit.noGoto_ret]
                        exact bodyPost_ret (results_cellM Tryd.results12 rfl (g_load _ _ _ _ _ _ _ HEnd.out.1)) rfl (by rw [HE.out]; exact HEnd.out.2)
                      · have t1 : decide ((8000 : Int) ≤ (s.T.length : Int)) = false := decide_eq_false (by omega)
                        have t2 : decide ((3997 : Int) < (s.N : Int)) = true := decide_eq_true (by omega)
                        clear hl h1 h2
                        go_wp2
                        try rw [Exit.noGoto_ret]
                        exact bodyPost_ret (results_cellM Tryd.results12 rfl (g_load _ _ _ _ _ _ _ HEnd.out.1)) rfl (by rw [HE.out]; exact HEnd.out.2)
                  · -- a piece
                      have HE : Hid (stepG s (0, 0) = _) := step_zero HE0.out HQ.out Hf.out hl rfl
                      have hT8 : s.T.length < 8000 ∧ s.N ≤ 3997 := ⟨Nat.lt_of_not_le fun e => hl (Or.inl ⟨by decide, e⟩), Nat.le_of_not_lt fun e => hl (Or.inr (Or.inl ⟨rfl, e⟩))⟩
                      have t1 : decide ((8000 : Int) ≤ (s.T.length : Int)) = false := decide_eq_false (by omega)
                      have t2 : decide ((3997 : Int) < (s.N : Int)) = false := decide_eq_false (by omega)
                      have hnz : n = 0 := by
                        have h := Hf.out
                        refine Decidable.byContradiction fun e => h (Or.inr (Or.inr (Or.inr (Or.inl ⟨rfl, fun e2 => e (hn.symm.trans (by rw [e2]; rfl))⟩))))
                      obtain rfl : Q = [] := List.length_eq_zero_iff.1 (hn.trans hnz)
                      subst hnz
                      have w1 : IntKind.wrap .i64 ((s.N : Int) + 1) = (s.N : Int) + 1 := by rw [IntKind.wrap_i64]; have := hT8.2; omega
                      have w2 : IntKind.wrap .i64 ((s.N : Int) + 2) = (s.N : Int) + 2 := by rw [IntKind.wrap_i64]; have := hT8.2; omega
                      have w3 : IntKind.wrap .i64 ((s.N : Int) + 3) = (s.N : Int) + 3 := by rw [IntKind.wrap_i64]; have := hT8.2; omega
                      have HlT2 : Hid (s.T.length + 1 ≤ 1099511627776) := by show _ ≤ _; omega
                      rw [List.nil_append] at HE
                      obtain ⟨N1, hN1⟩ : ∃ N1, (s.N : Int) + 1 = N1 := ⟨_, rfl⟩
                      obtain ⟨N2, hN2⟩ : ∃ N2, (s.N : Int) + 2 = N2 := ⟨_, rfl⟩
                      have HN3 : Hid (((s.N + 3 : Nat) : Int) = (s.N : Int) + 3) := by show _ = _; omega
                      rw [hN1] at HE w1
                      rw [hN2] at HE w2
                      clear hl hT8 x0 x1
                      have HXa := Lib.hid (HX1.out.next (new_alloc (Below.refl _ _) (.cells #[.int .i64 (s.N : Int), .int .i64 N1, .int .i64 N2] 58)))
                      have HKa := Lib.hid (Blk.new W2 58 #[.int .i64 (s.N : Int), .int .i64 N1, .int .i64 N2])
                      have hga : W2.heap.size ≠ w.heap.size := by have := HX1.out.box.lt; omega
                      have HnT : Hid ((Value.slice At s.T.length ct).ownBlock ≠ some W2.heap.size) := fun e => by have := HX1.out.rows.rT.zlt _ e; omega
                      have HnP : Hid ((Value.slice A 0 c).ownBlock ≠ some W2.heap.size) := fun e => by have := HX1.out.rows.rP.zlt _ e; omega
                      have x1 := HX1.out.box.cell 1
                      have xx0 := HX1.out.box.cell 0
                      have HXb := Lib.hid (HXa.out.next (new_alloc (Below.refl _ _) (.cells #[.int .i64 (s.N : Int), .int .i64 N1, .int .i64 N2] 58)))
                      have HKb := Lib.hid (HKa.out.alloc (.cells #[.int .i64 (s.N : Int), .int .i64 N1, .int .i64 N2] 58))
                      have x0 := HXa.out.box.cell 0
                      have k0 := HKa.out.cell 0
                      have k1 := HKa.out.cell 1
                      have k2 := HKa.out.cell 2
                      have HNb : Hid (HasK 3 ((W2.alloc (.cells #[.int .i64 (s.N : Int), .int .i64 N1, .int .i64 N2] 58)).alloc (.cells #[.int .i64 (s.N : Int), .int .i64 N1, .int .i64 N2] 58)) (some ⟨W2.heap.size + 1, 0, none⟩) 1 1 (p3Cells [((s.N : Int), N1, N2)])) := HasK.new_at 3 _ #[.int .i64 (s.N : Int), .int .i64 N1, .int .i64 N2] 58 _ 1 (by simp) rfl
                      go_wp2_with (at_builtin
                                   go_loud (first
                                   | ((refine wpList_joinGK rfl _ _ 26 rfl elemT3 (by decide) 0 _ s.T.length (p3Cells s.T) rfl HXb.out.rows.rT _ 1 1 (p3Cells [((s.N : Int), N1, N2)]) rfl HNb.out (p3Cells_one _) HlT2.out (by decide) (Nat.zero_le _) ?_)
                                      rintro v5 w5 ho hg hw
                                      obtain ⟨A5, c5, rfl, _⟩ := OwnK.has ho
                                      obtain ⟨hX, hB⟩ := HXb.out.putT (l := s.T ++ [((s.N : Int), N1, N2)]) (by rw [List.length_append, p3Cells_app]; exact ho) hg hw
                                      have HX5 := Lib.hid hX
                                      have HK5 := Lib.hid (((HKb.out.grown hg HnT.out).far hga (.slice A5 (s.T.length + 1) c5) : Blk (w5.setCell ⟨w.heap.size, 0, none⟩ (.slice A5 (s.T.length + 1) c5)) W2.heap.size 58 _))
                                      have f5 := hB.frozen 0
                                      have y5 := hB.cell 0
                                      have HX6 := Lib.hid (HX5.out.next (new_alloc (Below.refl _ _) (.cells #[.int .i64 (s.N : Int), .int .i64 N1, .int .i64 N1, .int .i64 N2, .int .i64 N2, .int .i64 (s.N : Int)] 66)))
                                      have hz : (w5.setCell ⟨w.heap.size, 0, none⟩ (.slice A5 (s.T.length + 1) c5)).heap.size = w5.heap.size := by simp
                                      have HN6 : Hid (HasK 2 ((w5.setCell ⟨w.heap.size, 0, none⟩ (.slice A5 (s.T.length + 1) c5)).alloc (.cells #[.int .i64 (s.N : Int), .int .i64 N1, .int .i64 N1, .int .i64 N2, .int .i64 N2, .int .i64 (s.N : Int)] 66)) (some ⟨w5.heap.size, 0, none⟩) 3 3 (e2Cells [((s.N : Int), N1), (N1, N2), (N2, (s.N : Int))])) := HasK.new_at 2 _ #[.int .i64 (s.N : Int), .int .i64 N1, .int .i64 N1, .int .i64 N2, .int .i64 N2, .int .i64 (s.N : Int)] 66 _ 3 hz.symm rfl
                                      have x2 := HX5.out.box.cell 2
                                      have k5 := HK5.out.cell 0
                                      have k6 := HK5.out.cell 1
                                      have k7 := HK5.out.cell 2
                                      clear hX hB ho hg hw hz x0 k0 k1 k2)
                                   | ((refine wpList_joinGK rfl _ _ 27 rfl elemE2 (by decide) 0 _ 0 [] rfl HX6.out.rows.rP _ 3 3 (e2Cells [((s.N : Int), N1), (N1, N2), (N2, (s.N : Int))]) rfl HN6.out (e2Cells_one _) (by decide) (by decide) (Nat.zero_le _) ?_)
                                      rintro v7 w7 ho hg hw
                                      rw [List.nil_append, Nat.zero_add] at ho
                                      obtain ⟨A7, c7, rfl, _⟩ := OwnK.has ho
                                      obtain ⟨hX, hB⟩ := HX6.out.putP (l := [((s.N : Int), N1), (N1, N2), (N2, (s.N : Int))]) ho hg hw
                                      have HX7 := Lib.hid hX
                                      have f7 := hB.frozen 2
                                      have y7 := hB.cell 2
                                      have HX8 := Lib.hid (HX7.out.setN ((s.N : Int) + 3))
                                      have HEnd := Lib.hid (HX8.out.fin HN3.out)
                                      have x7 := HX7.out.box.cell 1
                                      have f8 := HX7.out.box.frozen 1
                                      have b0 := HX8.out.box.cell 0
                                      have b1 := HX8.out.box.cell 1
                                      have b2 := HX8.out.box.cell 2
                                      have b3 := HX8.out.box.cell 3
                                      have b4 := HX8.out.box.cell 4
                                      have z0 := HX8.out.re.cell 0
                                      have z1 := HX8.out.re.cell 1
                                      have z2 := HX8.out.re.cell 2
                                      have z3 := HX8.out.re.cell 3
                                      have z4 := HX8.out.re.cell 4
                                      have q0 := HX8.out.re.frozen 0
                                      have q1 := HX8.out.re.frozen 1
                                      have q2 := HX8.out.re.frozen 2
                                      have q3 := HX8.out.re.frozen 3
                                      have q4 := HX8.out.re.frozen 4
                                      clear hX hB ho hg hw x2 k5 k6 k7 y5 f5)))
                      try rw [Exit.noGoto_ret]
                      exact bodyPost_ret (results_cellM Tryd.results12 rfl (g_load _ _ _ _ _ _ _ HEnd.out.1)) rfl (by rw [HE.out]; exact HEnd.out.2)
                · -- a piece
                    obtain rfl : k = 1 := by omega
                    obtain rfl : v = 0 := hv (by omega)
                    clear hk hk2 hv hk0
                    have hl : ¬ longG s (1, 0) := by unfold longG; simp
                    have hne : Q ≠ [] := fun e => Hf.out (Or.inr (Or.inr (Or.inr (Or.inr ⟨by decide, e⟩))))
                    obtain ⟨l, ⟨p, q⟩, rfl⟩ := last_form hne
                    obtain ⟨K, hK⟩ : ∃ K, l.length = K := ⟨_, rfl⟩
                    have hGl : (l ++ [(p, q)]).length = K + 1 := by rw [List.length_append, hK]; rfl
                    obtain rfl : n = K + 1 := hn.symm.trans hGl
                    have hd0 := HX1.out.rows.rP
                    rw [hGl] at hd0
                    obtain ⟨bg, cd, hA, hcd⟩ := own2_form hd0
                    injection hA with e1 _ e3
                    subst e1 e3
                    have HG := Lib.hid (gate_at HX1.out.rows.rP rfl hK)
                    have g0 := HG.out.1
                    have g1 := HG.out.2
                    have n4 : IntKind.wrap .i64 (((K + 1 : Nat) : Int) - 1) = (K : Int) := wrap_nat (by omega) (by have := HlQ.out; omega)
                    have n5 : IntKind.wrap .i64 ((K : Int) + 1 - 1) = (K : Int) := wrap_nat (by omega) (by have := HlQ.out; omega)
                    have n6 : IntKind.wrap .i64 (K : Int) = (K : Int) := wrap_nat rfl (by have := HlQ.out; omega)
                    have n7 : K ≤ c := by omega
                    have n8 : (K : Int) < ((K + 1 : Nat) : Int) := by omega
                    have n9 : (K : Int) < (K : Int) + 1 := by omega
                    have HE : Hid (stepG s (1, 0) = _) := step_one HE0.out HQ.out Hf.out hl rfl
                    have HP1 := Lib.hid (HX1.out.set (HX1.out.rows.pop rfl hK) 2 (.slice (some ⟨bg, 0, none⟩) K c) rfl)
                    have x2 := HX1.out.box.cell 2
                    have f2 := HX1.out.box.frozen 2
                    have HlB2 : Hid (s.B.length + 1 ≤ 1099511627776) := by have := HlB.out; show _ ≤ _; omega
                    have hz : (W2.setCell ⟨w.heap.size, 2, none⟩ (.slice (some ⟨bg, 0, none⟩) K c)).heap.size = W2.heap.size := by simp
                    have HN5 : Hid (HasK 2 ((W2.setCell ⟨w.heap.size, 2, none⟩ (.slice (some ⟨bg, 0, none⟩) K c)).alloc (.cells #[.int .i64 q, .int .i64 p] 66)) (some ⟨W2.heap.size, 0, none⟩) 1 1 (e2Cells [(q, p)])) := HasK.new_at 2 _ #[.int .i64 q, .int .i64 p] 66 _ 1 hz.symm rfl
                    have HX5 := Lib.hid (HP1.out.next (new_alloc (Below.refl _ _) (.cells #[.int .i64 q, .int .i64 p] 66)))
                    have x3 := HP1.out.box.cell 3
                    clear hl hne hGl hd0 HG hz hn HQn
                    go_wp2_with (at_builtin
                                 go_loud (
                                 (refine wpList_joinGK rfl _ _ 27 rfl elemE2 (by decide) 0 _ s.B.length (e2Cells s.B) rfl HX5.out.rows.rB _ 1 1 (e2Cells [(q, p)]) rfl HN5.out (e2Cells_one _) HlB2.out (by decide) (Nat.zero_le _) ?_)
                                 rintro v7 w7 ho hg hw
                                 obtain ⟨A7, c7, rfl, _⟩ := OwnK.has ho
                                 obtain ⟨hX, hB⟩ := HX5.out.putB (l := s.B ++ [(q, p)]) (by rw [List.length_append, e2Cells_app]; exact ho) hg hw
                                 have HX7 := Lib.hid hX
                                 have f7 := hB.frozen 3
                                 have y7 := hB.cell 3
                                 have HEnd := Lib.hid (HX7.out.fin rfl)
                                 have b0 := HX7.out.box.cell 0
                                 have b1 := HX7.out.box.cell 1
                                 have b2 := HX7.out.box.cell 2
                                 have b3 := HX7.out.box.cell 3
                                 have b4 := HX7.out.box.cell 4
                                 have z0 := HX7.out.re.cell 0
                                 have z1 := HX7.out.re.cell 1
                                 have z2 := HX7.out.re.cell 2
                                 have z3 := HX7.out.re.cell 3
                                 have z4 := HX7.out.re.cell 4
                                 have q0 := HX7.out.re.frozen 0
                                 have q1 := HX7.out.re.frozen 1
                                 have q2 := HX7.out.re.frozen 2
                                 have q3 := HX7.out.re.frozen 3
                                 have q4 := HX7.out.re.frozen 4
                                 clear hX hB ho hg hw x2 x3 f2))
                    try rw [Exit.noGoto_ret]
                    exact bodyPost_ret (results_cellM Tryd.results12 rfl (g_load _ _ _ _ _ _ _ HEnd.out.1)) rfl (by rw [HE.out]; exact HEnd.out.2)
  · -- a piece
    have te : (s.E != 0) = true := bne_iff_ne.2 hE
    have HE : Hid (stepG s (k, v) = s) := stepG_told hE _
    have HEnd := Lib.hid (HX0.out.fin rfl)
    have z0 := HX0.out.re.cell 0
    have z1 := HX0.out.re.cell 1
    have z2 := HX0.out.re.cell 2
    have z3 := HX0.out.re.cell 3
    have z4 := HX0.out.re.cell 4
    have q0 := HX0.out.re.frozen 0
    have q1 := HX0.out.re.frozen 1
    have q2 := HX0.out.re.frozen 2
    have q3 := HX0.out.re.frozen 3
    have q4 := HX0.out.re.frozen 4
    clear hE
    go_enter Tryd.func12, Tryd.ntmps12
    go_upto_region 1 with (with_reducible fail)
    generalize ((w.alloc (.cells #[.slice At s.T.length ct, .int .i64 (s.N : Int), .slice Ac s.P.length cc, .slice Ab s.B.length cb, .int .i64 s.E] 29)).alloc (.cells #[.int .i64 k, .int .i64 v] 33)).alloc (.cells #[.slice none 0 0, .int .i64 0, .slice none 0 0, .slice none 0 0, .int .i64 0] 29) = W0 at *
    go_wp2
    try rw [Exit.noGoto_ret]
    exact bodyPost_ret (results_cellM Tryd.results12 rfl (g_load _ _ _ _ _ _ _ HEnd.out.1)) rfl (by rw [HE.out]; exact HEnd.out.2)
end Go.Proofs.YthjmojglcfmkmaaDoor
