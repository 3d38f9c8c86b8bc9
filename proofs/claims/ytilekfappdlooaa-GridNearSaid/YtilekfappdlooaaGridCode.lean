/- The landed grid: Points. -/
import Derived.Test.YtilekfappdlooaaGridCalls
import Derived.WalkMore
namespace Go.Proofs.Ytilekfappdlooaa
open Go.RowKit

theorem wpList_room7 {k : Nat} {P : Program} {w : World} {ops : Array Oper} {rest : List Oper} {o : Oper} {a : Act} {Q : Exit → Act → World → Prop} (hgd : o.guard = Option.none) (l c : Operand) (t : TypeId)
    (hop : o.op = Op.makeSlice t l c) {e : TypeId} {bytes : Nat} (E : ElemK P t e k bytes) (base : Nat) (kl kc : IntKind) (C : Int) (n : Nat) (hl : a.eval l = .int kl 0) (hc : a.eval c = .int kc C) (hC : C = (n : Int)) (hn : n ≤ 1099511627776) (hby : bytes ≤ 64) (hbase : base ≤ w.heap.size)
    (hK : ∀ w', OwnK k w' base e (.slice (some ⟨w.heap.size, 0, Option.none⟩) 0 n) 0 [] → Below w.heap.size w w' → wpList P ops Q rest (a.put o.dst (.slice (some ⟨w.heap.size, 0, Option.none⟩) 0 n)) w') :
    wpList P ops Q (o :: rest) a w := by
  obtain ⟨i, z, hi, hz, hsize, hbytes, hzs⟩ := E.info
  have hmul : bytes * n ≤ 64 * 1099511627776 := Nat.mul_le_mul hby hn
  exact wpList_make_own w hgd l c t hop base e i z k E.under hi hz hsize kl kc C n hl hc hC (by rw [hbytes]; omega) (by unfold maxLen; omega) hbase fun w' h1 h2 => hK w' h1 ((Below.refl _ _).grown h2 (Nat.le_refl _) (fun k hk => by cases hk))
theorem pairInfo : (Try.prog.info? 70).map (fun i => (i.zero, i.size)) = some (some (.agg #[.int .i64 0, .int .i64 0]), 2) := by kernel_rfl
set_option maxRecDepth 100000 in
set_option maxHeartbeats 1000000 in
theorem gridPoints_any (up : Int) (A : Option Addr) (n c : Nat) (l : List Nat) (w : World) (h : Has w A n c (f64s l)) (hl : ∀ x ∈ l, x < 18446744073709551616) (hn : n ≤ 100000) : Calls Try.prog 26 #[.int .i64 up, .slice A n c] w (Ptsd w (pointsF up l)) := by
  have HL : Hid (l.length = n) := by have := h.len; rw [f64s_len] at this; exact this
  have HH := Lib.hid h
  have HBy := Lib.hid hl
  have hcap := h.cap
  clear h hl
  have HUp := Lib.hid (fun W => gridUp_any up W)
  by_cases hu : 0 ≤ up ∧ up ≤ 30
  · rw [decide_eq_true hu] at HUp
    by_cases hodd : n % 2 = 1
    · have p1 : (((n : Int)).tmod 2 == 0) = false := beq_eq_false_iff_ne.2 (by rw [show ((n : Int)).tmod 2 = ((n % 2 : Nat) : Int) from rfl, hodd]; decide)
      have p2 : ((n : Int) % 2 == 0) = false := beq_eq_false_iff_ne.2 (by omega)
      have p3 : ((n : Int) % 2 != 0) = true := by rw [bne, p2]; rfl
      have HE : Hid (pointsF up l = ([], 2)) := if_pos (Or.inr (Or.inr (by rw [HL.out]; omega)))
      clear hu
      go_enter Try.func26, Try.ntmps26
      go_wp2_with fail
      go_step3
      go_wp2_with (go_at_call 31; refine (HUp.out _).mono ?_; rintro e w2 ⟨rfl, rfl⟩)
      try rw [Exit.noGoto_ret]
      go_ret2
      rw [HE.out]
      exact ⟨none, 0, rfl, HasK.none _ _ _ _ fun _ => rfl, Below.refl _ _⟩
    · have p1 : (((n : Int)).tmod 2 == 0) = true := beq_iff_eq.2 (by rw [show ((n : Int)).tmod 2 = ((n % 2 : Nat) : Int) from rfl, show n % 2 = 0 by omega]; rfl)
      have p2 : ((n : Int) % 2 == 0) = true := beq_iff_eq.2 (by omega)
      have p3 : ((n : Int) % 2 != 0) = false := by rw [bne, p2]; rfl
      have HE : Hid (pointsF up l = ptsA up [] l) := if_neg (by rw [HL.out]; omega)
      obtain ⟨N, hN⟩ : ∃ N, n = 2 * N := ⟨n / 2, by omega⟩
      have HN := Lib.hid hN
      have hdiv : (n : Int) / 2 = (N : Int) := by omega
      have HSc := Lib.hid (fun b W (hb : b < 18446744073709551616) => gridScaled_any b up W hb)
      have hNl : N ≤ 100000 := by omega
      clear hodd hN hu
      obtain ⟨kz, ks⟩ := zero_of_info pairInfo
      go_enter Try.func26, Try.ntmps26
      go_wp2_with fail
      go_step3
      go_wp2_with (first
        | (go_at_call 31; refine (HUp.out _).mono ?_; rintro e w2 ⟨rfl, rfl⟩)
        | (at_make
           refine wpList_room7 rfl _ _ 46 rfl elemPt w.heap.size _ _ _ N rfl rfl rfl (by omega) (by decide) (Nat.le_refl _) ?_
           intro w1 hown1 hbel1
           have HO1 := Lib.hid hown1
           have HB1 := Lib.hid hbel1
           clear hown1 hbel1))
      go_step3
      go_wp2
      go_loopg [6, 7, 8] N (fun g s6 s7 s8 wx => ∃ (i : Nat) (acc : List Pt), i + g = N ∧ s7 = .int .i64 0 ∧ s8 = .int .i64 (2 * (i : Int)) ∧ Hid (OwnK 3 wx w.heap.size 72 s6 i (ptCells acc)) ∧ Hid (acc.length = i) ∧ Hid (ptsA up [] l = ptsA up acc (l.drop (2 * i))) ∧ Hid (Below w.heap.size w wx))
      case atStart => exact ⟨0, [], by omega, rfl, rfl, HO1, by show _ = _; rfl, by show _ = _; simp, HB1⟩
      case round =>
        clear HO1 HB1
        obtain ⟨i, acc, hig, rfl, rfl, HO, HAl, HP, HB⟩ := hrel
        have hz := HB.out.size
        by_cases hi : i < N
        · have hn2 := HN.out
          have ti : decide (2 * (i : Int) < (n : Int)) = true := by simp; omega
          have hi1 : 2 * i < l.length := by rw [HL.out]; omega
          have hi2 : 2 * i + 1 < l.length := by rw [HL.out]; omega
          obtain ⟨b, off, rfl, hlt, hc⟩ := (HH.out.kept HB.out).spot (by omega)
          have hc1 := hc _ _ (f64s_at hi1)
          have hc2 := hc _ _ (f64s_at hi2)
          have hx1 := HBy.out _ (List.getElem_mem hi1)
          have hx2 := HBy.out _ (List.getElem_mem hi2)
          have HD : Hid (l.drop (2 * i) = l[2 * i] :: l[2 * i + 1] :: l.drop (2 * (i + 1))) := by
            show _ = _
            rw [List.drop_eq_getElem_cons hi1, List.drop_eq_getElem_cons hi2, show 2 * i + 1 + 1 = 2 * (i + 1) by omega]
          rw [HD.out, ptsA] at HP
          generalize l[2 * i] = x1 at *
          generalize l[2 * i + 1] = x2 at *
          obtain ⟨j, hj⟩ : ∃ j, 2 * i = j := ⟨_, rfl⟩
          have hj2 : 2 * (i : Int) = (j : Int) := by omega
          rw [hj] at hc1 hc2
          rw [hj2]
          have HS1 := Lib.hid (fun W => HSc.out x1 W hx1)
          have HS2 := Lib.hid (fun W => HSc.out x2 W hx2)
          have hjn : j + 2 ≤ n := by omega
          have tj : decide ((j : Int) < (n : Int)) = true := by simp; omega
          have HJ := Lib.hid hj2
          have HCl : Hid (∀ W, Below wr.heap.size wr W → W.cell? ⟨b, off + j, none⟩ = some (.float .f64 x1) ∧ W.cell? ⟨b, off + j + 1, none⟩ = some (.float .f64 x2)) := fun W hW =>
            ⟨(hW.cell (p := ⟨b, off + j, none⟩) hlt).trans hc1, (hW.cell (p := ⟨b, off + j + 1, none⟩) hlt).trans hc2⟩
          clear hc HD hi1 hi2 hj hj2 ti hn2 hc1 hc2 hx1 hx2 HSc
          generalize scaledF x1 up = q1 at *
          generalize scaledF x2 up = q2 at *
          obtain ⟨y1, e1⟩ := q1
          obtain ⟨y2, e2⟩ := q2
          simp only at HP HS1 HS2
          have hjj : j + 2 - j = 2 := by omega
          generalize wr = wo at *
          have hiN : i ≤ 100000 := by omega
          have HIg := Lib.hid hig
          clear hig
          generalize gk = gh at *
          have tjn : decide (j < n) = true := by simp; omega
          go_wp2
          try rw [hjj]
          try rw [tjn]
          go_loopg [7, 37] 2 (fun g s7 s37 wy => ∃ (k : Nat) (cs : Array Value), k + g = 2 ∧ s7 = .int .i64 0 ∧ s37 = .int .i64 k ∧ Hid (Below wo.heap.size wo wy) ∧ Hid (Blk wy wo.heap.size 70 cs) ∧ Hid ((k = 0 ∧ cs = #[.int .i64 0, .int .i64 0]) ∨ (k = 1 ∧ e1 = 0 ∧ cs = #[.int .i64 y1, .int .i64 0]) ∨ (k = 2 ∧ e1 = 0 ∧ e2 = 0 ∧ cs = #[.int .i64 y1, .int .i64 y2])))
          case atStart => exact ⟨0, _, by omega, rfl, rfl, new_alloc (Below.refl _ _) _, Blk.new _ _ _, Or.inl ⟨rfl, rfl⟩⟩
          case round =>
            obtain ⟨k, cs, hkg, rfl, rfl, HBr, HBk, HCs⟩ := hrel
            have hx1 := (HCl.out wr HBr.out).1
            have hx2 := (HCl.out wr HBr.out).2
            rcases HCs.out with ⟨rfl, rfl⟩ | ⟨rfl, rfl, rfl⟩ | ⟨rfl, rfl, rfl, rfl⟩
            · have HSk := Lib.hid (HS1.out wr)
              go_wp2_with fail
              refine HSk.out.mono ?_
              rintro e w3 ⟨rfl, hb3⟩
              have hbk3 := HBk.out.below hb3 HBk.out.lt
              have HBr3 := Lib.hid (new_call HBr.out hb3)
              have fz := hbk3.frozen 0
              have cz : w3.cell? ⟨wo.heap.size, 0, none⟩ = some (.int .i64 0) := hbk3.cell 0
              have HBk4 := Lib.hid (hbk3.set_ 0 (.int .i64 y1))
              have HBr4 : Hid (Below wo.heap.size wo (w3.setCell ⟨wo.heap.size, 0, none⟩ (.int .i64 y1))) := HBr3.out.setCell (Nat.le_refl _) _
              clear hb3 hbk3 hx1 hx2 HSk
              by_cases he : e1 = 0
              · subst he
                go_wp2
                go_roundg 1
                case measure => omega
                case rel => exact ⟨1, _, by omega, rfl, by go_num, HBr4, HBk4, Or.inr (Or.inl ⟨by omega, by first | trivial | rfl, by rfl⟩)⟩
              · have u1 : ((e1 : Int) == 0) = false := beq_eq_false_iff_ne.2 (by omega)
                have u2 : ((e1 : Int) != 0) = true := bne_iff_ne.2 (by omega)
                have u3 : decide ((e1 : Int) = 0) = false := by simp; omega
                have HP2 : Hid (ptsA up [] l = ([], e1)) := by show _ = _; rw [HP.out]; rw [if_pos he]
                have HB4 := Lib.hid (new_call HB.out HBr4.out)
                go_wp2
                try rw [Exit.noGoto_ret]
                go_ret2
                rw [HE.out, HP2.out]
                exact ⟨none, 0, rfl, HasK.none _ _ _ _ fun _ => rfl, HB4.out⟩
            · have HSk := Lib.hid (HS2.out wr)
              go_wp2_with fail
              refine HSk.out.mono ?_
              rintro e w3 ⟨rfl, hb3⟩
              have hbk3 := HBk.out.below hb3 HBk.out.lt
              have HBr3 := Lib.hid (new_call HBr.out hb3)
              have fz := hbk3.frozen 1
              have cz : w3.cell? ⟨wo.heap.size, 1, none⟩ = some (.int .i64 0) := hbk3.cell 1
              have HBk4 := Lib.hid (hbk3.set_ 1 (.int .i64 y2))
              have HBr4 : Hid (Below wo.heap.size wo (w3.setCell ⟨wo.heap.size, 1, none⟩ (.int .i64 y2))) := HBr3.out.setCell (Nat.le_refl _) _
              clear hb3 hbk3 hx1 hx2 HSk
              by_cases he : e2 = 0
              · subst he
                go_wp2
                go_roundg 0
                case measure => omega
                case rel => exact ⟨2, _, by omega, rfl, by go_num, HBr4, HBk4, Or.inr (Or.inr ⟨by omega, by first | trivial | rfl, by first | trivial | rfl, by rfl⟩)⟩
              · have u1 : ((e2 : Int) == 0) = false := beq_eq_false_iff_ne.2 (by omega)
                have u2 : ((e2 : Int) != 0) = true := bne_iff_ne.2 (by omega)
                have u3 : decide ((e2 : Int) = 0) = false := by simp; omega
                have HP2 : Hid (ptsA up [] l = ([], e2)) := by show _ = _; rw [HP.out]; rw [if_neg (by simp), if_pos he]
                have HB4 := Lib.hid (new_call HB.out HBr4.out)
                go_wp2
                try rw [Exit.noGoto_ret]
                go_ret2
                rw [HE.out, HP2.out]
                exact ⟨none, 0, rfl, HasK.none _ _ _ _ fun _ => rfl, HB4.out⟩
            · have cx : wr.cell? ⟨wo.heap.size, 0, none⟩ = some (.int .i64 y1) := HBk.out.cell 0
              have cy : wr.cell? ⟨wo.heap.size, 1, none⟩ = some (.int .i64 y2) := HBk.out.cell 1
              rw [if_neg (by simp), if_neg (by simp)] at HP
              have HCl2 : Hid (ptCells acc ++ ptCells [(y1, y2)] = ptCells (acc ++ [(y1, y2)])) := (ptCells_app _ _).symm
              have HAl2 : Hid ((acc ++ [(y1, y2)]).length = i + 1) := by show _ = _; rw [List.length_append, HAl.out]; rfl
              have HOr := Lib.hid (OwnK.keep HO.out HBr.out)
              have HBw := Lib.hid (new_call HB.out HBr.out)
              have hzr := HBw.out.size
              clear HCs hx1 hx2
              go_wp2_with (at_builtin
                           refine wpList_joinK rfl _ _ 46 rfl elemPt (by decide) w.heap.size _ i (ptCells acc) rfl (HOr.out.alloc _) _ 1 1 (ptCells [(y1, y2)]) rfl (HasK.new_at 3 _ #[_, _, _] _ _ 1 rfl rfl) (ptCells_one _) (by omega) (by decide) (Nat.le_trans hzr (new_alloc (Below.refl _ _) _).size) ?_
                           intro v7 w7 hown7 hbel7 _
                           rw [HCl2.out] at hown7
                           have HO7 := Lib.hid hown7
                           have HB7 := Lib.hid ((new_alloc HBw.out _).trans hbel7)
                           clear hown7 hbel7)
              go_roundg (N - (i + 1))
              case measure => have := HIg.out; omega
              case rel => exact ⟨i + 1, acc ++ [(y1, y2)], by omega, rfl, by have := HJ.out; go_num, HO7, HAl2, HP, HB7⟩
        · have hn2 := HN.out
          have ti : decide (2 * (i : Int) < (n : Int)) = false := by simp; omega
          have HP2 : Hid (ptsA up [] l = (acc, 0)) := by
            show _ = _
            rw [HP.out, List.drop_of_length_le (by rw [HL.out]; omega)]
            rfl
          obtain ⟨A6, c6, hv6, hh6⟩ := HO.out.has
          subst hv6
          have HH6 := Lib.hid hh6
          clear hh6 hn2
          go_wp2
          try rw [Exit.noGoto_ret]
          go_ret2
          rw [HE.out, HP2.out]
          exact ⟨A6, c6, by simp only [HAl.out]; rfl, by simp only [HAl.out]; exact HH6.out, HB.out⟩
  · rw [decide_eq_false hu] at HUp
    have HE : Hid (pointsF up l = ([], 2)) := if_pos (by omega)
    clear hu
    go_enter Try.func26, Try.ntmps26
    go_wp2_with fail
    go_step3
    go_wp2_with (go_at_call 31; refine (HUp.out _).mono ?_; rintro e w2 ⟨rfl, rfl⟩)
    try rw [Exit.noGoto_ret]
    go_ret2
    rw [HE.out]
    exact ⟨none, 0, rfl, HasK.none _ _ _ _ fun _ => rfl, Below.refl _ _⟩
end Go.Proofs.Ytilekfappdlooaa
