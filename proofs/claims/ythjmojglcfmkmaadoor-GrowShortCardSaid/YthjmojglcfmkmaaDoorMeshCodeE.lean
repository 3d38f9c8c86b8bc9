/- The landed mesh: a fan gone round. -/
import Derived.Test.YthjmojglcfmkmaaDoorMeshCodeD
import Derived.ChangeKeysEq
namespace Go.Proofs.YthjmojglcfmkmaaDoor
open Go.RowKit

theorem run_eqE (x y a b : Int) (W : World) : (Op.equalIn 10000 124 (.agg #[.int .i64 x, .int .i64 y]) (.agg #[.int .i64 a, .int .i64 b])).run Tryd.prog W = .ok ((x == a) && (y == b)) W := by
  have h : (Tryd.prog.info? 3).map (fun i => (i.zero, i.size, i.bytes)) = some (some (.int .i64 0), 1, 8) := by kernel_rfl
  obtain ⟨i, h1, h2, h3, h4⟩ := info_parts h
  rw [show (10000 : Nat) = 9999 + 1 from rfl, run_equalIn_array W 9999 _ _ Tryd.underlying124 h1]
  have hc : Tryd.prog.cellsOf 3 = 1 := by kernel_rfl
  rw [hc]
  show (Op.eqItems 9999 3 1 _ _ [0, 1]).run Tryd.prog W = _
  unfold Op.eqItems
  go_simp
  by_cases e0 : x = a
  · rw [if_pos e0]
    subst e0
    unfold Op.eqItems
    go_simp
    by_cases e1 : y = b
    · rw [if_pos e1]
      subst e1
      unfold Op.eqItems
      simp
    · rw [if_neg e1]
      simp [beq_eq_false_iff_ne.2 e1]
  · rw [if_neg e0]
    simp [beq_eq_false_iff_ne.2 e0]
theorem nx_at {n : Nat} {T : List P3} (h : T.all (triM n) = true) (hn : (darts T).Nodup) {i k : Nat} (hi : i < T.length) (hk : k < 3) : nxV T (at3 T[i] k, at3 T[i] ((k + 1) % 3)) = (at3 T[i] k, at3 T[i] ((k + 2) % 3)) := by
  have hd : (at3 T[i] k, at3 T[i] ((k + 1) % 3)) ∈ dirs T[i] := dirs_mem_at.2 ⟨k, hk, rfl⟩
  have ht := triOf_is hn (List.getElem_mem hi) hd
  unfold nxV nextD
  rw [ht]
  obtain ⟨n1, n2, n3⟩ := next_ways (List.all_eq_true.1 h _ (List.getElem_mem hi))
  generalize T[i] = t at *
  obtain ⟨x, y, z⟩ := t
  rcases (show k = 0 ∨ k = 1 ∨ k = 2 by omega) with rfl | rfl | rfl
  · show (x, (nextIn (x, y, z) (x, y)).2) = (x, z)
    rw [show nextIn (x, y, z) (x, y) = (y, z) from n1]
  · show (y, (nextIn (x, y, z) (y, z)).2) = (y, x)
    rw [show nextIn (x, y, z) (y, z) = (z, x) from n2]
  · show (z, (nextIn (x, y, z) (z, x)).2) = (z, y)
    rw [show nextIn (x, y, z) (z, x) = (x, y) from n3]
theorem dart_at {T : List P3} {d : D2} (hd : d ∈ darts T) : ∃ i k, ∃ hi : i < T.length, k < 3 ∧ d = (at3 T[i] k, at3 T[i] ((k + 1) % 3)) := by
  obtain ⟨t, ht, h⟩ := mem_darts.1 hd
  obtain ⟨i, hi, rfl⟩ := List.getElem_of_mem ht
  obtain ⟨k, hk, e⟩ := dirs_mem_at.1 h
  exact ⟨i, k, hi, hk, e⟩
theorem it_in64 {n : Nat} {T : List P3} (hall : T.all (triM n) = true) (hn : n ≤ 100000) (hnd : (darts T).Nodup) {f : D2} (hf : f ∈ darts T) {N : Nat} (hc : Chain T f N) : in64 (it (nxV T) N f) := by
  cases N with
  | zero => exact dart_in hall hn hf
  | succ N =>
    have h1 := hc.mem N (by omega)
    have h2 := dart_in hall hn h1
    have h3 := dart_in hall hn (nextD_in hall hnd h1).1
    exact ⟨h2.1, h3.2⟩
/-- What a fan's loop ends with. -/
def FanEnd (T : List P3) (f : D2) (N : Nat) : Prop := Chain T f N ∧ (it (nxV T) N f ∉ darts T ∨ (0 < N ∧ it (nxV T) N f = f))
set_option maxRecDepth 100000 in
set_option maxHeartbeats 1600000 in
theorem fan_any (b n : Nat) (T : List P3) (x y : Int) (w : World) (hs : SidesW w b T) (hall : T.all (triM n) = true) (hn : n ≤ 100000) (hm : T.length ≤ 100000) (hnd : (darts T).Nodup) (hf : (x, y) ∈ darts T) : Calls Tryd.prog 76 #[.map (some b), .agg #[.int .i64 x, .int .i64 y]] w fun e w' => ∃ N : Nat, e = .returned (.int .i64 (N : Int)) ∧ FanEnd T (x, y) N ∧ Below w.heap.size w w' := by
  have HS := Lib.hid (fun w1 (hw : Below w.heap.size w w1) (d : D2) (hd : in64 d) => look_side (SidesW.kept hs hw) hall hn hd)
  have HIn := Lib.hid (fun N (hc : Chain T (x, y) N) => it_in64 hall hn hnd hf hc)
  have HNx := Lib.hid (fun N (hc : Chain T (x, y) N) => Chain.next hall hnd (N := N) hc)
  have HAt := Lib.hid (fun (i k : Nat) (hi : i < T.length) (hk : k < 3) => nx_at hall hnd hi hk)
  have HND := Lib.hid hnd
  have HM := Lib.hid hm
  have HB0 := Lib.hid (new_alloc (new_alloc (Below.refl w.heap.size w) (.cells #[.int .i64 x, .int .i64 y] 124)) (.cells #[.int .i64 x, .int .i64 y] 124))
  have HA0 := Lib.hid ((Blk.new w 124 #[.int .i64 x, .int .i64 y]).alloc (.cells #[.int .i64 x, .int .i64 y] 124))
  have HA1 : Hid (Blk ((w.alloc (.cells #[.int .i64 x, .int .i64 y] 124)).alloc (.cells #[.int .i64 x, .int .i64 y] 124)) (w.heap.size + 1) 124 #[.int .i64 x, .int .i64 y]) := by
    have h := Blk.new (w.alloc (.cells #[.int .i64 x, .int .i64 y] 124)) 124 #[.int .i64 x, .int .i64 y]
    rw [show (w.alloc (.cells #[.int .i64 x, .int .i64 y] 124)).heap.size = w.heap.size + 1 from Array.size_push _] at h
    exact h
  have c0 : (w.alloc (.cells #[.int .i64 x, .int .i64 y] 124)).cell? ⟨w.heap.size, 0, none⟩ = _ := (Blk.new w 124 #[.int .i64 x, .int .i64 y]).cell 0
  have c1 : (w.alloc (.cells #[.int .i64 x, .int .i64 y] 124)).cell? ⟨w.heap.size, 1, none⟩ = _ := (Blk.new w 124 #[.int .i64 x, .int .i64 y]).cell 1
  clear hs hall hnd hf hm
  go_enter Tryd.func76, Tryd.ntmps76
  go_wp2
  go_step3
  go_wp2
  go_step3
  go_wp2
  generalize (w.alloc (.cells #[.int .i64 x, .int .i64 y] 124)).alloc (.cells #[.int .i64 x, .int .i64 y] 124) = W at *
  clear c0 c1
  go_loopg [5] (3 * T.length) (fun g s5 wx => ∃ N : Nat, N + g = 3 * T.length ∧ s5 = .int .i64 (N : Int) ∧ Hid (Chain T (x, y) N) ∧ Hid (Blk wx w.heap.size 124 #[.int .i64 x, .int .i64 y]) ∧ Hid (Blk wx (w.heap.size + 1) 124 #[.int .i64 (it (nxV T) N (x, y)).1, .int .i64 (it (nxV T) N (x, y)).2]) ∧ Hid (Below w.heap.size w wx))
  case atStart => exact ⟨0, by omega, rfl, Chain.zero T _, HA0, HA1, HB0⟩
  case round =>
    obtain ⟨N, hNg, rfl, HC, HK0, HK1, HB⟩ := hrel
    clear HA0 HA1 HB0
    have HIe := Lib.hid (HIn.out N HC.out)
    have HNe := Lib.hid (HNx.out N HC.out)
    have hfr : (it (nxV T) N (x, y)).1 = x := it_from T (x, y) N
    have HFE : Hid (it (nxV T) N (x, y) ∉ darts T ∨ (0 < N ∧ it (nxV T) N (x, y) = (x, y)) → FanEnd T (x, y) N) := fun h => ⟨HC.out, h⟩
    have HSu : Hid (it (nxV T) (N + 1) (x, y) = nxV T (it (nxV T) N (x, y))) := rfl
    generalize it (nxV T) N (x, y) = e at *
    obtain ⟨ex, ey⟩ := e
    simp only at hfr HK1
    subst hfr
    obtain ⟨s, hlk, hsd⟩ := HS.out wr HB.out (ex, ey) HIe.out
    obtain ⟨sx, sy⟩ := s
    simp only at hlk
    have c0 := HK0.out.cell 0
    have c1 := HK0.out.cell 1
    have d0 := HK1.out.cell 0
    have d1 := HK1.out.cell 1
    have HB2 := Lib.hid (new_alloc HB.out (.cells #[.int .i64 sx, .int .i64 sy] 123))
    by_cases hm : (ex, ey) ∈ darts T
    · have HSd := Lib.hid hsd
      rw [decide_eq_true hm] at hlk
      have HM2 := Lib.hid hm
      have HK02 := Lib.hid (HK0.out.alloc (.cells #[.int .i64 sx, .int .i64 sy] 123))
      have HK12 := Lib.hid (HK1.out.alloc (.cells #[.int .i64 sx, .int .i64 sy] 123))
      have HKs := Lib.hid (Blk.new wr 123 #[.int .i64 sx, .int .i64 sy])
      have HNi : Hid (nxV T (ex, ey) = (ex, sy)) := by
        show _ = _
        obtain ⟨i, k, hi, hk, e⟩ := dart_at hm
        have h1 := HSd.out HND.out i k hi hk e
        have h2 := HAt.out i k hi hk
        rw [e, h2]
        have h3 : sy = at3 T[i] ((k + 2) % 3) := congrArg Prod.snd h1
        have h4 : ex = at3 T[i] k := congrArg Prod.fst e
        rw [h3, h4]
      clear hsd hm HSd
      have HCn := Lib.hid (fun h => HNe.out HM2.out h)
      clear HNe
      have hN3 : N < 3 * T.length + 1 := by omega
      have HGo : Hid (Chain T (ex, y) (N + 1) → N + 1 ≤ 3 * T.length) := fun h => h.room
      have a0 := HK02.out.cell 0
      have a1 := HK02.out.cell 1
      have b0 := HK12.out.cell 0
      have b1 := HK12.out.cell 1
      have k1 := HKs.out.cell 1
      have g0 := HK12.out.frozen 0
      have g1 := HK12.out.frozen 1
      have HQ0 : Hid (Blk (((wr.alloc (.cells #[.int .i64 sx, .int .i64 sy] 123)).setCell ⟨w.heap.size + 1, 0, none⟩ (.int .i64 ex)).setCell ⟨w.heap.size + 1, 1, none⟩ (.int .i64 sy)) w.heap.size 124 #[.int .i64 ex, .int .i64 y]) := (HK02.out.far (by simp) _).far (by simp) _
      have HQ1 : Hid (Blk (((wr.alloc (.cells #[.int .i64 sx, .int .i64 sy] 123)).setCell ⟨w.heap.size + 1, 0, none⟩ (.int .i64 ex)).setCell ⟨w.heap.size + 1, 1, none⟩ (.int .i64 sy)) (w.heap.size + 1) 124 #[.int .i64 (it (nxV T) (N + 1) (ex, y)).1, .int .i64 (it (nxV T) (N + 1) (ex, y)).2]) := by
        rw [HSu.out, HNi.out]
        exact (HK12.out.set_ 0 _).set_ 1 _
      have HQB : Hid (Below w.heap.size w (((wr.alloc (.cells #[.int .i64 sx, .int .i64 sy] 123)).setCell ⟨w.heap.size + 1, 0, none⟩ (.int .i64 ex)).setCell ⟨w.heap.size + 1, 1, none⟩ (.int .i64 sy))) := (HB2.out.setCell (Nat.le_succ _) _).setCell (Nat.le_succ _) _
      by_cases h0 : N = 0
      · have HC1 := Lib.hid (HCn.out (fun h => absurd h.1 (by omega)))
        have t0 : decide (0 < N) = false := decide_eq_false (by omega)
        have HR := Lib.hid (HGo.out HC1.out)
        clear HFE HCn h0 HGo
        go_wp2
        go_roundg (gk - 1)
        case measure => have := HR.out; omega
        case rel =>
          refine ⟨N + 1, by have := HR.out; omega, ?_, HC1, HQ0, HQ1, HQB⟩
          have hb := HM.out
          have hr := HR.out
          rw [show wrap64 ((N : Int) + 1) = (N : Int) + 1 by unfold wrap64; omega]
          rfl
      · have t0 : decide (0 < N) = true := decide_eq_true (by omega)
        have heq := run_eqE ex ey ex y (wr.alloc (.cells #[.int .i64 sx, .int .i64 sy] 123))
        rw [beq_self_eq_true, Bool.true_and] at heq
        by_cases h1 : ey = y
        · have HE := Lib.hid (HFE.out (Or.inr ⟨by omega, by rw [h1]⟩))
          have e1 : (ey == y) = true := beq_iff_eq.2 h1
          rw [e1] at heq
          clear HFE HCn h0 h1 HGo e1 HQ0 HQ1 HQB
          go_wp2
          try rw [Exit.noGoto_ret]
          go_ret
          exact ⟨N, rfl, HE.out, HB2.out⟩
        · have HC1 := Lib.hid (HCn.out (fun h => h1 (congrArg Prod.snd h.2)))
          have HR := Lib.hid (HGo.out HC1.out)
          have e1 : (ey == y) = false := beq_eq_false_iff_ne.2 h1
          rw [e1] at heq
          clear HFE HCn h0 h1 HGo e1
          go_wp2
          go_roundg (gk - 1)
          case measure => have := HR.out; omega
          case rel =>
            refine ⟨N + 1, by have := HR.out; omega, ?_, HC1, HQ0, HQ1, HQB⟩
            have hb := HM.out
            have hr := HR.out
            rw [show wrap64 ((N : Int) + 1) = (N : Int) + 1 by unfold wrap64; omega]
            rfl
    · rw [decide_eq_false hm] at hlk
      have HE := Lib.hid (HFE.out (Or.inl hm))
      clear hsd hm
      go_wp2
      try rw [Exit.noGoto_ret]
      go_ret
      exact ⟨N, rfl, HE.out, HB2.out⟩
end Go.Proofs.YthjmojglcfmkmaaDoor
