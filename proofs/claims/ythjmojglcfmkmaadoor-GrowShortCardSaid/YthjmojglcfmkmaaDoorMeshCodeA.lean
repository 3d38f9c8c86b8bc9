/- The landed mesh: its table, points, triangles. -/
import Derived.Test.YthjmojglcfmkmaaDoorMeshRefG
namespace Go.Proofs.YthjmojglcfmkmaaDoor
open Go.RowKit

/-- The table of corners, as it is laid at the start. -/
def BehW (w : World) : Prop := ∀ i k, i < 3 → k < 3 → w.cell? ⟨2, i * 3 + k, none⟩ = some (.int .i64 (((i + k) % 3 : Nat) : Int))
theorem BehW.kept {w w' : World} (h : BehW w) (hb : Below w.heap.size w w') : BehW w' := fun i k hi hk => cell_stays w w' hb (h i k hi hk)
theorem BehW.one {w : World} (h : BehW w) {k : Nat} (hk : k < 3) : w.cell? ⟨2, 3 + k, none⟩ = some (.int .i64 (((k + 1) % 3 : Nat) : Int)) := by
  have := h 1 k (by decide) hk
  rw [Nat.add_comm 1 k] at this
  exact this
theorem BehW.two {w : World} (h : BehW w) {k : Nat} (hk : k < 3) : w.cell? ⟨2, 6 + k, none⟩ = some (.int .i64 (((k + 2) % 3 : Nat) : Int)) := by
  have := h 2 k (by decide) hk
  rw [Nat.add_comm 2 k] at this
  exact this
theorem coord_ways (x : Int) : (x < -2147483648 ∧ coordM x = false) ∨ (¬ x < -2147483648 ∧ 2147483647 < x ∧ coordM x = false) ∨ (¬ x < -2147483648 ∧ ¬ 2147483647 < x ∧ coordM x = true) := by
  unfold coordM
  by_cases h1 : x < -2147483648
  · exact Or.inl ⟨h1, by rw [decide_eq_false (by omega)]; rfl⟩
  · by_cases h2 : 2147483647 < x
    · exact Or.inr (Or.inl ⟨h1, h2, by rw [decide_eq_false (p := x ≤ 2147483647) (by omega), Bool.and_false]⟩)
    · exact Or.inr (Or.inr ⟨h1, h2, by rw [decide_eq_true (p := x ≤ 2147483647) (by omega), decide_eq_true (p := -2147483648 ≤ x) (by omega)]; rfl⟩)
set_option maxRecDepth 100000 in
theorem noCoord_any (x : Int) (w : World) : Calls Tryd.prog 74 #[.int .i64 x] w fun e w' => e = .returned (.bool (!coordM x)) ∧ w = w' := by
  rcases coord_ways x with ⟨h1, hr⟩ | ⟨h1, h2, hr⟩ | ⟨h1, h2, hr⟩
  · have d1 : decide (x < -2147483648) = true := decide_eq_true h1
    rw [hr]
    clear hr
    go_enter Tryd.func74, Tryd.ntmps74
    go_wp2
    go_ret
    exact ⟨rfl, rfl⟩
  · have d1 : decide (x < -2147483648) = false := decide_eq_false h1
    have d2 : decide (2147483647 < x) = true := decide_eq_true h2
    rw [hr]
    clear hr
    go_enter Tryd.func74, Tryd.ntmps74
    go_wp2
    go_ret
    exact ⟨rfl, rfl⟩
  · have d1 : decide (x < -2147483648) = false := decide_eq_false h1
    have d2 : decide (2147483647 < x) = false := decide_eq_false h2
    rw [hr]
    clear hr
    go_enter Tryd.func74, Tryd.ntmps74
    go_wp2
    go_ret
    exact ⟨rfl, rfl⟩
set_option maxRecDepth 100000 in
theorem noPoint_any (x y z : Int) (w : World) : Calls Tryd.prog 63 #[.agg #[.int .i64 x, .int .i64 y, .int .i64 z]] w fun e w' => e = .returned (.bool (!pointM (x, y, z))) ∧ Below w.heap.size w w' := by
  have HA := Lib.hid (Blk.new w 84 #[.int .i64 x, .int .i64 y, .int .i64 z])
  have HBe := Lib.hid (new_alloc (Below.refl w.heap.size w) (.cells #[.int .i64 x, .int .i64 y, .int .i64 z] 84))
  have c0 := HA.out.cell 0
  have c1 := HA.out.cell 1
  have c2 := HA.out.cell 2
  have HX := Lib.hid (noCoord_any x)
  have HY := Lib.hid (noCoord_any y)
  have HZ := Lib.hid (noCoord_any z)
  rcases point_ways x y z with ⟨d1, hr⟩ | ⟨d1, d2, hr⟩ | ⟨d1, d2, d3, hr⟩ | ⟨d1, d2, d3, hr⟩
  · rw [d1] at HX
    rw [hr]
    clear hr d1 HA
    go_enter Tryd.func63, Tryd.ntmps63
    go_wp2_with fail
    refine (HX.out _).mono ?_
    rintro e w1 ⟨rfl, rfl⟩
    go_wp2
    go_ret
    exact ⟨rfl, HBe.out⟩
  · rw [d1] at HX
    rw [d2] at HY
    rw [hr]
    clear hr d1 d2 HA
    go_enter Tryd.func63, Tryd.ntmps63
    go_wp2_with fail
    refine (HX.out _).mono ?_
    rintro e w1 ⟨rfl, rfl⟩
    go_wp2_with fail
    refine (HY.out _).mono ?_
    rintro e w1 ⟨rfl, rfl⟩
    go_wp2
    go_ret
    exact ⟨rfl, HBe.out⟩
  · rw [d1] at HX
    rw [d2] at HY
    rw [d3] at HZ
    rw [hr]
    clear hr d1 d2 d3 HA
    go_enter Tryd.func63, Tryd.ntmps63
    go_wp2_with fail
    refine (HX.out _).mono ?_
    rintro e w1 ⟨rfl, rfl⟩
    go_wp2_with fail
    refine (HY.out _).mono ?_
    rintro e w1 ⟨rfl, rfl⟩
    go_wp2_with fail
    refine (HZ.out _).mono ?_
    rintro e w1 ⟨rfl, rfl⟩
    go_wp2
    go_ret
    exact ⟨rfl, HBe.out⟩
  · rw [d1] at HX
    rw [d2] at HY
    rw [d3] at HZ
    rw [hr]
    clear hr d1 d2 d3 HA
    go_enter Tryd.func63, Tryd.ntmps63
    go_wp2_with fail
    refine (HX.out _).mono ?_
    rintro e w1 ⟨rfl, rfl⟩
    go_wp2_with fail
    refine (HY.out _).mono ?_
    rintro e w1 ⟨rfl, rfl⟩
    go_wp2_with fail
    refine (HZ.out _).mono ?_
    rintro e w1 ⟨rfl, rfl⟩
    go_wp2
    go_ret
    exact ⟨rfl, HBe.out⟩
set_option maxRecDepth 100000 in
set_option maxHeartbeats 400000 in
theorem indexPts_any (A : Option Addr) (n c : Nat) (P : List P3) (w : World) (hp : HasK 3 w A n c (p3Cells P)) (hn : n ≤ 100000) : Calls Tryd.prog 73 #[.slice A n c, .func (.func 63) #[] #[]] w fun e w' => ∃ r : Int, e = .returned (.int .i64 r) ∧ decide (0 ≤ r) = (!P.all pointM) ∧ Below w.heap.size w w' := by
  have HL : Hid (P.length = n) := by have := hp.len; rw [p3Cells_len] at this; show _ = _; omega
  have HH := Lib.hid hp
  clear hp
  generalize hR : P.all pointM = R
  have HR := Lib.hid hR
  clear hR
  go_enter Tryd.func73, Tryd.ntmps73
  go_wp2
  go_loopg [8] n (fun g s8 wx => ∃ i : Nat, i + g = n ∧ s8 = .int .i64 i ∧ Hid ((P.take i).all pointM = true) ∧ Hid (Below w.heap.size w wx))
  case atStart => exact ⟨0, by omega, rfl, rfl, Below.refl _ _⟩
  case round =>
    obtain ⟨i, hig, rfl, HA, HB⟩ := hrel
    by_cases hi : i < n
    · have ti : decide ((i : Int) < (n : Int)) = true := by simp; omega
      have i2 : (i : Int) < (n : Int) := by omega
      have hil : i < P.length := by rw [HL.out]; exact hi
      obtain ⟨b, off, rfl, hlt, _⟩ := (HH.out.kept HB.out).spot (by omega)
      obtain ⟨c0, c1, c2⟩ := p3_at (HH.out.kept HB.out) hil
      have HLk := Lib.hid (noPoint_any P[i].1 P[i].2.1 P[i].2.2 wr)
      have HNx : Hid (pointM P[i] = true → (P.take (i + 1)).all pointM = true) := fun h => by
        rw [List.take_succ_eq_append_getElem hil, List.all_append, HA.out]
        simp [h]
      have HF : Hid (pointM P[i] = false → R = false) := fun h => by
        rw [← HR.out]
        exact List.all_eq_false.2 ⟨_, List.getElem_mem hil, by rw [h]; decide⟩
      generalize P[i] = p at *
      obtain ⟨x, y, z⟩ := p
      simp only at c0 c1 c2 HLk
      clear hil hlt
      cases hpm : pointM (x, y, z) with
      | false =>
        have HD := Lib.hid (HF.out hpm)
        rw [hpm] at HLk
        clear hpm HNx HF
        go_wp2_with (go_at_call 63; refine HLk.out.mono ?_; rintro e w' ⟨rfl, hb⟩; have HB2 := Lib.hid (new_call HB.out hb); clear hb)
        go_ret
        exact ⟨i, rfl, by rw [HD.out]; simp, HB2.out⟩
      | true =>
        have HD := Lib.hid (HNx.out hpm)
        rw [hpm] at HLk
        clear hpm HNx HF
        go_wp2_with (go_at_call 63; refine HLk.out.mono ?_; rintro e w' ⟨rfl, hb⟩; have HB2 := Lib.hid (new_call HB.out hb); clear hb)
        go_roundg (gk - 1)
        case measure => omega
        case rel => exact ⟨i + 1, by omega, by go_num, HD, HB2⟩
    · have ti : decide ((i : Int) < (n : Int)) = false := by simp; omega
      rw [List.take_of_length_le (by rw [HL.out]; omega)] at HA
      have HD : Hid (R = true) := HR.out.symm.trans HA.out
      go_wp2
      go_ret
      exact ⟨-1, rfl, by rw [HD.out]; rfl, HB.out⟩
theorem containsPts_any (A : Option Addr) (n c : Nat) (P : List P3) (w : World) (hp : HasK 3 w A n c (p3Cells P)) (hn : n ≤ 100000) : Calls Tryd.prog 62 #[.slice A n c, .func (.func 63) #[] #[]] w fun e w' => e = .returned (.bool (!P.all pointM)) ∧ Below w.heap.size w w' := by
  have HI := Lib.hid (indexPts_any A n c P w hp hn)
  clear hp
  generalize P.all pointM = R at *
  go_enter Tryd.func62, Tryd.ntmps62
  go_wp2_with (go_at_call 73; refine HI.out.mono ?_; rintro e w' ⟨r, rfl, hr, hb⟩; have HR := Lib.hid hr; have HB := Lib.hid hb; clear hr hb)
  go_ret
  exact ⟨ret_bool HR.out, HB.out⟩
/-- A triangle, corner by corner. -/
theorem tri_at {n : Nat} {t : P3} : triM n t = true ↔ ∀ k, k < 3 → 0 ≤ at3 t k ∧ at3 t k < n ∧ at3 t k ≠ at3 t ((k + 1) % 3) := by
  obtain ⟨x, y, z⟩ := t
  rw [triM_iff]
  constructor
  · rintro ⟨h1, h2, h3, a, b, c⟩ k hk
    rcases (show k = 0 ∨ k = 1 ∨ k = 2 by omega) with rfl | rfl | rfl
    · exact ⟨a.1, a.2, h1⟩
    · exact ⟨b.1, b.2, h2⟩
    · exact ⟨c.1, c.2, h3⟩
  · intro h
    obtain ⟨a1, a2, a3⟩ := h 0 (by omega)
    obtain ⟨b1, b2, b3⟩ := h 1 (by omega)
    obtain ⟨c1, c2, c3⟩ := h 2 (by omega)
    exact ⟨a3, b3, c3, ⟨a1, a2⟩, ⟨b1, b2⟩, ⟨c1, c2⟩⟩
/-- A corner of a triangle that is held as a value. -/
theorem idx3 (x y z : Int) {k : Nat} (hk : k < 3) (W : World) : (Instr.index 58 (.agg #[.int .i64 x, .int .i64 y, .int .i64 z]) (.int .i64 (k : Int))).run Tryd.prog W = .ok (.int .i64 (at3 (x, y, z) k)) W := by
  rcases (show k = 0 ∨ k = 1 ∨ k = 2 by omega) with rfl | rfl | rfl <;> kernel_rfl
set_option maxRecDepth 100000 in
set_option maxHeartbeats 2000000 in
theorem allTri_any (B : Option Addr) (m d : Nat) (T : List P3) (n : Nat) (w : World) (hbe : BehW w) (ht : HasK 3 w B m d (p3Cells T)) (hm : m ≤ 100000) (_ : n ≤ 100000) : Calls Tryd.prog 64 #[.slice B m d, .int .i64 (n : Int)] w fun e w' => e = .returned (.bool (T.all (triM n))) ∧ Below w.heap.size w w' := by
  have HM : Hid (T.length = m) := by have := ht.len; rw [p3Cells_len] at this; show _ = _; omega
  have HT := Lib.hid ht
  have HBe := Lib.hid hbe
  clear ht hbe
  generalize hR : T.all (triM n) = R
  have HR := Lib.hid hR
  clear hR
  go_enter Tryd.func64, Tryd.ntmps64
  go_wp2
  go_loopg [11] m (fun g s11 wx => ∃ i : Nat, i + g = m ∧ s11 = .int .i64 i ∧ Hid (Below w.heap.size w wx) ∧ Hid ((T.take i).all (triM n) = true))
  case atStart => exact ⟨0, by omega, rfl, Below.refl _ _, rfl⟩
  case round =>
    obtain ⟨i, hig, rfl, HB, HA⟩ := hrel
    by_cases hi : i < m
    · have ti : decide ((i : Int) < (m : Int)) = true := by simp; omega
      have i2 : (i : Int) < (m : Int) := by omega
      have hil : i < T.length := by rw [HM.out]; exact hi
      obtain ⟨b, off, rfl, hlt, _⟩ := (HT.out.kept HB.out).spot (by omega)
      obtain ⟨c0, c1, c2⟩ := p3_at (HT.out.kept HB.out) hil
      have HNx : Hid (triM n T[i] = true → (T.take (i + 1)).all (triM n) = true) := fun h => by
        rw [List.take_succ_eq_append_getElem hil, List.all_append, HA.out]
        simp [h]
      have HF : Hid (triM n T[i] = false → R = false) := fun h => by
        rw [← HR.out]
        exact List.all_eq_false.2 ⟨_, List.getElem_mem hil, by rw [h]; decide⟩
      generalize T[i] = t at *
      obtain ⟨x, y, z⟩ := t
      simp only at c0 c1 c2
      have HKt := Lib.hid (Blk.new wr 58 #[.int .i64 x, .int .i64 y, .int .i64 z])
      have HB2 := Lib.hid (new_alloc HB.out (.cells #[.int .i64 x, .int .i64 y, .int .i64 z] 58))
      clear hil hlt
      have HTr := Lib.hid (tri_at (n := n) (t := (x, y, z)))
      go_wp2
      generalize wr.alloc (.cells #[.int .i64 x, .int .i64 y, .int .i64 z] 58) = W2 at *
      generalize wr.heap.size = G at *
      clear c0 c1 c2
      try rw [ti]
      go_loopg [16] 3 (fun g s16 wx => ∃ k : Nat, k + g = 3 ∧ s16 = .int .i64 k ∧ Hid (Blk wx G 58 #[.int .i64 x, .int .i64 y, .int .i64 z]) ∧ Hid (Below w.heap.size w wx) ∧ Hid (∀ j, j < k → 0 ≤ at3 (x, y, z) j ∧ at3 (x, y, z) j < n ∧ at3 (x, y, z) j ≠ at3 (x, y, z) ((j + 1) % 3)))
      case atStart => exact ⟨0, by omega, rfl, HKt, HB2, fun j hj => absurd hj (by omega)⟩
      case round =>
        obtain ⟨k, hkg, rfl, HKa, HKc, HKd⟩ := hrel
        by_cases hk : k < 3
        · have tk : decide ((k : Int) < 3) = true := by simp; omega
          have k2 : (k : Int) < 3 := by omega
          have ck := t3_blk HKa.out hk
          have bk := (HBe.out.kept HKc.out).one hk
          obtain ⟨k1, hk1⟩ : ∃ j, (k + 1) % 3 = j := ⟨_, rfl⟩
          have hl2 : k1 < 3 := by omega
          have cd := t3_blk HKa.out hl2
          rw [hk1] at bk
          have hix := idx3 x y z hk wr
          have hj3 : (k1 : Int) < 3 := by omega
          have HDk := Lib.hid (fun (h : 0 ≤ at3 (x, y, z) k ∧ at3 (x, y, z) k < n ∧ at3 (x, y, z) k ≠ at3 (x, y, z) k1) => (show ∀ j, j < k + 1 → 0 ≤ at3 (x, y, z) j ∧ at3 (x, y, z) j < n ∧ at3 (x, y, z) j ≠ at3 (x, y, z) ((j + 1) % 3) from fun j hj => by
            by_cases e : j = k
            · rw [e, hk1]; exact h
            · exact HKd.out j (by omega)))
          have HNo : Hid (¬ (0 ≤ at3 (x, y, z) k ∧ at3 (x, y, z) k < n ∧ at3 (x, y, z) k ≠ at3 (x, y, z) k1) → R = false) := fun h => HF.out (by
            cases hc : triM n (x, y, z) with
            | false => rfl
            | true => exact absurd (hk1 ▸ HTr.out.1 hc k hk) h)
          clear hk1
          generalize at3 (x, y, z) k = v at *
          generalize at3 (x, y, z) k1 = u at *
          by_cases h1 : v < 0
          · have HE := Lib.hid (HNo.out (by omega))
            have d1 : decide (v < 0) = true := decide_eq_true h1
            clear HDk HNo
            go_wp2
            go_ret
            exact ⟨by rw [HE.out]; rfl, HKc.out⟩
          · have d1 : decide (v < 0) = false := decide_eq_false h1
            by_cases h2 : (n : Int) ≤ v
            · have HE := Lib.hid (HNo.out (by omega))
              have d2 : decide ((n : Int) ≤ v) = true := decide_eq_true h2
              clear HDk HNo
              go_wp2
              go_ret
              exact ⟨by rw [HE.out]; rfl, HKc.out⟩
            · have d2 : decide ((n : Int) ≤ v) = false := decide_eq_false h2
              by_cases h3 : v = u
              · have HE := Lib.hid (HNo.out (fun h => h.2.2 h3))
                have d3 : (v == u) = true := beq_iff_eq.2 h3
                clear HDk HNo h3
                go_wp2
                go_ret
                exact ⟨by rw [HE.out]; rfl, HKc.out⟩
              · have HE := Lib.hid (HDk.out ⟨by omega, by omega, h3⟩)
                have d3 : (v == u) = false := beq_eq_false_iff_ne.2 h3
                clear HDk HNo h3
                go_wp2
                go_roundg (gk - 1)
                case measure => omega
                case rel => exact ⟨k + 1, by omega, by go_num, HKa, HKc, HE⟩
        · have tk : decide ((k : Int) < 3) = false := by simp; omega
          have HE : Hid ((T.take (i + 1)).all (triM n) = true) := HNx.out (HTr.out.2 (fun j hj => HKd.out j (by omega)))
          go_wp2
          go_roundg (m - (i + 1))
          case measure => omega
          case rel => exact ⟨i + 1, by omega, by go_num, HKc, HE⟩
    · have ti : decide ((i : Int) < (m : Int)) = false := by simp; omega
      rw [List.take_of_length_le (by rw [HM.out]; omega)] at HA
      have HD : Hid (R = true) := HR.out.symm.trans HA.out
      go_wp2
      go_ret
      exact ⟨by rw [HD.out]; rfl, HB.out⟩
end Go.Proofs.YthjmojglcfmkmaaDoor
