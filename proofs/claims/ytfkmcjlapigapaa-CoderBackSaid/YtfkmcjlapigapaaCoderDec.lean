/- lapidaryref06: Same, Codes, beyond. -/
import Derived.Test.YtfkmcjlapigapaaCoderEnc
namespace Go.Proofs.Ytfkmcjlapigapaa
open Go.RowKit

theorem codCells_app (l r : List Cod) : codCells (l ++ r) = codCells l ++ codCells r := by unfold codCells; rw [List.map_append, secCells_app]
theorem elemCod : ElemK Try.prog 23 41 2 16 := by
  have h : (Try.prog.info? 41).map (fun i => (i.zero, i.size, i.bytes)) = some (some (.agg #[.int .i64 0, .int .i64 0]), 2, 16) := by kernel_rfl
  obtain ⟨i, h1, h2, h3, h4⟩ := info_parts h
  exact ⟨Try.underlying23, i, _, h1, h2, h3, h4, rfl⟩
set_option maxRecDepth 100000 in
set_option maxHeartbeats 400000 in
theorem ref6Same_any (A : Option Addr) (n c : Nat) (l : List Cod) (B : Option Addr) (m d : Nat) (r : List Cod) (w : World) (h : HasK 2 w A n c (codCells l)) (h2 : HasK 2 w B m d (codCells r)) (hn : n ≤ 100000) :
    Calls Try.prog 17 #[.slice A n c, .slice B m d] w fun e w' => e = .returned (.bool (decide (l = r))) ∧ ∃ q, w' = w.drewN q := by
  have hl : l.length = n := by have := h.len; rw [codCells_len] at this; omega
  have hr : r.length = m := by have := h2.len; rw [codCells_len] at this; omega
  by_cases hnm : n = m
  · subst hnm
    have HL := Lib.hid hl
    have HR := Lib.hid hr
    have HA := Lib.hid h
    have HB := Lib.hid h2
    clear h h2 hl hr
    go_enter Try.func17, Try.ntmps17
    go_wp2
    go_loopg [5] n (fun g s5 wx => ∃ i q : Nat, i + g = n ∧ s5 = .int .i64 i ∧ Hid (l.take i = r.take i) ∧ Hid (wx = w.drewN q))
    case atStart => exact ⟨0, 0, by omega, rfl, by show _ = _; simp, rfl⟩
    case round =>
      obtain ⟨i, q, hig, rfl, HE, HW⟩ := hrel
      by_cases hi : i < n
      · have ti : decide ((i : Int) < (n : Int)) = true := by simp; omega
        have hil : i < l.length := by rw [HL.out]; exact hi
        have hir : i < r.length := by rw [HR.out]; exact hi
        have hA := HA.out.kept (quiet_below w q)
        have hB := HB.out.kept (quiet_below w q)
        rw [← HW.out] at hA hB
        obtain ⟨b, off, rfl, hlt, hc⟩ := hA.spot (by omega)
        obtain ⟨b', off', rfl, hlt', hc'⟩ := hB.spot (by omega)
        have a1 := hc _ _ (cod_at hil).1
        have a2 := hc _ _ (cod_at hil).2
        have b1 := hc' _ _ (cod_at hir).1
        have b2 := hc' _ _ (cod_at hir).2
        rw [← Nat.add_assoc] at a2 b2
        have HT : Hid (l.take (i + 1) = l.take i ++ [l[i]]) := List.take_succ_eq_append_getElem hil
        have HT2 : Hid (r.take (i + 1) = r.take i ++ [r[i]]) := List.take_succ_eq_append_getElem hir
        have HNe : Hid (l[i] ≠ r[i] → l ≠ r) := fun h e => h (by subst e; rfl)
        clear hc hc' hA hB
        generalize l[i] = x at *
        generalize r[i] = y at *
        clear hil hir
        obtain ⟨x1, x2⟩ := x
        obtain ⟨y1, y2⟩ := y
        simp only at a1 a2 b1 b2
        by_cases he1 : x1 = y1
        · by_cases he2 : x2 = y2
          · have HX : Hid (l.take (i + 1) = r.take (i + 1)) := by show _ = _; rw [HT.out, HT2.out, HE.out, he1, he2]
            subst he1 he2
            clear HNe HT HT2 HE
            go_wp2
            go_quiet (fail)
            go_wp2
            go_roundg (gk - 1)
            case measure => omega
            case rel => exact ⟨i + 1, q + nq, by omega, by go_num, HX, by show _ = _; rw [HW.out, World.drewN_drewN]⟩
          · have te : decide (x2 = y2) = false := decide_eq_false he2
            have HD : Hid (decide (l = r) = false) := decide_eq_false (HNe.out fun e => he2 (by cases e; rfl))
            subst he1
            clear HNe HT HT2 HE
            go_wp2
            go_quiet (fail)
            go_wp2
            go_ret
            exact ⟨ret_bool HD.out.symm, q + nq, by rw [HW.out, World.drewN_drewN]⟩
        · have te : decide (x1 = y1) = false := decide_eq_false he1
          have HD : Hid (decide (l = r) = false) := decide_eq_false (HNe.out fun e => he1 (by cases e; rfl))
          clear HNe HT HT2 HE
          go_wp2
          go_quiet (fail)
          go_wp2
          go_ret
          exact ⟨ret_bool HD.out.symm, q + nq, by rw [HW.out, World.drewN_drewN]⟩
      · have ti : decide ((i : Int) < (n : Int)) = false := by simp; omega
        have HEq : Hid (decide (l = r) = true) := decide_eq_true (by
          have := HE.out
          rw [List.take_of_length_le (by rw [HL.out]; omega), List.take_of_length_le (by rw [HR.out]; omega)] at this
          exact this)
        go_wp2
        go_ret
        exact ⟨ret_bool HEq.out.symm, q, HW.out⟩
  · have t0 : decide (n = m) = false := decide_eq_false hnm
    have HNe : Hid (decide (l = r) = false) := decide_eq_false fun e => hnm (by rw [← hl, ← hr, e])
    have t1 : ((n : Int) != (m : Int)) = true := by rw [bne_iff_ne]; omega
    go_enter Try.func17, Try.ntmps17
    go_wp2
    go_ret
    exact ⟨ret_bool HNe.out.symm, 0, rfl⟩

/-- Bytes as symbols of one model. -/
def codesC (bs : List Nat) : List Cod := bs.map fun (x : Nat) => ((0 : Int), (x : Int))
set_option maxRecDepth 100000 in
set_option maxHeartbeats 400000 in
theorem ref6Codes_any (A : Option Addr) (n c : Nat) (bs : List Nat) (w : World) (h : Has w A n c (u8s bs)) (hb : ∀ x ∈ bs, x < 256) (hn : n ≤ 100000) :
    Calls Try.prog 20 #[.slice A n c] w fun e w' => ∃ B d, e = .returned (.slice B n d) ∧ HasK 2 w' B n d (codCells (codesC bs)) ∧ Below w.heap.size w w' := by
  have HL : Hid (bs.length = n) := by have := h.len; rw [u8s_len] at this; exact this
  have HH := Lib.hid h
  have HBy := Lib.hid hb
  clear h hb
  go_enter Try.func20, Try.ntmps20
  go_wp2
  go_loopg [3, 4] n (fun g s3 s4 wx => ∃ i : Nat, i + g = n ∧ s4 = .int .i64 i ∧ Hid (OwnK 2 wx w.heap.size 41 s3 i (codCells (codesC (bs.take i)))) ∧ Hid (Below w.heap.size w wx))
  case atStart => exact ⟨0, by omega, rfl, OwnK.nil _ _ _ _, Below.refl _ _⟩
  case round =>
    obtain ⟨i, hig, rfl, HO, HB⟩ := hrel
    have hz := HB.out.size
    by_cases hi : i < n
    · have ti : decide ((i : Int) < (n : Int)) = true := by simp; omega
      have hil : i < bs.length := by rw [HL.out]; exact hi
      obtain ⟨b, off, rfl, hlt, hc⟩ := (HH.out.kept HB.out).spot (by omega)
      have hcell := hc i _ (u8s_at hil)
      have HS : Hid (codCells (codesC (bs.take i)) ++ codCells [((0 : Int), (bs[i] : Int))] = codCells (codesC (bs.take (i + 1)))) := by
        show _ = _
        rw [← codCells_app, List.take_succ_eq_append_getElem hil]
        unfold codesC
        rw [List.map_append]; rfl
      have hx := HBy.out _ (List.getElem_mem hil)
      clear hc
      generalize bs[i] = x at *
      clear hil
      go_wp2_with (at_builtin
                   refine wpList_joinK rfl _ _ 23 rfl elemCod (by decide) w.heap.size _ i _ rfl (HO.out.alloc _) _ 1 1 (codCells [((0 : Int), (x : Int))]) rfl (HasK.new_at 2 _ #[_, _] _ _ 1 rfl rfl) ?_ (by omega) (by decide) (by simp; omega) ?_
                   · intro u hu; simp [codCells, secCells] at hu; rcases hu with rfl | rfl <;> rfl
                   intro v2 w2 hown2 hbel2 _
                   rw [HS.out] at hown2
                   have HO2 := Lib.hid hown2
                   have HB2 := Lib.hid ((new_alloc HB.out _).trans hbel2)
                   clear hown2 hbel2)
      go_roundg (gk - 1)
      case measure => omega
      case rel => exact ⟨i + 1, by omega, by go_num, HO2, HB2⟩
    · have ti : decide ((i : Int) < (n : Int)) = false := by simp; omega
      obtain rfl : i = n := by omega
      rw [List.take_of_length_le (by rw [HL.out]; exact Nat.le_refl _)] at HO
      go_wp2
      go_ret
      obtain ⟨B, d, rfl, hh⟩ := HO.out.has
      exact ⟨B, d, rfl, hh, HB.out⟩

theorem digC_at (D : Nat) : ∀ (N i : Nat) (h : i < D), (digC D N)[i]'(by rw [digC_len]; exact h) = N / 256 ^ (D - 1 - i) % 256 := by
  induction D with
  | zero => intro N i h; omega
  | succ D ih =>
    intro N i h
    simp only [digC]
    by_cases e : i < D
    · rw [List.getElem_append_left (by rw [digC_len]; exact e), ih (N / 256) i e, Nat.div_div_eq_div_mul, ← Nat.pow_succ', show D + 1 - 1 - i = (D - 1 - i).succ by omega]
    · obtain rfl : i = D := by omega
      rw [List.getElem_append_right (by rw [digC_len]; exact Nat.le_refl _)]
      simp [digC_len]
theorem div_step (N e : Nat) : N / 256 ^ e = N / 256 ^ (e + 1) * 256 + N / 256 ^ e % 256 := by
  rw [Nat.pow_succ, ← Nat.div_div_eq_div_mul]; omega
/-- How far bytes are beyond a number: the difference, or what leads to the same symbol. -/
def Beyond (V N r : Nat) (d : Int) : Prop := (V < N → d < 0) ∧ (N ≤ V → 0 ≤ d ∧ d ≤ 8589934592 ∧ (d = ((V - N : Nat) : Int) ∨ r ≤ V - N ∧ d = (r : Int)))
theorem div_less {V N p : Nat} (h : V / p < N / p) : V < N := by
  rcases Nat.lt_or_ge V N with h1 | h1
  · exact h1
  · have := Nat.div_le_div_right (c := p) h1; omega
theorem div_more {V N p r : Nat} (hp : 0 < p) (h : N / p + 2 * r < V / p) : r ≤ V - N := by
  have h1 : V / p * p ≤ V := Nat.div_mul_le_self V p
  have h2 : N < (N / p + 1) * p := by rw [Nat.mul_comm]; exact Nat.lt_mul_div_succ N hp
  have h3 : (N / p + 1 + 2 * r) * p ≤ V / p * p := Nat.mul_le_mul_right p (by omega)
  have h4 : r ≤ 2 * r * p := Nat.le_trans (by omega) (Nat.le_mul_of_pos_right (2 * r) hp)
  rw [Nat.add_mul] at h3
  omega

set_option maxRecDepth 100000 in
set_option maxHeartbeats 1000000 in
theorem ref6Beyond_any (A : Option Addr) (n c : Nat) (bs : List Nat) (B : Option Addr) (D d N r : Nat) (w : World) (h : Has w A n c (u8s bs)) (hb : ∀ x ∈ bs, x < 256) (h2 : Has w B D d (i64s (digC D N))) (hr : r < 4294967296) (hn : n ≤ 100000) (hD : D ≤ 100000) (hN : N < 256 ^ D) :
    Calls Try.prog 36 #[.slice A n c, .slice B D d, .int .i64 (r : Int)] w fun e w' => ∃ y : Int, e = .returned (.int .i64 y) ∧ (n < D → y < 0) ∧ (D ≤ n → Beyond (valC (bs.take D)) N r y) ∧ Below w.heap.size w w' := by
  have hl : bs.length = n := by have := h.len; rw [u8s_len] at this; exact this
  by_cases hnD : n < D
  · have t0 : decide ((n : Int) < (D : Int)) = true := by simp; omega
    go_enter Try.func36, Try.ntmps36
    go_wp2
    go_ret
    exact ⟨-1, rfl, fun _ => by omega, fun h => by omega, Below.refl _ _⟩
  · have t0 : decide ((n : Int) < (D : Int)) = false := by simp; omega
    have HA := Lib.hid h
    have HB := Lib.hid h2
    have HBy := Lib.hid hb
    have HL := Lib.hid hl
    obtain ⟨V, hV⟩ : ∃ V, valC (bs.take D) = V := ⟨_, rfl⟩
    have HV : Hid (∀ i, i ≤ D → valC (bs.take i) = V / 256 ^ (D - i)) := fun i hi => by
      have h1 := val_take (D - i) (b := bs.take D) (n := i) (by rw [List.length_take, hl]; omega) (fun x hx => hb x (List.mem_of_mem_take hx))
      rw [List.take_take, Nat.min_eq_left hi, hV] at h1
      exact h1
    have HN := Lib.hid hN
    rw [hV]
    have HV0 := Lib.hid hV
    clear h h2 hb hl hV hN
    go_enter Try.func36, Try.ntmps36
    go_wp2
    go_loopg [7, 8] D (fun g s7 s8 wx => ∃ (i : Nat) (a b : Nat), i + g = D ∧ s8 = .int .i64 i ∧ s7 = .int .i64 ((a : Int) - (b : Int)) ∧ Hid (a = V / 256 ^ (D - i)) ∧ Hid (b = N / 256 ^ (D - i)) ∧ (-(r : Int) ≤ (a : Int) - (b : Int)) ∧ ((a : Int) - (b : Int) ≤ 2 * (r : Int)) ∧ Hid (Below w.heap.size w wx))
    case atStart =>
      refine ⟨0, 0, 0, by omega, rfl, by simp, ?_, ?_, by omega, by omega, Below.refl _ _⟩
      · show 0 = _
        rw [← HV.out 0 (by omega)]; rfl
      · show 0 = _
        rw [Nat.sub_zero, Nat.div_eq_of_lt HN.out]
    case round =>
      obtain ⟨i, a, b, hig, rfl, rfl, HAa, HBb, hlo, hhi, HBe⟩ := hrel
      by_cases hi : i < D
      · have ti : decide ((i : Int) < (D : Int)) = true := by simp; omega
        have hil : i < bs.length := by rw [HL.out]; omega
        obtain ⟨b1, o1, rfl, _, hc1⟩ := (HA.out.kept HBe.out).spot (by omega)
        obtain ⟨b2, o2, rfl, _, hc2⟩ := (HB.out.kept HBe.out).spot (by omega)
        have c1 := hc1 i _ (u8s_at hil)
        have c2 := hc2 i _ (i64s_at (show i < (digC D N).length by rw [digC_len]; exact hi))
        rw [digC_at D N i hi] at c2
        have hx := HBy.out _ (List.getElem_mem hil)
        have hA2 : V / 256 ^ (D - (i + 1)) = a * 256 + bs[i] := by
          rw [← HV.out (i + 1) (by omega), List.take_succ_eq_append_getElem hil, valC_snoc, HV.out i (by omega), HAa.out]
        have hB2 : N / 256 ^ (D - (i + 1)) = b * 256 + N / 256 ^ (D - 1 - i) % 256 := by
          rw [HBb.out, show D - i = D - 1 - i + 1 by omega, show D - (i + 1) = D - 1 - i by omega]
          exact div_step N _
        have hy : N / 256 ^ (D - 1 - i) % 256 < 256 := Nat.mod_lt _ (by decide)
        generalize N / 256 ^ (D - 1 - i) % 256 = y at *
        clear hc1 hc2
        generalize bs[i] = x at *
        clear hil
        have HA2 := Lib.hid hA2
        have HB2 := Lib.hid hB2
        clear hA2 hB2
        obtain ⟨z, hz⟩ : ∃ z : Int, (a : Int) - (b : Int) = z := ⟨_, rfl⟩
        rw [hz] at hlo hhi ⊢
        have k1 : IntKind.wrap .i64 (z * 256) = z * 256 := by rw [IntKind.wrap_i64]; omega
        have k2 : IntKind.wrap .i64 (z * 256 + (x : Int)) = z * 256 + (x : Int) := by rw [IntKind.wrap_i64]; omega
        have k3 : IntKind.wrap .i64 (z * 256 + (x : Int) - (y : Int)) = z * 256 + (x : Int) - (y : Int) := by rw [IntKind.wrap_i64]; omega
        obtain ⟨u, hu⟩ : ∃ u : Int, z * 256 + (x : Int) - (y : Int) = u := ⟨_, rfl⟩
        have hu2 : ((a * 256 + x : Nat) : Int) - ((b * 256 + y : Nat) : Int) = u := by omega
        have HU2 := Lib.hid hu2
        have ub1 : -1200000000000 ≤ u := by omega
        have ub2 : u ≤ 2400000000000 := by omega
        rw [hu] at k3
        have HZ := Lib.hid hz
        clear hz hu2
        by_cases h1 : u < -(r : Int)
        · have t1 : decide (u < 0) = true := by simp; omega
          have t2 : decide (u < -(r : Int)) = true := by simpa using h1
          have HVN : Hid (V < N) := div_less (p := 256 ^ (D - (i + 1))) (by rw [HA2.out, HB2.out]; have := HU2.out; omega)
          clear h1
          go_wp2
          go_quiet (fail)
          go_wp2
          go_ret
          exact ⟨-1, rfl, fun _ => by omega, fun _ => ⟨fun _ => by omega, fun h => absurd HVN.out (by omega)⟩, new_call HBe.out (quiet_below _ _)⟩
        · have t2 : decide (u < -(r : Int)) = false := by simpa using h1
          by_cases h3 : 2 * (r : Int) < u
          · have t1 : decide (u < 0) = false := by simp; omega
            have t3 : decide (2 * (r : Int) < u) = true := by simpa using h3
            have hpp : 0 < 256 ^ (D - (i + 1)) := Nat.pow_pos (by decide)
            have hml : N / 256 ^ (D - (i + 1)) + 2 * r < V / 256 ^ (D - (i + 1)) := by rw [HA2.out, HB2.out]; have := HU2.out; omega
            have HVN : Hid (r ≤ V - N) := div_more hpp hml
            have HVN2 : Hid (N < V) := div_less (p := 256 ^ (D - (i + 1))) (by omega)
            clear h3 h1 hml hpp
            go_wp2
            go_quiet (fail)
            go_wp2
            go_ret
            exact ⟨r, rfl, fun _ => by omega, fun _ => ⟨fun h => absurd HVN2.out (by omega), fun _ => ⟨by omega, by omega, Or.inr ⟨HVN.out, rfl⟩⟩⟩, new_call HBe.out (quiet_below _ _)⟩
          · have t3 : decide (2 * (r : Int) < u) = false := by simpa using h3
            have HFin : Hid (-(r : Int) ≤ u ∧ u ≤ 2 * (r : Int)) := ⟨by omega, by omega⟩
            by_cases h0 : u < 0
            · have t1 : decide (u < 0) = true := by simpa using h0
              clear h0 h1 h3
              go_wp2
              go_quiet (fail)
              go_wp2
              go_roundg (gk - 1)
              case measure => omega
              case rel => exact ⟨i + 1, a * 256 + x, b * 256 + y, by omega, by go_num, by rw [HU2.out], HA2.out.symm, HB2.out.symm, by rw [HU2.out]; exact HFin.out.1, by rw [HU2.out]; exact HFin.out.2, new_call HBe.out (quiet_below _ _)⟩
            · have t1 : decide (u < 0) = false := by simpa using h0
              clear h0 h1 h3
              go_wp2
              go_quiet (fail)
              go_wp2
              go_roundg (gk - 1)
              case measure => omega
              case rel => exact ⟨i + 1, a * 256 + x, b * 256 + y, by omega, by go_num, by rw [HU2.out], HA2.out.symm, HB2.out.symm, by rw [HU2.out]; exact HFin.out.1, by rw [HU2.out]; exact HFin.out.2, new_call HBe.out (quiet_below _ _)⟩
      · have ti : decide ((i : Int) < (D : Int)) = false := by simp; omega
        obtain rfl : i = D := by omega
        have ha : a = V := by have := HAa.out; simpa using this
        have hb2 : b = N := by have := HBb.out; simpa using this
        subst ha hb2
        clear HAa HBb HV HV0
        go_wp2
        go_ret
        exact ⟨_, rfl, fun h => by omega, fun _ => ⟨fun h => by omega, fun h => ⟨by omega, by omega, Or.inl (by omega)⟩⟩, HBe.out⟩
end Go.Proofs.Ytfkmcjlapigapaa
