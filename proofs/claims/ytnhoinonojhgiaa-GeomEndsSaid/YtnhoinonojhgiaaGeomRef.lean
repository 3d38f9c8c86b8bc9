/- lapidaryref09: Right, product, Turn, within, On. -/
import Derived.Test.YtnhoinonojhgiaaGeomRing
import Derived.Test.YtnhoinonojhgiaaWideRefE
namespace Go.Proofs.Ytnhoinonojhgiaa
open Go.RowKit

/-- Points in a row: three cells each. -/
def p3V (p : P3) : Value := .agg #[.int .i64 p.1, .int .i64 p.2.1, .int .i64 p.2.2]
def p3Cells (l : List P3) : List Value := l.flatMap fun p => [.int .i64 p.1, .int .i64 p.2.1, .int .i64 p.2.2]
theorem p3Cells_len (l : List P3) : (p3Cells l).length = l.length * 3 := by
  induction l with
  | nil => rfl
  | cons p l ih => simp only [p3Cells, List.flatMap_cons, List.length_append, List.length_cons, List.length_nil] at *; omega
theorem p3Cells_app (l r : List P3) : p3Cells (l ++ r) = p3Cells l ++ p3Cells r := by simp [p3Cells]
theorem p3Cells_at {l : List P3} {i : Nat} (h : i < l.length) : (p3Cells l)[i * 3]? = some (.int .i64 l[i].1) ∧ (p3Cells l)[i * 3 + 1]? = some (.int .i64 l[i].2.1) ∧ (p3Cells l)[i * 3 + 2]? = some (.int .i64 l[i].2.2) := by
  induction l generalizing i with
  | nil => simp at h
  | cons q l ih =>
    have e : p3Cells (q :: l) = .int .i64 q.1 :: .int .i64 q.2.1 :: .int .i64 q.2.2 :: p3Cells l := by simp [p3Cells]
    cases i with
    | zero => rw [e]; simp
    | succ i =>
      have := ih (i := i) (by simpa using h)
      rw [e, show (i + 1) * 3 = i * 3 + 1 + 1 + 1 by omega]
      simpa using this
theorem p3Cells_one (l : List P3) : ∀ u ∈ p3Cells l, u.oneCell' = true := by
  intro u hu
  obtain ⟨p, _, hu⟩ := List.mem_flatMap.1 hu
  simp at hu
  rcases hu with rfl | rfl | rfl <;> rfl
theorem p3Info : (Try.prog.info? 23).map (fun i => (i.zero, i.size)) = some (some (.agg #[.int .i64 0, .int .i64 0, .int .i64 0]), 3) := by kernel_rfl
theorem elemP3 : ElemK Try.prog 28 23 3 24 := by
  have h : (Try.prog.info? 23).map (fun i => (i.zero, i.size, i.bytes)) = some (some (.agg #[.int .i64 0, .int .i64 0, .int .i64 0]), 3, 24) := by kernel_rfl
  obtain ⟨i, h1, h2, h3, h4⟩ := info_parts h
  exact ⟨Try.underlying28, i, _, h1, h2, h3, h4, rfl⟩
/-- The point at place i of a row. -/
theorem p3_at {w : World} {b off n c : Nat} {l : List P3} (h : HasK 3 w (some ⟨b, off, none⟩) n c (p3Cells l)) {i : Nat} (hi : i < l.length) :
    w.cell? ⟨b, off + i * 3, none⟩ = some (.int .i64 l[i].1) ∧ w.cell? ⟨b, off + i * 3 + 1, none⟩ = some (.int .i64 l[i].2.1) ∧ w.cell? ⟨b, off + i * 3 + 2, none⟩ = some (.int .i64 l[i].2.2) := by
  have hn : 0 < n := by
    have := h.len
    rw [p3Cells_len] at this
    omega
  obtain ⟨_, _, e, _, hc⟩ := h.spot hn
  cases e
  obtain ⟨h1, h2, h3⟩ := p3Cells_at hi
  exact ⟨hc _ _ h1, by rw [Nat.add_assoc]; exact hc _ _ h2, by rw [Nat.add_assoc]; exact hc _ _ h3⟩
theorem right_ways (x y z : Int) :
    (decide (x < -2147483648) = true ∧ rightP (x, y, z) = false) ∨
    (decide (x < -2147483648) = false ∧ decide (2147483647 < x) = true ∧ rightP (x, y, z) = false) ∨
    (decide (x < -2147483648) = false ∧ decide (2147483647 < x) = false ∧ decide (y < -2147483648) = true ∧ rightP (x, y, z) = false) ∨
    (decide (x < -2147483648) = false ∧ decide (2147483647 < x) = false ∧ decide (y < -2147483648) = false ∧ decide (2147483647 < y) = true ∧ rightP (x, y, z) = false) ∨
    (decide (x < -2147483648) = false ∧ decide (2147483647 < x) = false ∧ decide (y < -2147483648) = false ∧ decide (2147483647 < y) = false ∧ (z != 0) = true ∧ rightP (x, y, z) = false) ∨
    (decide (x < -2147483648) = false ∧ decide (2147483647 < x) = false ∧ decide (y < -2147483648) = false ∧ decide (2147483647 < y) = false ∧ (z != 0) = false ∧ rightP (x, y, z) = true) := by
  have hf : ∀ {p : P3}, ¬ rightP p = true → rightP p = false := fun h => by simpa using h
  by_cases h1 : x < -2147483648
  · exact Or.inl ⟨by simpa using h1, hf fun h => by have := (rightP_iff.1 h).1.1; simp only at this; omega⟩
  · have d1 : decide (x < -2147483648) = false := by simpa using h1
    by_cases h2 : 2147483647 < x
    · exact Or.inr (Or.inl ⟨d1, by simpa using h2, hf fun h => by have := (rightP_iff.1 h).1.2; simp only at this; omega⟩)
    · have d2 : decide (2147483647 < x) = false := by simpa using h2
      by_cases h3 : y < -2147483648
      · exact Or.inr (Or.inr (Or.inl ⟨d1, d2, by simpa using h3, hf fun h => by have := (rightP_iff.1 h).2.1.1; simp only at this; omega⟩))
      · have d3 : decide (y < -2147483648) = false := by simpa using h3
        by_cases h4 : 2147483647 < y
        · exact Or.inr (Or.inr (Or.inr (Or.inl ⟨d1, d2, d3, by simpa using h4, hf fun h => by have := (rightP_iff.1 h).2.1.2; simp only at this; omega⟩)))
        · have d4 : decide (2147483647 < y) = false := by simpa using h4
          by_cases h5 : z = 0
          · exact Or.inr (Or.inr (Or.inr (Or.inr (Or.inr ⟨d1, d2, d3, d4, by rw [h5]; rfl, rightP_iff.2 ⟨⟨by simp only; omega, by simp only; omega⟩, ⟨by simp only; omega, by simp only; omega⟩, h5⟩⟩))))
          · exact Or.inr (Or.inr (Or.inr (Or.inr (Or.inl ⟨d1, d2, d3, d4, bne_iff_ne.2 h5, hf fun h => h5 (rightP_iff.1 h).2.2⟩))))
set_option maxRecDepth 100000 in
set_option maxHeartbeats 800000 in
theorem ref9Right_any (A : Option Addr) (n c : Nat) (l : List P3) (w : World) (h : HasK 3 w A n c (p3Cells l)) (hn : n ≤ 100000) : Calls Try.prog 16 #[.slice A n c] w fun e w' => e = .returned (.bool (rights l)) ∧ Below w.heap.size w w' := by
  have HL : Hid (l.length = n) := by have := h.len; rw [p3Cells_len] at this; show _ = _; omega
  have HH := Lib.hid h
  clear h
  go_enter Try.func16, Try.ntmps16
  go_wp2
  go_loopg [3] n (fun g s3 wx => ∃ i : Nat, i + g = n ∧ s3 = .int .i64 i ∧ Hid (rights (l.take i) = true) ∧ Hid (Below w.heap.size w wx))
  case atStart => exact ⟨0, by omega, rfl, rfl, Below.refl _ _⟩
  case round =>
    obtain ⟨i, hig, rfl, HR, HB⟩ := hrel
    by_cases hi : i < n
    · have ti : decide ((i : Int) < (n : Int)) = true := by simp; omega
      have i2 : (i : Int) < (n : Int) := by omega
      have hil : i < l.length := by rw [HL.out]; exact hi
      obtain ⟨b, off, rfl, hlt, _⟩ := (HH.out.kept HB.out).spot (by omega)
      obtain ⟨c0, c1, c2⟩ := p3_at (HH.out.kept HB.out) hil
      have HT : Hid (rights (l.take (i + 1)) = rightP l[i]) := by
        show _ = _
        rw [List.take_succ_eq_append_getElem hil]
        unfold rights
        rw [List.all_append, show (l.take i).all rightP = true from HR.out]
        simp
      have HF : Hid (rightP l[i] = false → rights l = false) := fun h => by
        unfold rights
        rw [List.all_eq_false]
        exact ⟨_, List.getElem_mem hil, by rw [h]; decide⟩
      generalize l[i] = p at *
      obtain ⟨x, y, z⟩ := p
      simp only at c0 c1 c2
      have HB2 := Lib.hid (new_alloc HB.out (.cells #[.int .i64 x, .int .i64 y, .int .i64 z] 23))
      clear hil hlt
      rcases right_ways x y z with ⟨d1, hr⟩ | ⟨d1, d2, hr⟩ | ⟨d1, d2, d3, hr⟩ | ⟨d1, d2, d3, d4, hr⟩ | ⟨d1, d2, d3, d4, d5, hr⟩ | ⟨d1, d2, d3, d4, d5, hr⟩
      iterate 5
        · have HE := Lib.hid (HF.out hr)
          clear hr HF HT
          go_wp2
          go_ret
          exact ⟨by rw [HE.out]; rfl, HB2.out⟩
      · rw [hr] at HT
        clear hr HF
        go_wp2
        go_roundg (gk - 1)
        case measure => omega
        case rel => exact ⟨i + 1, by omega, by go_num, HT, HB2⟩
    · have ti : decide ((i : Int) < (n : Int)) = false := by simp; omega
      have HE : Hid (rights l = true) := by
        have h1 := HR.out
        rw [List.take_of_length_le (by rw [HL.out]; omega)] at h1
        exact h1
      go_wp2
      go_ret
      exact ⟨by rw [HE.out]; rfl, HB.out⟩
set_option maxRecDepth 100000 in
theorem ref9product_any (x y : Int) (w : World) (hx : i64W x) (hy : i64W y) : Calls Try.prog 29 #[.int .i64 x, .int .i64 y] w (Bigd w (x * y)) := by
  obtain ⟨kz, ks⟩ := zero_of_info bigInfo
  have HO1 := Lib.hid (fun W => ref8Of_any x W hx)
  have HO2 := Lib.hid (fun W => ref8Of_any y W hy)
  have HK0 : Hid (Blk (w.alloc (.cells #[.slice none 0 0] 39)) w.heap.size 39 #[.slice none 0 0]) := Blk.new w _ _
  have HB0 := Lib.hid (new_alloc (Below.refl w.heap.size w) (.cells #[.slice none 0 0] 39))
  clear hx hy
  go_enter Try.func29, Try.ntmps29
  go_wp2_with fail
  refine (HO1.out _).mono ?_
  rintro e w1 ⟨A1, c1, rfl, hh1, hb1, _⟩
  have HB1 := Lib.hid (new_call HB0.out hb1)
  have HK1 := Lib.hid (HK0.out.below hb1 HK0.out.lt)
  have HH1 := Lib.hid hh1
  clear hh1 hb1 HB0 HK0 HO1
  go_wp2_with fail
  refine (HO2.out _).mono ?_
  rintro e w2 ⟨A2, c2, rfl, hh2, hb2, _⟩
  have HB2 := Lib.hid (new_call HB1.out hb2)
  have HK2 := Lib.hid (HK1.out.below hb2 HK1.out.lt)
  have HM2 := Lib.hid (ref8MulD_any A1 c1 x A2 c2 y w2 (HH1.out.kept hb2) hh2)
  clear hh2 hb2 HB1 HK1 HO2 HH1
  go_wp2_with fail
  refine HM2.out.mono ?_
  rintro e w3 ⟨A3, c3, rfl, hh3, hb3, hn3⟩
  have HB3 := Lib.hid (new_call HB2.out hb3)
  have HK3 := Lib.hid (HK2.out.below hb3 HK2.out.lt)
  have fz := HK3.out.frozen 0
  have cz : w3.cell? ⟨w.heap.size, 0, none⟩ = some (.slice none 0 0) := HK3.out.cell 0
  have HP := Lib.hid (big_pass HK3.out (Nat.le_refl _) hh3 (fun b off hA => by have := hn3 b off hA; have := HK2.out.lt; omega) HB3.out)
  clear hh3 hb3 hn3 HM2
  go_wp2
  exact bodyPost_ret (results_cell8 Try.results29 rfl HP.out.1) rfl HP.out.2
end Go.Proofs.Ytnhoinonojhgiaa
