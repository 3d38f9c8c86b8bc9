/- lapidaryref06: Step. -/
import Derived.Test.YtfkmcjlapigapaaCoderStep
import Derived.Deep.LoopGhost
import Derived.Deep.RegionLaw
namespace Go.Proofs.Ytfkmcjlapigapaa
open Go.RowKit

theorem one_at (w : World) (g : Nat) (u : Value) (e : TypeId) (hg : g = w.heap.size) : Has (w.alloc (.cells #[u] e)) (some ⟨g, 0, Option.none⟩) 1 1 [u] := by
  subst hg; exact Has.one _ _ _

theorem own_set3 {wx : World} {e : TypeId} {v : Value} {xs : List Value} {B : Nat} (h : Own wx B e v xs) {g : Nat} (hg : g < B) (c0 c1 c2 : Value) : Own (((wx.setCell ⟨g, 0, none⟩ c0).setCell ⟨g, 1, none⟩ c1).setCell ⟨g, 2, none⟩ c2) B e v xs :=
  own_set (own_set (own_set h hg _ _) hg _ _) hg _ _
theorem SR.setC {w wx : World} {x y : Int} {t : Cdr} {AC : Option Addr} {cC : Nat} {nv : Value} (h : SR w x y t AC cC nv wx) (A : Option Addr) (c : Nat) (C' : List (List Nat)) : SR w x y { t with C := C' } A c nv (wx.setCell ⟨w.heap.size, 0, none⟩ (.slice A C'.length c)) :=
  ⟨h.b0.set_ 0 _, h.b1.far (by simp) _, h.b2.far (by simp) _, h.bel.setCell (Nat.le_refl _) _⟩
theorem elemII : Elem Try.prog 66 22 24 := by
  have h : (Try.prog.info? 22).map (fun i => (i.zero, i.size, i.bytes)) = some (some (.slice none 0 0), 1, 24) := by kernel_rfl
  obtain ⟨i, h1, h2, h3, h4⟩ := info_parts h
  exact ⟨Try.underlying66, i, _, h1, h2, h3, h4, rfl⟩
theorem RowsI.one {w : World} {vs : List Value} {ls : List (List Nat)} (h : RowsI w vs ls) : ∀ u ∈ vs, u.oneCell' = true := by
  intro u hu
  obtain ⟨i, hi, rfl⟩ := List.mem_iff_getElem.1 hu
  obtain ⟨A, n, c, e, _⟩ := h.2 i (by rw [← h.1]; exact hi)
  rw [List.getElem?_eq_getElem hi] at e
  rw [Option.some.inj e]; rfl
/-- One row is another one now. -/
theorem RowsI.set {w : World} {vs : List Value} {ls : List (List Nat)} {k : Nat} {A : Option Addr} {n c : Nat} {l : List Nat} (h : RowsI w vs ls) (hl : Has w A n c (i64s l)) : RowsI w (vs.set k (.slice A n c)) (ls.set k l) := by
  refine ⟨by simp [h.1], fun i hi => ?_⟩
  rw [List.length_set] at hi
  by_cases e : k = i
  · subst e
    exact ⟨A, n, c, by simp [h.1, hi], by rw [List.getElem_set_self]; exact hl⟩
  · obtain ⟨A', n', c', e', h'⟩ := h.2 i hi
    exact ⟨A', n', c', by rw [List.getElem?_set_ne e]; exact e', by rw [List.getElem_set_ne e]; exact h'⟩
theorem tr_make {D : Nat → Prop} {W : World} {u : Cdr} {AC AV : Option Addr} {cC cV : Nat} {vs : List Value} {B : Nat} (hrow : Rob D W fun W => Has W AC u.C.length cC vs ∧ RowsI W vs u.C) (hown : Own W B 3 (.slice AV u.D cV) (i64s (digC u.D u.N))) (hB : Sit D B) : TR D W u (.agg #[.slice AC u.C.length cC, .slice AV u.D cV, .int .i64 (u.R : Int)]) := by
  refine ⟨AC, cC, AV, cV, vs, rfl, fun W' hW => ⟨(hrow W' hW).1, (hrow W' hW).2, ?_⟩⟩
  obtain ⟨A', c', e, hh⟩ := (Rob.row hown hB W' hW).has
  rw [i64s_len, digC_len] at e hh
  cases e
  exact hh

/-- All that is kept of a state whose one row is another one now. -/
theorem step_rows {D : Nat → Prop} {w W : World} {t : Cdr} {AC AV : Option Addr} {cC cV : Nat} {vs : List Value} {k g cap N1 D1 R1 B1 B2 B3 : Nat} {A8 : Option Addr} {n1 c8 : Nat} {l : List Nat}
    (hrow : Rob D W fun W => Has W AC t.C.length cC vs ∧ RowsI W vs t.C) (hc : Own W B1 22 (.slice (some ⟨g, 0, none⟩) t.C.length cap) (vs.set k (.slice A8 n1 c8))) (hl : Own W B2 3 (.slice A8 n1 c8) (i64s l)) (hd : Own W B3 3 (.slice AV D1 cV) (i64s (digC D1 N1)))
    (hD : Sit D w.heap.size) (h1 : w.heap.size ≤ B1) (h2 : w.heap.size ≤ B2) (h3 : w.heap.size ≤ B3) :
    TR D W { C := t.C.set k l, N := N1, D := D1, R := R1 } (.agg #[.slice (some ⟨g, 0, none⟩) t.C.length cap, .slice AV D1 cV, .int .i64 (R1 : Int)]) := by
  have hlen : (t.C.set k l).length = t.C.length := List.length_set
  have := tr_make (u := { C := t.C.set k l, N := N1, D := D1, R := R1 }) (AC := some ⟨g, 0, none⟩) (cC := cap) (vs := vs.set k (.slice A8 n1 c8)) (D := D) (W := W) ?_ hd (hD.le h3)
  · rw [hlen] at this
    exact this
  · intro W' hW
    obtain ⟨_, hr⟩ := hrow W' hW
    have hvl := hr.1
    obtain ⟨A', c', e, hh⟩ := (Rob.row hc (hD.le h1) W' hW).has
    rw [List.length_set, hvl] at e hh
    cases e
    obtain ⟨A2, c2, e2, hh2⟩ := (Rob.row hl (hD.le h2) W' hW).has
    cases e2
    simp only [hlen]
    exact ⟨hh, hr.set hh2⟩

set_option maxRecDepth 100000 in
set_option maxHeartbeats 2000000 in
theorem ref6Step_some (t : Cdr) (AC : Option Addr) (cC : Nat) (AN : Option Addr) (cN : Nat) (vs : List Value) (x y : Int) (w : World) (D : Nat → Prop) (hD : Sit D w.heap.size) (h : Rob D w fun W => TM W t AC cC AN cN vs) (ht : COk t) (hD9 : t.D ≤ 100000) (hCl : t.C.length ≤ 1000) (hn : (shareC t.C (x, y)).2 ≠ 0) :
    Calls Try.prog 29 #[.agg #[.slice AC t.C.length cC, .slice AN t.D cN, .int .i64 (t.R : Int)], .agg #[.int .i64 x, .int .i64 y]] w (Stept D w t (stepC t (x, y))) := by
  have HS := Lib.hid (SR.start w x y t AC cC (.slice AN t.D cN))
  have HSh := Lib.hid (ref6Share_any t AC cC AN cN vs x y _ (h.here.kept HS.out.bel) ht.cnt)
  have HM := Lib.hid h
  have HDs := Lib.hid hD
  have HO := Lib.hid ht
  have HE : Hid (stepC t (x, y) = some { norm 3 { t with N := t.N + t.R / wholeC t.C x * (shareC t.C (x, y)).1, R := t.R / wholeC t.C x * (shareC t.C (x, y)).2 } with C := seenC t.C (x, y) }) := if_neg hn
  obtain ⟨j, q, lo, n, hq, hs, hq1, hn1, hln, hqW, _⟩ := stepC_is ht HE.out
  have hRs := ht.small
  have HMod := Lib.hid (share_model hn)
  rw [← hs] at HSh HE
  rw [← hq] at HE
  clear h hn hD ht
  obtain ⟨m1, hm1⟩ : ∃ m1, q * lo = m1 := ⟨_, rfl⟩
  obtain ⟨m2, hm2⟩ : ∃ m2, q * n = m2 := ⟨_, rfl⟩
  simp only at HE hq hln hqW
  rw [hm1, hm2] at HE
  have hW := whole_le HO.out.cnt x
  have hW0 : 1 ≤ wholeC t.C x := by omega
  have HWh := Lib.hid (fun W (hW : TM W t AC cC AN cN vs) => ref6Whole_any t AC cC AN cN vs x W hW HO.out.cnt)
  generalize wholeC t.C x = WW at *
  have e1 : (q : Int) * (lo : Int) = (m1 : Int) := by rw [← hm1]; simp
  have e2 : (q : Int) * (n : Int) = (m2 : Int) := by rw [← hm2]; simp
  have e3 : (t.R : Int) / (WW : Int) = (q : Int) := by rw [hq]; simp
  have e4 : (t.R : Int).tdiv (WW : Int) = (q : Int) := by rw [hq, ← Int.ofNat_tdiv]
  have e5 : IntKind.wrap .i64 (q : Int) = (q : Int) := by
    have h1 : q ≤ t.R := Nat.le_trans (Nat.le_mul_of_pos_right q (by omega)) hqW
    rw [IntKind.wrap_i64]
    omega
  have b1 : m1 ≤ t.R := by
    rw [← hm1]
    exact Nat.le_trans (Nat.mul_le_mul_left q (by omega)) hqW
  have b2 : m2 ≤ t.R := by
    rw [← hm2]
    exact Nat.le_trans (Nat.mul_le_mul_left q (by omega)) hqW
  have hqb : q ≤ t.R := Nat.le_trans (Nat.le_mul_of_pos_right q (by omega)) hqW
  have b3 : 256 ≤ m2 := by
    rw [← hm2]
    exact Nat.le_trans hq1 (Nat.le_mul_of_pos_right q (by omega))
  have tn : decide ((n : Int) = 0) = false := by simp; omega
  have hW2 : ¬ (WW : Int) = 0 := by omega
  have hW3 : ¬ WW = 0 := by omega
  obtain ⟨U, hU⟩ : ∃ U : Cdr, U = { norm 3 { t with N := t.N + m1, R := m2 } with C := seenC t.C (x, y) } := ⟨_, rfl⟩
  rw [HE.out, ← hU]
  have HU := Lib.hid hU
  clear hs hm1 hm2 hq hln hqW HE hU
  go_enter Try.func29, Try.ntmps29
  go_wp2_with fail
  refine HSh.out.mono ?_
  rintro e w2 ⟨rfl, hb⟩
  have HS2 := Lib.hid (HS.out.next hb HS.out.sz)
  have x0 : w2.cell? ⟨w.heap.size, 0, none⟩ = some (.slice AC t.C.length cC) := HS2.out.b0.cell 0
  have x1 : w2.cell? ⟨w.heap.size, 1, none⟩ = some (.slice AN t.D cN) := HS2.out.b0.cell 1
  have x2 : w2.cell? ⟨w.heap.size, 2, none⟩ = some (.int .i64 (t.R : Int)) := HS2.out.b0.cell 2
  have y0 : w2.cell? ⟨w.heap.size + 1, 0, none⟩ = some (.int .i64 x) := HS2.out.b1.cell 0
  clear hb HS HSh
  go_wp2
  go_region_held3 (fun W => W.cell? ⟨w.heap.size, 0, none⟩ = some (.slice AC t.C.length cC) ∧ W.cell? ⟨w.heap.size, 1, none⟩ = some (.slice AN t.D cN) ∧ W.cell? ⟨w.heap.size, 2, none⟩ = some (.int .i64 (t.R : Int)) ∧ W.cell? ⟨w.heap.size + 1, 0, none⟩ = some (.int .i64 x)) (first | exact ⟨x0, x1, x2, y0⟩ | exact ⟨a0, a1, a2, c0⟩) (first
    | (go_at_call 35; refine (HWh.out _ (HM.out.here.kept HS2.out.bel.drew)).mono ?_; rintro e w3 ⟨rfl, hb3⟩; have HB3 : Hid (Below w2.heap.size w2 w3) := new_call (Below.refl _ w2).drew hb3; have HS3 := Lib.hid (HS2.out.next HB3.out HS2.out.sz); have a0 : w3.cell? ⟨w.heap.size, 0, none⟩ = some (.slice AC t.C.length cC) := HS3.out.b0.cell 0; have a1 : w3.cell? ⟨w.heap.size, 1, none⟩ = some (.slice AN t.D cN) := HS3.out.b0.cell 1; have a2 : w3.cell? ⟨w.heap.size, 2, none⟩ = some (.int .i64 (t.R : Int)) := HS3.out.b0.cell 2; have c0 : w3.cell? ⟨w.heap.size + 1, 0, none⟩ = some (.int .i64 x) := HS3.out.b1.cell 0; clear hb3))
  clear x0 x1 x2 y0 HB3 HS2
  have HAd := Lib.hid (ref6Add_any AN t.D cN t.N m1 w3 (HM.out.here.dig.kept HS3.out.bel) (by omega) (by have := HO.out.dig; omega) (by omega))
  go_wp2_with fail
  refine HAd.out.mono ?_
  rintro e w4 ⟨nv, rfl, hown4, hb4⟩
  obtain ⟨AV, cV, hv, _⟩ := hown4.has
  rw [i64s_len, digC_len] at hv
  subst hv
  have HS4 := Lib.hid (HS3.out.next hb4 HS3.out.sz)
  have hz4 := HS3.out.sz
  have HO4 : Hid (Own w4 (w.heap.size + 3) 3 (.slice AV t.D cV) (i64s (digC t.D (t.N + m1)))) := OwnK.less hown4 hz4
  have d1 : w4.cell? ⟨w.heap.size, 1, none⟩ = some (.slice AN t.D cN) := HS4.out.b0.cell 1
  have f1 := HS4.out.b0.frozen 1
  have HS5 := Lib.hid (HS4.out.setN (.slice AV t.D cV) (t.N + m1) t.D)
  have HO5 := Lib.hid (own_set HO4.out (show w.heap.size < w.heap.size + 3 by omega) 1 (.slice AV t.D cV))
  have d2 : (w4.setCell ⟨w.heap.size, 1, none⟩ (.slice AV t.D cV)).cell? ⟨w.heap.size, 2, none⟩ = some (.int .i64 (t.R : Int)) := HS5.out.b0.cell 2
  have f2 := HS5.out.b0.frozen 2
  have HS6 := Lib.hid (HS5.out.setR m2)
  have HO6 := Lib.hid (own_set HO5.out (show w.heap.size < w.heap.size + 3 by omega) 2 (.int .i64 (m2 : Int)))
  clear hown4 hb4 hz4 HS4 HO4 HS5 HO5 HS3 a0 a1 a2 c0 HAd HWh
  go_wp2
  generalize (w4.setCell ⟨w.heap.size, 1, none⟩ (.slice AV t.D cV)).setCell ⟨w.heap.size, 2, none⟩ (.int .i64 (m2 : Int)) = w6 at *
  generalize t.N + m1 = N1 at *
  clear d1 f1 d2 f2 e1 e2 e3 e4 e5 tn hW2 hW3 hW hW0 b1 hq1 hn1 hqb
  have HT6 : Hid (Own w6 (w.heap.size + 3) 3 (.slice AV t.D cV) (i64s (digC t.D N1))) := HO6.out
  clear HO6
  obtain ⟨T0, hT0⟩ : ∃ T0 : Cdr, T0 = { C := t.C, N := N1, D := t.D, R := m2 } := ⟨_, rfl⟩
  rw [← hT0] at HU
  have HT0 := Lib.hid hT0
  go_loopg [] 3 (fun g wx => ∃ (N1 D1 R1 : Nat) (AV : Option Addr) (cV : Nat), g ≤ 3 ∧ D1 + g ≤ t.D + 3 ∧ 256 ^ (4 - g) ≤ R1 ∧ R1 < 4294967296 ∧ Hid (norm g { C := t.C, N := N1, D := D1, R := R1 } = norm 3 T0) ∧ Hid (SR w x y { C := t.C, N := N1, D := D1, R := R1 } AC cC (.slice AV D1 cV) wx) ∧ Hid (Own wx (w.heap.size + 3) 3 (.slice AV D1 cV) (i64s (digC D1 N1))))
  case atStart =>
    exact ⟨N1, t.D, m2, AV, cV, Nat.le_refl _, Nat.le_refl _, by omega, by omega, by show _ = _; rw [HT0.out], HS6, HT6⟩
  case round =>
    obtain ⟨N1, D1, R1, AV, cV, hg, hDg, hR1, hR2, HN, HS, HOw⟩ := hrel
    clear HS6 HT6
    have r2 : wr.cell? ⟨w.heap.size, 2, none⟩ = some (.int .i64 (R1 : Int)) := HS.out.b0.cell 2
    have hsz := HS.out.sz
    by_cases hlt : R1 < 16777216
    · have tl : decide ((R1 : Int) < 16777216) = true := by simp; omega
      obtain ⟨g', rfl⟩ : ∃ g', gk = g' + 1 := ⟨gk - 1, by
        rcases Nat.eq_zero_or_pos gk with h | h
        · subst h; simp at hR1; omega
        · omega⟩
      have f2 := HS.out.b0.frozen 2
      have HSa : Hid (SR w x y { C := t.C, N := N1, D := D1, R := R1 * 256 } AC cC (.slice AV D1 cV) (wr.setCell ⟨w.heap.size, 2, none⟩ (.int .i64 ((R1 : Int) * 256)))) := HS.out.setR (R1 * 256)
      have HOa := Lib.hid (own_set HOw.out (show w.heap.size < w.heap.size + 3 by omega) 2 (.int .i64 ((R1 : Int) * 256)))
      have r1 : (wr.setCell ⟨w.heap.size, 2, none⟩ (.int .i64 ((R1 : Int) * 256))).cell? ⟨w.heap.size, 1, none⟩ = some (.slice AV D1 cV) := HSa.out.b0.cell 1
      have HNx : Hid (norm g' { C := t.C, N := N1 * 256, D := D1 + 1, R := R1 * 256 } = norm 3 T0) := by
        show _ = _
        rw [← HN.out, norm, if_pos hlt]
      have hp : 256 ^ (4 - g') ≤ R1 * 256 := by
        rw [show 4 - g' = (4 - (g' + 1)) + 1 by omega, Nat.pow_succ]
        exact Nat.mul_le_mul_right _ hR1
      have hsa := HSa.out.sz
      have hr3 : R1 * 256 < 4294967296 := by omega
      clear HN hlt hR1
      go_wp2_with (at_builtin
                   refine wpList_join rfl _ _ 22 rfl elemI (w.heap.size + 3) _ _ rfl (HOa.out.alloc _) _ 1 1 (i64s [0]) rfl (one_at _ _ _ _ (by simp)) (i64s_one _) (by rw [i64s_len, digC_len]; omega) (by decide) (Nat.le_trans hsa (new_alloc (Below.refl _ _) _).size) ?_
                   intro v8 w8 hown8 hbel8
                   rw [dig_more] at hown8
                   obtain ⟨A8, c8, hv8, _⟩ := hown8.has
                   rw [i64s_len, digC_len] at hv8
                   subst hv8
                   have HS8 := Lib.hid ((HSa.out.next (new_alloc (Below.refl _ _) _) hsa).next hbel8 (Nat.le_refl _))
                   have HO8 := Lib.hid hown8
                   have s1 : w8.cell? ⟨w.heap.size, 1, none⟩ = some (.slice AV D1 cV) := HS8.out.b0.cell 1
                   have s2 := HS8.out.b0.frozen 1
                   clear hown8 hbel8)
      have HS9 := Lib.hid (HS8.out.setN (.slice A8 (D1 + 1) c8) (N1 * 256) (D1 + 1))
      have HO9 := Lib.hid (own_set HO8.out (show w.heap.size < w.heap.size + 3 by omega) 1 (.slice A8 (D1 + 1) c8))
      go_roundg g'
      case measure => omega
      case rel => exact ⟨N1 * 256, D1 + 1, R1 * 256, A8, c8, by omega, by omega, hp, hr3, HNx, HS9, HO9⟩
    · have tl : decide ((R1 : Int) < 16777216) = false := by simp; omega
      have HF : Hid (norm 3 T0 = { C := t.C, N := N1, D := D1, R := R1 }) := by
        show _ = _
        rw [← HN.out, norm_done (by simp only; omega)]
      rw [HF.out] at HU
      clear HN hlt hR1 HT0 hT0 hDg HF
      have HRw : Hid (∀ W, Below w.heap.size w W → Rob D W fun W => Has W AC t.C.length cC vs ∧ RowsI W vs t.C) := fun W hW => Rob.more (fun _ _ hb h => ⟨h.1.kept hb, h.2.kept hb⟩) (HM.out.map fun _ h => ⟨h.row, h.rows⟩) hW fun k hk => Or.inl hk
      have HDn : Hid (Sit D (w.heap.size + 3)) := HDs.out.le (by omega)
      have y0 : wr.cell? ⟨w.heap.size + 1, 0, none⟩ = some (.int .i64 x) := HS.out.b1.cell 0
      rcases HMod.out with ⟨_, hk, _⟩ | ⟨hm, hk, h3, hl, hsh⟩
      · have hk : x < 0 := hk
        have tx : decide (0 ≤ x) = false := by simp; omega
        have HSe : Hid (seenC t.C (x, y) = t.C) := if_neg (by simp only; omega)
        rw [HSe.out] at HU
        have x0 : wr.cell? ⟨w.heap.size, 0, none⟩ = some (.slice AC t.C.length cC) := HS.out.b0.cell 0
        have x1 : wr.cell? ⟨w.heap.size, 1, none⟩ = some (.slice AV D1 cV) := HS.out.b0.cell 1
        have z0 : wr.cell? ⟨w.heap.size + 2, 0, none⟩ = some (.slice none 0 0) := HS.out.b2.cell 0
        have z1 : wr.cell? ⟨w.heap.size + 2, 1, none⟩ = some (.slice none 0 0) := HS.out.b2.cell 1
        have z2 : wr.cell? ⟨w.heap.size + 2, 2, none⟩ = some (.int .i64 0) := HS.out.b2.cell 2
        have q0 := HS.out.b2.frozen 0
        have q1 := HS.out.b2.frozen 1
        have q2 := HS.out.b2.frozen 2
        clear HMod
        go_wp2
        have HBl := Lib.hid (set3_below HS.out.bel (show w.heap.size ≤ w.heap.size + 2 by omega) (.slice AC t.C.length cC) (.slice AV D1 cV) (.int .i64 (R1 : Int)))
        refine step6_end (o := some U) (set3g HS.out.b2) rfl rfl rfl ?_ HBl.out
        show TR D _ U _
        rw [HU.out]
        exact tr_make (u := { C := t.C, N := N1, D := D1, R := R1 }) (HRw.out _ HBl.out) (own_set (own_set (own_set HOw.out (by omega) _ _) (by omega) _ _) (by omega) _ _) HDn.out
      · obtain ⟨k, rfl⟩ := Int.eq_ofNat_of_zero_le (show 0 ≤ x from hk)
        obtain ⟨s, rfl⟩ := Int.eq_ofNat_of_zero_le (show 0 ≤ y from h3)
        have hk2 : k < t.C.length := by simpa using hm
        have hs2 : s < t.C[k].length := by simpa using hl
        have tx : decide ((0 : Int) ≤ (k : Int)) = true := by simp
        have HSe : Hid (seenC t.C ((k : Int), (s : Int)) = t.C.set k (countN t.C[k] s)) := by
          show _ = _
          unfold seenC
          rw [if_pos (by simp)]
          simp only [Int.toNat_natCast, List.getD_eq_getElem?_getD, List.getElem?_eq_getElem hk2, Option.getD_some]
        rw [HSe.out] at HU
        have hcn := HO.out.cnt _ (List.getElem_mem hk2)
        have hcf := hcn.few
        have hcs := hcn.sum
        have hrb := (HRw.out wr HS.out.bel).here
        have HRb := Lib.hid hrb
        obtain ⟨A1, n1, c1, e1, hh1⟩ := hrb.2.2 k hk2
        have hl1 : t.C[k].length = n1 := by have := hh1.len; rw [i64s_len] at this; exact this
        have HCt := Lib.hid (fun W (hW : Has W A1 n1 c1 (i64s t.C[k])) => ref5Count_any A1 n1 c1 t.C[k] s W hW (by omega) (by omega) (by omega))
        have HH1 := Lib.hid hh1
        have HE1 := Lib.hid e1
        have hvl : vs.length = t.C.length := hrb.2.1
        have HVl := Lib.hid hvl
        have x0 : wr.cell? ⟨w.heap.size, 0, none⟩ = some (.slice AC t.C.length cC) := HS.out.b0.cell 0
        have x1 : wr.cell? ⟨w.heap.size, 1, none⟩ = some (.slice AV D1 cV) := HS.out.b0.cell 1
        have y1 : wr.cell? ⟨w.heap.size + 1, 1, none⟩ = some (.int .i64 (s : Int)) := HS.out.b1.cell 1
        clear HMod hrb hh1 e1 hcn hsh hl hm hvl
        go_wp2_with (at_builtin
                     refine wpList_join rfl _ _ 66 rfl elemII wr.heap.size _ [] rfl (Own.nil _ _ _) _ _ _ vs rfl HRb.out.1 HRb.out.2.one (by simp; omega) (by decide) (Nat.le_refl _) ?_
                     intro v7 w7 hown7 hbel7
                     rw [List.nil_append] at hown7
                     obtain ⟨g, cap, rfl, hgb, hgl⟩ := hown7.form (by rw [HVl.out]; omega)
                     rw [HVl.out] at hown7
                     simp only [HVl.out]
                     have HO7 := Lib.hid hown7
                     have HB7 := Lib.hid hbel7
                     obtain ⟨gc, gf⟩ := hown7.cellAt HVl.out k hk2
                     rw [HE1.out] at gc
                     have HS7 := Lib.hid (HS.out.next hbel7 hsz)
                     have HW7 := Lib.hid (HOw.out.keep hbel7)
                     have a0 : w7.cell? ⟨w.heap.size + 1, 0, none⟩ = some (.int .i64 (k : Int)) := HS7.out.b1.cell 0
                     have a1 : w7.cell? ⟨w.heap.size + 1, 1, none⟩ = some (.int .i64 (s : Int)) := HS7.out.b1.cell 1
                     clear hown7 hbel7)
        go_region_law (first
          | (go_simp; go_at_call 48; refine (HCt.out _ ((HH1.out.kept HB7.out).drew)).mono ?_; rintro e w8 ⟨v8, rfl, hown8, hb8⟩; obtain ⟨A8, c8, hv8, hh8⟩ := hown8.has; rw [i64s_len, countN_len, hl1] at hv8 hh8; subst hv8; have HO8 := Lib.hid hown8; have HB8 : Hid (Below w7.heap.size w7 w8) := new_call (Below.refl _ w7).drew hb8; have HS8 := Lib.hid (HS7.out.next HB8.out HS7.out.sz); have d0 : w8.cell? ⟨w.heap.size + 1, 0, none⟩ = some (.int .i64 (k : Int)) := HS8.out.b1.cell 0; have d1 : w8.cell? ⟨w.heap.size + 1, 1, none⟩ = some (.int .i64 (s : Int)) := HS8.out.b1.cell 1; obtain ⟨kc, kf⟩ := (HO7.out.keep HB8.out).cellAt HVl.out k hk2; rw [HE1.out] at kc; clear hown8 hb8 hh8))
        all_goals
          have HC9 := Lib.hid ((HO7.out.keep HB8.out).stored HVl.out k (.slice A8 n1 c8)).1
          have HK9 := Lib.hid (own_set HO8.out (show g < w7.drew.heap.size from hgl) k (.slice A8 n1 c8))
          have HB9 : Hid (Below wr.heap.size wr (w8.setCell ⟨g, k, none⟩ (.slice A8 n1 c8))) := (HB7.out.trans (HB8.out.mono HB7.out.size)).setCell (p := ⟨g, k, none⟩) hgb _
          have HS9 := Lib.hid (HS.out.next HB9.out hsz)
          have HD9 := Lib.hid (HOw.out.keep HB9.out)
          clear HS7 HS8 HW7 HO7 HO8 HB7 HB8 HB9 gc gf kc kf a0 a1 d0 d1 HCt HH1 HRb
          generalize w8.setCell ⟨g, k, none⟩ (.slice A8 n1 c8) = w9 at *
          have l0 : w9.cell? ⟨w.heap.size, 0, none⟩ = some (.slice AC t.C.length cC) := HS9.out.b0.cell 0
          have l1 := HS9.out.b0.frozen 0
          have HSx : Hid (SR w (k : Int) (s : Int) { C := t.C.set k (countN t.C[k] s), N := N1, D := D1, R := R1 } (some ⟨g, 0, none⟩) cap (.slice AV D1 cV) (w9.setCell ⟨w.heap.size, 0, none⟩ (.slice (some ⟨g, 0, none⟩) t.C.length cap))) := by
            have := HS9.out.setC (some ⟨g, 0, none⟩) cap (t.C.set k (countN t.C[k] s))
            rw [List.length_set] at this
            exact this
          have hx3 : w.heap.size < wr.heap.size := by omega
          have hx7 : w.heap.size + 2 < w7.drew.heap.size := Nat.lt_of_lt_of_le (show w.heap.size + 2 < g by omega) (Nat.le_of_lt hgl)
          have HCx := Lib.hid (own_set HC9.out hx3 0 (.slice (some ⟨g, 0, none⟩) t.C.length cap))
          have HKx := Lib.hid (own_set HK9.out (show w.heap.size < w7.drew.heap.size by omega) 0 (.slice (some ⟨g, 0, none⟩) t.C.length cap))
          have HDx := Lib.hid (own_set HD9.out (show w.heap.size < w.heap.size + 3 by omega) 0 (.slice (some ⟨g, 0, none⟩) t.C.length cap))
          have m1 : (w9.setCell ⟨w.heap.size, 0, none⟩ (.slice (some ⟨g, 0, none⟩) t.C.length cap)).cell? ⟨w.heap.size, 1, none⟩ = some (.slice AV D1 cV) := HSx.out.b0.cell 1
          have m2 : (w9.setCell ⟨w.heap.size, 0, none⟩ (.slice (some ⟨g, 0, none⟩) t.C.length cap)).cell? ⟨w.heap.size, 2, none⟩ = some (.int .i64 (R1 : Int)) := HSx.out.b0.cell 2
          have m0 : (w9.setCell ⟨w.heap.size, 0, none⟩ (.slice (some ⟨g, 0, none⟩) t.C.length cap)).cell? ⟨w.heap.size, 0, none⟩ = some (.slice (some ⟨g, 0, none⟩) t.C.length cap) := by
            have : _ = some (Value.slice (some ⟨g, 0, none⟩) (t.C.set k (countN t.C[k] s)).length cap) := HSx.out.b0.cell 0
            rw [List.length_set] at this
            exact this
          have z0 : (w9.setCell ⟨w.heap.size, 0, none⟩ (.slice (some ⟨g, 0, none⟩) t.C.length cap)).cell? ⟨w.heap.size + 2, 0, none⟩ = some (.slice none 0 0) := HSx.out.b2.cell 0
          have z1 : (w9.setCell ⟨w.heap.size, 0, none⟩ (.slice (some ⟨g, 0, none⟩) t.C.length cap)).cell? ⟨w.heap.size + 2, 1, none⟩ = some (.slice none 0 0) := HSx.out.b2.cell 1
          have z2 : (w9.setCell ⟨w.heap.size, 0, none⟩ (.slice (some ⟨g, 0, none⟩) t.C.length cap)).cell? ⟨w.heap.size + 2, 2, none⟩ = some (.int .i64 0) := HSx.out.b2.cell 2
          have q0 := HSx.out.b2.frozen 0
          have q1 := HSx.out.b2.frozen 1
          have q2 := HSx.out.b2.frozen 2
          clear HS9 HC9 HK9 HD9
          go_wp2
          generalize w9.setCell ⟨w.heap.size, 0, none⟩ (.slice (some ⟨g, 0, none⟩) t.C.length cap) = wz at *
          refine step6_end (o := some U) (set3g HSx.out.b2) rfl rfl rfl ?_ (set3_below HSx.out.bel (by omega) _ _ _)
          show TR D _ U _
          rw [HU.out]
          exact step_rows (HRw.out _ (set3_below HSx.out.bel (show w.heap.size ≤ w.heap.size + 2 by omega) _ _ _)) (own_set3 HCx.out (show w.heap.size + 2 < wr.heap.size by omega) _ _ _) (own_set3 HKx.out hx7 _ _ _) (own_set3 HDx.out (show w.heap.size + 2 < w.heap.size + 3 by omega) _ _ _) HDs.out (by omega) (Nat.le_of_lt (Nat.lt_of_le_of_lt (Nat.le_add_right _ 2) hx7)) (by omega)

theorem ref6Step_any (t : Cdr) (v : Value) (x y : Int) (w : World) (D : Nat → Prop) (hD : Sit D w.heap.size) (h : TR D w t v) (ht : COk t) (hD9 : t.D ≤ 100000) (hCl : t.C.length ≤ 1000) :
    Calls Try.prog 29 #[v, .agg #[.int .i64 x, .int .i64 y]] w (Stept D w t (stepC t (x, y))) := by
  obtain ⟨AC, cC, AN, cN, vs, rfl, h1⟩ := h
  by_cases hn : (shareC t.C (x, y)).2 = 0
  · rw [show stepC t (x, y) = none from if_pos hn]
    exact ref6Step_none t AC cC AN cN vs x y w D h1 ht.cnt hn
  · exact ref6Step_some t AC cC AN cN vs x y w D hD h1 ht hD9 hCl hn
end Go.Proofs.Ytfkmcjlapigapaa
