/- The landed coder's writer: one digit out, codes one behind the other, all digits. -/
import Derived.Test.YtfkmcjlapigapaaCoderSettle
import Derived.BigRegion
namespace Go.Proofs.Ytfkmcjlapigapaa
open Go.RowKit

set_option maxRecDepth 100000 in
set_option maxHeartbeats 400000 in
theorem shift_any (g B : Nat) (A : Option Addr) (n c lo R N D : Nat) (sv : Value) (s : List Nat) (a r : Nat) (w : World) (h : WM w g B A n c lo R sv s a r) (hi : WI N D R lo s a r) (hR1 : 1 ≤ R) (hR : R < 16777216) (hD : D ≤ 100000) :
    Calls Try.prog 42 #[.pointer (some ⟨g, 0, none⟩)] w fun e w' => ∃ sv' s' a' r', e = .returned (.tuple #[]) ∧ WM w' g B A n c (lo * 256 % 4294967296) (R * 256) sv' s' a' r' ∧ WI (N * 256) (D + 1) (R * 256) (lo * 256 % 4294967296) s' a' r' ∧ Chg (fun k => k = g ∨ B ≤ k) w w' := by
  have c1 : w.cell? ⟨g, 1, none⟩ = some (.int .u64 (lo : Int)) := h.blk.cell 1
  have hlo : lo < 1099511627776 := by have := hi.sum; omega
  have hdig := hi.dig
  have hlow := h.low
  have HM := Lib.hid h
  have HI := Lib.hid hi
  obtain ⟨hca, hab⟩ := hi.carry hR1
  have HWd := Lib.hid (fun W (sv' : Value) (a' r' : Nat) (hW : Blk W g 63 (wv A n c lo R sv' a' r')) => coderWiden_any g _ _ lo R W hW rfl rfl hlo hR)
  obtain ⟨d, hd⟩ : ∃ d, lo / 16777216 % 256 = d := ⟨_, rfl⟩
  have hdl : d < 256 := by omega
  have e0 : IntKind.wrap .u8 ((lo : Int) / 16777216) = (d : Int) := by rw [IntKind.wrap_u8]; omega
  have HD := Lib.hid hd
  obtain ⟨lo2, hl2⟩ : ∃ x, lo * 256 % 4294967296 = x := ⟨_, rfl⟩
  rw [hl2] at HWd ⊢
  have HL2 := Lib.hid hl2
  clear h hi hd hl2
  by_cases h1 : d = 255 ∧ lo < 4294967296
  · obtain ⟨h2, h3⟩ := h1
    have t1 : ((d : Int) == 255) = true := by subst h2; rfl
    have t2 : decide ((lo : Int) < 4294967296) = true := by simp; omega
    have t3 : decide ((d : Int) = 255) = true := by subst h2; rfl
    have c5 : w.cell? ⟨g, 5, none⟩ = some (.int .i64 (r : Int)) := HM.out.blk.cell 5
    have f5 := HM.out.blk.frozen 5
    have HM2 : Hid (WM (w.setCell ⟨g, 5, none⟩ (.int .i64 ((r : Int) + 1))) g B A n c lo R sv s a (r + 1)) := HM.out.setR (r + 1)
    have HW2 := Lib.hid (HWd.out _ sv a (r + 1) HM2.out.blk)
    have HM3 := Lib.hid (HM2.out.setW lo2 (R * 256))
    have HC3 := Lib.hid ((((Chg.refl (fun k => k = g ∨ B ≤ k) w).setg (g := g) (Or.inl rfl) 5 (.int .i64 ((r : Int) + 1))).setg (g := g) (Or.inl rfl) 1 (.int .u64 (lo2 : Int))).setg (g := g) (Or.inl rfl) 2 (.int .u64 ((R * 256 : Nat) : Int)))
    have HI3 : Hid (WI (N * 256) (D + 1) (R * 256) lo2 s a (r + 1)) := by
      have := HI.out.run hR (by rw [HD.out]; exact h2) h3
      rw [HL2.out] at this
      exact this
    clear HM2 HWd h2
    go_enter Try.func42, Try.ntmps42
    go_wp2_with (go_at_call 59; refine HW2.out.mono ?_; rintro e w' ⟨rfl, rfl⟩)
    go_end0
    exact ⟨sv, s, a, r + 1, rfl, HM3.out, HI3.out, HC3.out⟩
  · have HSt := Lib.hid (settle_any g B A n c lo R sv s a r w HM.out hca hab (by omega))
    have HI3 : Hid (WI (N * 256) (D + 1) (R * 256) lo2 (settC s a r (lo / 4294967296)) d 0) := by
      have := HI.out.out hR hR1 (fun h => by rw [HD.out] at h; omega)
      rw [HD.out, HL2.out] at this
      exact this
    generalize settC s a r (lo / 4294967296) = s2 at *
    by_cases h2 : d = 255
    · have t1 : ((d : Int) == 255) = true := by subst h2; rfl
      have t3 : decide ((d : Int) = 255) = true := by subst h2; rfl
      have t2 : decide ((lo : Int) < 4294967296) = false := by simp; omega
      clear h1 h2
      go_enter Try.func42, Try.ntmps42
      go_wp2_with fail
      refine HSt.out.mono ?_
      rintro e w2 ⟨sv2, rfl, hm2, hc2⟩
      have HM2 := Lib.hid hm2
      have HC2 := Lib.hid hc2
      have c4 : w2.cell? ⟨g, 4, none⟩ = some (.int .u8 (a : Int)) := hm2.blk.cell 4
      have f4 := hm2.blk.frozen 4
      have HM3 := Lib.hid (hm2.setA d)
      have HC3 := Lib.hid ((((HC2.out).setg (g := g) (Or.inl rfl) 4 (.int .u8 (d : Int))).setg (g := g) (Or.inl rfl) 1 (.int .u64 (lo2 : Int))).setg (g := g) (Or.inl rfl) 2 (.int .u64 ((R * 256 : Nat) : Int)))
      have HW2 := Lib.hid (HWd.out _ sv2 d 0 HM3.out.blk)
      have HM4 := Lib.hid (HM3.out.setW lo2 (R * 256))
      clear hm2 hc2 HM2 HC2 HSt HM3 HWd
      go_wp2_with (go_at_call 59; refine HW2.out.mono ?_; rintro e w' ⟨rfl, rfl⟩)
      go_end0
      exact ⟨sv2, s2, d, 0, rfl, HM4.out, HI3.out, HC3.out⟩
    · have t1 : ((d : Int) == 255) = false := beq_eq_false_iff_ne.2 (by omega)
      have t3 : decide ((d : Int) = 255) = false := by simp; omega
      clear h1
      go_enter Try.func42, Try.ntmps42
      go_wp2_with fail
      refine HSt.out.mono ?_
      rintro e w2 ⟨sv2, rfl, hm2, hc2⟩
      have HM2 := Lib.hid hm2
      have HC2 := Lib.hid hc2
      have c4 : w2.cell? ⟨g, 4, none⟩ = some (.int .u8 (a : Int)) := hm2.blk.cell 4
      have f4 := hm2.blk.frozen 4
      have HM3 := Lib.hid (hm2.setA d)
      have HC3 := Lib.hid ((((HC2.out).setg (g := g) (Or.inl rfl) 4 (.int .u8 (d : Int))).setg (g := g) (Or.inl rfl) 1 (.int .u64 (lo2 : Int))).setg (g := g) (Or.inl rfl) 2 (.int .u64 ((R * 256 : Nat) : Int)))
      have HW2 := Lib.hid (HWd.out _ sv2 d 0 HM3.out.blk)
      have HM4 := Lib.hid (HM3.out.setW lo2 (R * 256))
      clear hm2 hc2 HM2 HC2 HSt HM3 HWd
      go_wp2_with (go_at_call 59; refine HW2.out.mono ?_; rintro e w' ⟨rfl, rfl⟩)
      go_end0
      exact ⟨sv2, s2, d, 0, rfl, HM4.out, HI3.out, HC3.out⟩

theorem norm_C (X : List (List Nat)) (f : Nat) : ∀ t : Cdr, { norm f t with C := X } = norm f { t with C := X } := by
  induction f with
  | zero => intro t; rfl
  | succ f ih =>
    intro t
    by_cases h : t.R < 16777216
    · rw [norm, if_pos h, ih, norm, if_pos h]
    · rw [norm, if_neg h, norm, if_neg h]
/-- One step, in its parts. -/
theorem step_parts {t u : Cdr} {x : Cod} (ht : COk t) (h : stepC t x = some u) : okC t.C x ∧ 256 ≤ t.R / wholeC t.C x.1 ∧ 1 ≤ (shareC t.C x).2 ∧ (shareC t.C x).1 + (shareC t.C x).2 ≤ wholeC t.C x.1
    ∧ norm 3 { C := seenC t.C x, N := t.N + t.R / wholeC t.C x.1 * (shareC t.C x).1, D := t.D, R := t.R / wholeC t.C x.1 * (shareC t.C x).2 } = u := by
  obtain ⟨j, q, lo, n, rfl, hs, hq1, hn1, hln, _⟩ := stepC_is ht h
  have e1 : (shareC t.C x).1 = lo := by rw [← hs]
  have e2 : (shareC t.C x).2 = n := by rw [← hs]
  refine ⟨(share_ok ht.cnt).2 (by omega), hq1, by omega, by omega, ?_⟩
  unfold stepC at h
  rw [if_neg (by omega), norm_C] at h
  exact Option.some.inj h
theorem own_chg {D : Nat → Prop} {w w' : World} {B : Nat} {e : TypeId} {v : Value} {xs : List Value} (h : Own w B e v xs) (hc : Chg D w w') (hd : ∀ k, D k → k < B) : Own w' B e v xs := by
  refine ⟨h.1, ?_⟩
  rcases h.2 with h1 | ⟨g', cap, cur, h1, h2, h3, h4⟩
  · exact Or.inl h1
  · exact Or.inr ⟨g', cap, cur, h1, h2, (hc.block g' (World.ownsRow.lt h g' (by rw [h1]; rfl)).2 fun hk => by have := hd g' hk; omega).trans h3, h4⟩
/-- What the writer turns. -/
def DW (g : Nat) (ps : List Nat) (B : Nat) : Nat → Prop := fun k => k = g ∨ k ∈ ps ∨ B ≤ k
set_option maxRecDepth 100000 in
set_option maxHeartbeats 2000000 in
theorem put_any (g B : Nat) (A : Option Addr) (n c lo : Nat) (sv : Value) (s : List Nat) (a r : Nat) (ps : List Nat) (t u : Cdr) (l : List Cod) (M : Option Addr) (m d : Nat) (w : World) (h : WM w g B A n c lo t.R sv s a r) (hi : WI t.N t.D t.R lo s a r)
    (hm : MS w ps t.C) (hg : g ∉ ps) (hps : ∀ p ∈ ps, p < B) (hr : Rob (DW g ps B) w fun W => Has W A n c (ptrs ps)) (hl : Rob (DW g ps B) w fun W => HasK 2 W M m d (codCells l)) (hok : COk t) (hrun : runC t l = some u) (hml : m ≤ 10000) (hD : t.D ≤ 1000) :
    Calls Try.prog 26 #[.pointer (some ⟨g, 0, none⟩), .slice M m d] w fun e w' => ∃ lo' sv' s' a' r', e = .returned (.tuple #[]) ∧ WM w' g B A n c lo' u.R sv' s' a' r' ∧ WI u.N u.D u.R lo' s' a' r' ∧ MS w' ps u.C ∧ Chg (DW g ps B) w w' := by
  have HM := Lib.hid h
  have HI := Lib.hid hi
  have HMs := Lib.hid hm
  have HG := Lib.hid hg
  have HP := Lib.hid hps
  have HR := Lib.hid hr
  have HLr := Lib.hid hl
  have HK := Lib.hid hok
  have HU := Lib.hid hrun
  have HLen : Hid (l.length = m) := by have := hl.here.len; rw [codCells_len] at this; show _ = _; omega
  clear h hi hm hg hps hr hl hok hrun
  go_enter Try.func26, Try.ntmps26
  go_wp2
  go_step3
  go_wp2
  go_step3
  go_wp2
  go_loopg [8] m (fun gh s8 wx => ∃ (i : Nat) (t1 : Cdr) (lo1 : Nat) (sv1 : Value) (s1 : List Nat) (a1 r1 : Nat), i + gh = m ∧ s8 = .int .i64 i ∧ t1.D ≤ t.D + 3 * i ∧ Hid (runC t (l.take i) = some t1) ∧ Hid (COk t1) ∧ Hid (WM wx g B A n c lo1 t1.R sv1 s1 a1 r1) ∧ Hid (WI t1.N t1.D t1.R lo1 s1 a1 r1) ∧ Hid (MS wx ps t1.C) ∧ Hid (Chg (DW g ps B) w wx))
  case atStart => exact ⟨0, t, lo, sv, s, a, r, by omega, rfl, by omega, by show _ = _; rfl, HK, HM, HI, HMs, Chg.refl _ _⟩
  case round =>
    obtain ⟨i, t1, lo1, sv1, s1, a1, r1, hig, rfl, hDi, HRn, HOk, HW, HWI, HMS, HC⟩ := hrel
    clear HM HI HMs HK
    by_cases hil : i < m
    · have ti : decide (i < m) = true := by simpa using hil
      have hi2 : i < l.length := by rw [HLen.out]; exact hil
      have HTk : Hid (l.take (i + 1) = l.take i ++ [l[i]]) := List.take_succ_eq_append_getElem hi2
      have HDr : Hid (l = l.take i ++ l[i] :: l.drop (i + 1)) := by show _ = _; rw [← List.drop_eq_getElem_cons hi2, List.take_append_drop]
      have hHas := (Rob.chg (G' := fun _ => False) (fun _ _ hb h => h.kept hb) HLr.out HC.out fun _ _ h => h.elim).here
      obtain ⟨b, off, rfl, hlt, hcc⟩ := hHas.spot (by omega)
      have hcx := hcc _ _ (cod_at hi2).1
      have hcy := hcc _ _ (cod_at hi2).2
      rw [← Nat.add_assoc] at hcy
      obtain ⟨u1, hu1⟩ : ∃ u1, stepC t1 l[i] = some u1 := by
        have h1 := HU.out
        rw [HDr.out, run_app, HRn.out] at h1
        cases hs : stepC t1 l[i] with
        | none => simp [runC, hs] at h1
        | some v => exact ⟨v, rfl⟩
      have HRn2 : Hid (runC t (l.take (i + 1)) = some u1) := by show _ = _; rw [HTk.out, run_snoc, HRn.out]; exact hu1
      have HOk2 := Lib.hid (stepC_ok HOk.out hu1)
      obtain ⟨hD2, _⟩ := step_shape HOk.out hu1
      obtain ⟨hk, hq, hn1, hsh, hno⟩ := step_parts HOk.out hu1
      have hqW := Nat.div_mul_le_self t1.R (wholeC t1.C l[i].1)
      generalize l[i] = xy at *
      clear hcc HTk HDr hHas hu1 hi2
      obtain ⟨x, y⟩ := xy
      simp only at hcx hcy hk hq hn1 hsh hno hqW
      have hrr := Rob.chg (G' := DW g ps B) Has.stays HR.out HC.out fun _ _ h => h
      have HTa := Lib.hid (fun W (hW : Below wr.heap.size wr W) => coderTake_any g _ _ A n c ps t1.C x y lo1 t1.R W (HW.out.below hW).blk rfl rfl rfl ((Rob.chg (G' := DW g ps B) Has.stays hrr (Chg.of_below hW) fun _ _ h => h).less fun k (e : k = g) => Or.inl e) (HMS.out.below hW) HG.out HOk.out.cnt hk HOk.out.small (by have := HWI.out.sum; omega))
      have HWI2 := Lib.hid (HWI.out.take hqW hsh)
      have hR0 : t1.R / wholeC t1.C x * (shareC t1.C (x, y)).2 ≤ t1.R := Nat.le_trans (Nat.mul_le_mul_left _ (by omega)) hqW
      have hR1 := HOk.out.small
      have hR2 : 256 ≤ t1.R / wholeC t1.C x * (shareC t1.C (x, y)).2 := Nat.le_trans hq (Nat.le_mul_of_pos_right _ hn1)
      have HNo := Lib.hid hno
      clear hno hk hsh hqW hq hn1 hrr
      generalize seenC t1.C (x, y) = C2 at *
      generalize t1.R / wholeC t1.C x * (shareC t1.C (x, y)).2 = R2 at *
      generalize t1.R / wholeC t1.C x * (shareC t1.C (x, y)).1 = Q2 at *
      have HTw := Lib.hid (HTa.out ((wr.alloc (.cells #[.int .i64 x, .int .i64 y] 41)).drew) (new_alloc (Below.refl _ _) _).drew)
      have HBa : Hid (Below wr.heap.size wr (wr.alloc (.cells #[.int .i64 x, .int .i64 y] 41)).drew) := (new_alloc (Below.refl _ _) _).drew
      clear HTa
      go_wp2
      go_region_law (first
        | (go_simp; go_at_call 41; with_reducible refine Calls.mono HTw.out ?_; rintro e w3 ⟨rfl, hb3, hm3, hc3⟩; have HB3 := Lib.hid hb3; have HM3 := Lib.hid hm3; have HC3 := Lib.hid hc3; clear hb3 hm3 hc3))
      all_goals
        have HC4 : Hid (Chg (DW g ps B) w w3) := (HC.out.then_ (Chg.of_below HBa.out) fun _ _ h => h).then_ HC3.out fun k _ h => h.elim Or.inl fun h => Or.inr (Or.inl h)
        have HW4 : Hid (WM w3 g B A n c (lo1 + Q2) R2 sv1 s1 a1 r1) := ⟨HB3.out, own_chg (HW.out.below HBa.out).own HC3.out (fun k h => by
          rcases h with h | h
          · rw [h]; exact HW.out.low
          · exact HP.out k h), HW.out.low, Nat.le_trans (Nat.le_trans HW.out.hi HBa.out.size) HC3.out.size⟩
        clear HB3 HC3 HBa HTw HW HC HMS hcx hcy
        go_wp2
        go_loopg [] 3 (fun gh wx => ∃ (N2 D2 R3 lo2 : Nat) (sv2 : Value) (s2 : List Nat) (a2 r2 : Nat), gh ≤ 3 ∧ D2 + gh ≤ t1.D + 3 ∧ 256 ^ (4 - gh) ≤ R3 ∧ R3 < 4294967296 ∧ Hid (norm gh { C := C2, N := N2, D := D2, R := R3 } = u1) ∧ Hid (WM wx g B A n c lo2 R3 sv2 s2 a2 r2) ∧ Hid (WI N2 D2 R3 lo2 s2 a2 r2) ∧ Hid (MS wx ps C2) ∧ Hid (Chg (DW g ps B) w wx))
        case atStart => exact ⟨_, t1.D, R2, lo1 + Q2, sv1, s1, a1, r1, Nat.le_refl _, Nat.le_refl _, by omega, by omega, HNo, HW4, HWI2, HM3, HC4⟩
        case round =>
          obtain ⟨N2, D2, R3, lo2, sv2, s2, a2, r2, hg3, hDg, hRl, hRh, HN2, HWx, HIx, HMx, HCx⟩ := hrel
          clear HNo HW4 HWI2 HM3 HC4
          have c2 : wr.cell? ⟨g, 2, none⟩ = some (.int .u64 (R3 : Int)) := HWx.out.blk.cell 2
          have HNw := Lib.hid (coderNarrow_any g R3 wr c2)
          clear c2
          by_cases hlt : R3 < 16777216
          · obtain ⟨g', hg'⟩ : ∃ g', gk = g' + 1 := ⟨gk - 1, by
              rcases Nat.eq_zero_or_pos gk with h | h
              · subst h; simp at hRl; omega
              · omega⟩
            have HSh := Lib.hid (shift_any g B A n c lo2 R3 N2 D2 sv2 s2 a2 r2 wr HWx.out HIx.out (Nat.le_trans (Nat.pow_pos (by decide)) hRl) hlt (by omega))
            have HNx : Hid (norm g' { C := C2, N := N2 * 256, D := D2 + 1, R := R3 * 256 } = u1) := by
              show _ = _
              rw [← HN2.out, hg', norm, if_pos hlt]
            have hp : 256 ^ (4 - g') ≤ R3 * 256 := by
              rw [show 4 - g' = (4 - (g' + 1)) + 1 by omega, Nat.pow_succ, ← hg']
              exact Nat.mul_le_mul_right _ hRl
            have hr3 : R3 * 256 < 4294967296 := by omega
            rw [decide_eq_true hlt] at HNw
            clear HN2 hRl
            go_wp2_with fail
            refine HNw.out.mono ?_
            rintro e w5 ⟨rfl, rfl⟩
            go_wp2_with fail
            refine HSh.out.mono ?_
            rintro e w6 ⟨sv3, s3, a3, r3, rfl, hm6, hi6, hc6⟩
            have HM6 := Lib.hid hm6
            have HI6 := Lib.hid hi6
            have HS6 := Lib.hid (HMx.out.chg hc6 fun p hp e => by
              rcases e with e | e
              · exact HG.out (e ▸ hp)
              · have := HP.out p hp; omega)
            have HC6 : Hid (Chg (DW g ps B) w w6) := HCx.out.then_ hc6 fun k _ h => h.elim Or.inl fun h => Or.inr (Or.inr h)
            clear hm6 hi6 hc6
            go_wp2
            go_roundg g'
            case measure => omega
            case rel => exact ⟨N2 * 256, D2 + 1, R3 * 256, _, sv3, s3, a3, r3, by omega, by omega, hp, hr3, HNx, HM6, HI6, HS6, HC6⟩
          · have HE : Hid ({ C := C2, N := N2, D := D2, R := R3 } = u1) := by
              show _ = _
              rw [← HN2.out, norm_done (by simp only; omega)]
            rw [decide_eq_false hlt] at HNw
            rw [← HE.out] at HRn2 HOk2 hD2
            simp only at hD2
            clear HN2 HE
            go_wp2_with fail
            refine HNw.out.mono ?_
            rintro e w5 ⟨rfl, rfl⟩
            go_wp2
            go_roundg (m - (i + 1))
            case measure => omega
            case rel => exact ⟨i + 1, { C := C2, N := N2, D := D2, R := R3 }, lo2, sv2, s2, a2, r2, by omega, by go_num, by simp only; omega, HRn2, HOk2, HWx, HIx, HMx, HCx⟩
    · have ti : decide (i < m) = false := by simpa using hil
      have HE : Hid (t1 = u) := by
        have h1 := HU.out
        rw [← List.take_of_length_le (l := l) (i := i) (by rw [HLen.out]; omega), HRn.out] at h1
        exact Option.some.inj h1
      rw [HE.out] at HW HWI HMS
      go_wp2
      rw [Exit.noGoto_normal]
      go_end0
      exact ⟨lo1, sv1, s1, a1, r1, rfl, HW.out, HWI.out, HMS.out, HC.out⟩
end Go.Proofs.Ytfkmcjlapigapaa
