/- lapidaryref06: Decode, goes on. -/
import Derived.Test.YtfkmcjlapigapaaCoderDecB
namespace Go.Proofs.Ytfkmcjlapigapaa
open Go.RowKit

theorem toList_same {a b : ByteArray} (h : a.toList = b.toList) : a = b := by
  rw [ByteArray.toList_eq, ByteArray.toList_eq] at h
  obtain ⟨⟨l⟩⟩ := a
  obtain ⟨⟨r⟩⟩ := b
  have h' : l = r := h
  subst h'
  rfl
theorem ownK_set3 {k : Nat} {wx : World} {e : TypeId} {v : Value} {n : Nat} {xs : List Value} {B : Nat} (h : OwnK k wx B e v n xs) {g : Nat} (hg : g < B) (c0 c1 c2 : Value) : OwnK k (((wx.setCell ⟨g, 0, none⟩ c0).setCell ⟨g, 1, none⟩ c1).setCell ⟨g, 2, none⟩ c2) B e v n xs := by
  have hf := set3_far wx g c0 c1 c2
  refine ⟨h.1, ?_⟩
  rcases h.2 with h1 | ⟨g', cap, cur, h1, h2, h3, h4⟩
  · exact Or.inl h1
  · exact Or.inr ⟨g', cap, cur, h1, h2, (hf.block g' (fun e => by omega)).trans h3, h4⟩
def allOk (n : Nat) (ks : List Int) : Bool := ks.all fun k => decide (-16 ≤ k) && decide (k < (n : Int))
theorem allOk_iff {n : Nat} {ks : List Int} : allOk n ks = true ↔ ∀ k ∈ ks, -16 ≤ k ∧ k < (n : Int) := by simp [allOk]
theorem allOk_snoc {n : Nat} {ks : List Int} {k : Int} : allOk n (ks ++ [k]) = (allOk n ks && (decide (-16 ≤ k) && decide (k < (n : Int)))) := by simp [allOk]
set_option maxRecDepth 100000 in
set_option maxHeartbeats 2000000 in
theorem ref6Dec_ok (A : Option Addr) (n c : Nat) (sizes : List Int) (M : Option Addr) (m d : Nat) (ks : List Int) (B : Option Addr) (nb cb : Nat) (bs : List Nat) (w : World) (h : Has w A n c (intVs sizes)) (hk : Has w M m d (intVs ks)) (hb : Has w B nb cb (u8s bs)) (hby : ∀ x ∈ bs, x < 256) (hn : n ≤ 1000) (hm : m ≤ 10000) (hnb : nb ≤ 100000) (ho : okS sizes = true) :
    Calls Try.prog 16 #[.slice A n c, .slice M m d, .slice B nb cb] w (Deced w (decAll sizes ks bs)) := by
  have HBg := Lib.hid (ref6Begun_any A n c sizes w h hn)
  rw [ho] at HBg
  have HLs : Hid (sizes.length = n) := by have := h.len; rw [intVs_len] at this; exact this
  have HL : Hid (ks.length = m) := by have := hk.len; rw [intVs_len] at this; exact this
  have HLb : Hid (bs.length = nb) := by have := hb.len; rw [u8s_len] at this; exact this
  have HK := Lib.hid hk
  have HBs := Lib.hid hb
  have HBy := Lib.hid hby
  have HO0 : Hid (COk (beginC sizes)) := begin_ok (of_decide_eq_true ho).1
  have HC0 : Hid ((beginC sizes).C.length = n) := by show _ = _; simp [beginC]; exact HLs.out
  have HD5 : Hid ((beginC sizes).D = 5) := rfl
  have HBad : Hid ((¬ ∀ k ∈ ks, -16 ≤ k ∧ k < (n : Int)) → decAll sizes ks bs = ([], 2)) := fun h => by
    unfold decAll; rw [HLs.out, if_neg fun h' => h h'.2]
  have HGood : Hid ((∀ k ∈ ks, -16 ≤ k ∧ k < (n : Int)) → decAll sizes ks bs = decodeC (beginC sizes) ks bs) := fun h => by
    unfold decAll; rw [HLs.out, if_pos ⟨ho, h⟩, if_neg (by rw [HL.out]; omega)]
  clear ho h hk hb hby
  go_enter Try.func16, Try.ntmps16
  go_wp2_with fail
  refine HBg.out.mono ?_
  rintro e w1 ⟨v, t', rfl, htr, htt, hb1⟩
  obtain rfl := htt rfl
  have HT1 := Lib.hid htr
  have HB1 := Lib.hid hb1
  obtain ⟨AC, cC, AN, cN, vs, rfl, _⟩ := htr
  clear hb1 htt HBg
  generalize beginC sizes = t0 at *
  go_wp2
  go_loopg [9, 10] m (fun g s9 s10 wx => ∃ (i : Nat), i + g = m ∧ s10 = .int .i64 i ∧ s9 = .bool (allOk n (ks.take i)) ∧ Hid (Blk wx w1.heap.size 68 #[.slice AC t0.C.length cC, .slice AN t0.D cN, .int .i64 (t0.R : Int)]) ∧ Hid (TR (fun k => k = w1.heap.size) wx t0 (.agg #[.slice AC t0.C.length cC, .slice AN t0.D cN, .int .i64 (t0.R : Int)])) ∧ Hid (Below w.heap.size w wx))
  case atStart =>
    refine ⟨0, by omega, rfl, rfl, Blk.new _ _ _, ?_, new_alloc HB1.out _⟩
    exact HT1.out.more (new_alloc (Below.refl _ _) _) fun k hk => Or.inr (by omega)
  case round =>
    obtain ⟨i, hig, rfl, rfl, HBl, HT, HBe⟩ := hrel
    have hblt := HBl.out.lt
    have x0 : wr.cell? ⟨w1.heap.size, 0, none⟩ = some (.slice AC t0.C.length cC) := HBl.out.cell 0
    have x1 : wr.cell? ⟨w1.heap.size, 1, none⟩ = some (.slice AN t0.D cN) := HBl.out.cell 1
    have x2 : wr.cell? ⟨w1.heap.size, 2, none⟩ = some (.int .i64 (t0.R : Int)) := HBl.out.cell 2
    by_cases hi : i < m
    · have ti : decide ((i : Int) < (m : Int)) = true := by simp; omega
      have hil : i < ks.length := by rw [HL.out]; exact hi
      have HTk : Hid (ks.take (i + 1) = ks.take i ++ [ks[i]]) := List.take_succ_eq_append_getElem hil
      obtain ⟨b, off, rfl, hlt, hc⟩ := (HK.out.kept HBe.out).spot (by omega)
      have hcell := hc i _ (intVs_at hil)
      clear hc
      generalize ks[i] = k at *
      clear hil
      by_cases hall : allOk n (ks.take i) = true
      · rw [hall]
        obtain ⟨AC2, cC2, AN2, cN2, vs2, ev, hM⟩ := HT.out
        cases ev
        have HWh : Hid (∀ W, Below wr.heap.size wr W → Calls Try.prog 35 #[.agg #[.slice AC t0.C.length cC, .slice AN t0.D cN, .int .i64 (t0.R : Int)], .int .i64 k] W fun e w' => e = .returned (.int .i64 (wholeC t0.C k : Int)) ∧ Below W.heap.size W w') := fun W hW => ref6Whole_any t0 AC cC AN cN vs2 k W (hM.here.kept hW) HO0.out.cnt
        have hwp := whole_pos HO0.out.cnt k
        rw [HC0.out] at hwp
        have hw9 := whole_le HO0.out.cnt k
        have HNx : Hid (allOk n (ks.take (i + 1)) = decide (0 < wholeC t0.C k)) := by
          show _ = _
          rw [HTk.out, allOk_snoc, hall, Bool.true_and]
          by_cases h : 0 < wholeC t0.C k
          · obtain ⟨h1, h2⟩ := hwp.1 h
            rw [decide_eq_true h, decide_eq_true h1, decide_eq_true h2]; rfl
          · rw [decide_eq_false h]
            by_cases h1 : -16 ≤ k
            · rw [decide_eq_true h1, decide_eq_false fun h2 => h (hwp.2 ⟨h1, h2⟩)]; rfl
            · rw [decide_eq_false h1]; rfl
        clear hM hall hwp HTk
        generalize wholeC t0.C k = W0 at *
        go_wp2
        go_region_held3 (fun W => W.cell? ⟨w1.heap.size, 0, none⟩ = some (.slice AC t0.C.length cC) ∧ W.cell? ⟨w1.heap.size, 1, none⟩ = some (.slice AN t0.D cN) ∧ W.cell? ⟨w1.heap.size, 2, none⟩ = some (.int .i64 (t0.R : Int)) ∧ W.cell? ⟨b, off + i, none⟩ = some (.int .i64 k)) (first | exact ⟨x0, x1, x2, hcell⟩ | (have hB := HB3.out; exact ⟨(hB.cell (p := ⟨w1.heap.size, 0, none⟩) hblt).trans x0, (hB.cell (p := ⟨w1.heap.size, 1, none⟩) hblt).trans x1, (hB.cell (p := ⟨w1.heap.size, 2, none⟩) hblt).trans x2, (hB.cell (p := ⟨b, off + i, none⟩) hlt).trans hcell⟩)) (first
          | (go_at_call 35; refine (HWh.out _ (Below.refl _ _).drew).mono ?_; rintro e w3 ⟨rfl, hb3⟩; have HB3 : Hid (Below wr.heap.size wr w3) := new_call (Below.refl _ _).drew hb3; clear hb3))
        go_wp2
        go_roundg (gk - 1)
        case measure => omega
        case rel => exact ⟨i + 1, by omega, by go_num, by rw [HNx.out], Blk.below HBl.out HB3.out hblt, HT.out.more HB3.out fun k hk => Or.inl hk, HBe.out.trans (HB3.out.mono HBe.out.size)⟩
      · have hall : allOk n (ks.take i) = false := by simpa using hall
        have HNx : Hid (allOk n (ks.take (i + 1)) = false) := by show _ = _; rw [HTk.out, allOk_snoc, hall]; rfl
        rw [hall]
        clear hall HTk
        go_wp2
        go_quiet (fail)
        go_wp2
        go_roundg (gk - 1)
        case measure => omega
        case rel => exact ⟨i + 1, by omega, by go_num, by rw [HNx.out], HBl.out, HT.out.more (quiet_below _ _) fun k hk => Or.inl hk, new_call HBe.out (quiet_below _ _)⟩
    · have ti : decide ((i : Int) < (m : Int)) = false := by simp; omega
      obtain rfl : i = m := by omega
      rw [List.take_of_length_le (by rw [HL.out]; exact Nat.le_refl _)]
      by_cases hall : ∀ k ∈ ks, -16 ≤ k ∧ k < (n : Int)
      · have HF := Lib.hid (HGood.out hall)
        rw [allOk_iff.2 hall]
        have HKs := Lib.hid hall
        have t6 : decide ((65536 : Int) < (i : Int)) = false := by simp; omega
        have hD0 : t0.D = 5 := HD5.out
        have HD0 := Lib.hid hD0
        clear hall HBad HGood hD0 ti hig hblt x0 x1 x2
        go_wp2
        generalize hm' : i = m at *
        clear hm'
        go_loopg [11, 12] m (fun g s11 s12 wx => ∃ (i : Nat) (t : Cdr) (AC : Option Addr) (cC : Nat) (AN : Option Addr) (cN : Nat) (syms : List Cod) (OA : Option Addr) (oc : Nat), i + g = m ∧ s12 = .int .i64 i ∧ s11 = .slice OA i oc ∧ t.D ≤ 5 + 3 * i ∧ Hid (t.C.length = n) ∧ Hid (Blk wx w1.heap.size 68 #[.slice AC t.C.length cC, .slice AN t.D cN, .int .i64 (t.R : Int)]) ∧ Hid (TR (fun k => k = w1.heap.size ∨ (Value.slice OA i oc).ownBlock = some k) wx t (.agg #[.slice AC t.C.length cC, .slice AN t.D cN, .int .i64 (t.R : Int)])) ∧ Hid (COk t) ∧ Hid (OwnK 2 wx (w1.heap.size + 1) 41 (.slice OA i oc) i (codCells syms)) ∧ Hid (syms.length = i) ∧ Hid (rdecC bs t0 ks = (rdecC bs t (ks.drop i)).map fun r => (syms ++ r.1, r.2)) ∧ Hid (Below w.heap.size w wx))
        case atStart =>
          refine ⟨0, t0, AC, cC, AN, cN, [], none, 0, by omega, rfl, rfl, by rw [HD0.out]; exact Nat.le_refl _, HC0, HBl, HT.out.less fun k hk => ?_, HO0, OwnK.nil _ _ _ _, rfl, ?_, HBe⟩
          · rcases hk with hk | hk
            · exact hk
            · cases hk
          · show _ = _
            rw [List.drop_zero]
            cases rdecC bs t0 ks <;> rfl
        case round =>
          obtain ⟨i, t, AC, cC, AN, cN, syms, OA, oc, hig, rfl, rfl, hDi, HCl, HBl, HT, HOk, HOw, HSl, HRd, HBe⟩ := hrel
          have hblt := HBl.out.lt
          have x0 : wr.cell? ⟨w1.heap.size, 0, none⟩ = some (.slice AC t.C.length cC) := HBl.out.cell 0
          have x1 : wr.cell? ⟨w1.heap.size, 1, none⟩ = some (.slice AN t.D cN) := HBl.out.cell 1
          have x2 : wr.cell? ⟨w1.heap.size, 2, none⟩ = some (.int .i64 (t.R : Int)) := HBl.out.cell 2
          by_cases hi : i < m
          · have ti : decide ((i : Int) < (m : Int)) = true := by simp; omega
            have hil : i < ks.length := by rw [HL.out]; exact hi
            have HDr : Hid (ks.drop i = ks[i] :: ks.drop (i + 1)) := List.drop_eq_getElem_cons hil
            obtain ⟨b, off, rfl, hlt, hc⟩ := (HK.out.kept HBe.out).spot (by omega)
            have hcell := hc i _ (intVs_at hil)
            have hkk := HKs.out _ (List.getElem_mem hil)
            clear hc
            generalize ks[i] = k at *
            clear hil
            obtain ⟨AC2, cC2, AN2, cN2, vs2, ev, hM⟩ := HT.out
            cases ev
            have HM := Lib.hid hM
            have HBey := Lib.hid (ref6Beyond_any B nb cb bs AN t.D cN t.N t.R wr (HBs.out.kept HBe.out) HBy.out hM.here.dig HOk.out.small (by omega) (by omega) (ok_lt HOk.out))
            clear hM
            go_wp2_with fail
            refine HBey.out.mono ?_
            rintro e w2 ⟨y, rfl, hy1, hy2, hb2⟩
            have HB2 := Lib.hid hb2
            clear hb2 HBey
            by_cases hy : y < 0
            · have ty : decide (y < 0) = true := by simpa using hy
              have HSt : Hid (decodeC t0 ks bs = ([], 11)) := by
                show _ = _
                have h1 : bs.length < t.D ∨ valC (bs.take t.D) < t.N := by
                  rw [HLb.out]
                  rcases Nat.lt_or_ge nb t.D with h | h
                  · exact Or.inl h
                  · right
                    rcases Nat.lt_or_ge (valC (bs.take t.D)) t.N with h' | h'
                    · exact h'
                    · have := ((hy2 h).2 h').1; omega
                unfold decodeC
                rw [HRd.out, HDr.out, rdec_stop h1]; rfl
              clear hy hy1 hy2
              go_wp2
              go_ret2
              rw [HF.out, HSt.out]
              exact ⟨none, 0, rfl, HasK.none _ _ _ _ fun _ => rfl, new_call HBe.out HB2.out⟩
            · have ty : decide (y < 0) = false := by simpa using hy
              obtain ⟨y', rfl⟩ := Int.eq_ofNat_of_zero_le (show 0 ≤ y by omega)
              have hnD : t.D ≤ nb := by
                rcases Nat.lt_or_ge nb t.D with h | h
                · have := hy1 h; omega
                · exact h
              have hNV : t.N ≤ valC (bs.take t.D) := by
                rcases Nat.lt_or_ge (valC (bs.take t.D)) t.N with h | h
                · have := (hy2 hnD).1 h; omega
                · exact h
              obtain ⟨_, hyb, hyd⟩ := (hy2 hnD).2 hNV
              have hw1 : 0 < wholeC t.C k := (whole_pos HOk.out.cnt k).2 (by rw [HCl.out]; exact hkk)
              have hw2 := whole_le HOk.out.cnt k
              have hRb := HOk.out.big
              have hRs := HOk.out.small
              obtain ⟨u, hu⟩ := sym_valid HOk.out hw1 (valC (bs.take t.D) - t.N)
              have HRn : Hid (rdecC bs t (k :: ks.drop (i + 1)) = (rdecC bs u (ks.drop (i + 1))).map fun r => (symC t k (valC (bs.take t.D) - t.N) :: r.1, r.2)) := rdec_go (by rw [HLb.out]; exact hnD) hNV hu
              have HSy : Hid (symC t k (valC (bs.take t.D) - t.N) = if k < 0 then (k, ((min (y' / (t.R / wholeC t.C k)) (wholeC t.C k - 1) : Nat) : Int)) else (k, ((findN (t.C.getD k.toNat []) ((min (y' / (t.R / wholeC t.C k)) (wholeC t.C k - 1) : Nat) : Int)).1 : Int))) := by
                show _ = _
                have hmin := min_same (R := t.R) (W := wholeC t.C k) (D := valC (bs.take t.D) - t.N) (y := y') hw1 (by omega) (by rcases hyd with h | h; exact Or.inl (by omega); exact Or.inr ⟨h.1, by omega⟩)
                unfold symC
                rw [hmin]
              generalize valC (bs.take t.D) - t.N = VN at *
              clear hy hy1 hy2 hyd hNV hnD
              obtain ⟨q, hq⟩ : ∃ q, t.R / wholeC t.C k = q := ⟨_, rfl⟩
              have hq1 : 256 ≤ q := by rw [← hq, Nat.le_div_iff_mul_le hw1]; omega
              have hq2 : q ≤ t.R := by rw [← hq]; exact Nat.div_le_self _ _
              have HWh : Hid (∀ W, Below wr.heap.size wr W → Calls Try.prog 35 #[.agg #[.slice AC t.C.length cC, .slice AN t.D cN, .int .i64 (t.R : Int)], .int .i64 k] W fun e w' => e = .returned (.int .i64 (wholeC t.C k : Int)) ∧ Below W.heap.size W w') := fun W hW => ref6Whole_any t AC cC AN cN vs2 k W (HM.out.here.kept hW) HOk.out.cnt
              rw [hq] at HSy
              generalize wholeC t.C k = W0 at *
              obtain ⟨p, hp⟩ : ∃ p, y' / q = p := ⟨_, rfl⟩
              have hp1 : p ≤ y' := by rw [← hp]; exact Nat.div_le_self _ _
              rw [hp] at HSy
              obtain ⟨vv, hvv⟩ : ∃ vv, min p (W0 - 1) = vv := ⟨_, rfl⟩
              have hv1 : vv < W0 := by omega
              rw [hvv] at HSy
              have e3 : (t.R : Int) / (W0 : Int) = (q : Int) := by rw [← hq]; simp
              have e4 : (y' : Int) / (q : Int) = (p : Int) := by rw [← hp]; simp
              have e5 : (if (W0 : Int) - 1 < (p : Int) then (W0 : Int) - 1 else (p : Int)) = (vv : Int) := by split <;> omega
              have n1 : ¬ (W0 : Int) = 0 := by omega
              have n2 : ¬ (q : Int) = 0 := by omega
              clear hq hp hvv
              have HKp : Hid (∀ W, Below wr.heap.size wr W → W.cell? ⟨w1.heap.size, 0, none⟩ = some (.slice AC t.C.length cC) ∧ W.cell? ⟨w1.heap.size, 1, none⟩ = some (.slice AN t.D cN) ∧ W.cell? ⟨w1.heap.size, 2, none⟩ = some (.int .i64 (t.R : Int)) ∧ W.cell? ⟨b, off + i, none⟩ = some (.int .i64 k)) := fun W hB => ⟨(hB.cell (p := ⟨w1.heap.size, 0, none⟩) hblt).trans x0, (hB.cell (p := ⟨w1.heap.size, 1, none⟩) hblt).trans x1, (hB.cell (p := ⟨w1.heap.size, 2, none⟩) hblt).trans x2, (hB.cell (p := ⟨b, off + i, none⟩) hlt).trans hcell⟩
              obtain ⟨z0, z1, z2, z3⟩ := HKp.out w2 HB2.out
              go_wp2
              go_region_held3 (fun W => W.cell? ⟨w1.heap.size, 0, none⟩ = some (.slice AC t.C.length cC) ∧ W.cell? ⟨w1.heap.size, 1, none⟩ = some (.slice AN t.D cN) ∧ W.cell? ⟨w1.heap.size, 2, none⟩ = some (.int .i64 (t.R : Int)) ∧ W.cell? ⟨b, off + i, none⟩ = some (.int .i64 k)) (first | exact ⟨z0, z1, z2, z3⟩ | exact HKp.out _ HB3.out) (first
                | (go_at_call 35; refine (HWh.out _ HB2.out.drew).mono ?_; rintro e w3 ⟨rfl, hb3⟩; have HB3 : Hid (Below wr.heap.size wr w3) := HB2.out.drew.trans (hb3.mono HB2.out.size); clear hb3))
              obtain ⟨v0, v1, v2, v3⟩ := HKp.out w3 HB3.out
              obtain ⟨h0, h1, h2, h3⟩ := HKp.out (w3.alloc (.cells #[.int .i64 k, .int .i64 (vv : Int)] 41)) (new_alloc HB3.out _)
              clear z0 z1 z2 z3
              by_cases hk0 : k < 0
              · have tk : decide (0 ≤ k) = false := by simp; omega
                have hgx : w3.heap.size ≠ w1.heap.size := by have := HB3.out.size; omega
                have HSx : Hid (symC t k VN = (k, (vv : Int))) := by show _ = _; rw [HSy.out, if_pos hk0]
                have HBT : Hid (Below wr.heap.size wr (w3.alloc (.cells #[.int .i64 k, .int .i64 (vv : Int)] 41))) := new_alloc HB3.out _
                have HGx := Lib.hid (Blk.new w3 41 #[.int .i64 k, .int .i64 (vv : Int)])
                have HSit : Hid (Sit (fun k => k = w1.heap.size ∨ (Value.slice OA i oc).ownBlock = some k) wr.heap.size) := fun j hj => by
                  rcases hj with h | h
                  · omega
                  · exact (World.ownsRow.lt HOw.out j h).2
                have HStp := Lib.hid (ref6Step_any t _ k (vv : Int) (w3.alloc (.cells #[.int .i64 k, .int .i64 (vv : Int)] 41)) _ (HSit.out.le HBT.out.size) (HT.out.more HBT.out fun j hj => Or.inl hj) HOk.out (by omega) (by rw [HCl.out]; omega))
                rw [HSx.out] at hu
                rw [hu] at HStp
                obtain ⟨hD2, hC2⟩ := step_shape HOk.out hu
                have HC2 : Hid (u.C.length = n) := hC2.trans HCl.out
                have HOk2 := Lib.hid (stepC_ok HOk.out hu)
                have HRd2 : Hid (rdecC bs t0 ks = (rdecC bs u (ks.drop (i + 1))).map fun r => ((syms ++ [(k, (vv : Int))]) ++ r.1, r.2)) := by
                  show _ = _
                  rw [HRd.out, HDr.out, HRn.out, HSx.out]
                  cases rdecC bs u (ks.drop (i + 1)) with
                  | none => rfl
                  | some r => simp
                clear hC2 hu HRn HRd HSy HWh
                go_wp2_with fail
                refine HStp.out.mono ?_
                rintro e w5 ⟨v5, rfl, htr5, hb5⟩
                have HT5 : Hid (TR (fun k => k = w1.heap.size ∨ (Value.slice OA i oc).ownBlock = some k) w5 u v5) := htr5
                obtain ⟨A3, c3, N3, e3', vs3, rfl, _⟩ := htr5
                have HB5 : Hid (Below wr.heap.size wr w5) := HBT.out.trans (hb5.mono HBT.out.size)
                have HX5 := Lib.hid (Blk.below HGx.out hb5 HGx.out.lt)
                have HG5 := Lib.hid (Blk.below HBl.out HB5.out hblt)
                have a0 : w5.cell? ⟨w1.heap.size, 0, none⟩ = some (.slice AC t.C.length cC) := HG5.out.cell 0
                have a1 : w5.cell? ⟨w1.heap.size, 1, none⟩ = some (.slice AN t.D cN) := HG5.out.cell 1
                have a2 : w5.cell? ⟨w1.heap.size, 2, none⟩ = some (.int .i64 (t.R : Int)) := HG5.out.cell 2
                have f0 := HG5.out.frozen 0
                have f1 := HG5.out.frozen 1
                have f2 := HG5.out.frozen 2
                have HX6 : Hid (Blk (((w5.setCell ⟨w1.heap.size, 0, none⟩ (.slice A3 u.C.length c3)).setCell ⟨w1.heap.size, 1, none⟩ (.slice N3 u.D e3')).setCell ⟨w1.heap.size, 2, none⟩ (.int .i64 (u.R : Int))) w3.heap.size 41 #[.int .i64 k, .int .i64 (vv : Int)]) := ((HX5.out.far hgx _).far hgx _).far hgx _
                have HG6 := Lib.hid (set3g (c0 := .slice A3 u.C.length c3) (c1 := .slice N3 u.D e3') (c2 := .int .i64 (u.R : Int)) HG5.out)
                have HT6 := Lib.hid (HT5.out.far (Far1.farD (G := w1.heap.size) ((((Far1.refl w1.heap.size w5).set 0 (.slice A3 u.C.length c3)).set 1 (.slice N3 u.D e3')).set 2 (.int .i64 (u.R : Int))) (Or.inl rfl)))
                have HO6 : Hid (OwnK 2 (((w5.setCell ⟨w1.heap.size, 0, none⟩ (.slice A3 u.C.length c3)).setCell ⟨w1.heap.size, 1, none⟩ (.slice N3 u.D e3')).setCell ⟨w1.heap.size, 2, none⟩ (.int .i64 (u.R : Int))) (w1.heap.size + 1) 41 (.slice OA i oc) i (codCells syms)) := ownK_set3 (HOw.out.keep HB5.out) (Nat.lt_succ_self _) _ _ _
                have HB6 := Lib.hid (set3_below (HBe.out.trans (HB5.out.mono HBe.out.size)) HB1.out.size (.slice A3 u.C.length c3) (.slice N3 u.D e3') (.int .i64 (u.R : Int)))
                have hz6 : wr.heap.size ≤ (((w5.setCell ⟨w1.heap.size, 0, none⟩ (.slice A3 u.C.length c3)).setCell ⟨w1.heap.size, 1, none⟩ (.slice N3 u.D e3')).setCell ⟨w1.heap.size, 2, none⟩ (.int .i64 (u.R : Int))).heap.size := by simpa using HB5.out.size
                have b0 : (((w5.setCell ⟨w1.heap.size, 0, none⟩ (.slice A3 u.C.length c3)).setCell ⟨w1.heap.size, 1, none⟩ (.slice N3 u.D e3')).setCell ⟨w1.heap.size, 2, none⟩ (.int .i64 (u.R : Int))).cell? ⟨w3.heap.size, 0, none⟩ = some (.int .i64 k) := HX6.out.cell 0
                have b1 : (((w5.setCell ⟨w1.heap.size, 0, none⟩ (.slice A3 u.C.length c3)).setCell ⟨w1.heap.size, 1, none⟩ (.slice N3 u.D e3')).setCell ⟨w1.heap.size, 2, none⟩ (.int .i64 (u.R : Int))).cell? ⟨w3.heap.size, 1, none⟩ = some (.int .i64 (vv : Int)) := HX6.out.cell 1
                clear hb5 HX5 HG5 HT5 HStp HX6
                go_wp2_with (at_builtin
                             refine wpList_joinGK rfl _ _ 23 rfl elemCod (by decide) (w1.heap.size + 1) _ i _ rfl (HO6.out.alloc _) _ 1 1 (codCells [(k, (vv : Int))]) rfl (HasK.new_at 2 _ #[_, _] _ _ 1 (by simp) rfl) ?_ (by omega) (by decide) (Nat.le_trans (Nat.le_trans (Nat.succ_le_of_lt hblt) hz6) (new_alloc (Below.refl _ _) _).size) ?_
                             · intro u hu; simp [codCells, secCells] at hu; rcases hu with rfl | rfl <;> rfl
                             intro v9 w9 hown9 hgr9 hwh9
                             rw [← codCells_app] at hown9
                             obtain ⟨A9, c9, hv9, _⟩ := hown9.has
                             subst hv9
                             have HO9 := Lib.hid hown9
                             have hc9 := Chg.of_grown hgr9
                             have HG9 := Lib.hid (Blk.chg (HG6.out.alloc (.cells #[.int .i64 k, .int .i64 (vv : Int)] 41)) hc9 (fun e => by have := OwnK.ge HO6.out _ e; omega))
                             have HT9 : Hid (TR (fun j => j = w1.heap.size ∨ (Value.slice A9 (i + 1) c9).ownBlock = some j) w9 u (.agg #[.slice A3 u.C.length c3, .slice N3 u.D e3', .int .i64 (u.R : Int)])) := (HT6.out.more (D' := fun j => j = w1.heap.size ∨ (Value.slice OA i oc).ownBlock = some j) (new_alloc (Below.refl _ _) (.cells #[.int .i64 k, .int .i64 (vv : Int)] 41)) (fun j hj => Or.inl hj)).chg (hc9.wide (D' := fun j => j = w1.heap.size ∨ (Value.slice OA i oc).ownBlock = some j) fun j _ e => Or.inr e) (fun j hj h => by
                               rcases h with h | h
                               · exact Or.inl h
                               · rcases hwh9 j h with h' | h'
                                 · exact Or.inr h'
                                 · omega)
                             have HB9 : Hid (Below w.heap.size w w9) := (new_alloc HB6.out _).trans (hc9.below (fun j e => by have := OwnK.ge HO6.out _ e; have := HB1.out.size; omega) (new_alloc HB6.out _).size)
                             clear hown9 hgr9 hwh9 hc9)
                go_roundg (gk - 1)
                case measure => omega
                case rel => exact ⟨i + 1, u, A3, c3, N3, e3', syms ++ [(k, (vv : Int))], A9, c9, by omega, by go_num, rfl, by omega, HC2, HG9, HT9, HOk2, HO9, by show _ = _; rw [List.length_append, HSl.out]; rfl, HRd2, HB9⟩
              · obtain ⟨kk, rfl⟩ := Int.eq_ofNat_of_zero_le (show 0 ≤ k by omega)
                have tk : decide ((0 : Int) ≤ (kk : Int)) = true := by simp
                have hkl : kk < t.C.length := by rw [HCl.out]; omega
                obtain ⟨A1, n1, c1, e1, hh1⟩ := HM.out.here.rows.2 kk hkl
                have hcn := HOk.out.cnt _ (List.getElem_mem hkl)
                have hl1 : t.C[kk].length = n1 := by have := hh1.len; rw [i64s_len] at this; exact this
                have hs1 := hcn.sum
                have hf1 := hcn.few
                have HFd : Hid (∀ W, Below wr.heap.size wr W → Calls Try.prog 37 #[.slice A1 n1 c1, .int .i64 (vv : Int)] W fun e w' => e = .returned (.tuple #[.int .i64 ((findN t.C[kk] (vv : Int)).1 : Int), .int .i64 ((findN t.C[kk] (vv : Int)).2 : Int)]) ∧ W = w') := fun W hW => ref5Find_any A1 n1 c1 t.C[kk] (vv : Int) W (hh1.kept hW) (by omega) (by omega)
                have HSx0 : Hid (symC t (kk : Int) VN = ((kk : Int), ((findN t.C[kk] (vv : Int)).1 : Int))) := by
                  show _ = _
                  rw [HSy.out, if_neg hk0, Int.toNat_natCast, List.getD_eq_getElem?_getD, List.getElem?_eq_getElem hkl, Option.getD_some]
                obtain ⟨s, hs⟩ : ∃ s, (findN t.C[kk] (vv : Int)).1 = s := ⟨_, rfl⟩
                obtain ⟨s2, hs2⟩ : ∃ s2, (findN t.C[kk] (vv : Int)).2 = s2 := ⟨_, rfl⟩
                rw [hs, hs2] at HFd
                rw [hs] at HSx0
                obtain ⟨bC, oC, rfl, hltC, hcC⟩ := HM.out.here.row.spot (by omega)
                have hrow := hcC kk _ e1
                have HKq : Hid (∀ W, Below wr.heap.size wr W → W.cell? ⟨w1.heap.size, 0, none⟩ = some (.slice (some ⟨bC, oC, none⟩) t.C.length cC) ∧ W.cell? ⟨b, off + i, none⟩ = some (.int .i64 (kk : Int)) ∧ W.cell? ⟨bC, oC + kk, none⟩ = some (.slice A1 n1 c1)) := fun W hB => ⟨(HKp.out W hB).1, (HKp.out W hB).2.2.2, (hB.cell (p := ⟨bC, oC + kk, none⟩) hltC).trans hrow⟩
                have hr3 := (HKq.out (w3.alloc (.cells #[.int .i64 (kk : Int), .int .i64 (vv : Int)] 41)) (new_alloc HB3.out _)).2.2
                clear hcC hs hs2 hcn hl1 hs1 hf1 hh1 e1
                go_wp2
                go_region_held3 (fun W => W.cell? ⟨w1.heap.size, 0, none⟩ = some (.slice (some ⟨bC, oC, none⟩) t.C.length cC) ∧ W.cell? ⟨b, off + i, none⟩ = some (.int .i64 (kk : Int)) ∧ W.cell? ⟨bC, oC + kk, none⟩ = some (.slice A1 n1 c1)) (first | exact ⟨h0, h3, hr3⟩ | exact HKq.out _ (new_alloc HB3.out _).drew | exact HKq.out _ ((new_alloc HB3.out _).setCell HB3.out.size _).drew) (first
                  | (go_at_call 37; refine (HFd.out _ (new_alloc HB3.out _).drew).mono ?_; rintro e w' ⟨rfl, rfl⟩))
                have hgx : w3.heap.size ≠ w1.heap.size := by have := HB3.out.size; omega
                have HBT : Hid (Below wr.heap.size wr (w3.alloc (.cells #[.int .i64 (kk : Int), .int .i64 (s : Int)] 41)).drew) := (new_alloc HB3.out _).drew
                have HGx : Hid (Blk (w3.alloc (.cells #[.int .i64 (kk : Int), .int .i64 (s : Int)] 41)).drew w3.heap.size 41 #[.int .i64 (kk : Int), .int .i64 (s : Int)]) := Blk.new w3 _ _
                have HSx := HSx0
                generalize (w3.alloc (.cells #[.int .i64 (kk : Int), .int .i64 (s : Int)] 41)).drew = wT at *
                have HSit : Hid (Sit (fun k => k = w1.heap.size ∨ (Value.slice OA i oc).ownBlock = some k) wr.heap.size) := fun j hj => by
                  rcases hj with h | h
                  · omega
                  · exact (World.ownsRow.lt HOw.out j h).2
                have HStp := Lib.hid (ref6Step_any t _ (kk : Int) (s : Int) wT _ (HSit.out.le HBT.out.size) (HT.out.more HBT.out fun j hj => Or.inl hj) HOk.out (by omega) (by rw [HCl.out]; omega))
                rw [HSx.out] at hu
                rw [hu] at HStp
                obtain ⟨hD2, hC2⟩ := step_shape HOk.out hu
                have HC2 : Hid (u.C.length = n) := hC2.trans HCl.out
                have HOk2 := Lib.hid (stepC_ok HOk.out hu)
                have HRd2 : Hid (rdecC bs t0 ks = (rdecC bs u (ks.drop (i + 1))).map fun r => ((syms ++ [((kk : Int), (s : Int))]) ++ r.1, r.2)) := by
                  show _ = _
                  rw [HRd.out, HDr.out, HRn.out, HSx.out]
                  cases rdecC bs u (ks.drop (i + 1)) with
                  | none => rfl
                  | some r => simp
                clear hC2 hu HRn HRd HSy HWh
                obtain ⟨l0, l1, l2, _⟩ := HKp.out wT HBT.out
                have g0 : wT.cell? ⟨w3.heap.size, 0, none⟩ = some (.int .i64 (kk : Int)) := HGx.out.cell 0
                have g1 : wT.cell? ⟨w3.heap.size, 1, none⟩ = some (.int .i64 (s : Int)) := HGx.out.cell 1
                go_wp2_with fail
                refine HStp.out.mono ?_
                rintro e w5 ⟨v5, rfl, htr5, hb5⟩
                have HT5 : Hid (TR (fun k => k = w1.heap.size ∨ (Value.slice OA i oc).ownBlock = some k) w5 u v5) := htr5
                obtain ⟨A3, c3, N3, e3', vs3, rfl, _⟩ := htr5
                have HB5 : Hid (Below wr.heap.size wr w5) := HBT.out.trans (hb5.mono HBT.out.size)
                have HX5 := Lib.hid (Blk.below HGx.out hb5 HGx.out.lt)
                have HG5 := Lib.hid (Blk.below HBl.out HB5.out hblt)
                have a0 : w5.cell? ⟨w1.heap.size, 0, none⟩ = some (.slice (some ⟨bC, oC, none⟩) t.C.length cC) := HG5.out.cell 0
                have a1 : w5.cell? ⟨w1.heap.size, 1, none⟩ = some (.slice AN t.D cN) := HG5.out.cell 1
                have a2 : w5.cell? ⟨w1.heap.size, 2, none⟩ = some (.int .i64 (t.R : Int)) := HG5.out.cell 2
                have f0 := HG5.out.frozen 0
                have f1 := HG5.out.frozen 1
                have f2 := HG5.out.frozen 2
                have HX6 : Hid (Blk (((w5.setCell ⟨w1.heap.size, 0, none⟩ (.slice A3 u.C.length c3)).setCell ⟨w1.heap.size, 1, none⟩ (.slice N3 u.D e3')).setCell ⟨w1.heap.size, 2, none⟩ (.int .i64 (u.R : Int))) w3.heap.size 41 #[.int .i64 (kk : Int), .int .i64 (s : Int)]) := ((HX5.out.far hgx _).far hgx _).far hgx _
                have HG6 := Lib.hid (set3g (c0 := .slice A3 u.C.length c3) (c1 := .slice N3 u.D e3') (c2 := .int .i64 (u.R : Int)) HG5.out)
                have HT6 := Lib.hid (HT5.out.far (Far1.farD (G := w1.heap.size) ((((Far1.refl w1.heap.size w5).set 0 (.slice A3 u.C.length c3)).set 1 (.slice N3 u.D e3')).set 2 (.int .i64 (u.R : Int))) (Or.inl rfl)))
                have HO6 : Hid (OwnK 2 (((w5.setCell ⟨w1.heap.size, 0, none⟩ (.slice A3 u.C.length c3)).setCell ⟨w1.heap.size, 1, none⟩ (.slice N3 u.D e3')).setCell ⟨w1.heap.size, 2, none⟩ (.int .i64 (u.R : Int))) (w1.heap.size + 1) 41 (.slice OA i oc) i (codCells syms)) := ownK_set3 (HOw.out.keep HB5.out) (Nat.lt_succ_self _) _ _ _
                have HB6 := Lib.hid (set3_below (HBe.out.trans (HB5.out.mono HBe.out.size)) HB1.out.size (.slice A3 u.C.length c3) (.slice N3 u.D e3') (.int .i64 (u.R : Int)))
                have hz6 : wr.heap.size ≤ (((w5.setCell ⟨w1.heap.size, 0, none⟩ (.slice A3 u.C.length c3)).setCell ⟨w1.heap.size, 1, none⟩ (.slice N3 u.D e3')).setCell ⟨w1.heap.size, 2, none⟩ (.int .i64 (u.R : Int))).heap.size := by simpa using HB5.out.size
                have b0 : (((w5.setCell ⟨w1.heap.size, 0, none⟩ (.slice A3 u.C.length c3)).setCell ⟨w1.heap.size, 1, none⟩ (.slice N3 u.D e3')).setCell ⟨w1.heap.size, 2, none⟩ (.int .i64 (u.R : Int))).cell? ⟨w3.heap.size, 0, none⟩ = some (.int .i64 (kk : Int)) := HX6.out.cell 0
                have b1 : (((w5.setCell ⟨w1.heap.size, 0, none⟩ (.slice A3 u.C.length c3)).setCell ⟨w1.heap.size, 1, none⟩ (.slice N3 u.D e3')).setCell ⟨w1.heap.size, 2, none⟩ (.int .i64 (u.R : Int))).cell? ⟨w3.heap.size, 1, none⟩ = some (.int .i64 (s : Int)) := HX6.out.cell 1
                clear hb5 HX5 HG5 HT5 HStp HX6
                go_wp2_with (at_builtin
                             refine wpList_joinGK rfl _ _ 23 rfl elemCod (by decide) (w1.heap.size + 1) _ i _ rfl (HO6.out.alloc _) _ 1 1 (codCells [((kk : Int), (s : Int))]) rfl (HasK.new_at 2 _ #[_, _] _ _ 1 (by simp) rfl) ?_ (by omega) (by decide) (Nat.le_trans (Nat.le_trans (Nat.succ_le_of_lt hblt) hz6) (new_alloc (Below.refl _ _) _).size) ?_
                             · intro u hu; simp [codCells, secCells] at hu; rcases hu with rfl | rfl <;> rfl
                             intro v9 w9 hown9 hgr9 hwh9
                             rw [← codCells_app] at hown9
                             obtain ⟨A9, c9, hv9, _⟩ := hown9.has
                             subst hv9
                             have HO9 := Lib.hid hown9
                             have hc9 := Chg.of_grown hgr9
                             have HG9 := Lib.hid (Blk.chg (HG6.out.alloc (.cells #[.int .i64 (kk : Int), .int .i64 (s : Int)] 41)) hc9 (fun e => by have := OwnK.ge HO6.out _ e; omega))
                             have HT9 : Hid (TR (fun j => j = w1.heap.size ∨ (Value.slice A9 (i + 1) c9).ownBlock = some j) w9 u (.agg #[.slice A3 u.C.length c3, .slice N3 u.D e3', .int .i64 (u.R : Int)])) := (HT6.out.more (D' := fun j => j = w1.heap.size ∨ (Value.slice OA i oc).ownBlock = some j) (new_alloc (Below.refl _ _) (.cells #[.int .i64 (kk : Int), .int .i64 (s : Int)] 41)) (fun j hj => Or.inl hj)).chg (hc9.wide (D' := fun j => j = w1.heap.size ∨ (Value.slice OA i oc).ownBlock = some j) fun j _ e => Or.inr e) (fun j hj h => by
                               rcases h with h | h
                               · exact Or.inl h
                               · rcases hwh9 j h with h' | h'
                                 · exact Or.inr h'
                                 · omega)
                             have HB9 : Hid (Below w.heap.size w w9) := (new_alloc HB6.out _).trans (hc9.below (fun j e => by have := OwnK.ge HO6.out _ e; have := HB1.out.size; omega) (new_alloc HB6.out _).size)
                             clear hown9 hgr9 hwh9 hc9)
                go_roundg (gk - 1)
                case measure => omega
                case rel => exact ⟨i + 1, u, A3, c3, N3, e3', syms ++ [((kk : Int), (s : Int))], A9, c9, by omega, by go_num, rfl, by omega, HC2, HG9, HT9, HOk2, HO9, by show _ = _; rw [List.length_append, HSl.out]; rfl, HRd2, HB9⟩
          · have ti : decide ((i : Int) < (m : Int)) = false := by simp; omega
            obtain rfl : i = m := by omega
            have HEnd : Hid (decAll sizes ks bs = if digC t.D t.N = bs then (syms, 0) else ([], 11)) := by
              show _ = _
              rw [HF.out]
              unfold decodeC
              rw [HRd.out, List.drop_of_length_le (by rw [HL.out]; exact Nat.le_refl _)]
              simp [rdecC]
            obtain ⟨AC2, cC2, AN2, cN2, vs2, ev, hM⟩ := HT.out
            cases ev
            have HDg : Hid (∀ W, Below wr.heap.size wr W → Calls Try.prog 30 #[.slice AN t.D cN] W (Wrote W (digC t.D t.N))) := fun W hW => ref6Digits_any AN t.D cN (digC t.D t.N) W (hM.here.dig.kept hW) (digC_byte _ _) (by omega)
            have HSb : Hid (∀ W, Below wr.heap.size wr W → (convert 25 9 (.slice B nb cb)).run Try.prog W = .ok (.string (strB bs)) W) := fun W hW => str_any ((HBs.out.kept HBe.out).kept hW)
            have c0 := HSb.out wr.drew (Below.refl _ _).drew
            clear hM HRd HF
            have HBd := Lib.hid (digC_byte t.D t.N)
            generalize digC t.D t.N = dg at *
            obtain ⟨sb, hsb⟩ : ∃ sb, strB bs = sb := ⟨_, rfl⟩
            obtain ⟨sd, hsd⟩ : ∃ sd, strB dg = sd := ⟨_, rfl⟩
            have HSd := Lib.hid hsd
            have HSbb := Lib.hid hsb
            rw [hsb] at HSb c0
            clear hsb hsd
            by_cases hEq : dg = bs
            · have HFin : Hid (decAll sizes ks bs = (syms, 0)) := by show _ = _; rw [HEnd.out, if_pos hEq]
              have hss : sd = sb := by rw [← HSd.out, ← HSbb.out, hEq]
              have HDl := Lib.hid (congrArg List.length hEq)
              have tq : (sd.toList == sb.toList) = true := by rw [hss]; simp
              clear hss hEq
              go_wp2
              go_region_law (first
                | (go_simp; go_at_call 30; refine (HDg.out _ (Below.refl _ _).drew).mono ?_; rintro e w9 ⟨A9, c9, rfl, hh9, _, hb9⟩; have HB9 : Hid (Below wr.heap.size wr w9) := new_call (Below.refl _ _).drew hb9; have c1 := str_any hh9; rw [HSd.out] at c1; have c2 := HSb.out w9 HB9.out; clear hh9 hb9))
              all_goals
                have HB5 : Hid (Below w.heap.size w w9) := HBe.out.trans (HB9.out.mono HBe.out.size)
                have HO9 := Lib.hid (HOw.out.keep HB9.out)
                clear c0 c1 c2 HSb HDg
                go_wp2
                go_ret2
                rw [HFin.out]
                obtain ⟨A', c', e', hh'⟩ := HO9.out.has
                cases e'
                refine ⟨OA, oc, ?_, ?_, HB5.out⟩
                · simp only [HSl.out]; rfl
                · simp only [HSl.out]; exact hh'
            · have HFin : Hid (decAll sizes ks bs = ([], 11)) := by show _ = _; rw [HEnd.out, if_neg hEq]
              have tq : (sd.toList == sb.toList) = false := by
                cases hq : (sd.toList == sb.toList) with
                | false => rfl
                | true =>
                  have h1 := toList_same (eq_of_beq hq)
                  exact absurd (strB_same HBd.out HBy.out (by rw [HSd.out, HSbb.out]; exact h1)) hEq
              clear hEq
              go_wp2
              go_region_law (first
                | (go_simp; go_at_call 30; refine (HDg.out _ (Below.refl _ _).drew).mono ?_; rintro e w9 ⟨A9, c9, rfl, hh9, _, hb9⟩; have HB9 : Hid (Below wr.heap.size wr w9) := new_call (Below.refl _ _).drew hb9; have c1 := str_any hh9; rw [HSd.out] at c1; have c2 := HSb.out w9 HB9.out; clear hh9 hb9))
              all_goals
                have HB5 : Hid (Below w.heap.size w w9) := HBe.out.trans (HB9.out.mono HBe.out.size)
                clear c0 c1 c2 HSb HDg
                go_wp2
                go_ret2
                rw [HFin.out]
                exact ⟨none, 0, rfl, HasK.none _ _ _ _ fun _ => rfl, HB5.out⟩
      · have HF := Lib.hid (HBad.out hall)
        have hf : allOk n ks = false := by
          cases hq : allOk n ks with
          | true => exact absurd (allOk_iff.1 hq) hall
          | false => rfl
        rw [hf]
        clear hall hf HBad HGood
        go_wp2
        go_ret2
        rw [HF.out]
        exact ⟨none, 0, rfl, HasK.none _ _ _ _ fun _ => rfl, HBe.out⟩
theorem ref6Dec_any (A : Option Addr) (n c : Nat) (sizes : List Int) (M : Option Addr) (m d : Nat) (ks : List Int) (B : Option Addr) (nb cb : Nat) (bs : List Nat) (w : World) (h : Has w A n c (intVs sizes)) (hk : Has w M m d (intVs ks)) (hb : Has w B nb cb (u8s bs)) (hby : ∀ x ∈ bs, x < 256) (hn : n ≤ 1000) (hm : m ≤ 10000) (hnb : nb ≤ 100000) :
    Calls Try.prog 16 #[.slice A n c, .slice M m d, .slice B nb cb] w (Deced w (decAll sizes ks bs)) := by
  cases ho : okS sizes with
  | true => exact ref6Dec_ok A n c sizes M m d ks B nb cb bs w h hk hb hby hn hm hnb ho
  | false =>
    rw [show decAll sizes ks bs = ([], 2) by unfold decAll; rw [if_neg (by simp [ho])]]
    exact ref6Dec_bad A n c sizes M m d B nb cb w h hn hm ho
/-- What Unpack tells. -/
def unpC (k : Int) (bs : List Nat) : List Nat × Nat := if k < 0 then ([], 2) else if 65536 < k then ([], 3) else ((decAll [256] (List.replicate k.toNat 0) bs).1.map (fun x => x.2.toNat), (decAll [256] (List.replicate k.toNat 0) bs).2)
end Go.Proofs.Ytfkmcjlapigapaa
