/- The landed coder's reader: codes of models. -/
import Derived.Test.YtfkmcjlapigapaaCoderRest
import Derived.Test.YtfkmcjlapigapaaCoderFail
import Derived.Test.YtfkmcjlapigapaaCoderEnds
namespace Go.Proofs.Ytfkmcjlapigapaa
open Go.RowKit

theorem elemCd : ElemK Try.prog 23 41 2 16 := elemCod
theorem codCells_one (l : List Cod) : ∀ u ∈ codCells l, u.oneCell' = true := by
  intro u hu
  unfold codCells secCells at hu
  obtain ⟨p, hp, hu⟩ := List.mem_flatMap.1 hu
  obtain ⟨x, _, rfl⟩ := List.mem_map.1 hp
  simp at hu
  rcases hu with rfl | rfl <;> rfl
theorem whole_pos6 {C : List (List Nat)} (hC : ∀ c ∈ C, Cnts c) {k : Int} (hk : -16 ≤ k ∧ k < (C.length : Int)) : 1 ≤ wholeC C k := by
  have h0 : 1 ≤ sizeC C k := by
    by_cases h : k < 0
    · obtain ⟨m, rfl⟩ : ∃ m : Nat, k = -(m : Int) := ⟨(-k).toNat, by omega⟩
      rw [size_neg (by omega) (by omega)]
      exact Nat.pow_pos (by decide)
    · obtain ⟨m, rfl⟩ := Int.eq_ofNat_of_zero_le (show 0 ≤ k by omega)
      have hm : m < C.length := by omega
      rw [size_at hm]
      exact (hC _ (List.getElem_mem hm)).some_
  have hok : okC C (k, 0) := ⟨by simp, by simp only; omega⟩
  have := share_le (C := C) (k, 0) ((share_ok hC).1 hok)
  have := (share_ok hC).1 hok
  simp only at *
  omega
theorem norm_D (f : Nat) : ∀ t : Cdr, t.D ≤ (norm f t).D := by
  induction f with
  | zero => intro t; exact Nat.le_refl _
  | succ f ih =>
    intro t
    rw [norm]
    split
    · exact Nat.le_trans (Nat.le_succ _) (ih { t with N := t.N * 256, D := t.D + 1, R := t.R * 256 })
    · exact Nat.le_refl _
theorem ownK_chg {k : Nat} {D : Nat → Prop} {w w' : World} {B : Nat} {e : TypeId} {v : Value} {n : Nat} {xs : List Value} (h : OwnK k w B e v n xs) (hc : Chg D w w') (hd : ∀ k, D k → k < B) : OwnK k w' B e v n xs := by
  refine ⟨h.1, ?_⟩
  rcases h.2 with h1 | ⟨g', cap, cur, h1, h2, h3, h4⟩
  · exact Or.inl h1
  · exact Or.inr ⟨g', cap, cur, h1, h2, (hc.block g' (World.ownsRow.lt h g' (by rw [h1]; rfl)).2 fun hk => by have := hd g' hk; omega).trans h3, h4⟩
theorem Chg.of_base {D : Nat → Prop} {w w' : World} {B : Nat} (h : Below B w w') (hd : ∀ k, B ≤ k → D k) : Chg D w w' :=
  ⟨h.os, h.tape, h.output, h.size, fun k _ hn => h.block k (Nat.lt_of_not_le fun h' => hn (hd k h'))⟩
/-- The reader's state, in memory and in numbers. -/
structure RS (bs : List Nat) (g : Nat) (ps : List Nat) (B : Nat) (A : Option Addr) (n c : Nat) (N D R : Nat) (C : List (List Nat)) (wx : World) (lo last : Nat) (Bh : Option Addr) (nb cb : Nat) : Prop where
  blk : Blk wx g 78 (rv A n c lo R last (.slice Bh nb cb))
  row : Rob (DW g ps B) wx fun W => Has W Bh nb cb (u8s (bs.drop D))
  ms : MS wx ps C
  ri : RI bs N D R lo last
theorem RS.next {bs : List Nat} {g : Nat} {ps : List Nat} {B : Nat} {A : Option Addr} {n c N D R : Nat} {C : List (List Nat)} {wx w' : World} {lo last : Nat} {Bh : Option Addr} {nb cb : Nat} (h : RS bs g ps B A n c N D R C wx lo last Bh nb cb) (hb : Below wx.heap.size wx w') : RS bs g ps B A n c N D R C w' lo last Bh nb cb :=
  ⟨h.blk.below hb h.blk.lt, Rob.chg Has.stays h.row (Chg.of_below hb) fun _ _ h => h, h.ms.below hb, h.ri⟩
set_option maxRecDepth 100000 in
set_option maxHeartbeats 2000000 in
theorem codes_any (bs : List Nat) (g : Nat) (A : Option Addr) (n c lo last : Nat) (Bh : Option Addr) (nb cb : Nat) (ps : List Nat) (t : Cdr) (ks : List Int) (M : Option Addr) (m d : Nat) (w : World) (h : RS bs g ps w.heap.size A n c t.N t.D t.R t.C w lo last Bh nb cb)
    (hg : g ∉ ps) (hr : Rob (DW g ps w.heap.size) w fun W => Has W A n c (ptrs ps)) (hl : Rob (DW g ps w.heap.size) w fun W => Has W M m d (intVs ks)) (hok : COk t) (hks : ∀ k ∈ ks, -16 ≤ k ∧ k < (t.C.length : Int)) (hby : ∀ x ∈ bs, x < 256) (hml : m ≤ 10000) :
    Calls Try.prog 34 #[.pointer (some ⟨g, 0, none⟩), .slice M m d] w fun e w' => ∃ A' c', e = .returned (.tuple #[.slice A' (decodeC t ks bs).1.length c', .int .i64 ((decodeC t ks bs).2 : Int)]) ∧ HasK 2 w' A' (decodeC t ks bs).1.length c' (codCells (decodeC t ks bs).1) ∧ Chg (DW g ps w.heap.size) w w' := by
  have HS := Lib.hid h
  have HG := Lib.hid hg
  have HR := Lib.hid hr
  have HLr := Lib.hid hl
  have HK := Lib.hid hok
  have HKs := Lib.hid hks
  have HBy := Lib.hid hby
  have HLen : Hid (ks.length = m) := by have := hl.here.len; rw [intVs_len] at this; exact this
  have HGl := Lib.hid h.blk.lt
  have HPl := Lib.hid h.ms.lt
  clear h hg hr hl hok hks hby
  go_enter Try.func34, Try.ntmps34
  go_wp2
  go_step3
  go_wp2_with (first
    | (at_make
       refine wpList_room0 rfl _ _ 23 rfl elemCd w.heap.size _ _ _ m rfl rfl rfl (by omega) (by decide) (Nat.le_refl _) ?_
       intro w1 hown1 hbel1
       have HO1 := Lib.hid hown1
       have HB1 := Lib.hid hbel1
       clear hown1 hbel1))
  go_step3
  go_wp2
  go_loopg [6, 17] m (fun gh s6 s17 wx => ∃ (i : Nat) (t1 : Cdr) (lo1 last1 : Nat) (B1 : Option Addr) (nb1 cb1 : Nat) (acc : List Cod), i + gh = m ∧ s17 = .int .i64 i ∧ Hid (runC t acc = some t1) ∧ Hid (acc.map (·.1) = ks.take i) ∧ Hid (COk t1) ∧ Hid (t1.C.length = t.C.length) ∧ Hid (RS bs g ps w.heap.size A n c t1.N t1.D t1.R t1.C wx lo1 last1 B1 nb1 cb1) ∧ Hid (OwnK 2 wx w.heap.size 41 s6 i (codCells acc)) ∧ Hid (Chg (DW g ps w.heap.size) w wx) ∧ Hid (Fail bs t1 (ks.drop i) → Fail bs t ks))
  case atStart => exact ⟨0, t, lo, last, Bh, nb, cb, [], by omega, rfl, by show _ = _; rfl, by show _ = _; rfl, HK, by show _ = _; rfl, HS.out.next HB1.out, HO1, Chg.of_below HB1.out, fun h => h⟩
  case round =>
    obtain ⟨i, t1, lo1, last1, B1, nb1, cb1, acc, hig, rfl, HRn, HAc, HOk, HCl, HSx, HOx, HCx, HFx⟩ := hrel
    clear HS HO1 HB1
    obtain ⟨A6, c6, hv6, hh6⟩ := HOx.out.has
    subst hv6
    have HNb : Hid (nb1 = bs.length - t1.D) := by have := HSx.out.row.here.len; rw [u8s_len, List.length_drop] at this; show _ = _; omega
    have HRe := Lib.hid (fun j => rest_q g lo1 last1 (wr.drewN j) ((HSx.out.blk.below (quiet_below _ j) HSx.out.blk.lt).cell 1) ((HSx.out.blk.below (quiet_below _ j) HSx.out.blk.lt).cell 3) (by have := HSx.out.ri.sum; omega) HSx.out.ri.word)
    rw [HSx.out.ri.rest] at HRe
    by_cases hil : i < m
    · have ti : decide (i < m) = true := by simpa using hil
      have hi2 : i < ks.length := by rw [HLen.out]; exact hil
      have HTk : Hid (ks.take (i + 1) = ks.take i ++ [ks[i]]) := List.take_succ_eq_append_getElem hi2
      have HDr : Hid (ks.drop i = ks[i] :: ks.drop (i + 1)) := List.drop_eq_getElem_cons hi2
      have hHas := (Rob.chg (G' := fun _ => False) Has.stays HLr.out HCx.out fun _ _ h => h.elim).here
      obtain ⟨b, off, rfl, hlt, hcc⟩ := hHas.spot (by omega)
      have hcell := hcc _ _ (intVs_at hi2)
      have hkk := HKs.out _ (List.getElem_mem hi2)
      generalize ks[i] = k at *
      rw [← HCl.out] at hkk
      have hrr := Rob.chg (G' := DW g ps w.heap.size) Has.stays HR.out HCx.out fun _ _ h => h
      have hW1 := whole_pos6 HOk.out.cnt hkk
      have hW2 := whole_le HOk.out.cnt k
      have HPa := Lib.hid (fun j => coderPart_q g A n c ps t1.C k t1.R (wr.drewN j) ((HSx.out.blk.below (quiet_below _ j) HSx.out.blk.lt).cell 0) ((HSx.out.blk.below (quiet_below _ j) HSx.out.blk.lt).cell 2) (hrr.here.kept (quiet_below _ j)) (HSx.out.ms.below (quiet_below _ j)) HOk.out.cnt hkk (by omega) HOk.out.small)
      have hfi := find_in (C := t1.C) (k := k) (v := (valC (bs.take t1.D) - t1.N) / (t1.R / wholeC t1.C k)) hkk
      have HFi := Lib.hid (fun j => (coderFind_any A n c ps t1.C k ((valC (bs.take t1.D) - t1.N) / (t1.R / wholeC t1.C k)) (wr.drewN j) (hrr.here.kept (quiet_below _ j)) (HSx.out.ms.below (quiet_below _ j)) HOk.out.cnt hkk).mono fun _ _ ⟨p, q⟩ => And.intro p q.symm)
      have hbig := HOk.out.big
      have hsm := HOk.out.small
      have hq0 : 0 < t1.R / wholeC t1.C k := Nat.div_pos (by omega) (by omega)
      have hqR := Nat.div_le_self t1.R (wholeC t1.C k)
      have hdv := HSx.out.ri.near
      have hvd := Nat.div_le_self (valC (bs.take t1.D) - t1.N) (t1.R / wholeC t1.C k)
      have HQ1 : Hid (valC (bs.take t1.D) - t1.N < t1.R / wholeC t1.C k * ((valC (bs.take t1.D) - t1.N) / (t1.R / wholeC t1.C k)) + t1.R / wholeC t1.C k) := by
        have := Nat.div_add_mod (valC (bs.take t1.D) - t1.N) (t1.R / wholeC t1.C k)
        have := Nat.mod_lt (valC (bs.take t1.D) - t1.N) hq0
        show _ < _
        omega
      have HQ2 : Hid (t1.R / wholeC t1.C k * ((valC (bs.take t1.D) - t1.N) / (t1.R / wholeC t1.C k)) ≤ valC (bs.take t1.D) - t1.N) := Nat.mul_div_le _ _
      have HQ3 := Lib.hid (Nat.div_mul_le_self t1.R (wholeC t1.C k))
      have HFar := Lib.hid (fun h => fail_far (bs := bs) (k := k) (ks := ks.drop (i + 1)) HOk.out hq0 h)
      have HSym := Lib.hid (fun h => find_sym (t := t1) (k := k) (d := valC (bs.take t1.D) - t1.N) h)
      obtain ⟨q, hq⟩ : ∃ q, t1.R / wholeC t1.C k = q := ⟨_, rfl⟩
      obtain ⟨dd, hdd⟩ : ∃ dd, valC (bs.take t1.D) - t1.N = dd := ⟨_, rfl⟩
      obtain ⟨v, hv⟩ : ∃ v, dd / q = v := ⟨_, rfl⟩
      rw [hq] at HPa hq0 hqR
      rw [hq, hdd] at HQ1 HQ2 HFar HSym hvd
      rw [hq, hdd, hv] at hfi HFi
      rw [hdd] at HRe hdv
      rw [hv] at HQ1 HQ2 HFar HSym hvd
      rw [hq] at HQ3
      have HQe := Lib.hid hq
      have HDe := Lib.hid hdd
      have n0 : ¬ (q : Int) = 0 := by omega
      have n1 : ¬ q = 0 := by omega
      have e1 : (dd : Int).tdiv (q : Int) = (v : Int) := by rw [← hv]; rfl
      have e2 : (dd : Int) / (q : Int) = (v : Int) := by rw [← hv]; rfl
      have e3 : IntKind.wrap .u64 (v : Int) = (v : Int) := by rw [IntKind.wrap_u64]; omega
      have e4 : IntKind.wrap .i64 (v : Int) = (v : Int) := by rw [IntKind.wrap_i64]; omega
      have c0 : wr.cell? ⟨g, 0, none⟩ = some (.slice A n c) := HSx.out.blk.cell 0
      clear hq hdd hv hcc hHas hi2 hh6
      rcases hfi with ⟨hf2, hvW, hok, hs1, hs2⟩ | ⟨hf2, hvW⟩
      · rw [hf2] at HFi
        have hsy := HSym.out hvW
        generalize (findC t1.C k v).1 = sy at *
        obtain ⟨u1, hu1⟩ := step_some HOk.out hok
        have HRn2 : Hid (runC t (acc ++ [(k, sy)]) = some u1) := by show _ = _; rw [run_snoc, HRn.out]; exact hu1
        have HAc2 : Hid ((acc ++ [(k, sy)]).map (·.1) = ks.take (i + 1)) := by show _ = _; rw [List.map_append, HAc.out, HTk.out]; rfl
        have HOk2 := Lib.hid (stepC_ok HOk.out hu1)
        have HCl2 : Hid (u1.C.length = t.C.length) := (step_shape HOk.out hu1).2.trans HCl.out
        have HNx : Hid (Fail bs u1 (ks.drop (i + 1)) → Fail bs t ks) := fun h => HFx.out (by rw [HDr.out]; exact fail_next HOk.out (by rw [HDe.out]; exact hsy) hu1 h)
        have HSo : Hid (bs.length < u1.D → Fail bs t ks) := fun h => HFx.out (by rw [HDr.out]; exact fail_short HOk.out (by rw [HDe.out]; exact hsy) hu1 h)
        obtain ⟨_, hq256, hn1, hsh, hno⟩ := step_parts HOk.out hu1
        simp only at hq256 hn1 hsh hno
        have hqf : q * (shareC t1.C (k, sy)).1 ≤ dd := Nat.le_trans (Nat.mul_le_mul_left _ hs1) HQ2.out
        have hqc : dd < q * (shareC t1.C (k, sy)).1 + q * (shareC t1.C (k, sy)).2 := Nat.lt_of_lt_of_le HQ1.out (by
          rw [← Nat.mul_succ, ← Nat.mul_add]
          exact Nat.mul_le_mul_left _ hs2)
        have HRI := Lib.hid (HSx.out.ri.take HQ3.out hsh (by rw [HDe.out]; exact hqf))
        have HTa := Lib.hid (fun W (hW : Below wr.heap.size wr W) => coderTake_any g _ _ A n c ps t1.C k sy lo1 t1.R W (HSx.out.next hW).blk rfl rfl rfl ((Rob.chg (G' := DW g ps w.heap.size) Has.stays hrr (Chg.of_below hW) fun _ _ h => h).less fun k (e : k = g) => Or.inl e) (HSx.out.next hW).ms HG.out HOk.out.cnt hok hsm (by have := HSx.out.ri.sum; omega))
        rw [HQe.out] at HTa hno hq256
        have HNo := Lib.hid hno
        have hR2 : q * (shareC t1.C (k, sy)).2 ≤ t1.R := Nat.le_trans (Nat.mul_le_mul_left _ (by omega)) HQ3.out
        have hR3 : 256 ≤ q * (shareC t1.C (k, sy)).2 := Nat.le_trans hq256 (Nat.le_mul_of_pos_right _ hn1)
        have HNr : Hid (valC (bs.take t1.D) - (t1.N + q * (shareC t1.C (k, sy)).1) < q * (shareC t1.C (k, sy)).2) := by
          have h1 := HDe.out
          show _ < _
          omega
        generalize seenC t1.C (k, sy) = C2 at *
        generalize q * (shareC t1.C (k, sy)).2 = R2 at *
        generalize q * (shareC t1.C (k, sy)).1 = Q2 at *
        clear hf2 hvW hok hs1 hs2 hsy hu1 hno hsh hn1 hq256 hqf hqc HFar HSym HFx HDr HTk hrr HQ1 HQ2 HQ3 HQe HRn HAc HCl HOk HDe
        go_wp2
        go_quiet (first
          | (go_at_call 51; exact quiet_more (HRe.out _))
          | (go_at_call 52; exact quiet_more (HPa.out _))
          | (go_at_call 50; exact Calls.quiet_of_same (HFi.out _)))
        have HB3 : Hid (Below wr.heap.size wr (wr.drewN nq)) := quiet_below _ _
        clear HRe HPa HFi n0 n1 e1 e2 e3 e4 c0 hcell
        generalize wr.drewN nq = w3 at *
        have HBa : Hid (Below wr.heap.size wr (w3.alloc (.cells #[.int .i64 k, .int .i64 sy] 41)).drew) := new_call HB3.out (new_alloc (Below.refl _ _) _).drew
        have HTw := Lib.hid (HTa.out _ HBa.out)
        have HXb : Hid (Blk (w3.alloc (.cells #[.int .i64 k, .int .i64 sy] 41)).drew w3.heap.size 41 #[.int .i64 k, .int .i64 sy]) := Blk.new w3 _ _
        have hw3 : w.heap.size ≤ w3.heap.size := Nat.le_trans HCx.out.size HB3.out.size
        clear HTa
        go_wp2
        go_region_law (first
          | (go_simp; go_at_call 41; with_reducible refine Calls.mono HTw.out ?_; rintro e w4 ⟨rfl, hb4, hm4, hc4⟩; have HB4 := Lib.hid hb4; have HM4 := Lib.hid hm4; have HC4 := Lib.hid hc4; clear hb4 hm4 hc4))
        all_goals
          have HDl : Hid (∀ k, k = g ∨ k ∈ ps → k < w.heap.size) := fun k h => h.elim (fun h => by rw [h]; exact HGl.out) (HPl.out k)
          have HC5 : Hid (Chg (DW g ps w.heap.size) w w4) := (HCx.out.then_ (Chg.of_below HBa.out) fun _ _ h => h).then_ HC4.out fun k _ h => h.elim Or.inl fun h => Or.inr (Or.inl h)
          have HS5 : Hid (RS bs g ps w.heap.size A n c (t1.N + Q2) t1.D R2 C2 w4 (lo1 + Q2) last1 B1 nb1 cb1) := ⟨HB4.out, Rob.chg (G' := DW g ps w.heap.size) Has.stays (Rob.chg (G' := DW g ps w.heap.size) Has.stays HSx.out.row (Chg.of_below HBa.out) fun _ _ h => h) (HC4.out.wide fun k _ h => h.elim Or.inl fun h => Or.inr (Or.inl h)) fun _ _ h => h, HM4.out, HRI.out⟩
          have HO5 : Hid (OwnK 2 w4 w.heap.size 41 (.slice A6 i c6) i (codCells acc)) := ownK_chg (HOx.out.keep HBa.out) HC4.out HDl.out
          have HX5 : Hid (Blk w4 w3.heap.size 41 #[.int .i64 k, .int .i64 sy]) := HXb.out.chg HC4.out fun h => by have := HDl.out _ h; omega
          clear HB4 HM4 HC4 HXb HTw HBa HCx HOx HSx HB3 HRI HDl
          go_wp2
          go_loopg [] 3 (fun gh wx => ∃ (N2 D2 R3 lo2 last2 : Nat) (B2 : Option Addr) (nb2 cb2 : Nat), gh ≤ 3 ∧ 256 ^ (4 - gh) ≤ R3 ∧ R3 < 4294967296 ∧ Hid (norm gh { C := C2, N := N2, D := D2, R := R3 } = u1) ∧ Hid (RS bs g ps w.heap.size A n c N2 D2 R3 C2 wx lo2 last2 B2 nb2 cb2) ∧ Hid (valC (bs.take D2) - N2 < R3) ∧ Hid (OwnK 2 wx w.heap.size 41 (.slice A6 i c6) i (codCells acc)) ∧ Hid (Blk wx w3.heap.size 41 #[.int .i64 k, .int .i64 sy]) ∧ Hid (Chg (DW g ps w.heap.size) w wx))
          case atStart => exact ⟨_, t1.D, R2, lo1 + Q2, last1, B1, nb1, cb1, Nat.le_refl _, by omega, by omega, HNo, HS5, HNr, HO5, HX5, HC5⟩
          case round =>
            obtain ⟨N2, D2, R3, lo2, last2, B2, nb2, cb2, hg3, hRl, hRh, HN2, HSy, HNy, HOy, HXy, HCy⟩ := hrel
            clear HNo HS5 HNr HO5 HX5 HC5
            have HNw := Lib.hid (coderNarrow_any g R3 wr (HSy.out.blk.cell 2))
            have HNb2 : Hid (nb2 = bs.length - D2) := by have := HSy.out.row.here.len; rw [u8s_len, List.length_drop] at this; show _ = _; omega
            have hD2 := HSy.out.ri.len
            by_cases hlt : R3 < 16777216
            · obtain ⟨g', hg'⟩ : ∃ g', gk = g' + 1 := ⟨gk - 1, by
                rcases Nat.eq_zero_or_pos gk with h | h
                · subst h; simp at hRl; omega
                · omega⟩
              have HNx2 : Hid (norm g' { C := C2, N := N2 * 256, D := D2 + 1, R := R3 * 256 } = u1) := by
                show _ = _
                rw [← HN2.out, hg', norm, if_pos hlt]
              have c4 : wr.cell? ⟨g, 4, none⟩ = some (.slice B2 nb2 cb2) := HSy.out.blk.cell 4
              rw [decide_eq_true hlt] at HNw
              by_cases hnb : nb2 = 0
              · have HE := Lib.hid (decode_miss (HSo.out (by
                  have h1 := norm_D g' { C := C2, N := N2 * 256, D := D2 + 1, R := R3 * 256 }
                  rw [HNx2.out] at h1
                  have h2 := HNb2.out
                  simp only at h1
                  omega)))
                subst hnb
                clear HN2 hRl HNx2
                go_wp2_with fail
                refine HNw.out.mono ?_
                rintro e w5 ⟨rfl, rfl⟩
                go_wp2
                rw [Exit.noGoto_ret]
                go_ret2
                rw [HE.out]
                exact ⟨none, 0, rfl, HasK.none _ _ _ _ fun _ => rfl, HCy.out⟩
              · obtain ⟨k2, hk2⟩ : ∃ k2, nb2 = k2 + 1 := ⟨nb2 - 1, by omega⟩
                subst hk2
                have hD3 : D2 < bs.length := by have := HNb2.out; omega
                have hrow := HSy.out.row.here
                have hcap := hrow.cap
                obtain ⟨b2, off2, rfl, hlt2, hcc2⟩ := hrow.spot (by omega)
                have hx0 := hcc2 0 (.int .u8 (bs[D2] : Int)) (by rw [u8s_at (by rw [List.length_drop]; omega)]; simp)
                rw [Nat.add_zero] at hx0
                obtain ⟨hRi, hNi⟩ := HSy.out.ri.shift HBy.out hD3 hlt HNy.out
                have HRi := Lib.hid hRi
                have HNi := Lib.hid hNi
                have HRw2 := Lib.hid (HSy.out.row.map fun W h => show Has W (if cb2 = 1 then some ⟨b2, off2, none⟩ else some ⟨b2, off2 + 1, none⟩) k2 (cb2 - 1) (u8s (bs.drop (D2 + 1))) by
                  have h1 := Has.tail6 h (k := 1) (by omega)
                  rw [List.drop_drop, Nat.add_sub_cancel] at h1
                  simp only [Option.map_some, Addr.add_mid] at h1
                  exact h1)
                have HSh := Lib.hid (rshift_any g A n c lo2 R3 last2 b2 off2 k2 cb2 bs[D2] wr HSy.out.blk hx0 (HBy.out _ (List.getElem_mem hD3)) hcap (by have := HSy.out.ri.sum; omega) hlt)
                have hp : 256 ^ (4 - g') ≤ R3 * 256 := by
                  rw [show 4 - g' = (4 - (g' + 1)) + 1 by omega, Nat.pow_succ, ← hg']
                  exact Nat.mul_le_mul_right _ hRl
                have hr3 : R3 * 256 < 4294967296 := by omega
                generalize bs[D2] = x2 at *
                have tnb : decide ((((k2 + 1 : Nat) : Int)) = 0) = false := by simp; omega
                have tnb2 : ((((k2 + 1 : Nat) : Int)) == 0) = false := beq_eq_false_iff_ne.2 (by omega)
                have tnb3 : (((k2 : Int) + 1) == 0) = false := beq_eq_false_iff_ne.2 (by omega)
                clear HN2 hRl hrow hcc2 hx0 hRi hNi hD3 hnb HNb2
                go_wp2_with fail
                refine HNw.out.mono ?_
                rintro e w5 ⟨rfl, rfl⟩
                go_wp2_with fail
                refine HSh.out.mono ?_
                rintro e w6 ⟨rfl, hb6, hc6⟩
                have HC6 : Hid (Chg (DW g ps w.heap.size) w w6) := HCy.out.then_ hc6 fun k _ h => Or.inl h
                have HS6 : Hid (RS bs g ps w.heap.size A n c (N2 * 256) (D2 + 1) (R3 * 256) C2 w6 _ _ _ _ _) := ⟨hb6, Rob.chg (G' := DW g ps w.heap.size) Has.stays HRw2.out (hc6.wide fun k _ h => Or.inl h) fun _ _ h => h, HSy.out.ms.chg hc6 (fun p hp e => HG.out (e ▸ hp)), HRi.out⟩
                have HO6 : Hid (OwnK 2 w6 w.heap.size 41 (.slice A6 i c6) i (codCells acc)) := ownK_chg HOy.out hc6 fun k h => by rw [h]; exact HGl.out
                have HX6 : Hid (Blk w6 w3.heap.size 41 #[.int .i64 k, .int .i64 sy]) := HXy.out.chg hc6 fun h => by have := HGl.out; omega
                clear hb6 hc6
                go_wp2
                go_roundg g'
                case measure => omega
                case rel => exact ⟨N2 * 256, D2 + 1, R3 * 256, _, _, _, _, _, by omega, hp, hr3, HNx2, HS6, HNi, HO6, HX6, HC6⟩
            · have HE : Hid ({ C := C2, N := N2, D := D2, R := R3 } = u1) := by
                show _ = _
                rw [← HN2.out, norm_done (by simp only; omega)]
              rw [decide_eq_false hlt] at HNw
              rw [← HE.out] at HRn2 HOk2 HCl2 HNx
              clear HN2 HE
              have z0 : wr.cell? ⟨w3.heap.size, 0, none⟩ = some (.int .i64 k) := HXy.out.cell 0
              have z1 : wr.cell? ⟨w3.heap.size, 1, none⟩ = some (.int .i64 sy) := HXy.out.cell 1
              have hwr : w.heap.size ≤ wr.heap.size := HCy.out.size
              have HCd : Hid (codCells acc ++ codCells [(k, sy)] = codCells (acc ++ [(k, sy)])) := (codCells_app _ _).symm
              go_wp2_with fail
              refine HNw.out.mono ?_
              rintro e w5 ⟨rfl, rfl⟩
              go_wp2_with (at_builtin
                           refine wpList_joinK rfl _ _ 23 rfl elemCd (by decide) w.heap.size _ i (codCells acc) rfl (HOy.out.alloc _) _ 1 1 (codCells [(k, sy)]) rfl (HasK.new_at 2 _ #[_, _] _ _ 1 rfl rfl) (codCells_one _) (by omega) (by decide) (Nat.le_trans hwr (new_alloc (Below.refl _ _) _).size) ?_
                           intro v7 w7 hown7 hbel7 _
                           rw [HCd.out] at hown7
                           have HO7 := Lib.hid hown7
                           have HB7 : Hid (Below w.heap.size wr w7) := ((new_alloc (Below.refl _ _) _).mono hwr).trans hbel7
                           clear hown7 hbel7)
              have HC7 : Hid (Chg (DW g ps w.heap.size) w w7) := HCy.out.then_ (Chg.of_base HB7.out fun k h => Or.inr (Or.inr h)) fun _ _ h => h
              have HS7 : Hid (RS bs g ps w.heap.size A n c N2 D2 R3 C2 w7 lo2 last2 B2 nb2 cb2) := ⟨HSy.out.blk.below HB7.out HGl.out, Rob.chg (G' := DW g ps w.heap.size) Has.stays HSy.out.row (Chg.of_base HB7.out fun k h => Or.inr (Or.inr h)) fun _ _ h => h, HSy.out.ms.chg (Chg.of_base (D := fun k => w.heap.size ≤ k) HB7.out fun _ h => h) (fun p hp h => by have := HPl.out p hp; omega), HSy.out.ri⟩
              go_roundg (m - (i + 1))
              case measure => omega
              case rel => exact ⟨i + 1, { C := C2, N := N2, D := D2, R := R3 }, lo2, last2, B2, nb2, cb2, acc ++ [(k, sy)], by omega, by go_num, HRn2, HAc2, HOk2, HCl2, HS7, HO7, HC7, HNx⟩
      · have HF : Hid (Fail bs t ks) := HFx.out (by rw [HDr.out]; exact HFar.out hvW)
        have HE := Lib.hid (decode_miss HF.out)
        rw [hf2] at HFi
        generalize (findC t1.C k v).1 = sy at *
        clear hf2 hvW HFar HSym HF HFx hrr
        go_wp2
        go_quiet (first
          | (go_at_call 51; exact quiet_more (HRe.out _))
          | (go_at_call 52; exact quiet_more (HPa.out _))
          | (go_at_call 50; exact Calls.quiet_of_same (HFi.out _)))
        go_wp2
        rw [Exit.noGoto_ret]
        go_ret2
        rw [HE.out]
        exact ⟨none, 0, rfl, HasK.none _ _ _ _ fun _ => rfl, HCx.out.then_ (Chg.of_below (D := DW g ps w.heap.size) (quiet_below _ _)) fun _ _ h => h⟩
    · have ti : decide (i < m) = false := by simpa using hil
      obtain rfl : i = m := by omega
      have HAll : Hid (acc.map (·.1) = ks) := by
        have := HAc.out
        rw [List.take_of_length_le (by rw [HLen.out]; exact Nat.le_refl _)] at this
        exact this
      have HFa : Hid (Fail bs t1 [] → Fail bs t ks) := fun h => HFx.out (by rw [List.drop_of_length_le (by rw [HLen.out]; exact Nat.le_refl _)]; exact h)
      have hle := HSx.out.ri.len
      have hdle := HSx.out.ri.le
      have c4 : wr.cell? ⟨g, 4, none⟩ = some (.slice B1 nb1 cb1) := HSx.out.blk.cell 4
      have tl : decide (i < i) = false := by simp
      have HRw := Lib.hid (HRe.out 0)
      clear HRe HFx HAc hil
      by_cases hnb : 0 < nb1
      · have t4 : decide ((0 : Int) < (nb1 : Int)) = true := by simp; omega
        have HE := Lib.hid (decode_miss (HFa.out (fail_end HOk.out (Or.inl (by have := HNb.out; omega)))))
        go_wp2
        rw [Exit.noGoto_ret]
        go_ret2
        rw [HE.out]
        exact ⟨none, 0, rfl, HasK.none _ _ _ _ fun _ => rfl, HCx.out⟩
      · have t4 : decide ((0 : Int) < (nb1 : Int)) = false := by simp; omega
        obtain rfl : nb1 = 0 := by omega
        have hDb : t1.D = bs.length := by have := HNb.out; omega
        by_cases hz : valC (bs.take t1.D) - t1.N = 0
        · have HE : Hid (decodeC t ks bs = (acc, 0)) := by
            show _ = _
            rw [← HAll.out]
            refine decode_hit HK.out ?_
            unfold bytesC
            rw [HRn.out]
            have hN : t1.N = valC bs := by rw [List.take_of_length_le (by omega)] at hz hdle; omega
            simp only [Option.map_some]
            rw [hN, hDb, dig_val _ rfl HBy.out]
          have HLa : Hid (acc.length = i) := by
            have := congrArg List.length HAll.out
            rw [List.length_map, HLen.out] at this
            exact this
          rw [hz] at HRw
          clear hz hDb
          go_wp2_with (go_at_call 51; refine HRw.out.mono ?_; rintro e w2 ⟨rfl, m2, rfl⟩)
          rw [Exit.noGoto_ret]
          go_ret2
          rw [HE.out, HLa.out]
          exact ⟨A6, c6, rfl, hh6.kept (quiet_below _ _), HCx.out.then_ (Chg.of_below (D := DW g ps w.heap.size) (quiet_below _ _)) fun _ _ h => h⟩
        · have HE := Lib.hid (decode_miss (HFa.out (fail_end HOk.out (Or.inr (by omega)))))
          generalize valC (bs.take t1.D) - t1.N = z at *
          have tz : ((z : Int) == 0) = false := beq_eq_false_iff_ne.2 (by omega)
          have tz2 : decide ((z : Int) = 0) = false := by simp; omega
          clear hz hDb
          go_wp2_with (go_at_call 51; refine HRw.out.mono ?_; rintro e w2 ⟨rfl, m2, rfl⟩)
          rw [Exit.noGoto_ret]
          go_ret2
          rw [HE.out]
          exact ⟨none, 0, rfl, HasK.none _ _ _ _ fun _ => rfl, HCx.out.then_ (Chg.of_below (D := DW g ps w.heap.size) (quiet_below _ _)) fun _ _ h => h⟩
end Go.Proofs.Ytfkmcjlapigapaa
