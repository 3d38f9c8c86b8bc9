import Derived.Test.YtdheppfooapneaaFeedB
import Derived.Deep.RegionHeld3
/- The landed feeder's bytes: of the head, of a kind, of a size. -/
namespace Go.Proofs.Ytdheppfooapneaa
open Go.RowKit

set_option maxRecDepth 100000 in
set_option maxHeartbeats 1000000 in
theorem lastKind_any (p : Nat) (m tk hd : Int) (pv : Value) (a b : Int) (rv : Value) (e : Int) (cl : Bool) (vs : List (Int × Value)) (l : List Sec) (w : World) (hB : FB w p m tk hd pv a b rv e cl)
    (hO : OwnK 2 w 0 48 rv l.length (secCells vs)) (hV : SecVs w vs l) (hl : l.length ≤ 1000000) :
    Calls Try.prog 44 #[.pointer (some ⟨p, 0, none⟩)] w fun e' w' => e' = .returned (.int .i64 (lastK l l.length)) ∧ Below w.heap.size w w' := by
  obtain ⟨A, c, rfl, hh⟩ := hO.has
  have h6 := hB.c6
  by_cases h0 : l.length = 0
  · rw [h0] at h6 ⊢
    clear hh hB hO hV
    go_enter Try.func44, Try.ntmps44
    go_wp2
    go_ret
    exact ⟨rfl, Below.refl _ _⟩
  · obtain ⟨k, hk⟩ : ∃ k, l.length = k + 1 := ⟨l.length - 1, by omega⟩
    have hkl : k < l.length := by omega
    have HS : Hid (Secs w A l.length c l) := ⟨vs, hh, hV⟩
    obtain ⟨b1, off, A', n', c', rfl, hlt, hl', hrow⟩ := HS.out.at_ hkl
    have hc1 := (hrow w (Below.refl _ _)).1
    have HK : Hid (lastK l l.length = l[k].1) := by show _ = _; rw [hk]; exact lastK_next hkl
    generalize l[k].1 = K at *
    have hcap := hh.cap
    rw [hk] at h6 hcap hl
    rw [HK.out]
    have t1 : (((k : Int) + 1) == 0) = false := by rw [beq_eq_false_iff_ne]; omega
    clear hh hB hO hV HS hrow hl' hkl HK hk h0
    go_enter Try.func44, Try.ntmps44
    go_wp2
    go_region
    go_wp2
    go_ret
    exact ⟨rfl, (Below.refl _ _).drew⟩

/-- What a byte, or some, leave, ahead of their number and of what is wrong. -/
def Took (w : World) (p : Nat) (S : Nat → Prop) (tk : Nat) (s : St) (e' : Ending) (w' : World) : Prop :=
  ∃ (m : Nat) (hd : Int) (pv : Value) (a b : Nat) (rv : Value) (S' : Nat → Prop), e' = .returned (.int .i64 (s.e : Int)) ∧ FB w' p m tk hd pv a b rv 0 false ∧ (s.e = 0 → Live w' p S' s m hd pv a b rv) ∧ S' p ∧ Sit S' w'.heap.size ∧ Chg S w w' ∧ ∀ k, S' k → S k ∨ w.heap.size ≤ k

/-- Nothing but the number of bytes. -/
theorem Mem.same {w : World} {p : Nat} {S : Nat → Prop} {s s' : St} {pv rv : Value} {vs : List (Int × Value)} {R : Nat → Prop} (h : Mem w p S s pv rv vs R) (h1 : partOf s' = partOf s) (h2 : s'.l = s.l) : Mem w p S s' pv rv vs R :=
  ⟨by rw [h1]; exact h.part, by rw [h2]; exact h.row, by rw [h2]; exact h.secs, h.pblk, h.rblk, h.sblk⟩
/-- More bytes of what is being read. -/
theorem Mem.held {w w' : World} {p : Nat} {S : Nat → Prop} {s s' : St} {pv rv pv' : Value} {vs : List (Int × Value)} {R : Nat → Prop} (h : Mem w p S s pv rv vs R) (hs : Sit S w.heap.size) (hS : S p) (ho : Own w' 0 5 pv' (u8s (partOf s'))) (hc : Chg (fun k => k = p ∨ pv.ownBlock = some k) w w')
    (hw : ∀ g, pv'.ownBlock = some g → pv.ownBlock = some g ∨ w.heap.size ≤ g) (hl : s'.l = s.l) : Mem w' p (fun k => S k ∨ pv'.ownBlock = some k) s' pv' rv vs R := by
  refine ⟨ho, ?_, ?_, fun g hg => ⟨Or.inr hg, ?_, ?_, ?_⟩, fun g hg => ⟨Or.inl (h.rblk g hg).1, (h.rblk g hg).2⟩, fun g hg => ⟨Or.inl (h.sblk g hg).1, (h.sblk g hg).2⟩⟩
  · rw [hl]
    refine h.row.chg hc fun g hg => ?_
    rintro (rfl | h')
    · exact (h.rblk _ hg).2.1 rfl
    · exact (h.pblk g h').2.2.1 hg
  · rw [hl]
    refine h.secs.chg hc (fun g hg => ?_) fun g hg => hs g (h.sblk g hg).1
    rintro (rfl | h')
    · exact (h.sblk _ hg).2 rfl
    · exact (h.pblk g h').2.2.2 hg
  · rcases hw g hg with h' | h'
    · exact (h.pblk g h').2.1
    · rintro rfl; have := hs _ hS; omega
  · rcases hw g hg with h' | h'
    · exact (h.pblk g h').2.2.1
    · intro e; have := hs _ (h.rblk g e).1; omega
  · rcases hw g hg with h' | h'
    · exact (h.pblk g h').2.2.2
    · intro e; have := hs _ (h.sblk g e).1; omega
theorem Mem.apart {w : World} {p : Nat} {S : Nat → Prop} {s : St} {pv rv : Value} {vs : List (Int × Value)} {R : Nat → Prop} (h : Mem w p S s pv rv vs R) : pv.ownBlock ≠ some p := fun e => (h.pblk p e).2.1 rfl
theorem sit_more {w w' : World} {S : Nat → Prop} {pv : Value} {xs : List Value} (hs : Sit S w.heap.size) (hz : w.heap.size ≤ w'.heap.size) (ho : Own w' 0 5 pv xs) : Sit (fun k => S k ∨ pv.ownBlock = some k) w'.heap.size := by
  rintro k (hk | hk)
  · exact Nat.lt_of_lt_of_le (hs k hk) hz
  · exact OwnK.sit (k := 1) ho k hk

set_option maxRecDepth 100000 in
set_option maxHeartbeats 1000000 in
theorem takeHead_any (p : Nat) (S : Nat → Prop) (s : St) (c : Nat) (hd : Int) (pv : Value) (a b : Nat) (rv : Value) (w : World) (hB : FB w p (0 : Nat) s.all hd pv a b rv 0 false) (hL : Live w p S s 0 hd pv a b rv) (he : s.e = 0) (hc : c < 256) (hS : S p) (hs : Sit S w.heap.size) :
    Calls Try.prog 31 #[.pointer (some ⟨p, 0, none⟩), .int .u8 (c : Int)] w (Took w p S s.all (stepN s c)) := by
  have hst := at_head (c := c) hL.at_ he
  have ha5 := (hL.at_.head rfl).1
  have hnx := at_head_next hL.at_
  have hiv := stepN_inv hL.inv hc he
  have HN := Lib.hid hnx
  have HL := Lib.hid hL
  have HI := Lib.hid hiv
  have HT := Lib.hid hst
  have HBk := Lib.hid hB
  have HS := Lib.hid hs
  have HE := Lib.hid he
  clear hL hiv hst hB hnx hs he
  go_enter Try.func31, Try.ntmps31
  go_wp2_with fail
  refine (head_any w).mono ?_
  rintro e w1 ⟨A1, c1, rfl, hh1, ho1, hb1⟩
  have hcg : Chg S w w1 := Chg.of_below hb1
  have k1 : FB w1 p (0 : Nat) s.all hd pv a b rv 0 false := Blk.below HBk.out hb1 HBk.out.lt
  obtain ⟨b1, off, rfl, _, hcl⟩ := hh1.spot (by decide)
  have hcell := hcl s.all _ (u8s_at (l := headN) (show s.all < 5 from ha5))
  have hgd : headN[s.all]'(show s.all < 5 from ha5) = headN.getD s.all 0 := by rw [List.getD_eq_getElem?_getD, List.getElem?_eq_getElem (show s.all < headN.length from ha5)]; rfl
  rw [hgd] at hcell
  have x1 := k1.c1
  have x0 := k1.c0
  have f0 := k1.fz 0
  have k2 := k1.s0 1
  have K1 := Lib.hid k1
  have K2 := Lib.hid k2
  have HB1 := Lib.hid hb1
  have HLv : Hid (Live w1 p S s 0 hd pv a b rv) := HL.out.chg HS.out (Chg.of_below (D := fun _ => False) hb1) fun _ _ _ h => h
  have h5 : headN.length = 5 := rfl
  rw [h5]
  clear h5 k1 k2 hcl hh1 ho1 hb1 hgd hcg
  by_cases hcx : c = headN.getD s.all 0
  · have tc : ((c : Int) != ((headN.getD s.all 0 : Nat) : Int)) = false := by rw [hcx]; simp
    have HT2 : Hid (stepN s c = { s with all := s.all + 1 }) := by show _ = _; rw [HT.out, if_neg (by simp [hcx])]
    have HI2 : Hid (Inv { s with all := s.all + 1 }) := by show Inv _; rw [← HT2.out]; exact HI.out
    clear hcx
    generalize headN.getD s.all 0 = x at *
    by_cases h4 : s.all = 4
    · have HN2 := HN
      rw [if_pos h4] at HN2
      rw [h4] at hcell x1
      clear h4
      go_wp2
      go_ret
      rw [HT2.out]
      refine ⟨1, hd, pv, a, b, rv, S, by rw [HE.out]; rfl, K2.out, fun _ => ?_, hS, ?_, ?_, fun k hk => Or.inl hk⟩
      · obtain ⟨vs, R, hm⟩ := HLv.out.mem
        exact ⟨HN2.out, HI2.out, HLv.out.held, vs, R, (hm.chg (HS.out.le HB1.out.size) (Chg.set _ _ _ _) fun k _ hk e => hk e).same rfl rfl⟩
      · exact (HS.out.le HB1.out.size).le (Chg.set _ _ _ _).size
      · exact (Chg.of_below HB1.out).more _ _ _ hS
    · have t4 : ((s.all : Int) == 4) = false := by rw [beq_eq_false_iff_ne]; omega
      have HN2 := HN
      rw [if_neg h4] at HN2
      go_wp2
      go_ret
      rw [HT2.out]
      refine ⟨0, hd, pv, a, b, rv, S, by rw [HE.out]; rfl, K1.out, fun _ => ?_, hS, HS.out.le HB1.out.size, Chg.of_below HB1.out, fun k hk => Or.inl hk⟩
      obtain ⟨vs, R, hm⟩ := HLv.out.mem
      exact ⟨HN2.out, HI2.out, HLv.out.held, vs, R, hm.same rfl rfl⟩
  · have tc : ((c : Int) != ((headN.getD s.all 0 : Nat) : Int)) = true := by rw [bne_iff_ne]; omega
    have HT2 : Hid (stepN s c = { s with all := s.all + 1, e := 11 }) := by show _ = _; rw [HT.out, if_pos hcx]
    clear hcx
    generalize headN.getD s.all 0 = x at *
    go_wp2
    go_ret
    rw [HT2.out]
    exact ⟨0, hd, pv, a, b, rv, S, rfl, K1.out, fun h => absurd h (by simp), hS, HS.out.le HB1.out.size, Chg.of_below HB1.out, fun k hk => Or.inl hk⟩

set_option maxRecDepth 100000 in
set_option maxHeartbeats 1000000 in
theorem takeKind_any (p : Nat) (S : Nat → Prop) (s : St) (c : Nat) (hd : Int) (pv : Value) (a b : Nat) (rv : Value) (w : World) (hB : FB w p (1 : Nat) s.all hd pv a b rv 0 false) (hL : Live w p S s 1 hd pv a b rv) (he : s.e = 0) (hc : c < 256) (hS : S p) (hs : Sit S w.heap.size) (hal : s.all ≤ 90000) :
    Calls Try.prog 32 #[.pointer (some ⟨p, 0, none⟩), .int .u8 (c : Int)] w (Took w p S s.all (stepN s c)) := by
  have hst := at_kind (c := c) hL.at_ he
  have hfin := (hL.at_.body (by omega) (by omega)).2
  have htk := hL.at_.kind rfl
  have hiv := stepN_inv hL.inv hc he
  have hlast := hL.inv.last
  have hcnt := hL.inv.cnt
  have hhd := hL.held
  have hhb : heldN s ≤ s.all := by
    have := hL.inv.hold
    unfold heldN
    rw [htk] at this ⊢
    simp at this ⊢
    exact this
  have hpt : partOf s = [] := by unfold partOf; rw [htk]; split <;> rfl
  have hnx := fun c => at_kind_next (c := c) hL.at_
  obtain ⟨vs, R, hm⟩ := hL.mem
  have HM := Lib.hid hm
  have HN := Lib.hid hnx
  have HI := Lib.hid hiv
  have HT := Lib.hid hst
  have HBk := Lib.hid hB
  have HS := Lib.hid hs
  have HE := Lib.hid he
  have HP := Lib.hid hpt
  have HF := Lib.hid hfin
  have HTk := Lib.hid htk
  have HLa := Lib.hid hlast
  subst hhd
  have h0 := hB.c0
  have f0 := hB.fz 0
  clear hiv hst hB hnx hs he hpt hfin htk hlast hm hL
  have hwr : IntKind.i64.wrap (c : Int) = (c : Int) := by rw [IntKind.wrap_i64]; omega
  by_cases c0 : c = 0
  · subst c0
    have HT2 := HT.out
    rw [if_pos rfl] at HT2
    have HT3 := Lib.hid HT2
    have HK2 := Lib.hid (HBk.out.s0 4)
    clear HT2 HT
    go_enter Try.func32, Try.ntmps32
    go_wp2
    go_ret
    have hI := HI.out
    rw [HT3.out] at hI ⊢
    refine ⟨4, _, pv, a, b, rv, S, by rw [HE.out]; rfl, HK2.out, fun _ => ⟨at_kind_fin, hI, ?_, vs, R, ?_⟩, hS, HS.out.le (Chg.set _ _ _ _).size, (Chg.refl _ _).more _ _ _ hS, fun k hk => Or.inl hk⟩
    · unfold heldN; rw [HF.out, HTk.out]; rfl
    · exact (HM.out.chg HS.out (Chg.set _ _ _ _) fun k _ hk e => hk e).same (by rw [HP.out]; rfl) rfl
  · have t0 : ((c : Int) == 0) = false := by rw [beq_eq_false_iff_ne]; omega
    have HT2 := HT.out
    rw [if_neg c0] at HT2
    by_cases c9 : 9 < c
    · have t9 : decide ((9 : Int) < (c : Int)) = true := decide_eq_true (by omega)
      rw [if_pos (Or.inr c9)] at HT2
      have HT3 := Lib.hid HT2
      clear HT2 HT
      go_enter Try.func32, Try.ntmps32
      go_wp2
      go_ret
      rw [HT3.out]
      exact ⟨1, _, pv, a, b, rv, S, rfl, HBk.out, fun h => absurd h (by simp), hS, HS.out, Chg.refl _ _, fun k hk => Or.inl hk⟩
    · have t9 : decide ((9 : Int) < (c : Int)) = false := decide_eq_false (by omega)
      have HLk := Lib.hid (lastKind_any p _ _ _ _ _ _ _ _ _ vs s.l w HBk.out HM.out.row HM.out.secs.here (by omega))
      rw [← HLa.out] at HLk
      by_cases cl : c ≤ s.last
      · have tl : decide (c ≤ s.last) = true := decide_eq_true cl
        rw [if_pos (Or.inl cl)] at HT2
        have HT3 := Lib.hid HT2
        clear HT2 HT cl
        generalize s.last = L at *
        go_enter Try.func32, Try.ntmps32
        go_wp2_with fail
        refine HLk.out.mono ?_
        rintro e w1 ⟨rfl, hb1⟩
        have HB1 := Lib.hid hb1
        clear hb1
        go_wp2
        go_ret
        rw [HT3.out]
        exact ⟨1, _, pv, a, b, rv, S, rfl, Blk.below HBk.out HB1.out HBk.out.lt, fun h => absurd h (by simp), hS, HS.out.le HB1.out.size, Chg.of_below HB1.out, fun k hk => Or.inl hk⟩
      · have tl : decide (c ≤ s.last) = false := decide_eq_false cl
        rw [if_neg (by omega)] at HT2
        have HT3 := Lib.hid HT2
        clear HT2 HT cl
        generalize s.last = L at *
        go_enter Try.func32, Try.ntmps32
        go_wp2_with fail
        refine HLk.out.mono ?_
        rintro e w1 ⟨rfl, hb1⟩
        have hb2 : Below w.heap.size w (w1.alloc (.cells #[.int .u8 (c : Int)] 5)) := new_alloc hb1 _
        have hm2 := HM.out.chg HS.out (Chg.of_below (D := fun _ => False) hb2) fun _ _ _ h => h
        have hs2 := HS.out.le hb2.size
        have HB2 := Lib.hid hb2
        have HM2 := Lib.hid hm2
        have HS2 := Lib.hid hs2
        have HHo := Lib.hid (hold_any p _ _ (heldN s) pv _ _ rv _ _ _ _ 1 1 [c] _ (Blk.below HBk.out hb2 HBk.out.lt) hm2.part hm2.apart (Has.one w1 _ _) (by decide) (by rw [HP.out]; decide) (by omega))
        clear hb1 hb2 hm2 hs2
        go_wp2_with fail
        refine HHo.out.mono ?_
        rintro e w3 ⟨rfl, pv3, k3, ho3, hc3, hw3⟩
        have x0 := k3.c0
        have f3 := k3.fz 0
        have K4 := Lib.hid (k3.s0 2)
        have HO3 := Lib.hid ho3
        have HC3 := Lib.hid hc3
        have HW3 := Lib.hid hw3
        clear k3 ho3 hc3 hw3 HHo
        go_wp2
        go_ret
        have hI := HI.out
        rw [HT3.out] at hI ⊢
        have hpo : partOf { s with all := s.all + 1, took := [c] } = partOf s ++ [c] := by rw [HP.out]; unfold partOf; rw [HF.out]; rfl
        have hm4 := HM2.out.held (s' := { s with all := s.all + 1, took := [c] }) HS2.out hS (by rw [hpo]; exact HO3.out) HC3.out HW3.out rfl
        have hs4 := sit_more HS2.out HC3.out.size HO3.out
        refine ⟨2, _, pv3, a, b, rv, _, by rw [HE.out]; rfl, K4.out, fun _ => ⟨HN.out c, hI, ?_, vs, R, (hm4.chg hs4 (Chg.set _ _ _ _) fun k _ hk e => hk e).same rfl rfl⟩, Or.inl hS, hs4.le (Chg.set _ _ _ _).size, ?_, ?_⟩
        · unfold heldN; simp only; rw [HF.out, HTk.out]; simp; omega
        · refine ((Chg.of_below HB2.out).then_ HC3.out ?_).more _ _ _ hS
          rintro k _ (rfl | hk)
          · exact hS
          · exact (HM2.out.pblk k hk).1
        · rintro k (hk | hk)
          · exact Or.inl hk
          · rcases HW3.out k hk with h | h
            · exact Or.inl (HM2.out.pblk k h).1
            · exact Or.inr (Nat.le_trans HB2.out.size h)

theorem wrap_small {x : Nat} (h : x ≤ 1000000000) : IntKind.i64.wrap (x : Int) = (x : Int) := by rw [IntKind.wrap_i64]; omega

set_option maxRecDepth 100000 in
set_option maxHeartbeats 1000000 in
theorem takeSize_any (p : Nat) (S : Nat → Prop) (s : St) (c : Nat) (hd : Int) (pv : Value) (a b : Nat) (rv : Value) (w : World) (hB : FB w p (2 : Nat) s.all hd pv a b rv 0 false) (hL : Live w p S s 2 hd pv a b rv) (he : s.e = 0) (hc : c < 256) (hS : S p) (hs : Sit S w.heap.size) (hal : s.all ≤ 90000) :
    Calls Try.prog 33 #[.pointer (some ⟨p, 0, none⟩), .int .u8 (c : Int)] w (Took w p S s.all (stepN s c)) := by
  have hst := at_size (c := c) hL.at_ he
  have hfin := (hL.at_.body (by omega) (by omega)).2
  have hiv := stepN_inv hL.inv hc he
  have hhd := hL.held
  have hho := hL.inv.hold
  have hhe : heldN s = s.took.length + (s.l.map fun x => x.2.length).sum := by unfold heldN; rw [hfin]; rfl
  have hpt : partOf s = s.took := by unfold partOf; rw [hfin]; rfl
  have hmo := fun h => at_size_more (c := c) hL.at_ h
  have hnx := fun h0 h1 => at_size_next (c := c) hL.at_ h0 h1
  have hby := bytes_snoc hL.inv.byte hc
  obtain ⟨vs, R, hm⟩ := hL.mem
  have hgz := get_zero (s.took ++ [c]) 1
  have hgm : (get (s.took ++ [c]) 1).2.1 ≤ 100000 := by
    by_cases h0 : (get (s.took ++ [c]) 1).2.2 = 0
    · have := (get_moves (bs := s.took ++ [c]) (k := 1) h0).2
      rw [List.length_append, List.length_singleton] at this
      exact Nat.le_trans this (by omega)
    · rw [(hgz h0).2]; omega
  have HM := Lib.hid hm
  have HI := Lib.hid hiv
  have HT := Lib.hid hst
  have HBk := Lib.hid hB
  have HS := Lib.hid hs
  have HE := Lib.hid he
  have HP := Lib.hid hpt
  have HF := Lib.hid hfin
  have HMo := Lib.hid hmo
  have HNx := Lib.hid hnx
  have HHe := Lib.hid hhe
  have HBy := Lib.hid hby
  subst hhd
  have hb2 : Below w.heap.size w (w.alloc (.cells #[.int .u8 (c : Int)] 5)) := new_alloc (Below.refl _ _) _
  have hm2 := hm.chg hs (Chg.of_below (D := fun _ => False) hb2) fun _ _ _ h => h
  have hs2 := hs.le hb2.size
  have HB2 := Lib.hid hb2
  have HM2 := Lib.hid hm2
  have HS2 := Lib.hid hs2
  have hlen : (partOf s).length ≤ 1000000 := by rw [hpt]; omega
  have HHo := Lib.hid (hold_any p _ _ (heldN s) pv _ _ rv _ _ _ _ 1 1 [c] _ (Blk.below HBk.out hb2 HBk.out.lt) hm2.part hm2.apart (Has.one w _ _) (by decide) hlen (by omega))
  rw [HP.out] at HHo
  have HLe : Hid ((s.took ++ [c]).length ≤ 100000) := by show _ ≤ _; rw [List.length_append, List.length_singleton]; omega
  clear hgz hiv hst hB hs he hpt hfin hmo hnx hhe hby hm hb2 hm2 hs2 hlen hho hL
  go_enter Try.func33, Try.ntmps33
  go_wp2_with fail
  refine HHo.out.mono ?_
  rintro e w3 ⟨rfl, pv3, k3, ho3, hc3, hw3⟩
  have x3 := k3.c3
  have HO3 := Lib.hid ho3
  have hpo : partOf { s with all := s.all + 1, took := s.took ++ [c] } = s.took ++ [c] := by unfold partOf; simp only; rw [HF.out]; rfl
  have HM3 := Lib.hid (HM2.out.held (s' := { s with all := s.all + 1, took := s.took ++ [c] }) HS2.out hS (by rw [hpo]; exact ho3) hc3 hw3 rfl)
  have HS3 := Lib.hid (sit_more HS2.out hc3.size ho3)
  have HC3 : Hid (Chg S w w3) := (Chg.of_below HB2.out).then_ hc3 (by
    rintro k _ (rfl | hk)
    · exact hS
    · exact (HM2.out.pblk k hk).1)
  have HW3 : Hid (∀ k, (S k ∨ pv3.ownBlock = some k) → S k ∨ w.heap.size ≤ k) := by
    rintro k (hk | hk)
    · exact Or.inl hk
    · rcases hw3 k hk with h | h
      · exact Or.inl (HM2.out.pblk k h).1
      · exact Or.inr (Nat.le_trans HB2.out.size h)
  have HH3 : Hid (((heldN s + 1 : Nat) : Int) = (heldN { s with all := s.all + 1, took := s.took ++ [c] } : Int)) := by
    show _ = _
    rw [HHe.out]; unfold heldN; simp only; rw [HF.out]; simp; omega
  obtain ⟨A3, c3, rfl, hh3⟩ := ho3.has
  rw [u8s_len] at hh3
  have HG := Lib.hid (get_any A3 _ c3 (s.took ++ [c]) 1 w3 hh3 HBy.out (by have := HLe.out; omega))
  have K3 := Lib.hid k3
  rw [u8s_len] at *
  have y0 := k3.c0
  have y4 := k3.c4
  have y5 := k3.c5
  have f0 := k3.fz 0
  have f4 := k3.fz 4
  have f5 := k3.fz 5
  clear k3 ho3 hc3 hw3 HHo hh3
  generalize (s.took ++ [c]).length = N at *
  generalize hg1 : (get (s.took ++ [c]) 1).1 = V at *
  generalize hg2 : (get (s.took ++ [c]) 1).2.1 = F at *
  generalize hg3 : (get (s.took ++ [c]) 1).2.2 = E at *
  have HG3 := Lib.hid hg3
  have HG1 := Lib.hid hg1
  clear hg1 hg2 hg3
  go_wp2_with fail
  refine HG.out.mono ?_
  rintro e w4 ⟨rfl, rfl⟩
  clear HG
  by_cases e10 : E = 10
  · subst e10
    have HT2 := HT.out
    rw [if_pos rfl] at HT2
    have HT3 := Lib.hid HT2
    clear HT2 HT
    go_wp2
    go_ret
    have hI := HI.out
    rw [HT3.out] at hI ⊢
    exact ⟨2, _, _, a, b, rv, _, by rw [HE.out]; rfl, K3.out, fun _ => ⟨HMo.out trivial, hI, HH3.out, vs, R, HM3.out⟩, Or.inl hS, HS3.out, HC3.out, HW3.out⟩
  · have t10 : ((E : Int) == 10) = false := by rw [beq_eq_false_iff_ne]; omega
    have HT2 := HT.out
    rw [if_neg e10] at HT2
    by_cases e0 : E = 0
    · subst e0
      rw [if_neg (by simp)] at HT2
      by_cases hv : 1048576 < V
      · rw [if_pos hv] at HT2
        have tv : decide ((1048576 : Int) < (V : Int)) = true := decide_eq_true (by omega)
        have HT3 := Lib.hid HT2
        clear HT2 HT
        go_wp2
        go_ret
        rw [HT3.out]
        exact ⟨2, _, _, a, b, rv, _, rfl, K3.out, fun h => absurd h (by simp), Or.inl hS, HS3.out, HC3.out, HW3.out⟩
      · rw [if_neg hv] at HT2
        have tv : decide ((1048576 : Int) < (V : Int)) = false := decide_eq_false (by omega)
        have HT3 := Lib.hid HT2
        have hwv := wrap_small (x := V) (by omega)
        have k4 := K3.out.s4 F
        have k5 := k4.s5 ((F + V + 4 : Nat) : Int)
        have K6 := Lib.hid (k5.s0 3)
        have z5 := k4.c5
        have z0 := k5.c0
        have g5 := k4.fz 5
        have g0 := k5.fz 0
        clear HT2 HT k4 k5
        go_wp2
        go_ret
        have hI := HI.out
        rw [HT3.out] at hI ⊢
        refine ⟨3, _, _, F, F + V + 4, rv, _, by rw [HE.out]; rfl, by have := K6.out; simp only [Int.natCast_add] at this; exact this, fun _ => ⟨?_, hI, HH3.out, vs, R, ?_⟩, Or.inl hS, ?_, ?_, HW3.out⟩
        · have := HNx.out trivial hv
          exact this
        · exact ((HM3.out.chg HS3.out (Chg.set _ _ _ _) fun k _ hk e => hk e).chg (HS3.out.le (Chg.set _ _ _ _).size) (Chg.set _ _ _ _) fun k _ hk e => hk e).chg ((HS3.out.le (Chg.set _ _ _ _).size).le (Chg.set _ _ _ _).size) (Chg.set _ _ _ _) fun k _ hk e => hk e
        · exact ((HS3.out.le (Chg.set _ _ _ _).size).le (Chg.set _ _ _ _).size).le (Chg.set _ _ _ _).size
        · exact ((HC3.out.more _ _ _ hS).more _ _ _ hS).more _ _ _ hS
    · rw [if_pos e0] at HT2
      have te : ((E : Int) != 0) = true := by rw [bne_iff_ne]; omega
      have HT3 := Lib.hid HT2
      clear HT2 HT
      go_wp2
      go_ret
      rw [HT3.out]
      exact ⟨2, _, _, a, b, rv, _, rfl, K3.out, fun h => absurd h e0, Or.inl hS, HS3.out, HC3.out, HW3.out⟩
end Go.Proofs.Ytdheppfooapneaa
