/- The landed mesh: Turned: the walk. -/
import Derived.Test.YtckjmnbglbegmaaDoorMeshCodeO
namespace Go.Proofs.YtckjmnbglbegmaaDoor
open Go.RowKit

theorem mesh_none (w : World) {wl : World} {a b : Value} (hk : MeshTwo w a b (.slice none 0 0) (.slice none 0 0) wl) (r : Int) (u v : Value) (hu : u = .slice none 0 0) (hv : v = .slice none 0 0) : MeshOut w [] [] (fun x => .returned (.tuple #[x, .int .i64 r])) (.returned (.tuple #[.agg #[.slice none 0 0, .slice none 0 0], .int .i64 r])) ((wl.setCell ⟨w.heap.size + 1, 0, none⟩ u).setCell ⟨w.heap.size + 1, 1, none⟩ v) ∧
    Blk ((wl.setCell ⟨w.heap.size + 1, 0, none⟩ u).setCell ⟨w.heap.size + 1, 1, none⟩ v) (w.heap.size + 1) 25 #[.slice none 0 0, .slice none 0 0] := by
  subst hu hv
  exact ⟨⟨none, 0, none, 0, rfl, OwnK.nil _ _ _ _, OwnK.nil _ _ _ _, (hk.bel.setCell (Nat.le_succ _) _).setCell (Nat.le_succ _) _, fun b off b' off' e => by cases e⟩, (hk.b1.set_ 0 _).set_ 1 _⟩
/-- What Turned holds while it turns. -/
structure TurnAt (w : World) (a b : Value) (G : Nat) (Ap At : Option Addr) (n cp m ct : Nat) (P L : List P3) (wx : World) : Prop where
  two : MeshTwo w a b (.slice none 0 0) (.slice none 0 0) wx
  own : Blk wx G 25 #[.slice Ap n cp, .slice At m ct]
  pts : OwnK 3 wx (w.heap.size + 2) 55 (.slice Ap n cp) n (p3Cells P)
  tri : OwnK 3 wx (w.heap.size + 2) 46 (.slice At m ct) m (p3Cells L)
  low : ∀ g off, At = some ⟨g, off, none⟩ → g < G
  gap : ∀ b off b' off', Ap = some ⟨b, off, none⟩ → At = some ⟨b', off', none⟩ → b ≠ b'
  big : w.heap.size + 2 ≤ G
theorem TurnAt.next {w wx w' : World} {a b : Value} {G : Nat} {Ap At : Option Addr} {n cp m ct : Nat} {P L : List P3} (h : TurnAt w a b G Ap At n cp m ct P L wx) (hb : Below wx.heap.size wx w') : TurnAt w a b G Ap At n cp m ct P L w' :=
  ⟨h.two.next hb, h.own.below hb h.own.lt, h.pts.keep hb, h.tri.keep hb, h.low, h.gap, h.big⟩
theorem TurnAt.put {w wx : World} {a b : Value} {G : Nat} {Ap : Option Addr} {g n cp m ct : Nat} {P L L' : List P3} (h : TurnAt w a b G Ap (some ⟨g, 0, none⟩) n cp m ct P L wx) (j : Nat) (x : Int) (hs : (p3Cells L).set j (.int .i64 x) = p3Cells L') : TurnAt w a b G Ap (some ⟨g, 0, none⟩) n cp m ct P L' (wx.setCell ⟨g, j, none⟩ (.int .i64 x)) := by
  have hg := (World.ownsRow.lt h.tri g rfl).1
  have hlow := h.low g 0 rfl
  refine ⟨⟨h.two.b0.far (by show w.heap.size ≠ g; omega) _, h.two.b1.far (by show w.heap.size + 1 ≠ g; omega) _, h.two.bel.setCell (by show w.heap.size ≤ g; omega) _⟩, h.own.far (by show G ≠ g; omega) _, h.pts.far (fun q c e => ?_) _, ?_, h.low, h.gap, h.big⟩
  · cases e
    exact h.gap q 0 g 0 rfl rfl
  · have := (World.ownsRow.stored h.tri j (.int .i64 x)).1
    rw [hs] at this
    exact this
set_option maxRecDepth 100000 in
set_option maxHeartbeats 4000000 in
theorem meshTurned_any (A : Option Addr) (n c : Nat) (P : List P3) (B : Option Addr) (m d : Nat) (T : List P3) (C : Option Addr) (k f : Nat) (l : List Int) (r : Int) (w : World) (hbe : BehW w) (hp : HasK 3 w A n c (p3Cells P)) (ht : HasK 3 w B m d (p3Cells T)) (hl : Has w C k f (intVs l)) (hn : n ≤ 100000) (hm : m ≤ 100000) (hk : k ≤ 9223372036854775807) (hr : CheckIs P T r) : Calls Tryd.prog 24 #[.agg #[.slice A n c, .slice B m d], .slice C k f] w (MeshOut w (turnedF P T l r).1 (turnedF P T l r).2.1 fun v => .returned (.tuple #[v, .int .i64 (turnedF P T l r).2.2])) := by
  have HL : Hid (P.length = n) := by have := hp.len; rw [p3Cells_len] at this; show _ = _; omega
  have HM : Hid (T.length = m) := by have := ht.len; rw [p3Cells_len] at this; show _ = _; omega
  have HKl : Hid (l.length = k) := by have := hl.len; rw [intVs_len] at this; exact this
  have HK0 := Lib.hid (MeshTwo.new w (.slice A n c) (.slice B m d) (.slice none 0 0) (.slice none 0 0))
  have HBe := Lib.hid hbe
  have HLs := Lib.hid hl
  have HTs := Lib.hid ht
  have HCk := Lib.hid (meshCheck_any A n c P B m d T r _ (hbe.kept HK0.out.bel) (hp.kept HK0.out.bel) (ht.kept HK0.out.bel) hn hm hr)
  have HCp := Lib.hid (fun W (hW : Below w.heap.size w W) => meshCopy_any A n c P B m d T W (hp.kept hW) (ht.kept hW) hn hm)
  have m0 := HK0.out.b0.cell 0
  have m1 := HK0.out.b0.cell 1
  obtain ⟨kz, ks⟩ := zero_of_info meshInfo
  clear hp ht hl hbe hr
  by_cases h0 : r = 0
  · subst h0
    have t0 : ((0 : Int) != 0) = false := rfl
    by_cases hkm : k = m
    · subst hkm
      have t1 : ((k : Int) != (k : Int)) = false := by simp
      have HCo := Lib.hid (fun W (hW : Below w.heap.size w W) => containsCorn_any C k f l W (HLs.out.kept hW) hm)
      have HBy : Hid (bysOk T l = l.all cornB) := by
        show _ = _
        unfold bysOk
        rw [decide_eq_true (by rw [HKl.out, HM.out]), Bool.true_and]
        rfl
      cases hall : l.all cornB with
      | false =>
        have HTn : Hid (turnedF P T l 0 = ([], [], 2)) := by show _ = _; unfold turnedF; rw [if_pos rfl, HBy.out, hall]; rfl
        rw [HTn.out]
        rw [hall] at HCo
        clear hall HBy HTn
        go_enter Tryd.func24, Tryd.ntmps24
        go_wp2_with fail
        refine HCk.out.mono ?_
        rintro e w1 ⟨rfl, hb1⟩
        have HK1 := Lib.hid (HK0.out.next hb1)
        clear hb1 m0 m1 HCk
        have m1 := HK1.out.b0.cell 1
        have HCo1 := Lib.hid (HCo.out _ HK1.out.bel)
        go_wp2_with fail
        refine HCo1.out.mono ?_
        rintro e w2 ⟨rfl, rfl⟩
        have k0 := HK1.out.b1.cell 0
        have k1 := HK1.out.b1.cell 1
        have f0 := HK1.out.b1.frozen 0
        have f1 := HK1.out.b1.frozen 1
        have hE := mesh_none w HK1.out 2 (.slice none 0 0) (.slice none 0 0) rfl rfl
        have HE := Lib.hid hE
        clear hE
        go_wp2
        try rw [Exit.noGoto_ret]
        exact bodyPost_ret (results_pairM Tryd.results24 rfl rfl (mesh_load _ _ _ _ HE.out.2)) rfl HE.out.1
      | true =>
        have HTn : Hid (turnedF P T l 0 = (P, turnsT T (l.map Int.toNat), 0)) := by show _ = _; unfold turnedF; rw [if_pos rfl, HBy.out, hall]; rfl
        rw [HTn.out]
        have HAl := Lib.hid hall
        rw [hall] at HCo
        clear hall HBy HTn
        have HLb : Hid ((l.map Int.toNat).length = T.length) := by show _ = _; rw [List.length_map, HKl.out, HM.out]
        have HLi : Hid (∀ i, ∀ hi : i < l.length, ∃ b : Nat, l[i] = (b : Int) ∧ b < 3 ∧ (l.map Int.toNat)[i]? = some b) := fun i hi => by
          have h1 := List.all_eq_true.1 HAl.out _ (List.getElem_mem hi)
          unfold cornB at h1
          rw [Bool.and_eq_true, decide_eq_true_eq, decide_eq_true_eq] at h1
          refine ⟨l[i].toNat, by omega, by omega, ?_⟩
          rw [List.getElem?_map, List.getElem?_eq_getElem hi]
          rfl
        generalize l.map Int.toNat = lb at *
        go_enter Tryd.func24, Tryd.ntmps24
        go_wp2_with fail
        refine HCk.out.mono ?_
        rintro e w1 ⟨rfl, hb1⟩
        have HK1 := Lib.hid (HK0.out.next hb1)
        clear hb1 m0 m1 HCk
        have m0 := HK1.out.b0.cell 0
        have m1 := HK1.out.b0.cell 1
        have HCo1 := Lib.hid (HCo.out _ HK1.out.bel)
        go_wp2_with fail
        refine HCo1.out.mono ?_
        rintro e w2 ⟨rfl, rfl⟩
        go_wp2_with fail
        refine (HCp.out _ HK1.out.bel).mono ?_
        rintro e w3 ⟨Ap, cp, At, ct, rfl, hop, hot, hb3, hgap⟩
        rw [HL.out] at hop
        rw [HM.out] at hot
        have hz1 : w.heap.size + 2 ≤ w1.heap.size := HK1.out.b1.lt
        have HTa : Hid (TurnAt w (.slice A n c) (.slice B k d) w3.heap.size Ap At n cp k ct P T (w3.alloc (.cells #[.slice Ap n cp, .slice At k ct] 25))) :=
          ⟨(HK1.out.next hb3).next (new_alloc (Below.refl _ _) _), Blk.new w3 _ _, (hop.less hz1).alloc _, (hot.less hz1).alloc _, fun g off e => by
            subst e
            rcases hot.2 with ⟨h, _⟩ | ⟨g', cap', cur', h, _, hc, _⟩
            · cases h
            · cases h; exact (Array.getElem?_eq_some_iff.1 hc).1, hgap, Nat.le_trans hz1 hb3.size⟩
        have hpl : P.length = n := HL.out
        have htl : T.length = k := HM.out
        rw [hpl, htl]
        clear hop hot hb3 hgap hz1 m0 m1 hpl htl HCo HCo1 HCp
        have m0 := HTa.out.two.b0.cell 0
        have m1 := HTa.out.two.b0.cell 1
        go_wp2
        generalize w3.alloc (.cells #[.slice Ap n cp, .slice At k ct] 25) = W at *
        generalize w3.heap.size = G at *
        clear m0 m1
        rw [← turnTo_zero T lb] at HTa
        go_loopg [33] k (fun g s33 wx => ∃ i : Nat, i + g = k ∧ s33 = .int .i64 i ∧ Hid (TurnAt w (.slice A n c) (.slice B k d) G Ap At n cp k ct P (turnTo T lb i) wx))
        case atStart => exact ⟨0, by omega, rfl, HTa⟩
        case round =>
          clear HTa
          obtain ⟨i, hig, rfl, HTa⟩ := hrel
          by_cases hi : i < k
          · have ti : decide ((i : Int) < (k : Int)) = true := by simp; omega
            have i2 : (i : Int) < (k : Int) := by omega
            have hil : i < T.length := by rw [HM.out]; exact hi
            have hil2 : i < l.length := by rw [HKl.out]; exact hi
            obtain ⟨bT, oT, rfl, _, _⟩ := (HTs.out.kept HTa.out.two.bel).spot (by omega)
            obtain ⟨c0, c1, c2⟩ := p3_at (HTs.out.kept HTa.out.two.bel) hil
            obtain ⟨bC, oC, rfl, _, _⟩ := (HLs.out.kept HTa.out.two.bel).spot (by omega)
            obtain ⟨bn, hbn, hbn3, hlb⟩ := HLi.out i hil2
            have HCx : Hid (∀ W', Below w.heap.size w W' → W'.cell? ⟨bC, oC + i, none⟩ = some (.int .i64 (bn : Int))) := fun W' hW' => by
              obtain ⟨b', o', e, _, hc⟩ := (HLs.out.kept hW').spot (by omega)
              cases e
              have := hc i _ (intVs_at hil2)
              rw [hbn] at this
              exact this
            obtain ⟨g, cg, hAt, _, _⟩ := own3_form HTa.out.tri (by omega)
            obtain ⟨rfl, _⟩ : At = some ⟨g, 0, none⟩ ∧ True := by cases hAt; exact ⟨rfl, trivial⟩
            obtain ⟨hn1, hn2⟩ := turnTo_next HLb.out hil
            have hg1 : lb[i]'(by rw [HLb.out]; exact hil) = bn := by
              rw [List.getElem?_eq_getElem (by rw [HLb.out]; exact hil)] at hlb
              exact Option.some.inj hlb
            rw [hg1] at hn1
            have HN1 := Lib.hid hn1
            have HN2 := Lib.hid hn2
            have HLn : Hid (i < (turnTo T lb i).length) := by show _ < _; rw [turnTo_len HLb.out (by omega)]; exact hil
            clear hAt hn1 hn2 hg1 hlb hbn
            generalize T[i] = t at *
            obtain ⟨x, y, z⟩ := t
            simp only at c0 c1 c2
            have HKt := Lib.hid (Blk.new wr 46 #[.int .i64 x, .int .i64 y, .int .i64 z])
            have HTb : Hid (TurnAt w (.slice A n c) (.slice (some ⟨bT, oT, none⟩) k d) G Ap (some ⟨g, 0, none⟩) n cp k ct P ((turnTo T lb i).set i (mixT bn (x, y, z) 0)) (wr.alloc (.cells #[.int .i64 x, .int .i64 y, .int .i64 z] 46))) := by
              show TurnAt _ _ _ _ _ _ _ _ _ _ _ _ _
              rw [mix_zero, HN2.out]
              exact HTa.out.next (new_alloc (Below.refl _ _) _)
            have HGg : Hid (g < wr.heap.size) := (World.ownsRow.lt HTa.out.tri g rfl).2
            clear hil hil2 HTa HN2
            go_wp2
            generalize wr.alloc (.cells #[.int .i64 x, .int .i64 y, .int .i64 z] 46) = W2 at *
            generalize wr.heap.size = G9 at *
            clear c0 c1 c2
            try rw [ti]
            go_loopg [38] 3 (fun gg s38 wx => ∃ q : Nat, q + gg = 3 ∧ s38 = .int .i64 q ∧ Hid (Blk wx G9 46 #[.int .i64 x, .int .i64 y, .int .i64 z]) ∧ Hid (TurnAt w (.slice A n c) (.slice (some ⟨bT, oT, none⟩) k d) G Ap (some ⟨g, 0, none⟩) n cp k ct P ((turnTo T lb i).set i (mixT bn (x, y, z) q)) wx))
            case atStart => exact ⟨0, by omega, rfl, HKt, HTb⟩
            case round =>
              clear HKt HTb
              obtain ⟨q, hqg, rfl, HKt, HTb⟩ := hrel
              by_cases hq : q < 3
              · have tq : decide ((q : Int) < 3) = true := by simp; omega
                have q2 : (q : Int) < 3 := by omega
                have b2 : (bn : Int) < 3 := by omega
                have b1 := (HBe.out.kept HTb.out.two.bel) bn q hbn3 hq
                have cx := HCx.out _ HTb.out.two.bel
                have o1 := HTb.out.own.cell 1
                have hms := mix_set (b := bn) hq (x, y, z) (turnTo T lb i) i HLn.out
                obtain ⟨j, hj⟩ : ∃ j, (bn + q) % 3 = j := ⟨_, rfl⟩
                have hj3 : j < 3 := by omega
                rw [hj] at b1 hms
                have cj := t3_blk HKt.out hj3
                have j2 : (j : Int) < 3 := by omega
                have hlen : i * 3 + q < (p3Cells ((turnTo T lb i).set i (mixT bn (x, y, z) q))).length := by
                  have := HLn.out
                  rw [p3Cells_len, List.length_set]
                  omega
                have cg1 : ∃ u, wr.cell? ⟨g, i * 3 + q, none⟩ = some u := ⟨_, (World.ownsRow.cellAt HTb.out.tri (i * 3 + q) (by have := HTb.out.tri.1; omega)).trans (List.getElem?_eq_getElem hlen)⟩
                obtain ⟨ug, cg1⟩ := cg1
                have fg := World.ownsRow.frozenAt HTb.out.tri (i * 3 + q)
                generalize at3 (x, y, z) j = v at *
                have HTc := Lib.hid ((HTb.out.put (i * 3 + q) v hms).next (Below.refl _ _).drew)
                have HKc : Hid (Blk (wr.setCell ⟨g, i * 3 + q, none⟩ (.int .i64 v)).drew G9 46 #[.int .i64 x, .int .i64 y, .int .i64 z]) := HKt.out.far (Nat.ne_of_gt HGg.out) _
                clear hms hlen hj
                go_wp2
                go_region
                all_goals
                  go_wp2
                  go_roundg (gk - 1)
                  case measure => omega
                  case rel => exact ⟨q + 1, by omega, by go_num, HKc, HTc⟩
              · have tq : decide ((q : Int) < 3) = false := by simp; omega
                have hq3 : q = 3 := by omega
                subst hq3
                rw [mix_three hbn3, HN1.out] at HTb
                go_wp2
                go_roundg (k - (i + 1))
                case measure => omega
                case rel => exact ⟨i + 1, by omega, by go_num, HTb⟩
          · have ti : decide ((i : Int) < (k : Int)) = false := by simp; omega
            have hE : i = T.length := by rw [HM.out]; omega
            subst hE
            rw [turnTo_end HLb.out] at HTa
            have o0 := HTa.out.own.cell 0
            have o1 := HTa.out.own.cell 1
            have k0 := HTa.out.two.b1.cell 0
            have k1 := HTa.out.two.b1.cell 1
            have f0 := HTa.out.two.b1.frozen 0
            have f1 := HTa.out.two.b1.frozen 1
            go_wp2
            try rw [Exit.noGoto_ret]
            have hE := copy_end (f := fun v => .returned (.tuple #[v, .int .i64 0])) HL.out ((turns_len HLb.out).trans HM.out) HTa.out.two HTa.out.pts HTa.out.tri HTa.out.gap
            exact bodyPost_ret (results_pairM Tryd.results24 rfl rfl (mesh_load _ _ _ _ hE.2)) rfl hE.1
    · have t1 : ((k : Int) != (m : Int)) = true := bne_iff_ne.2 (by omega)
      have HTn : Hid (turnedF P T l 0 = ([], [], 2)) := by
        show _ = _
        unfold turnedF bysOk
        rw [if_pos rfl, decide_eq_false (by rw [HKl.out, HM.out]; exact hkm)]
        rfl
      rw [HTn.out]
      clear HTn hkm
      go_enter Tryd.func24, Tryd.ntmps24
      go_wp2_with fail
      refine HCk.out.mono ?_
      rintro e w1 ⟨rfl, hb1⟩
      have HK1 := Lib.hid (HK0.out.next hb1)
      clear hb1 m0 m1 HCk
      have m1 := HK1.out.b0.cell 1
      have k0 := HK1.out.b1.cell 0
      have k1 := HK1.out.b1.cell 1
      have f0 := HK1.out.b1.frozen 0
      have f1 := HK1.out.b1.frozen 1
      have hE := mesh_none w HK1.out 2 (.slice none 0 0) (.slice none 0 0) rfl rfl
      have HE := Lib.hid hE
      clear hE
      go_wp2
      try rw [Exit.noGoto_ret]
      exact bodyPost_ret (results_pairM Tryd.results24 rfl rfl (mesh_load _ _ _ _ HE.out.2)) rfl HE.out.1
  · have t0 : (r != 0) = true := bne_iff_ne.2 h0
    have HTn : Hid (turnedF P T l r = ([], [], r)) := if_neg h0
    rw [HTn.out]
    clear HTn h0
    go_enter Tryd.func24, Tryd.ntmps24
    go_wp2_with fail
    refine HCk.out.mono ?_
    rintro e w1 ⟨rfl, hb1⟩
    have HK1 := Lib.hid (HK0.out.next hb1)
    clear hb1 m0 m1 HCk
    have k0 := HK1.out.b1.cell 0
    have k1 := HK1.out.b1.cell 1
    have f0 := HK1.out.b1.frozen 0
    have f1 := HK1.out.b1.frozen 1
    have hE := mesh_none w HK1.out r (.slice none 0 0) (.slice none 0 0) rfl rfl
    have HE := Lib.hid hE
    clear hE
    go_wp2
    try rw [Exit.noGoto_ret]
    exact bodyPost_ret (results_pairM Tryd.results24 rfl rfl (mesh_load _ _ _ _ HE.out.2)) rfl HE.out.1
end Go.Proofs.YtckjmnbglbegmaaDoor
