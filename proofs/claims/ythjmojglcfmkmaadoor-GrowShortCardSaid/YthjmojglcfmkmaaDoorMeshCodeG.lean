/- The landed mesh: all fans: the walk. -/
import Derived.Test.YthjmojglcfmkmaaDoorMeshCodeF
namespace Go.Proofs.YthjmojglcfmkmaaDoor
open Go.RowKit

/-- What allFans holds in blocks of its own. -/
structure FansAt (w : World) (n : Nat) (F : Nat → D2) (C : Nat → Nat) (wx : World) : Prop where
  bel : Below w.heap.size w wx
  fst : Blk wx w.heap.size 124 (firstA F n)
  cnt : Blk wx (w.heap.size + 1) 3 (cntA C n)
theorem FansAt.next {w wx w' : World} {n : Nat} {F : Nat → D2} {C : Nat → Nat} (h : FansAt w n F C wx) (hb : Below wx.heap.size wx w') : FansAt w n F C w' := ⟨new_call h.bel hb, h.fst.below hb h.fst.lt, h.cnt.below hb h.cnt.lt⟩
theorem FansAt.alloc {w wx : World} {n : Nat} {F : Nat → D2} {C : Nat → Nat} (h : FansAt w n F C wx) (o : Obj) : FansAt w n F C (wx.alloc o) := ⟨new_alloc h.bel o, h.fst.alloc o, h.cnt.alloc o⟩
theorem FansAt.new (w : World) (n : Nat) (F : Nat → D2) (C : Nat → Nat) : FansAt w n F C ((w.alloc (.cells (firstA F n) 124)).alloc (.cells (cntA C n) 3)) := by
  refine ⟨new_alloc (new_alloc (Below.refl _ _) _) _, (Blk.new w _ _).alloc _, ?_⟩
  have h := Blk.new (w.alloc (.cells (firstA F n) 124)) 3 (cntA C n)
  rw [show (w.alloc (.cells (firstA F n) 124)).heap.size = w.heap.size + 1 from Array.size_push _] at h
  exact h
theorem FansAt.putC {w wx : World} {n : Nat} {F : Nat → D2} {C : Nat → Nat} (h : FansAt w n F C wx) (v x : Nat) : FansAt w n F (updN C v x) (wx.setCell ⟨w.heap.size + 1, v, none⟩ (.int .i64 (x : Int))) :=
  ⟨h.bel.setCell (Nat.le_succ _) _, h.fst.far (Nat.ne_of_lt (Nat.lt_succ_self _)) _, by have := h.cnt.set_ v (.int .i64 (x : Int)); rw [cntA_set] at this; exact this⟩
theorem FansAt.putF {w wx : World} {n : Nat} {F : Nat → D2} {C : Nat → Nat} (h : FansAt w n F C wx) (v : Nat) (a b : Int) : FansAt w n (updN F v (a, b)) C ((wx.setCell ⟨w.heap.size, v * 2, none⟩ (.int .i64 a)).setCell ⟨w.heap.size, v * 2 + 1, none⟩ (.int .i64 b)) :=
  ⟨(h.bel.setCell (Nat.le_refl _) _).setCell (Nat.le_refl _) _, by have := (h.fst.set_ (v * 2) (.int .i64 a)).set_ (v * 2 + 1) (.int .i64 b); rw [firstA_set] at this; exact this, (h.cnt.far (Nat.ne_of_gt (Nat.lt_succ_self _)) _).far (Nat.ne_of_gt (Nat.lt_succ_self _)) _⟩
set_option maxRecDepth 100000 in
set_option maxHeartbeats 4000000 in
theorem allFans_any (b : Nat) (B : Option Addr) (m d n : Nat) (T : List P3) (R : Bool) (w : World) (hbe : BehW w) (hs : SidesW w b T) (ht : HasK 3 w B m d (p3Cells T)) (hall : T.all (triM n) = true) (hn : n ≤ 100000) (hm : m ≤ 100000) (hnd : (darts T).Nodup) (hR : R = true ↔ ∀ v : Nat, v < n → Fan T (v : Int)) : Calls Tryd.prog 66 #[.map (some b), .slice B m d, .int .i64 (n : Int)] w fun e w' => e = .returned (.bool R) ∧ Below w.heap.size w w' := by
  have HM : Hid (T.length = m) := by have := ht.len; rw [p3Cells_len] at this; show _ = _; omega
  have HT := Lib.hid ht
  have HBe := Lib.hid hbe
  have HS := Lib.hid hs
  have HAl := Lib.hid hall
  have HND := Lib.hid hnd
  have HR := Lib.hid hR
  have HEd := Lib.hid (fun w1 (hw : Below w.heap.size w w1) x y (hd : in64 (x, y)) => ends_any b n T x y w1 (hs.kept hw) hall hn hd)
  have HFa := Lib.hid (fun w1 (hw : Below w.heap.size w w1) x y (hd : (x, y) ∈ darts T) => fan_any b n T x y w1 (hs.kept hw) hall hn (by have := HM.out; omega) hnd hd)
  have HIn := Lib.hid (fun i k (hk : k < 3) => ent_in hall hn i k hk)
  have HF0 := Lib.hid (FansAt.new w n (fun _ => (0, 0)) (fun _ => 0))
  have hmk1 := fun W => run_makeFirst n hn W
  have hmk2 := fun W => run_makeCnt n hn W
  clear hbe hs ht hall hnd hR
  go_enter Tryd.func66, Tryd.ntmps66
  go_wp2
  generalize (w.alloc (.cells (firstA (fun _ => (0, 0)) n) 124)).alloc (.cells (cntA (fun _ => 0) n) 3) = W at *
  clear hmk1 hmk2
  go_loopg [22] m (fun g s22 wx => ∃ (i : Nat) (F : Nat → D2) (C : Nat → Nat), i + g = m ∧ s22 = .int .i64 i ∧ Hid (FansAt w n F C wx) ∧ Hid (FirstTo T n ((entsTo T i 0).map (·.1)) F C))
  case atStart => exact ⟨0, _, _, by omega, rfl, HF0, FirstTo.start T n⟩
  case round =>
    obtain ⟨i, F, C, hig, rfl, HF, HI⟩ := hrel
    by_cases hi : i < m
    · have ti : decide ((i : Int) < (m : Int)) = true := by simp; omega
      have i2 : (i : Int) < (m : Int) := by omega
      have hil : i < T.length := by rw [HM.out]; exact hi
      obtain ⟨b0, off, rfl, hlt, _⟩ := (HT.out.kept HF.out.bel).spot (by omega)
      obtain ⟨c0, c1, c2⟩ := p3_at (HT.out.kept HF.out.bel) hil
      have HEn : Hid (∀ k, (entAt T i k).1 = (at3 T[i] k, at3 T[i] ((k + 1) % 3))) := fun k => by
        unfold entAt
        rw [List.getElem?_eq_getElem hil]
        rfl
      have HTr := Lib.hid (tri_at.1 (List.all_eq_true.1 HAl.out _ (List.getElem_mem hil)))
      generalize T[i] = t at *
      obtain ⟨x, y, z⟩ := t
      simp only at c0 c1 c2
      have HKt := Lib.hid (Blk.new wr 58 #[.int .i64 x, .int .i64 y, .int .i64 z])
      have HF2 := Lib.hid (HF.out.alloc (.cells #[.int .i64 x, .int .i64 y, .int .i64 z] 58))
      have HG : Hid (w.heap.size + 1 < wr.heap.size) := HF.out.cnt.lt
      clear hil hlt
      go_wp2
      generalize wr.alloc (.cells #[.int .i64 x, .int .i64 y, .int .i64 z] 58) = W2 at *
      generalize wr.heap.size = G2 at *
      clear c0 c1 c2
      try rw [ti]
      go_loopg [27] 3 (fun g s27 wx => ∃ (k : Nat) (F : Nat → D2) (C : Nat → Nat), k + g = 3 ∧ s27 = .int .i64 k ∧ Hid (Blk wx G2 58 #[.int .i64 x, .int .i64 y, .int .i64 z]) ∧ Hid (FansAt w n F C wx) ∧ Hid (FirstTo T n ((entsTo T i k).map (·.1)) F C))
      case atStart => exact ⟨0, F, C, by omega, rfl, HKt, HF2, HI⟩
      case round =>
        clear HF HI HF2 HKt F C
        obtain ⟨k, F, C, hkg, rfl, HKt, HF, HI⟩ := hrel
        by_cases hk : k < 3
        · have tk : decide ((k : Int) < 3) = true := by simp; omega
          have k2 : (k : Int) < 3 := by omega
          have b1 := (HBe.out.kept HF.out.bel).one hk
          have HInk := Lib.hid (HIn.out i k hk)
          have HEk := Lib.hid (HEn.out k)
          have HNx : Hid ((entsTo T i (k + 1)).map (·.1) = (entsTo T i k).map (·.1) ++ [(entAt T i k).1]) := by show _ = _; rw [entsTo_next, List.map_append]; rfl
          obtain ⟨hv0, hvn, hvu⟩ := HTr.out k hk
          obtain ⟨k1, hk1⟩ : ∃ j, (k + 1) % 3 = j := ⟨_, rfl⟩
          have hl1 : k1 < 3 := by omega
          have cd := t3_blk HKt.out hl1
          rw [hk1] at b1 HEk
          have hix := idx3 x y z hk wr
          have hj1 : (k1 : Int) < 3 := by omega
          clear hk1 hvu
          generalize at3 (x, y, z) k = v at *
          generalize at3 (x, y, z) k1 = u at *
          obtain ⟨vn, rfl⟩ := Int.eq_ofNat_of_zero_le hv0
          have hvn2 : vn < n := by omega
          rw [HEk.out] at HInk HNx
          have hcb : C vn ≤ 300000 := by
            rw [HI.out.cnt vn hvn2]
            refine Nat.le_trans List.countP_le_length ?_
            rw [List.length_map, entsTo_len]
            omega
          have HKe : Hid (∀ o, Blk (wr.alloc o) G2 58 #[.int .i64 x, .int .i64 y, .int .i64 z]) := fun o => HKt.out.alloc o
          have HPut : Hid (C vn = 0 ∨ (u, (vn : Int)) ∉ darts T → FirstTo T n ((entsTo T i (k + 1)).map (·.1)) (updN F vn ((vn : Int), u)) (updN C vn (C vn + 1))) := fun h => by
            rw [HNx.out]
            exact HI.out.put hvn2 h
          have HPass : Hid (C vn ≠ 0 → (u, (vn : Int)) ∈ darts T → FirstTo T n ((entsTo T i (k + 1)).map (·.1)) F (updN C vn (C vn + 1))) := fun h h2 => by
            rw [HNx.out]
            exact HI.out.pass hvn2 h h2
          have HF2 := Lib.hid (HF.out.alloc (.cells #[.int .i64 (vn : Int), .int .i64 u] 124))
          have HE2 := Lib.hid (Blk.new wr 124 #[.int .i64 (vn : Int), .int .i64 u])
          have HCn := Lib.hid (cntA_at C hvn2)
          have HFn := Lib.hid (firstA_at F hvn2)
          have HGt := Lib.hid (fun (W6 : World) (HF6 : FansAt w n F C W6) (HE6 : Blk W6 wr.heap.size 124 #[.int .i64 (vn : Int), .int .i64 u]) =>
            (⟨(HF6.fst.cell (vn * 2)).trans HFn.out.1, (HF6.fst.cell (vn * 2 + 1)).trans HFn.out.2, (HF6.cnt.cell vn).trans HCn.out, HE6.cell 0, HE6.cell 1, HF6.fst.frozen (vn * 2), HF6.fst.frozen (vn * 2 + 1), HF6.cnt.frozen vn, ((HF6.putF vn vn u).cnt.cell vn).trans HCn.out, (HF6.putF vn vn u).cnt.frozen vn, (HF6.putF vn vn u).putC vn (C vn + 1), HF6.putC vn (C vn + 1)⟩ :
              W6.cell? ⟨w.heap.size, vn * 2, none⟩ = some (.int .i64 (F vn).1) ∧ W6.cell? ⟨w.heap.size, vn * 2 + 1, none⟩ = some (.int .i64 (F vn).2) ∧ W6.cell? ⟨w.heap.size + 1, vn, none⟩ = some (.int .i64 (C vn : Int)) ∧ W6.cell? ⟨wr.heap.size, 0, none⟩ = some (.int .i64 (vn : Int)) ∧ W6.cell? ⟨wr.heap.size, 1, none⟩ = some (.int .i64 u) ∧ W6.frozen? ⟨w.heap.size, vn * 2, none⟩ = false ∧ W6.frozen? ⟨w.heap.size, vn * 2 + 1, none⟩ = false ∧ W6.frozen? ⟨w.heap.size + 1, vn, none⟩ = false ∧
              ((W6.setCell ⟨w.heap.size, vn * 2, none⟩ (.int .i64 (vn : Int))).setCell ⟨w.heap.size, vn * 2 + 1, none⟩ (.int .i64 u)).cell? ⟨w.heap.size + 1, vn, none⟩ = some (.int .i64 (C vn : Int)) ∧
              ((W6.setCell ⟨w.heap.size, vn * 2, none⟩ (.int .i64 (vn : Int))).setCell ⟨w.heap.size, vn * 2 + 1, none⟩ (.int .i64 u)).frozen? ⟨w.heap.size + 1, vn, none⟩ = false ∧
              FansAt w n (updN F vn ((vn : Int), u)) (updN C vn (C vn + 1)) (((W6.setCell ⟨w.heap.size, vn * 2, none⟩ (.int .i64 (vn : Int))).setCell ⟨w.heap.size, vn * 2 + 1, none⟩ (.int .i64 u)).setCell ⟨w.heap.size + 1, vn, none⟩ (.int .i64 ((C vn : Int) + 1))) ∧
              FansAt w n F (updN C vn (C vn + 1)) (W6.setCell ⟨w.heap.size + 1, vn, none⟩ (.int .i64 ((C vn : Int) + 1)))))
          have HTt := Lib.hid (fun (W6 : World) (HK6 : Blk W6 G2 58 #[.int .i64 x, .int .i64 y, .int .i64 z]) => (show Blk (((W6.setCell ⟨w.heap.size, vn * 2, none⟩ (.int .i64 (vn : Int))).setCell ⟨w.heap.size, vn * 2 + 1, none⟩ (.int .i64 u)).setCell ⟨w.heap.size + 1, vn, none⟩ (.int .i64 ((C vn : Int) + 1))) G2 58 #[.int .i64 x, .int .i64 y, .int .i64 z] ∧ Blk (W6.setCell ⟨w.heap.size + 1, vn, none⟩ (.int .i64 ((C vn : Int) + 1))) G2 58 #[.int .i64 x, .int .i64 y, .int .i64 z] from
            ⟨((HK6.far (Nat.ne_of_gt (Nat.lt_of_succ_lt HG.out)) _).far (Nat.ne_of_gt (Nat.lt_of_succ_lt HG.out)) _).far (Nat.ne_of_gt HG.out) _, HK6.far (Nat.ne_of_gt HG.out) _⟩))
          clear HI HNx HEk HCn HFn
          obtain ⟨q0, q1, p0, e0, e1, z0, z1, z2, p1, z3, hfp, hfq⟩ := HGt.out _ HF2.out HE2.out
          generalize hcv : C vn = c at *
          clear hcv
          by_cases h0 : c = 0
          · have HP := Lib.hid (HPut.out (Or.inl h0))
            have HFP := Lib.hid hfp
            have HKP := Lib.hid (HTt.out _ (HKe.out (.cells #[.int .i64 (vn : Int), .int .i64 u] 124))).1
            have t0 : ((c : Int) == 0) = true := beq_iff_eq.2 (by omega)
            clear hfp hfq HPut HPass HGt HTt HKe h0
            go_wp2
            go_roundg (gk - 1)
            case measure => omega
            case rel => exact ⟨k + 1, _, _, by omega, by go_num, HKP, HFP, HP⟩
          · have HPs := Lib.hid (HPass.out h0)
            have t0 : ((c : Int) == 0) = false := beq_eq_false_iff_ne.2 (by omega)
            have HP := Lib.hid (fun h => HPut.out (Or.inr h))
            clear hfp hfq HPut HPass h0 q0 q1 e0 e1 z0 z1 z2 p1 z3
            go_wp2_with fail
            refine (HEd.out _ HF2.out.bel _ _ HInk.out).mono ?_
            rintro e w6 ⟨rfl, hb6⟩
            have HF6 := Lib.hid (HF2.out.next hb6)
            have HE6 := Lib.hid (HE2.out.below hb6 HE2.out.lt)
            have HK6 := Lib.hid ((HKe.out (.cells #[.int .i64 (vn : Int), .int .i64 u] 124)).below hb6 (HKe.out _).lt)
            have HTw := Lib.hid (HTt.out _ HK6.out)
            obtain ⟨q0, q1, p0, e0, e1, z0, z1, z2, p1, z3, hfp, hfq⟩ := HGt.out _ HF6.out HE6.out
            clear hb6 HTt HGt HKe
            by_cases hd : (u, (vn : Int)) ∈ darts T
            · have HPs2 := Lib.hid (HPs.out hd)
              have HFP := Lib.hid hfq
              have HKP := Lib.hid HTw.out.2
              rw [decide_eq_true hd]
              clear hfp hfq HPs HP hd HTw
              go_wp2
              go_roundg (gk - 1)
              case measure => omega
              case rel => exact ⟨k + 1, _, _, by omega, by go_num, HKP, HFP, HPs2⟩
            · have HPs2 := Lib.hid (HP.out hd)
              have HFP := Lib.hid hfp
              have HKP := Lib.hid HTw.out.1
              rw [decide_eq_false hd]
              clear hfp hfq HPs HP hd HTw
              go_wp2
              go_roundg (gk - 1)
              case measure => omega
              case rel => exact ⟨k + 1, _, _, by omega, by go_num, HKP, HFP, HPs2⟩
        · have tk : decide ((k : Int) < 3) = false := by simp; omega
          have hk3 : k = 3 := by omega
          subst hk3
          rw [← entsTo_row] at HI
          go_wp2
          go_roundg (m - (i + 1))
          case measure => omega
          case rel => exact ⟨i + 1, F, C, by omega, by go_num, HF, HI⟩
    · have ti : decide ((i : Int) < (m : Int)) = false := by simp; omega
      have hE : i = T.length := by rw [HM.out]; omega
      subst hE
      rw [sides_keys] at HI
      go_wp2
      go_loopg [63] n (fun g s63 wx => ∃ v : Nat, v + g = n ∧ s63 = .int .i64 (v : Int) ∧ Hid (FansAt w n F C wx) ∧ Hid (∀ u : Nat, u < v → Fan T (u : Int)))
      case atStart => exact ⟨0, by omega, rfl, HF, fun u hu => absurd hu (Nat.not_lt_zero _)⟩
      case round =>
        clear HF HF0
        obtain ⟨v, hvg, rfl, HF, HA⟩ := hrel
        by_cases hv : v < n
        · have tv : decide ((v : Int) < (n : Int)) = true := by simp; omega
          have v2 : (v : Int) < (n : Int) := by omega
          have p0 := (HF.out.cnt.cell v).trans (cntA_at C hv)
          have q0 := (HF.out.fst.cell (v * 2)).trans (firstA_at F hv).1
          have q1 := (HF.out.fst.cell (v * 2 + 1)).trans (firstA_at F hv).2
          have HFs := Lib.hid (fun hp => (HI.out.fst v hv hp).1)
          have HFn := Lib.hid (fun (hp : C v ≠ 0) N (he : FanEnd T (F v) N) => HI.out.fan HAl.out HND.out hv hp he)
          have HNo := Lib.hid (fun (hp : C v = 0) => HI.out.none hv hp)
          have HYes : Hid (Fan T (v : Int) → ∀ u : Nat, u < v + 1 → Fan T (u : Int)) := fun h u hu => by
            by_cases e : u = v
            · rw [e]; exact h
            · exact HA.out u (by omega)
          have HBad : Hid (¬ Fan T (v : Int) → R = false) := fun h => by
            cases hr : R with
            | false => rfl
            | true => exact absurd (HR.out.1 hr v hv) h
          generalize C v = c at *
          generalize F v = f at *
          obtain ⟨fx, fy⟩ := f
          simp only at q0 q1
          by_cases h0 : c = 0
          · have HE := Lib.hid (HBad.out (HNo.out h0))
            have t0 : ((c : Int) == 0) = true := beq_iff_eq.2 (by omega)
            clear HNo HFs HFn HYes HBad h0
            go_wp2
            go_ret
            exact ⟨by rw [HE.out]; rfl, HF.out.bel⟩
          · have t0 : ((c : Int) == 0) = false := beq_eq_false_iff_ne.2 (by omega)
            have HFd := Lib.hid (HFs.out (by omega))
            have HFm := Lib.hid (HFn.out h0)
            clear HNo HFs HFn h0
            go_wp2_with fail
            refine (HFa.out _ HF.out.bel _ _ HFd.out).mono ?_
            rintro e w6 ⟨N, rfl, he6, hb6⟩
            have HFu := Lib.hid (HFm.out N he6)
            have HF6 := Lib.hid (HF.out.next hb6)
            clear he6 hb6
            by_cases hl : N < c
            · have HE := Lib.hid (HBad.out (fun h => by have := HFu.out.1 h; omega))
              have t1 : decide (N < c) = true := decide_eq_true hl
              clear HBad HYes HFu HFm hl
              go_wp2
              go_ret
              exact ⟨by rw [HE.out]; rfl, HF6.out.bel⟩
            · have HE := Lib.hid (HYes.out (HFu.out.2 (by omega)))
              have t1 : decide (N < c) = false := decide_eq_false hl
              clear HBad HYes HFu HFm hl
              go_wp2
              go_roundg (gk - 1)
              case measure => omega
              case rel => exact ⟨v + 1, by omega, by go_num, HF6, HE⟩
        · have tv : decide ((v : Int) < (n : Int)) = false := by simp; omega
          have HE : Hid (R = true) := HR.out.2 (fun u hu => HA.out u (by omega))
          go_wp2
          go_ret
          exact ⟨by rw [HE.out]; rfl, HF.out.bel⟩
end Go.Proofs.YthjmojglcfmkmaaDoor
