/- The landed mesh: a piece's number spread. -/
import Derived.Test.YtjahphfjobnkaaaDoorMeshCodeR
namespace Go.Proofs.YtjahphfjobnkaaaDoor
open Go.RowKit

theorem sp_start {w : World} {Gp m i N : Nat} {f : Nat → Nat} (hk : Blk w Gp 3 (rowA (numTo f N) m)) : SpW w Gp m (putI (numTo f N) i N) (.slice (some ⟨w.heap.size, 0, none⟩) 1 1) [i] ((w.setCell ⟨Gp, i, none⟩ (.int .i64 (N : Int))).alloc (.cells #[.int .i64 (i : Int)] 3)) := by
  have h0 : SpW w Gp m (numTo f N) (.slice none 0 0) [] w := ⟨Chg.refl _ _, hk, Own.nil _ _ _, hk.lt⟩
  have h1 := (h0.put i N).next (new_alloc (Below.refl _ _) (.cells #[.int .i64 (i : Int)] 3))
  have hz : (w.setCell ⟨Gp, i, none⟩ (.int .i64 (N : Int))).heap.size = w.heap.size := by simp
  have h2 := Own.fresh (w.setCell ⟨Gp, i, none⟩ (.int .i64 (N : Int))) w.heap.size #[.int .i64 (i : Int)] 3 (by rw [hz]; exact Nat.le_refl _) (by show 1 ≤ 1000000; omega)
  rw [hz] at h2
  exact ⟨h1.chg, h1.row, h2, h1.low⟩
set_option maxRecDepth 100000 in
set_option maxHeartbeats 4000000 in
theorem spread_any (b : Nat) (B : Option Addr) (m d n : Nat) (T : List P3) (f : Nat → Nat) (N i Gp : Nat) (w : World)
    (hbe : ∀ W, Chg (fun k => k = Gp) w W → BehW W) (hs : ∀ W, Chg (fun k => k = Gp) w W → SidesW W b T) (ht : ∀ W, Chg (fun k => k = Gp) w W → HasK 3 W B m d (p3Cells T))
    (hall : T.all (triM n) = true) (hn : n ≤ 100000) (hm : m ≤ 100000) (hnd : (darts T).Nodup) (hF : PieceF T f) (hi : i < m) (hfi : f i = N) (hk : Blk w Gp 3 (rowA (numTo f N) m)) :
    Calls Tryd.prog 39 #[.map (some b), .slice B m d, .slice (some ⟨Gp, 0, none⟩) m m, .int .i64 (i : Int), .int .i64 (N : Int)] w fun e w' => e = .returned (.tuple #[]) ∧ Chg (fun k => k = Gp) w w' ∧ Blk w' Gp 3 (rowA (numTo f (N + 1)) m) := by
  have HM : Hid (T.length = m) := by have := (ht w (Chg.refl _ _)).len; rw [p3Cells_len] at this; show _ = _; omega
  have HBe := Lib.hid hbe
  have HTs := Lib.hid ht
  have HS := Lib.hid (fun W (hW : Chg (fun k => k = Gp) w W) (e : D2) (he : in64 e) => look_side (hs W hW) hall hn he)
  have HIn := Lib.hid (fun j k (hk : k < 3) => at3_in hall hn j k hk)
  have HND := Lib.hid hnd
  have HF := Lib.hid hF
  have HFi := Lib.hid hfi
  have HLi := Lib.hid hi
  have i2 : (i : Int) < (m : Int) := by omega
  have c0 := hk.cell i
  rw [rowA_at _ hi] at c0
  have f0 := hk.frozen i
  generalize numTo f N i = q0 at c0
  have HW1 := Lib.hid (sp_start (i := i) hk)
  have HI1 : Hid (SpreadAt T f N i (putI (numTo f N) i N) [i] T.length 0) := spread_start (by rw [HM.out]; exact hi) hfi
  have hH1 := holes_le (putI (numTo f N) i N) m
  clear hbe hs ht hall hnd hF hi hfi hk
  go_enter Tryd.func39, Tryd.ntmps39
  go_wp2
  generalize (w.setCell ⟨Gp, i, none⟩ (.int .i64 (N : Int))).alloc (.cells #[.int .i64 (i : Int)] 3) = W1 at *
  clear c0 f0
  go_loopg [10] (m + 1) (fun g s10 wx => ∃ (pile : List Nat) (a : Nat → Int), holes a m + pile.length ≤ g ∧ g ≤ m + 1 ∧ Hid (SpW w Gp m a s10 pile wx) ∧ Hid (SpreadAt T f N i a pile T.length 0))
  case atStart => exact ⟨[i], _, by show _ + 1 ≤ _; omega, Nat.le_refl _, HW1, HI1⟩
  case round =>
    clear HW1 HI1 hH1
    obtain ⟨pile, a, hhl, hgm, HW, HI⟩ := hrel
    rcases List.eq_nil_or_concat pile with rfl | ⟨l, x, rfl⟩
    · obtain ⟨A, c, e10, _⟩ := HW.out.own.has
      rw [natVs_len, List.length_nil] at e10
      subst e10
      go_wp2
      go_end0
      have he := rowA_congr (m := m) (fun j hj => HI.out.all HF.out HND.out (by rw [HM.out]; exact HLi.out) HFi.out j (by rw [HM.out]; exact hj))
      exact ⟨rfl, HW.out.chg, he ▸ HW.out.row⟩
    · rw [List.concat_eq_append] at *
      obtain ⟨hx, fx⟩ := HI.out.on x (List.mem_append_right _ (List.mem_singleton.2 rfl))
      have hxm : x < m := by rw [← HM.out]; exact hx
      obtain ⟨g, cap, e10, hg1, hg2⟩ := HW.out.own.form (by rw [natVs_len, List.length_append, List.length_singleton]; omega)
      rw [natVs_len, List.length_append, List.length_singleton] at e10
      subst e10
      have HX : Hid (wr.cell? ⟨g, l.length, none⟩ = some (.int .i64 (x : Int))) := by
        have h := (HW.out.own.cellAt (by rw [natVs_len, List.length_append, List.length_singleton]) l.length (by omega)).1
        have e1 : (l ++ [x])[l.length]'(by rw [List.length_append, List.length_singleton]; omega) = x := by simp
        rw [natVs_at (by rw [List.length_append, List.length_singleton]; omega), e1] at h
        exact h
      have hcp : l.length + 1 ≤ cap := by
        rcases HW.out.own.2 with ⟨e, _⟩ | ⟨g', cap', _, e, _, _, h, _⟩
        · cases e
        · injection e with _ _ e3
          rw [natVs_len, List.length_append, List.length_singleton] at h
          omega
      have hx0 := HX.out
      have HP := Lib.hid (HW.out.pop rfl)
      have HI2 := Lib.hid HI.out.pop
      rw [List.length_append, List.length_singleton] at hhl
      have hll := holes_le a m
      obtain ⟨bT, oT, rfl, _, _⟩ := (HTs.out _ HW.out.chg).spot (by omega)
      obtain ⟨c0, c1, c2⟩ := p3_at (HTs.out _ HW.out.chg) hx
      have HAt : Hid (∀ q, at3 (T[x]?.getD (0, 0, 0)) q = at3 T[x] q) := fun q => by rw [List.getElem?_eq_getElem hx]; rfl
      have HTx : Hid (T[x]? = some T[x]) := List.getElem?_eq_getElem hx
      generalize hl1 : l.length = n1 at *
      generalize T[x] = t at *
      obtain ⟨tx, ty, tz⟩ := t
      simp only at c0 c1 c2
      have x2 : (x : Int) < (m : Int) := by omega
      have n2 : (0 : Int) < ((n1 + 1 : Nat) : Int) := by omega
      have n3 : decide ((0 : Int) < ((n1 + 1 : Nat) : Int)) = true := decide_eq_true n2
      have n7 : n1 ≤ cap := by omega
      have n4 : IntKind.wrap .i64 (((n1 + 1 : Nat) : Int) - 1) = (n1 : Int) := by rw [IntKind.wrap_i64]; omega
      have n5 : IntKind.wrap .i64 ((n1 : Int) + 1 - 1) = (n1 : Int) := by rw [IntKind.wrap_i64]; omega
      have n6 : IntKind.wrap .i64 (n1 : Int) = (n1 : Int) := by rw [IntKind.wrap_i64]; omega
      have HKt := Lib.hid (Blk.new wr 50 #[.int .i64 tx, .int .i64 ty, .int .i64 tz])
      have HP2 := Lib.hid (HP.out.next (new_alloc (Below.refl _ _) (.cells #[.int .i64 tx, .int .i64 ty, .int .i64 tz] 50)))
      have HGl : Hid (w.heap.size ≤ wr.heap.size) := HW.out.chg.size
      have HGg : Hid (∀ q, (Value.slice (some ⟨g, 0, none⟩) n1 cap).ownBlock = some q → q ≠ wr.heap.size) := fun q e => by
        have e1 : g = q := Option.some.inj e
        omega
      have HGp : Hid (Gp ≠ wr.heap.size) := by
        have := HW.out.low
        have := HGl.out
        show Gp ≠ _
        omega
      obtain ⟨K, hK⟩ : ∃ K, gk = K + 1 := ⟨gk - 1, by omega⟩
      clear HW HI HX HP
      go_wp2
      generalize wr.alloc (.cells #[.int .i64 tx, .int .i64 ty, .int .i64 tz] 50) = W2 at *
      generalize wr.heap.size = G2 at *
      clear c0 c1 c2 hx0
      go_loopg [10, 40] 3 (fun gg s10 s40 wx => ∃ (k : Nat) (pl : List Nat) (a' : Nat → Int), k + gg = 3 ∧ s40 = .int .i64 k ∧ holes a' m + pl.length ≤ K ∧ Hid (SpW w Gp m a' s10 pl wx) ∧ Hid (SpreadAt T f N i a' pl x k) ∧ Hid (Blk wx G2 50 #[.int .i64 tx, .int .i64 ty, .int .i64 tz]) ∧ Hid (∀ q, s10.ownBlock = some q → q ≠ G2))
      case atStart => exact ⟨0, l, a, by omega, rfl, by omega, HP2, HI2, HKt, HGg⟩
      case round =>
        clear HP2 HI2 HKt HGg
        obtain ⟨k, pl, a', hkg, rfl, hal, HW, HI, HK, HG⟩ := hrel
        by_cases hk : k < 3
        · have tk : decide ((k : Int) < 3) = true := by simp; omega
          have k2 : (k : Int) < 3 := by omega
          have b1 := (HBe.out _ HW.out.chg).one hk
          have hix := idx3 tx ty tz hk wr
          have hTx : T[x] = (tx, ty, tz) := (List.getElem?_eq_some_iff.1 HTx.out).2
          have HPut : Hid (∀ u, ∀ hu : u < T.length, (at3 (tx, ty, tz) ((k + 1) % 3), at3 (tx, ty, tz) k) ∈ dirs T[u] → a' u = -1 → SpreadAt T f N i (putI a' u N) (pl ++ [u]) x (k + 1)) := fun u hu h1 h2 => HI.out.put HF.out HND.out hx fx hk hu (by rw [hTx]; exact h1) h2
          have HPass : Hid ((∀ u, ∀ hu : u < T.length, (at3 (tx, ty, tz) ((k + 1) % 3), at3 (tx, ty, tz) k) ∈ dirs T[u] → a' u ≠ -1) → SpreadAt T f N i a' pl x (k + 1)) := fun h1 => HI.out.pass hx (by rw [hTx]; exact h1)
          have HOne : Hid (∀ u u2, ∀ hu : u < T.length, ∀ hu2 : u2 < T.length, ∀ e : D2, e ∈ dirs T[u] → e ∈ dirs T[u2] → u = u2) := fun u u2 hu hu2 e h1 h2 => tri_same (darts_nodup HND.out) hu hu2 (dart_one HND.out (List.getElem_mem hu) (List.getElem_mem hu2) h1 h2)
          have hin : in64 (at3 (tx, ty, tz) ((k + 1) % 3), at3 (tx, ty, tz) k) := by
            have h1 := HIn.out x k hk
            have h2 := HIn.out x ((k + 1) % 3) (Nat.mod_lt _ (by decide))
            rw [HAt.out] at h1 h2
            exact ⟨wf64 h2.1 (show at3 _ _ ≤ _ by omega), wf64 h1.1 (show at3 _ _ ≤ _ by omega)⟩
          obtain ⟨sd, hlk, hsd⟩ := HS.out wr HW.out.chg _ hin
          obtain ⟨s1, s2⟩ := sd
          obtain ⟨k1, hk1⟩ : ∃ j, (k + 1) % 3 = j := ⟨_, rfl⟩
          have hl1 : k1 < 3 := by omega
          have cd := t3_blk HK.out hl1
          have hj1 : (k1 : Int) < 3 := by omega
          rw [hk1] at b1 hlk hsd HPut HPass
          simp only at hlk
          clear hk1 hin hTx HI
          generalize at3 (tx, ty, tz) k = v0 at *
          generalize at3 (tx, ty, tz) k1 = v1 at *
          have HKa := Lib.hid (HK.out.alloc (.cells #[.int .i64 s1, .int .i64 s2] 100))
          have HWa := Lib.hid (HW.out.next (new_alloc (Below.refl _ _) (.cells #[.int .i64 s1, .int .i64 s2] 100)))
          have HKs := Lib.hid (Blk.new wr 100 #[.int .i64 s1, .int .i64 s2])
          have HGs : Hid (G2 < wr.heap.size) := HK.out.lt
          obtain ⟨kz, ks⟩ := zero_of_info sideInfo
          by_cases hmd : (v1, v0) ∈ darts T
          · rw [decide_eq_true hmd] at hlk
            obtain ⟨u, q, hu, hq, eu⟩ := dart_at hmd
            have hs1 : s1 = (u : Int) := congrArg Prod.fst (hsd HND.out u q hu hq eu)
            have HDu : Hid ((v1, v0) ∈ dirs T[u]) := dirs_mem_at.2 ⟨q, hq, eu⟩
            subst hs1
            have hum : u < m := by rw [← HM.out]; exact hu
            have u2 : (u : Int) < (m : Int) := by omega
            have p0 := HWa.out.row.cell u
            rw [rowA_at _ hum] at p0
            have pf := HWa.out.row.frozen u
            have k0 := HKs.out.cell 0
            by_cases ha : a' u = -1
            · have HPt := Lib.hid (HPut.out u hu HDu.out ha)
              have HHo := holes_put hum ha N
              rw [ha] at p0
              have hGs : Gp ≠ wr.heap.size := by
                have := HW.out.low
                have := HW.out.chg.size
                omega
              have k1' := (HKs.out.far (p := ⟨Gp, u, none⟩) (Ne.symm hGs) (.int .i64 (N : Int))).cell 0
              have HWb := Lib.hid (HWa.out.put u N)
              have HKb : Hid (Blk ((wr.alloc (.cells #[.int .i64 (u : Int), .int .i64 s2] 100)).setCell ⟨Gp, u, none⟩ (.int .i64 (N : Int))) G2 50 #[.int .i64 tx, .int .i64 ty, .int .i64 tz]) := HKa.out.far (Ne.symm HGp.out) _
              have HWc := Lib.hid (HWb.out.next (new_alloc (Below.refl _ _) (.cells #[.int .i64 (u : Int)] 3)))
              have HKc := Lib.hid (HKb.out.alloc (.cells #[.int .i64 (u : Int)] 3))
              have HSz9 : Hid (wr.heap.size + 1 = ((wr.alloc (.cells #[.int .i64 (u : Int), .int .i64 s2] 100)).setCell ⟨Gp, u, none⟩ (.int .i64 (N : Int))).heap.size) := by show _ = _; simp
              have hpl : pl.length + 1 ≤ 1099511627776 := by omega
              have hbs : w.heap.size ≤ (((wr.alloc (.cells #[.int .i64 (u : Int), .int .i64 s2] 100)).setCell ⟨Gp, u, none⟩ (.int .i64 (N : Int))).alloc (.cells #[.int .i64 (u : Int)] 3)).heap.size := HWc.out.chg.size
              clear hsd HPut HPass hmd eu HW HK hGs
              go_wp2_with (at_builtin
                           (refine wpList_joinG rfl _ _ 32 rfl elemMi w.heap.size _ (natVs pl) rfl HWc.out.own _ 1 1 [.int .i64 (u : Int)] rfl (Has.new_at _ #[_] _ _ HSz9.out) (intVs_one [(u : Int)]) (by rw [natVs_len]; exact hpl) (by decide) hbs ?_)
                           rintro v' w' ho hb hgr hwh
                           have HO := Lib.hid ho
                           have HB := Lib.hid hb
                           have HR := Lib.hid hgr
                           have HV := Lib.hid hwh
                           clear ho hb hgr hwh)
              have HWd := Lib.hid (HWc.out.app HO.out HB.out)
              have HKd := Lib.hid (HKc.out.grown HR.out (fun e => HG.out G2 e rfl))
              have HGd : Hid (∀ q, v'.ownBlock = some q → q ≠ G2) := fun q e => by
                rcases HV.out q e with h1 | h1
                · exact HG.out q h1
                · have := HKc.out.lt
                  omega
              go_roundg (gk - 1)
              case measure => omega
              case rel => exact ⟨k + 1, pl ++ [u], _, by omega, by go_num, by rw [List.length_append, List.length_singleton]; omega, HWd, HPt, HKd, HGd⟩
            · have HPs := Lib.hid (HPass.out fun u' hu' h' => by rw [← HOne.out u u' hu hu' _ HDu.out h']; exact ha)
              have tz : (a' u == -1) = false := beq_eq_false_iff_ne.2 ha
              clear hsd HPut HPass hmd eu HW HK ha
              generalize a' u = zz at *
              go_wp2_with fail
              go_roundg (gk - 1)
              case measure => omega
              case rel => exact ⟨k + 1, pl, a', by omega, by go_num, hal, HWa, HPs, HKa, HG⟩
          · rw [decide_eq_false hmd] at hlk
            have HPs := Lib.hid (HPass.out fun u' hu' h' => absurd (mem_darts.2 ⟨_, List.getElem_mem hu', h'⟩) hmd)
            clear hsd HPut HPass hmd HW HK
            go_wp2_with fail
            go_roundg (gk - 1)
            case measure => omega
            case rel => exact ⟨k + 1, pl, a', by omega, by go_num, hal, HWa, HPs, HKa, HG⟩
        · have tk : decide ((k : Int) < 3) = false := by simp; omega
          have hk3 : k = 3 := by omega
          subst hk3
          have HI3 := Lib.hid HI.out.round
          go_wp2
          go_roundg K
          case measure => omega
          case rel => exact ⟨pl, a', hal, by omega, HW, HI3⟩
end Go.Proofs.YtjahphfjobnkaaaDoor
