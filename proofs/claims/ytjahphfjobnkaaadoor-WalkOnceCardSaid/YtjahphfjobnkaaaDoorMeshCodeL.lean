/- The landed mesh: the border, and the edges. -/
import Derived.Test.YtjahphfjobnkaaaDoorMeshCodeK
namespace Go.Proofs.YtjahphfjobnkaaaDoor
open Go.RowKit

set_option maxRecDepth 100000 in
set_option maxHeartbeats 2000000 in
theorem meshBorder_any (A : Option Addr) (n c : Nat) (P : List P3) (B : Option Addr) (m d : Nat) (T : List P3) (r : Int) (w : World) (hbe : BehW w) (hp : HasK 3 w A n c (p3Cells P)) (ht : HasK 3 w B m d (p3Cells T)) (hn : n ≤ 100000) (hm : m ≤ 100000) (hr : CheckIs P T r) : Calls Tryd.prog 24 #[.agg #[.slice A n c, .slice B m d]] w (Edgd w (if r = 0 then edgesF P.length T true else []) r) := by
  have HL : Hid (P.length = n) := by have := hp.len; rw [p3Cells_len] at this; show _ = _; omega
  have HM : Hid (T.length = m) := by have := ht.len; rw [p3Cells_len] at this; show _ = _; omega
  have HK0 := Lib.hid (MeshAt.new w (.slice A n c) (.slice B m d))
  have m0 := HK0.out.b0.cell 0
  have m1 := HK0.out.b0.cell 1
  have HSd := Lib.hid (sidesOf_any A n c P B m d T r _ (hbe.kept HK0.out.bel) (hp.kept HK0.out.bel) (ht.kept HK0.out.bel) hn hm hr)
  clear hp ht hbe
  by_cases h0 : r = 0
  · subst h0
    obtain ⟨_, hpl, _, _⟩ := check_zero hr
    have HPl := Lib.hid hpl
    have hall : T.all (triM n) = true := by
      have := plain_all hpl
      rw [HL.out] at this
      exact this
    have HAl := Lib.hid hall
    have t0 : ((0 : Int) != 0) = false := rfl
    rw [if_pos rfl]
    clear hr hpl hall
    go_enter Tryd.func24, Tryd.ntmps24
    go_wp2_with fail
    refine HSd.out.mono ?_
    rintro e w1 ⟨M, rfl, _, h2, hb⟩
    obtain ⟨b, rfl, hs⟩ := h2 rfl
    have HB1 := Lib.hid (HK0.out.next hb).bel
    have HS1 := Lib.hid hs
    clear hb hs m0 m1 HSd h2
    go_wp2_with (first
      | (at_range; refine wpList_range_own _ rfl _ 76 rfl 80 100 lawE Tryd.underlying76 sideR b (3 * T.length) (sidesD T) rfl HS1.out ?_
         intro w2 hrg hgr hsz
         have HR2 := Lib.hid hrg
         have HB2 := Lib.hid (HB1.out.grown hgr HB1.out.size (fun j hj => by cases hj))
         clear hrg hgr hsz)
      | fail)
    go_frame
    have HbR : Hid (b < w1.heap.size) := HS1.out.lt
    have HwR : Hid (w.heap.size ≤ w1.heap.size) := HB1.out.size
    generalize w1.heap.size = R0 at *
    have HO2 : Hid (OwnK 2 w2 (R0 + 1) 79 (.slice none 0 0) ([] : List D2).length (e2Cells [])) := OwnK.nil _ _ _ _
    have HC2 := Lib.hid (Coll.start HAl.out hn (fun d => d) (keepB T))
    clear HS1 HB1 HK0
    go_loopg [6] (Maps.size (sidesD T)) (fun g s6 wx => ∃ (left : Lit → Bool) (l : List D2), Hid (wx.ranges Tryd.prog 80 sideR b R0 (3 * T.length) (sidesD T) left g) ∧ Hid (OwnK 2 wx (R0 + 1) 79 s6 l.length (e2Cells l)) ∧ Hid (Coll T left (fun d => d) (keepB T) l) ∧ Hid (Below w.heap.size w wx))
    case atStart => exact ⟨_, [], HR2, HO2, HC2, HB2⟩
    case round =>
      clear HR2 HO2 HC2 HB2
      obtain ⟨left, l, HR, HO, HC, HB⟩ := hrel
      go_wp2_with (first
        | (at_next; refine wpList_next_ranges _ rfl _ rfl 80 lawE sideR (fun d : D2 => Value.agg #[.int .i64 d.1, .int .i64 d.2]) (fun d : D2 => Value.agg #[.int .i64 d.1, .int .i64 d.2]) (fun key kl hk => by obtain ⟨d, hd, _⟩ := keyOf_inv hk; exact ⟨d, hd⟩) (fun v y hv => by obtain ⟨s, hs, _⟩ := sideR_inv hv; exact ⟨s, hs⟩) b R0 (3 * T.length) (sidesD T) left _ rfl HR.out ?_ ?_)
        | fail)
      · intro hc0 hl0
        have HE := Lib.hid (coll_border HPl.out HC.out hl0)
        clear hc0 hl0
        have hz1 : R0 + 1 ≤ wr.heap.size := HR.out.lt
        have hz2 := HC.out.room m HM.out
        have HNd := Lib.hid HC.out.nodup
        go_wp2_with fail
        refine (sortRow_any (R0 + 1) u6 l.length l wr HO.out hz1 (by omega)).mono ?_
        rintro e w3 ⟨rfl, l', A', c', hpm, hst, rfl, hh, hb3, hbs⟩
        have HL' := Lib.hid (sorted_edges HNd.out HE.out hpm hst)
        have HH := Lib.hid hh
        have HB3 : Hid (Below w.heap.size w w3) := HB.out.trans (hb3.mono (Nat.le_succ_of_le HwR.out))
        have HBs := Lib.hid hbs
        clear hh hb3 hbs hpm hst hz1 hz2
        go_wp2
        go_ret2
        refine ⟨A', c', ?_, ?_, HB3.out, fun b off e => Nat.le_trans (Nat.le_succ_of_le HwR.out) (HBs.out b off e)⟩
        · rw [← HL'.out]; rfl
        · rw [← HL'.out]; exact HH.out
      · intro x1 x2 s1 s2 kl yd yp w3 cnt1 hkey hlk _ _ hrg3 hlt hg3 hs3 hen
        obtain ⟨hxd, hxi, rfl⟩ := entry_dart HAl.out hn HR.out (x := (x1, x2)) hkey hlk
        have HX := Lib.hid hxd
        have HXi := Lib.hid hxi
        have HLk := Lib.hid hlk
        have HR3 := Lib.hid hrg3
        have HO3 := Lib.hid (HO.out.grownR hg3 (fun j hj => by cases hj; exact Nat.lt_succ_self _))
        have HB3 : Hid (Below w.heap.size w w3) := Below.ownMap (b := R0) HB.out HwR.out hg3
        have HLt := Lib.hid hlt
        clear hkey hlk hrg3 hg3 hs3 hxd hxi HR HO HB hlt
        have HS4 : Hid (SidesW (w3.alloc (.cells #[.int .i64 x1, .int .i64 x2] 80)) b T) := SidesW.kept (w := w3) HR3.out.owns (new_alloc (Below.refl _ _) _)
        have HK4 := Lib.hid (Blk.new w3 80 #[.int .i64 x1, .int .i64 x2])
        have HB4 := Lib.hid (new_alloc (Below.refl w3.heap.size w3) (.cells #[.int .i64 x1, .int .i64 x2] 80))
        have c0 := HK4.out.cell 0
        have c1 := HK4.out.cell 1
        go_wp2_with fail
        refine (ends_any b n T x1 x2 _ HS4.out HAl.out hn HXi.out).mono ?_
        rintro e w4 ⟨rfl, hb4⟩
        have HBn := Lib.hid (new_call HB4.out hb4)
        have HR5 := Lib.hid (ranges_call HR3.out HBn.out)
        have HO5 := Lib.hid (HO3.out.keep HBn.out)
        have HB5 := Lib.hid (new_call HB3.out HBn.out)
        have HK5 := Lib.hid (HK4.out.below hb4 HK4.out.lt)
        clear hb4 c0 c1 HR3 HO3 HB3 HS4 HK4 HB4 HBn
        by_cases hd : (x2, x1) ∈ darts T
        · have HC5 := Lib.hid (HC.out.skip HAl.out hn HX.out (fun h => h hd))
          rw [decide_eq_true hd]
          clear hd HC
          go_wp2
          go_roundg cnt1
          case measure => exact HLt.out
          case rel => exact ⟨_, l, HR5, HO5, HC5, HB5⟩
        · have HC5 := Lib.hid (HC.out.take HAl.out hn (fun e _ e' _ _ _ h => h) HX.out HLk.out hd)
          have hz2 := HC5.out.room m HM.out
          rw [List.length_append] at hz2
          rw [decide_eq_false hd]
          clear hd HC
          have c0 := HK5.out.cell 0
          have c1 := HK5.out.cell 1
          have HN6 := Lib.hid (HasK.new_at 2 w4 #[.int .i64 x1, .int .i64 x2] 79 w4.heap.size 1 rfl rfl)
          have HO6 := Lib.hid (HO5.out.alloc (.cells #[.int .i64 x1, .int .i64 x2] 79))
          have hz3 : R0 + 1 ≤ (w4.alloc (.cells #[.int .i64 x1, .int .i64 x2] 79)).heap.size := Nat.le_trans HR5.out.lt (new_alloc (Below.refl w4.heap.size w4) _).size
          have hz4 : l.length + 1 ≤ 1099511627776 := by simp at hz2; omega
          go_wp2_with (first
            | (at_builtin
               refine wpList_joinK rfl _ _ 35 rfl elemE2 (by decide) (R0 + 1) u6 l.length (e2Cells l) rfl HO6.out _ 1 1 (e2Cells [(x1, x2)]) rfl HN6.out (e2Cells_one _) hz4 (by decide) hz3 ?_
               rintro v6 w6 ho6 hb6 hg6
               have HO7 := Lib.hid ho6
               have HBt := Lib.hid hb6
               clear ho6 hb6 hg6)
            | fail)
          have HR7 := Lib.hid (ranges_under (ranges_call HR5.out (new_alloc (Below.refl w4.heap.size w4) (.cells #[.int .i64 x1, .int .i64 x2] 79))) HBt.out (Nat.lt_succ_of_lt HbR.out) (Nat.lt_succ_self _))
          have HB7 : Hid (Below w.heap.size w w6) := (new_alloc HB5.out (.cells #[.int .i64 x1, .int .i64 x2] 79)).trans (HBt.out.mono (Nat.le_succ_of_le HwR.out))
          have HO8 : Hid (OwnK 2 w6 (R0 + 1) 79 v6 (l ++ [(x1, x2)]).length (e2Cells (l ++ [(x1, x2)]))) := by
            show OwnK _ _ _ _ _ _ _
            rw [List.length_append, e2Cells_app]
            exact HO7.out
          go_roundg cnt1
          case measure => exact HLt.out
          case rel => exact ⟨_, l ++ [(x1, x2)], HR7, HO8, HC5, HB7⟩
  · have t0 : (r != 0) = true := bne_iff_ne.2 h0
    have HNe := Lib.hid h0
    rw [if_neg h0]
    clear hr h0
    go_enter Tryd.func24, Tryd.ntmps24
    go_wp2_with fail
    refine HSd.out.mono ?_
    rintro e w1 ⟨M, rfl, _, _, hb⟩
    have HB1 := Lib.hid (HK0.out.next hb).bel
    clear hb m0 m1 HSd
    go_wp2
    go_ret2
    exact ⟨none, 0, rfl, HasK.none _ _ _ _ (fun _ => rfl), HB1.out, fun b off e => by cases e⟩
end Go.Proofs.YtjahphfjobnkaaaDoor
