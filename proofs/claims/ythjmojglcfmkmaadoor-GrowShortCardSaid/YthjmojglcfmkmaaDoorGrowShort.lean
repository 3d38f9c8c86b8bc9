/- A surface's steps with any of the last ones left out are missing some, or are those of its first pieces; with any step more that is no Seed they are refused: whatever comes in, GrowShort answers true. -/
import Derived.Test.YthjmojglcfmkmaaDoorKnown12
import Derived.Test.YthjmojglcfmkmaaDoorGrowTell
import Derived.Test.YthjmojglcfmkmaaDoorWalkCodeJ
import Derived.Test.YthjmojglcfmkmaaDoorLawMesh
import Derived.Test.YthjmojglcfmkmaaDoorLawSteps
import Derived.Test.YthjmojglcfmkmaaDoorLawLaidG
namespace Go.Proofs.YthjmojglcfmkmaaDoor.growShort
open Go.ChangeShapes Go.WideShapes Go.ChangeAt Go.RowKit

theorem e2Cells_take (l : List (Int × Int)) (k : Nat) : e2Cells (l.take k) = (e2Cells l).take (k * 2) := by
  induction k generalizing l with
  | zero => simp [e2Cells]
  | succ k ih =>
    cases l with
    | nil => simp [e2Cells]
    | cons q l =>
      rw [List.take_succ_cons, show e2Cells (q :: l) = .int .i64 q.1 :: .int .i64 q.2 :: e2Cells l by simp [e2Cells], show (k + 1) * 2 = k * 2 + 1 + 1 by omega, List.take_succ_cons, List.take_succ_cons, ← ih]
      simp [e2Cells]
theorem cut_to2 {w : World} {A : Option Addr} {n c : Nat} {l : List (Int × Int)} (h : HasK 2 w A n c (e2Cells l)) {k : Nat} (hk : k ≤ n) : HasK 2 w A k c (e2Cells (l.take k)) := by
  have hl := h.len
  have hc := h.cap
  refine ⟨by rw [e2Cells_take, List.length_take, hl, Nat.min_eq_left (by omega)], by omega, h.bare, fun hn => ?_⟩
  obtain ⟨b, off, e, hlt, hcell⟩ := h.spot (by omega)
  refine ⟨b, off, e, hlt, fun j u hj => hcell _ _ ?_⟩
  rw [e2Cells_take, List.getElem?_take] at hj
  split at hj
  · exact hj
  · cases hj
theorem in64_take {l : List (Int × Int)} (h : ∀ d ∈ l, in64 d) (k : Nat) : ∀ d ∈ l.take k, in64 d := fun d hd => h d (List.mem_of_mem_take hd)
set_option maxRecDepth 100000 in
set_option maxHeartbeats 6400000 in
theorem walk (A : Option Addr) (n c : Nat) (P : List P3) (B : Option Addr) (m d : Nat) (T : List P3) (cut x y : Int) (W : World) (hbe : BehW W) (hnw : NewW W) (hp : HasK 3 W A n c (p3Cells P)) (ht : HasK 3 W B m d (p3Cells T)) (_ : ∀ x ∈ P, i64T x) (_ : ∀ x ∈ T, i64T x) (_ : n ≤ 9223372036854775807) (_ : m ≤ 9223372036854775807) (hcut : 0 ≤ cut ∧ cut ≤ 255) (hxy : i64D (x, y)) : Calls Tryd.prog 6 #[.agg #[.slice A n c, .slice B m d], .int .u8 cut, .agg #[.int .i64 x, .int .i64 y]] W fun e w' => e = .returned (.bool true) ∧ Below W.heap.size W w' := by
  have HB0 : Hid (Below W.heap.size W (W.alloc (.cells #[.slice A n c, .slice B m d] 48))) := new_alloc (Below.refl _ W) _
  have HB1 : Hid (Below W.heap.size W ((W.alloc (.cells #[.slice A n c, .slice B m d] 48)).alloc (.cells #[.int .i64 x, .int .i64 y] 33))) := new_alloc HB0.out _
  have HM : Hid (∀ V, Below ((W.alloc (.cells #[.slice A n c, .slice B m d] 48)).alloc (.cells #[.int .i64 x, .int .i64 y] 33)).heap.size ((W.alloc (.cells #[.slice A n c, .slice B m d] 48)).alloc (.cells #[.int .i64 x, .int .i64 y] 33)) V → (V.cell? ⟨W.heap.size, 0, none⟩ = some (.slice A n c) ∧ V.cell? ⟨W.heap.size, 1, none⟩ = some (.slice B m d)) ∧ (V.cell? ⟨W.heap.size + 1, 0, none⟩ = some (.int .i64 x) ∧ V.cell? ⟨W.heap.size + 1, 1, none⟩ = some (.int .i64 y)) ∧ Below W.heap.size W V) := fun V hV => by
    have h0 := (Blk.new W 48 #[.slice A n c, .slice B m d]).alloc (.cells #[.int .i64 x, .int .i64 y] 33)
    have h1 := Blk.new (W.alloc (.cells #[.slice A n c, .slice B m d] 48)) 33 #[.int .i64 x, .int .i64 y]
    rw [show (W.alloc (.cells #[.slice A n c, .slice B m d] 48)).heap.size = W.heap.size + 1 by simp] at h1
    have g0 := h0.below hV h0.lt
    have g1 := h1.below hV h1.lt
    exact ⟨⟨g0.cell 0, g0.cell 1⟩, ⟨g1.cell 0, g1.cell 1⟩, new_call HB1.out hV⟩
  have HKn := Lib.hid (fun w (hW : Below W.heap.size W w) => known12 w (hbe.kept hW) (hnw.kept hW))
  obtain ⟨⟨m0, m1⟩, ⟨x0, x1⟩, _⟩ := HM.out _ (Below.refl _ _)
  by_cases hz : n ≤ 40 ∧ m ≤ 60
  · have t1 : decide ((40 : Int) < (n : Int)) = false := decide_eq_false (by omega)
    have t2 : decide ((60 : Int) < (m : Int)) = false := decide_eq_false (by omega)
    obtain ⟨r, hr⟩ := check_total P T
    have hTm : T.length = m := by have := ht.len; rw [p3Cells_len] at this; omega
    have hPn : P.length = n := by have := hp.len; rw [p3Cells_len] at this; omega
    have HSt := Lib.hid (fun w (hW : Below W.heap.size W w) => walkSteps_any A n c P B m d T r w (hbe.kept hW) (hp.kept hW) (ht.kept hW) (by omega) (by omega) hr)
    by_cases h0 : r = 0
    · subst h0
      rw [if_pos rfl] at HSt
      have HSz : Hid ((walkF T).S.length ≤ 900000) := by
        have := ((walk_fine T T.length (Nat.le_refl _)).small (Nat.le_refl _) (by omega)).S
        have h3 := (walk_fine T T.length (Nat.le_refl _)).sz
        show (walkTo T T.length).S.length ≤ _
        omega
      have HI := Lib.hid (grow_in64 (grow_canon hr).1)
      have HGr := Lib.hid (fun (A' : Option Addr) (n' c' : Nat) (l : List (Int × Int)) (r' : Int) w (hW : Below W.heap.size W w) (hl : HasK 2 w A' n' c' (e2Cells l)) (hi : ∀ d ∈ l, in64 d) (hn : n' ≤ 1000000) (hr' : CloseIs (growG l) r') => growAll_any A' n' c' l r' w (hbe.kept hW) (hnw.kept hW) hl hi hn hr')
      have HSh := Lib.hid (fun k hk r' hr' => short_is (k := k) (r := r') hr hk hr')
      have HMo := Lib.hid (fun r' hr' => more_is hr (by omega) (by omega) (x, y) (r := r') hr')
      have HXY : Hid (in64 (x, y)) := ⟨WalkArith.wf_i64 hxy.1, WalkArith.wf_i64 hxy.2⟩
      obtain ⟨u, rfl⟩ := Int.eq_ofNat_of_zero_le hcut.1
      have g5 : IntKind.wrap .i64 (u : Int) = (u : Int) := by rw [IntKind.wrap_i64]; omega
      clear hp ht hbe hnw hr hTm hPn hxy hcut
      generalize (walkF T).S = S at *
      by_cases hS : S.length = 0
      · have q1 : ((S.length : Int) == 0) = true := beq_iff_eq.2 (by omega)
        clear hS
        go_enter Tryd.func6, Tryd.ntmps6
        go_wp2_with fail
        refine (HSt.out _ HB1.out).mono ?_
        rintro e w1 ⟨A1, c1, rfl, h1, hb1⟩
        have HBa := Lib.hid (HM.out _ hb1).2.2
        clear h1 hb1 m0 m1 x0 x1
        go_wp2_with fail
        refine (HKn.out _ HBa.out).mono ?_
        rintro e w4 ⟨rfl, hb4⟩
        have HB4 := Lib.hid (new_call HBa.out hb4)
        clear hb4
        go_wp2
        go_ret
        exact ⟨rfl, HB4.out⟩
      · obtain ⟨k, hk⟩ : ∃ k, u % S.length = k := ⟨_, rfl⟩
        have hkl : k < S.length := by rw [← hk]; exact Nat.mod_lt _ (by omega)
        have q1 : ((S.length : Int) == 0) = false := beq_eq_false_iff_ne.2 (by omega)
        have g1 : (u : Int).tmod (S.length : Int) = (k : Int) := by rw [← Int.ofNat_tmod, hk]
        have g2 : (u : Int) % (S.length : Int) = (k : Int) := by rw [← hk]; rfl
        have g3 : ¬ (S.length : Int) = 0 := by omega
        have g4 : ¬ S.length = 0 := by omega
        obtain ⟨r1, hr1⟩ := close_total (growG (S.take k))
        obtain ⟨r3, hr3⟩ := close_total (growG (S ++ [(x, y)]))
        have HR1 := Lib.hid hr1
        have HR3 := Lib.hid hr3
        obtain ⟨hs1, hs2⟩ := HSh.out k hkl r1 hr1
        have hm3 := HMo.out r3 hr3
        have HS2 := Lib.hid hs2
        clear hk hr1 hr3 hs2 hS
        go_enter Tryd.func6, Tryd.ntmps6
        go_wp2_with fail
        refine (HSt.out _ HB1.out).mono ?_
        rintro e w1 ⟨A1, c1, rfl, h1, hb1⟩
        obtain ⟨b, off, rfl, hlt, hc⟩ := h1.spot (by omega)
        have HBa := Lib.hid hb1
        have HH1 := Lib.hid h1
        have HCt := Lib.hid (HGr.out (some ⟨b, off, none⟩) k c1 (S.take k) r1 w1 (HM.out _ hb1).2.2 (cut_to2 h1 (Nat.le_of_lt hkl)) (in64_take HI.out k) (by have := HSz.out; omega) HR1.out)
        have i1 : (k : Int) ≤ (c1 : Int) := by have := h1.cap; omega
        have i2 : k ≤ c1 := by have := h1.cap; omega
        have i3 : (0 : Int) ≤ (k : Int) := by omega
        have i4 : (k : Int) < (S.length : Int) := by omega
        have i5 : (S.length : Int) ≤ (c1 : Int) := by have := h1.cap; omega
        have HSk := Lib.hid (e2Cells_at hkl).1
        clear h1 hb1 hlt hc m0 m1 x0 x1
        go_wp2_with fail
        refine HCt.out.mono ?_
        rintro e w2 ⟨A2, n2, c2, rfl, h2, hb2⟩
        have HBb := Lib.hid (new_call HBa.out hb2)
        have HH2 := Lib.hid (HH1.out.kept hb2)
        have x2 : w2.cell? ⟨b, off + k * 2, none⟩ = some (.int .i64 S[k].1) := by
          obtain ⟨b', off', he, _, hc'⟩ := HH2.out.spot (by omega)
          cases he
          exact hc' _ _ HSk.out
        have HGo : Hid (∀ A7 n7 c7 w7, Below w2.heap.size w2 w7 → HasK 2 w7 A7 n7 c7 (e2Cells (S ++ [(x, y)])) → n7 ≤ 1000000 → Calls Tryd.prog 20 #[.slice A7 n7 c7] w7 (AllOut (S ++ [(x, y)]) r3 w7)) := fun A7 n7 c7 w7 hW h7 hn7 =>
          HGr.out A7 n7 c7 _ r3 w7 (HM.out _ (new_call HBb.out hW)).2.2 h7 (fun d hd => (List.mem_append.1 hd).elim (HI.out d) (fun e => by rw [List.mem_singleton.1 e]; exact HXY.out)) hn7 HR3.out
        rcases hs1 with rfl | rfl
        · rw [closeT_bad (by decide)] at h2
          have hn2 : n2 = 0 := by have h1 := h2.len; simp [p3Cells] at h1; omega
          subst hn2
          rw [closeN_bad (by decide)]
          clear h2 hb2 HBa HH1 HCt
          go_wp2_with (first
                     | (at_builtin
                        refine wpList_joinK rfl _ _ 22 rfl elemSt (by decide) w2.heap.size _ 0 [] rfl (OwnK.nil _ _ _ _) _ S.length c1 (e2Cells S) rfl HH2.out (e2Cells_one _) (by have := HSz.out; omega) (by decide) (Nat.le_refl _) ?_
                        intro v6 w6 hown6 hbel6 _
                        rw [Nat.zero_add, List.nil_append] at hown6
                        have HO6 := Lib.hid hown6
                        have HB6 := Lib.hid hbel6
                        clear hown6 hbel6
                        obtain ⟨_, ⟨x0, x1⟩, _⟩ := HM.out _ (new_call HBb.out HB6.out))
                     | (at_builtin
                        refine wpList_joinK rfl _ _ 22 rfl elemSt (by decide) w2.heap.size _ S.length (e2Cells S) rfl (HO6.out.alloc _) _ 1 1 (e2Cells [(x, y)]) rfl (HasK.new_at 2 _ #[_, _] _ _ 1 rfl rfl) (e2Cells_one _) (by have := HSz.out; omega) (by decide) (Nat.le_trans HB6.out.size (new_alloc (Below.refl _ w6) _).size) ?_
                        intro v8 w8 hown8 hbel8 _
                        rw [← e2Cells_app] at hown8
                        have HB8 := Lib.hid ((new_alloc HB6.out _).trans hbel8)
                        obtain ⟨A8, c8, rfl, h8⟩ := hown8.has
                        have HGd := Lib.hid (HGo.out A8 _ c8 w8 HB8.out h8 (by have := HSz.out; omega))
                        clear hown8 hbel8 h8 HO6 HB6 x0 x1))
          go_wp2_with fail
          refine HGd.out.mono ?_
          rintro e w9 ⟨A9, n9, c9, rfl, _, hb9⟩
          have HB9 := Lib.hid (new_call HBb.out (new_call HB8.out hb9))
          clear hb9
          obtain ⟨_, ⟨x0, x1⟩, _⟩ := HM.out _ HB9.out
          subst hm3
          by_cases hx : x = 0
          · have p1 : (x == 0) = true := beq_iff_eq.2 hx
            by_cases hy : y = 0
            · have p2 : (y == 0) = true := beq_iff_eq.2 hy
              rw [if_pos ⟨hx, hy⟩]
              clear hx hy
              go_wp2_with fail
              refine (HKn.out _ (HM.out _ HB9.out).2.2).mono ?_
              rintro e v6 ⟨rfl, hb6⟩
              have HB4 := Lib.hid (new_call (HM.out _ HB9.out).2.2 hb6)
              clear hb6
              go_wp2
              go_ret
              exact ⟨rfl, HB4.out⟩
            · have p2 : (y == 0) = false := beq_eq_false_iff_ne.2 hy
              rw [if_neg (fun e => hy e.2)]
              clear hx hy
              go_wp2_with fail
              refine (HKn.out _ (HM.out _ HB9.out).2.2).mono ?_
              rintro e v6 ⟨rfl, hb6⟩
              have HB4 := Lib.hid (new_call (HM.out _ HB9.out).2.2 hb6)
              clear hb6
              go_wp2
              go_ret
              exact ⟨rfl, HB4.out⟩
          · have p1 : (x == 0) = false := beq_eq_false_iff_ne.2 hx
            rw [if_neg (fun e => hx e.1)]
            clear hx
            go_wp2_with fail
            refine (HKn.out _ (HM.out _ HB9.out).2.2).mono ?_
            rintro e v6 ⟨rfl, hb6⟩
            have HB4 := Lib.hid (new_call (HM.out _ HB9.out).2.2 hb6)
            clear hb6
            go_wp2
            go_ret
            exact ⟨rfl, HB4.out⟩
        · have hk0 := HS2.out rfl
          rw [hk0] at x2
          have HN2 := Lib.hid (closeN_fine (s := growG (S.take k)) (r := 0) rfl)
          clear h2 hb2 HBa HH1 HCt hk0
          go_wp2_with (first
                     | (at_builtin
                        refine wpList_joinK rfl _ _ 22 rfl elemSt (by decide) w2.heap.size _ 0 [] rfl (OwnK.nil _ _ _ _) _ S.length c1 (e2Cells S) rfl HH2.out (e2Cells_one _) (by have := HSz.out; omega) (by decide) (Nat.le_refl _) ?_
                        intro v6 w6 hown6 hbel6 _
                        rw [Nat.zero_add, List.nil_append] at hown6
                        have HO6 := Lib.hid hown6
                        have HB6 := Lib.hid hbel6
                        clear hown6 hbel6
                        obtain ⟨_, ⟨x0, x1⟩, _⟩ := HM.out _ (new_call HBb.out HB6.out))
                     | (at_builtin
                        refine wpList_joinK rfl _ _ 22 rfl elemSt (by decide) w2.heap.size _ S.length (e2Cells S) rfl (HO6.out.alloc _) _ 1 1 (e2Cells [(x, y)]) rfl (HasK.new_at 2 _ #[_, _] _ _ 1 rfl rfl) (e2Cells_one _) (by have := HSz.out; omega) (by decide) (Nat.le_trans HB6.out.size (new_alloc (Below.refl _ w6) _).size) ?_
                        intro v8 w8 hown8 hbel8 _
                        rw [← e2Cells_app] at hown8
                        have HB8 := Lib.hid ((new_alloc HB6.out _).trans hbel8)
                        obtain ⟨A8, c8, rfl, h8⟩ := hown8.has
                        have HGd := Lib.hid (HGo.out A8 _ c8 w8 HB8.out h8 (by have := HSz.out; omega))
                        clear hown8 hbel8 h8 HO6 HB6 x0 x1))
          go_wp2_with fail
          refine HGd.out.mono ?_
          rintro e w9 ⟨A9, n9, c9, rfl, _, hb9⟩
          have HB9 := Lib.hid (new_call HBb.out (new_call HB8.out hb9))
          clear hb9
          obtain ⟨_, ⟨x0, x1⟩, _⟩ := HM.out _ HB9.out
          subst hm3
          by_cases hx : x = 0
          · have p1 : (x == 0) = true := beq_iff_eq.2 hx
            by_cases hy : y = 0
            · have p2 : (y == 0) = true := beq_iff_eq.2 hy
              rw [if_pos ⟨hx, hy⟩]
              clear hx hy
              go_wp2_with fail
              refine (HKn.out _ (HM.out _ HB9.out).2.2).mono ?_
              rintro e v6 ⟨rfl, hb6⟩
              have HB4 := Lib.hid (new_call (HM.out _ HB9.out).2.2 hb6)
              clear hb6
              go_wp2
              go_ret
              exact ⟨rfl, HB4.out⟩
            · have p2 : (y == 0) = false := beq_eq_false_iff_ne.2 hy
              rw [if_neg (fun e => hy e.2)]
              clear hx hy
              go_wp2_with fail
              refine (HKn.out _ (HM.out _ HB9.out).2.2).mono ?_
              rintro e v6 ⟨rfl, hb6⟩
              have HB4 := Lib.hid (new_call (HM.out _ HB9.out).2.2 hb6)
              clear hb6
              go_wp2
              go_ret
              exact ⟨rfl, HB4.out⟩
          · have p1 : (x == 0) = false := beq_eq_false_iff_ne.2 hx
            rw [if_neg (fun e => hx e.1)]
            clear hx
            go_wp2_with fail
            refine (HKn.out _ (HM.out _ HB9.out).2.2).mono ?_
            rintro e v6 ⟨rfl, hb6⟩
            have HB4 := Lib.hid (new_call (HM.out _ HB9.out).2.2 hb6)
            clear hb6
            go_wp2
            go_ret
            exact ⟨rfl, HB4.out⟩
    · have te : (r != 0) = true := bne_iff_ne.2 h0
      clear hp ht hbe hnw hr hTm hPn
      go_enter Tryd.func6, Tryd.ntmps6
      go_wp2_with fail
      refine (HSt.out _ HB1.out).mono ?_
      rintro e w1 ⟨A1, c1, rfl, h1, hb1⟩
      have HBa := Lib.hid (HM.out _ hb1).2.2
      clear h1 hb1 m0 m1 x0 x1
      go_wp2_with fail
      refine (HKn.out _ HBa.out).mono ?_
      rintro e w4 ⟨rfl, hb4⟩
      have HB4 := Lib.hid (new_call HBa.out hb4)
      clear hb4
      go_wp2
      go_ret
      exact ⟨rfl, HB4.out⟩
  · have ht : (decide ((40 : Int) < (n : Int)) = true) ∨ (decide ((40 : Int) < (n : Int)) = false ∧ decide ((60 : Int) < (m : Int)) = true) := by
      simp only [decide_eq_true_iff, decide_eq_false_iff_not]
      omega
    clear hp hbe hnw hz
    rcases ht with t1 | ⟨t1, t2⟩
    all_goals
      go_enter Tryd.func6, Tryd.ntmps6
      go_wp2_with fail
      refine (HKn.out _ HB1.out).mono ?_
      rintro e w4 ⟨rfl, hb4⟩
      have HB4 := Lib.hid (new_call HB1.out hb4)
      clear hb4
      go_wp2
      go_ret
      exact ⟨rfl, HB4.out⟩

set_option maxRecDepth 100000 in
theorem reads (os : Os) {H : Type} (enc : TypeId × Value → H) : ∃ places, DataW.whole enc Tryd.prog ((laidWorldG os).forCall (fun _ _ => 0) ⟨#[], #[.agg #[.slice none 0 0, .slice none 0 0], .int .u8 0, .agg #[.int .i64 0, .int .i64 0]], []⟩).memory Tryd.f6.params.toList Rows.growShortSpec.vars false (#[.agg #[.slice none 0 0, .slice none 0 0], .int .u8 0, .agg #[.int .i64 0, .int .i64 0]] : Array Value).toList 8 = some ([.agg [.nil, .nil], .lit (.int .u8 0), .agg [.lit (.int .i64 0), .lit (.int .i64 0)]], [], places) := ⟨[], by kernel_rfl⟩
set_option maxRecDepth 100000 in
theorem lifted (os : Os) (started : os.Started) (H : Type) (enc : TypeId × Value → H) (F : Stop.Interp) :
    ReturnsInHanded {} Tryd.checked os 6 .any ((OpenSpec.ofChange Rows.growShortSpec).preRow enc Tryd.prog Tryd.f6 Rows.growShortRow.domain false Rows.growShortRow.laid) (((OpenSpec.ofChange Rows.growShortSpec).at F).post enc Tryd.prog Tryd.f6 false true false false) := by
  obtain ⟨places, hx⟩ := reads os enc
  refine returnsInHanded_of_row (C := Tryd.checked) (s := OpenSpec.ofChange Rows.growShortSpec) Tryd.own started (by kernel_rfl) Tryd.func6
    (witness_row_at (enc := enc) (C := Tryd.checked) false (laidWorldG os) #[.agg #[.slice none 0 0, .slice none 0 0], .int .u8 0, .agg #[.int .i64 0, .int .i64 0]] rfl (by kernel_rfl) (by kernel_rfl) (by kernel_rfl)
      (OpenSpec.preRow_of_cond 8 hx (by kernel_rfl) (fun k hk => by cases hk) (by kernel_rfl) (laidMet_of_run' 8 (by kernel_rfl) (by kernel_rfl)))) ?_
  intro W base args ds gs before hval0 hW _ _ hsz0 hL _ _
  obtain ⟨hbe, hnw⟩ : BehW W ∧ NewW W := tabs_of_laid hL
  have hval : ∀ (j : Nat) t v, Tryd.f6.params[j]? = some t → args[j]? = some v → Value.okWide Tryd.prog W .any base t v := hval0
  have hW' := hW
  obtain ⟨p, q, hA0, hV, rfl, _, _⟩ := hW
  have hA : DataW.TrodAll enc Tryd.prog W 0 (fun _ => true) true Tryd.f6.params.toList args.toList ds p := hA0
  rw [Tryd.params6] at hA hval
  obtain ⟨v0, v1, v2, d0, d1, d2, p0, p1, p2, rfl, rfl, rfl, h0, h1, h2⟩ := trodAll_three hA
  obtain ⟨rfl, rfl⟩ := trodVars_none hV
  obtain ⟨A0, n0, c0, P0, B0, m0, e0, T0, rfl, hp0, ht0, bp0, bt0, hn0, hm0⟩ := open_mesh (hval 0 48 v0 rfl rfl) h0
  obtain ⟨a1, rfl, rfl, rfl, w1⟩ := open_int Tryd.underlying5 (hval 1 5 v1 rfl rfl) h1
  obtain ⟨x2, y2, rfl, hh2⟩ := open_step (hval 2 33 v2 rfl rfl) h2
  exact (walk A0 n0 c0 P0 B0 m0 e0 T0 a1 x2 y2 W hbe hnw hp0 ht0 bp0 bt0 hn0 hm0 (wf_u8 w1) hh2).mono fun e W' he =>
    law_post rfl rfl (by rw [Tryd.params6]; intro t ht; simp at ht; rcases ht with rfl | rfl | rfl <;> exact ⟨by kernel_rfl, of_decide_eq_true (by kernel_rfl)⟩) hW' rfl he

theorem said : Rows.GrowShortSaid :=
  OpenClaim.holds_of_cond 6 Tryd.f6 rfl rfl rfl rfl rfl rfl rfl ⟨rfl, rfl, rfl, rfl, rfl⟩ rfl rfl rfl rfl rfl (by kernel_rfl) Tryd.func6 (by kernel_rfl)
    (of_decide_eq_true (by kernel_rfl)) (by unfold Func.isWrapper; first | (rw [if_pos (by decide +kernel)]; kernel_rfl) | (rw [if_neg (by decide +kernel)]; exact ⟨rfl, rfl⟩))
    (fun os started H enc _ F => by rw [OpenClaim.pre_eq_preRow]; exact lifted os started H enc F)
theorem plain (f : FuncId) (fn : Func) (hf : Tryd.pinned.checked.prog.funcNamed "lapidary/lapidarylaw12.GrowShort" = some f) (hfn : Tryd.pinned.checked.prog.funcs[f]? = some fn) :
    false = Tryd.pinned.checked.prog.looks [] ∧ ∀ (j : Nat) t, fn.params[j]? = some t → Tryd.pinned.checked.prog.wantsStandIn t = false := by
  obtain rfl : f = 6 := Option.some.inj ((show Tryd.prog.funcNamed "lapidary/lapidarylaw12.GrowShort" = some 6 by kernel_rfl).symm.trans hf) |>.symm
  obtain rfl : fn = Tryd.f6 := (Option.some.inj (Tryd.func6.symm.trans hfn)).symm
  refine ⟨by kernel_rfl, fun j t ht => ?_⟩
  rw [Tryd.params6] at ht
  have hm : t ∈ [48, 5, 33] := by simpa using Array.mem_of_getElem? ht
  have hall : ([48, 5, 33].all fun u => !Tryd.prog.wantsStandIn u) = true := by kernel_rfl
  exact (show Tryd.prog.wantsStandIn t = false by simpa using List.all_eq_true.1 hall t hm)
theorem proved : Rows.GrowShortCardSaid :=
  Claim7.holds_tied_plain_at .later [] _ _ _ _ said (fun _ h => by cases h) (by kernel_rfl) (fun _ h => by cases h) growShort_row_tie rfl ⟨rfl, rfl⟩ (by kernel_rfl) rfl plain (by kernel_rfl)
end Go.Proofs.YthjmojglcfmkmaaDoor.growShort
