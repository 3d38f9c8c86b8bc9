/- Of any point, any ring and any place GeomIns answers true: whether the point lies in the ring is what the chapter says; however that is begun, and from whichever side it is told. Conditions: none. -/
import Derived.Test.YtnhoinonojhgiaaKnown09
import Derived.Test.YtnhoinonojhgiaaLawPts
namespace Go.Proofs.Ytnhoinonojhgiaa.geomIns
open Go.ChangeShapes Go.WideShapes Go.ChangeAt Go.RowKit

theorem turned_back {l : List P3} {i k : Nat} (hi : i < l.length) (hk : k < l.length) : ((l.drop k ++ l.take k).reverse)[i]? = some (l[(2 * l.length - 1 - i + k) % l.length]'(Nat.mod_lt _ (by omega))) := by
  have hl : (l.drop k ++ l.take k).length = l.length := (turned_perm l k).length_eq
  have hj : l.length - 1 - i < (l.drop k ++ l.take k).length := by rw [hl]; omega
  rw [List.getElem?_reverse (by rw [hl]; exact hi), hl, List.getElem?_eq_getElem hj, turned_at (by omega) hk hj]
  congr 2
  rw [show 2 * l.length - 1 - i + k = l.length - 1 - i + k + l.length by omega, Nat.add_mod_right]
set_option maxRecDepth 100000 in
set_option maxHeartbeats 2000000 in
theorem walk (px py pz : Int) (A : Option Addr) (n c : Nat) (l : List P3) (at_ : Int) (w : World) (_ : i64P (px, py, pz)) (h : HasK 3 w A n c (p3Cells l)) (_ : ∀ x ∈ l, i64P x) (_ : n ≤ 9223372036854775807) (hat : 0 ≤ at_ ∧ at_ ≤ 255) :
    Calls Try.prog 10 #[.agg #[.int .i64 px, .int .i64 py, .int .i64 pz], .slice A n c, .int .u8 at_] w fun e w' => e = .returned (.bool true) ∧ Below w.heap.size w w' := by
  have HB0 := Lib.hid (new_alloc (Below.refl w.heap.size w) (.cells #[.int .i64 px, .int .i64 py, .int .i64 pz] 23))
  have HP0 := Lib.hid (Blk.new w 23 #[.int .i64 px, .int .i64 py, .int .i64 pz])
  by_cases h60 : 60 < n
  · have t : decide ((60 : Int) < (n : Int)) = true := by simp; omega
    clear h
    go_enter Try.func10, Try.ntmps10
    go_wp2_with (go_at_call 17; refine (known09 _).mono ?_; rintro e w9 ⟨rfl, hb9⟩)
    go_ret
    exact ⟨rfl, new_call HB0.out hb9⟩
  have t : decide ((60 : Int) < (n : Int)) = false := by simp; omega
  have hn : n ≤ 60 := by omega
  have HL : Hid (l.length = n) := by have := h.len; rw [p3Cells_len] at this; show _ = _; omega
  have HH := Lib.hid h
  have HI := Lib.hid (fun W (hW : Below w.heap.size w W) => geomIn_any px py pz A n c l W (h.kept hW) (by omega))
  have HRI := Lib.hid (fun W (hW : Below w.heap.size w W) => ref9In_any px py pz A n c l W (h.kept hW) (by omega))
  obtain ⟨N, rfl⟩ := Int.eq_ofNat_of_zero_le hat.1
  obtain ⟨k, hk⟩ : ∃ k, (if 0 < n then N % n else 0) = k := ⟨_, rfl⟩
  have hk1 : 0 < n → N % n = k ∧ k < n := fun h0 => by rw [if_pos h0] at hk; exact ⟨hk, by rw [← hk]; exact Nat.mod_lt _ h0⟩
  have HKl : Hid (k ≤ l.length) := by
    show _ ≤ _
    rw [HL.out]
    by_cases h0 : 0 < n
    · exact Nat.le_of_lt (hk1 h0).2
    · rw [if_neg h0] at hk; omega
  have HIR := Lib.hid (fun (A' : Option Addr) (c' : Nat) W (hW : HasK 3 W A' n c' (p3Cells (l.drop k ++ l.take k).reverse)) => geomIn_any px py pz A' n c' _ W hW (by omega))
  rw [in_rev, in_turned _ _ _ HKl.out] at HIR
  have HRl : Hid ((l.drop k ++ l.take k).reverse.length = n) := by show _ = _; rw [List.length_reverse, (turned_perm l k).length_eq, HL.out]
  have HRa : Hid (∀ i, i < n → 0 < n → ∃ m, m < n ∧ (2 * n - 1 - i + k) % n = m ∧ ∀ hm : m < l.length, ((l.drop k ++ l.take k).reverse)[i]? = some l[m]) := fun i hi h0 => by
    refine ⟨(2 * n - 1 - i + k) % n, Nat.mod_lt _ h0, rfl, fun hm => ?_⟩
    have h1 := turned_back (l := l) (i := i) (k := k) (by rw [HL.out]; exact hi) (by rw [HL.out]; exact (hk1 h0).2)
    rw [h1]
    congr 2
    rw [HL.out]
  generalize inF (px, py, pz) l = o at *
  generalize (l.drop k ++ l.take k).reverse = R at *
  have hku : IntKind.wrap .i64 (N : Int) = (N : Int) := by rw [IntKind.wrap_i64]; omega
  clear h
  go_enter Try.func10, Try.ntmps10
  go_wp2_with fail
  refine (HI.out _ HB0.out).mono ?_
  rintro e w1 ⟨rfl, hb1⟩
  have HB1 := Lib.hid (new_call HB0.out hb1)
  have HP1 := Lib.hid (HP0.out.below hb1 HP0.out.lt)
  clear hb1 HB0 HP0 HI
  go_upto_if 20 with (with_reducible fail)
  go_cut [8] from 18 to 48 (fun s8 wx => s8 = .int .i64 (k : Int) ∧ wx = w1)
  case first =>
    by_cases h0 : 0 < n
    · have t2 : decide ((0 : Int) < (n : Int)) = true := by simp; omega
      have n1 : ¬ (n : Int) = 0 := by omega
      have n2 : ¬ n = 0 := by omega
      have e1 : ((N : Int)).tmod (n : Int) = (k : Int) := by rw [show ((N : Int)).tmod (n : Int) = ((N % n : Nat) : Int) from rfl, (hk1 h0).1]
      have e2 : (N : Int) % (n : Int) = (k : Int) := by rw [← (hk1 h0).1]; rfl
      clear hk
      go_wp2_with (with_reducible fail)
      go_meet
      case rel => exact ⟨by first | rfl | rw [e1] | rw [e2], rfl⟩
    · have t2 : decide ((0 : Int) < (n : Int)) = false := by simp; omega
      rw [if_neg h0] at hk
      subst hk
      go_wp2_with (with_reducible fail)
      go_meet
      case rel => exact ⟨rfl, rfl⟩
  case rest =>
    obtain ⟨rfl, rfl⟩ := hcut
    clear hk hku
    go_wp2
    go_loopg [9, 10] n (fun g s9 s10 wx => ∃ i : Nat, i + g = n ∧ s10 = .int .i64 i ∧ Hid (OwnK 3 wx wc.heap.size 23 s9 i (p3Cells (R.take i))) ∧ Hid (Below wc.heap.size wc wx))
    case atStart => exact ⟨0, by omega, rfl, OwnK.nil _ _ _ _, Below.refl _ _⟩
    case round =>
      obtain ⟨i, hig, rfl, HO, HB⟩ := hrel
      have hz := HB.out.size
      by_cases hi : i < n
      · have ti : decide ((i : Int) < (n : Int)) = true := by simp; omega
        have h0 : 0 < n := by omega
        obtain ⟨m, hmn, hm, hR⟩ := HRa.out i hi h0
        have hml : m < l.length := by rw [HL.out]; exact hmn
        have hR2 := hR hml
        obtain ⟨b, off, rfl, _, _⟩ := HH.out.at_ h0
        obtain ⟨z1, z2, z3⟩ := p3_at (HH.out.kept (new_call HB1.out HB.out)) hml
        have HS : Hid (p3Cells (R.take i) ++ p3Cells [l[m]] = p3Cells (R.take (i + 1))) := by
          show _ = _
          obtain ⟨hi2, e⟩ := List.getElem?_eq_some_iff.1 hR2
          rw [← p3Cells_app, List.take_succ_eq_append_getElem hi2, e]
        generalize l[m] = q at *
        obtain ⟨qx, qy, qz⟩ := q
        simp only at z1 z2 z3
        obtain ⟨J, hJ⟩ : ∃ J, 2 * n - 1 - i + k = J := ⟨_, rfl⟩
        rw [hJ] at hm
        have hk2 := (hk1 h0).2
        have g1 : IntKind.wrap .i64 (2 * (n : Int)) = 2 * (n : Int) := by rw [IntKind.wrap_i64]; omega
        have g2 : IntKind.wrap .i64 (2 * (n : Int) - 1) = 2 * (n : Int) - 1 := by rw [IntKind.wrap_i64]; omega
        have g3 : IntKind.wrap .i64 (2 * (n : Int) - 1 - (i : Int)) = 2 * (n : Int) - 1 - (i : Int) := by rw [IntKind.wrap_i64]; omega
        have g4 : IntKind.wrap .i64 (2 * (n : Int) - 1 - (i : Int) + (k : Int)) = (J : Int) := by rw [IntKind.wrap_i64]; omega
        have f1 : wrap64 (2 * (n : Int)) = 2 * (n : Int) := by unfold wrap64; omega
        have f2 : wrap64 (2 * (n : Int) - 1) = 2 * (n : Int) - 1 := by unfold wrap64; omega
        have f3 : wrap64 (2 * (n : Int) - 1 - (i : Int)) = 2 * (n : Int) - 1 - (i : Int) := by unfold wrap64; omega
        have f4 : wrap64 (2 * (n : Int) - 1 - (i : Int) + (k : Int)) = (J : Int) := by unfold wrap64; omega
        have e1 : ((J : Int)).tmod (n : Int) = (m : Int) := by rw [show ((J : Int)).tmod (n : Int) = ((J % n : Nat) : Int) from rfl, hm]
        have e2 : (J : Int) % (n : Int) = (m : Int) := by rw [← hm]; rfl
        have n1 : ¬ (n : Int) = 0 := by omega
        have n2 : ¬ n = 0 := by omega
        have m1 : (m : Int) < (n : Int) := by omega
        have HIg := Lib.hid hig
        have hi60 : i ≤ 60 := by omega
        clear hJ hm hR hR2 hml hk1 hig
        go_wp2_with (at_builtin
                     refine wpList_joinK rfl _ _ 28 rfl elemP3 (by decide) wc.heap.size _ i _ rfl (HO.out.alloc _) _ 1 1 (p3Cells [(qx, qy, qz)]) rfl (HasK.new_at 3 _ #[_, _, _] _ _ 1 rfl rfl) (p3Cells_one _) (by omega) (by decide) (Nat.le_trans hz (new_alloc (Below.refl _ _) _).size) ?_
                     intro v7 w7 hown7 hbel7 _
                     rw [HS.out] at hown7
                     have HO7 := Lib.hid hown7
                     have HB7 := Lib.hid ((new_alloc HB.out _).trans hbel7)
                     clear hown7 hbel7)
        go_roundg (gk - 1)
        case measure => have := HIg.out; omega
        case rel => exact ⟨i + 1, by have := HIg.out; omega, by go_num, HO7, HB7⟩
      · have ti : decide ((i : Int) < (n : Int)) = false := by simp; omega
        obtain rfl : i = n := by omega
        rw [List.take_of_length_le (by rw [HRl.out]; exact Nat.le_refl _)] at HO
        obtain ⟨A9, c9, e9, hh9⟩ := HO.out.has
        subst e9
        have HW9 := Lib.hid hh9
        have HBw := Lib.hid (new_call HB1.out HB.out)
        have HP2 := Lib.hid (HP1.out.below HB.out HP1.out.lt)
        have p0 : wr.cell? ⟨w.heap.size, 0, none⟩ = some (.int .i64 px) := HP2.out.cell 0
        have p1 : wr.cell? ⟨w.heap.size, 1, none⟩ = some (.int .i64 py) := HP2.out.cell 1
        have p2 : wr.cell? ⟨w.heap.size, 2, none⟩ = some (.int .i64 pz) := HP2.out.cell 2
        clear hh9 HO HB HP1 hz
        go_wp2_with fail
        refine (HRI.out _ HBw.out).mono ?_
        rintro e w3 ⟨rfl, hb3⟩
        have HB3 := Lib.hid (new_call HBw.out hb3)
        have HI3 := Lib.hid (HIR.out A9 c9 w3 (HW9.out.kept hb3))
        have HP3 := Lib.hid (HP2.out.below hb3 HP2.out.lt)
        clear hb3 p0 p1 p2 HP2
        have p0 : w3.cell? ⟨w.heap.size, 0, none⟩ = some (.int .i64 px) := HP3.out.cell 0
        have p1 : w3.cell? ⟨w.heap.size, 1, none⟩ = some (.int .i64 py) := HP3.out.cell 1
        have p2 : w3.cell? ⟨w.heap.size, 2, none⟩ = some (.int .i64 pz) := HP3.out.cell 2
        go_wp2_with fail
        refine HI3.out.mono ?_
        rintro e w4 ⟨rfl, hb4⟩
        have HB4 := Lib.hid (new_call HB3.out hb4)
        clear hb4
        go_wp2_with fail
        refine (known09 _).mono ?_
        rintro e w5 ⟨rfl, hb5⟩
        go_wp2
        go_ret
        exact ⟨rfl, new_call HB4.out hb5⟩

set_option maxRecDepth 100000 in
theorem lifted (os : Os) (started : os.Started) (H : Type) (enc : TypeId × Value → H) :
    ReturnsInHanded {} Try.checked os 10 .any (Rows.geomInsSpec.pre6 enc Try.prog Try.f10 Rows.geomInsRow.domain false) (Rows.geomInsSpec.post enc Try.prog Try.f10 false true false false) := by
  refine returnsInHanded_of_change (C := Try.checked) Try.own started (by kernel_rfl) Try.func10
    (ChangeSpec.witness6 (enc := enc) (C := Try.checked) false ⟨#[], #[.agg #[.int .i64 0, .int .i64 0, .int .i64 0], .slice none 0 0, .int .u8 0], []⟩ 8 (by kernel_rfl) (by kernel_rfl) (by kernel_rfl) (by kernel_rfl)) ?_
  intro W base args ds gs before hval0 hW _ _
  have hval : ∀ (j : Nat) t v, Try.f10.params[j]? = some t → args[j]? = some v → Value.okWide Try.prog W .any base t v := hval0
  have hW' := hW
  obtain ⟨p, q, hA0, hV, rfl, _, _⟩ := hW
  have hA : DataW.TrodAll enc Try.prog W 0 (fun _ => true) true Try.f10.params.toList args.toList ds p := hA0
  rw [Try.params10] at hA hval
  obtain ⟨v0, v1, v2, d0, d1, d2, p0, p1, p2, rfl, rfl, rfl, h0, h1, h2⟩ := trodAll_three hA
  obtain ⟨rfl, rfl⟩ := trodVars_none hV
  obtain ⟨x0, y0, z0, rfl, hh0⟩ := open_pt (hval 0 23 v0 rfl rfl) h0
  obtain ⟨A1, n1, c1, bs1, rfl, hh1, hb1, hn1⟩ := open_pts (hval 1 28 v1 rfl rfl) h1
  obtain ⟨a2, rfl, rfl, rfl, w2⟩ := open_int Try.underlying5 (hval 2 5 v2 rfl rfl) h2
  exact (walk x0 y0 z0 A1 n1 c1 bs1 a2 W hh0 hh1 hb1 hn1 (wf_u8 w2)).mono fun e W' he =>
    law_post rfl rfl (by rw [Try.params10]; intro t ht; simp at ht; rcases ht with rfl | rfl | rfl <;> exact ⟨by kernel_rfl, of_decide_eq_true (by kernel_rfl)⟩) hW' rfl he

theorem proved : Rows.GeomInsSaid :=
  OpenClaim.holds_of_wide 10 Try.f10 rfl rfl rfl rfl rfl rfl rfl ⟨rfl, rfl, rfl, rfl, rfl⟩ rfl rfl rfl rfl rfl (by kernel_rfl) Try.func10 (by kernel_rfl)
    (of_decide_eq_true (by kernel_rfl)) (by unfold Func.isWrapper; first | (rw [if_pos (by decide +kernel)]; kernel_rfl) | (rw [if_neg (by decide +kernel)]; exact ⟨rfl, rfl⟩))
    (fun os started H enc _ => lifted os started H enc)
end Go.Proofs.Ytnhoinonojhgiaa.geomIns
