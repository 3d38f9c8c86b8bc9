/- Of any ring and any place GeomAreas answers true: twice the area is what the chapter says; begun elsewhere it is the same, backwards the opposite. Conditions: none. -/
import Derived.Test.YtnhoinonojhgiaaKnown09
import Derived.Test.YtnhoinonojhgiaaKnown08
import Derived.Test.YtnhoinonojhgiaaLawPts
namespace Go.Proofs.Ytnhoinonojhgiaa.geomAreas
open Go.ChangeShapes Go.WideShapes Go.ChangeAt Go.RowKit

theorem p3Cells_drop (l : List P3) (k : Nat) : p3Cells (l.drop k) = (p3Cells l).drop (k * 3) := by
  induction k generalizing l with
  | zero => simp
  | succ k ih =>
    cases l with
    | nil => simp [p3Cells]
    | cons q l =>
      rw [List.drop_succ_cons, ih, show p3Cells (q :: l) = .int .i64 q.1 :: .int .i64 q.2.1 :: .int .i64 q.2.2 :: p3Cells l by simp [p3Cells], show (k + 1) * 3 = k * 3 + 1 + 1 + 1 by omega, List.drop_succ_cons, List.drop_succ_cons, List.drop_succ_cons]
theorem p3Cells_take (l : List P3) (k : Nat) : p3Cells (l.take k) = (p3Cells l).take (k * 3) := by
  induction k generalizing l with
  | zero => simp [p3Cells]
  | succ k ih =>
    cases l with
    | nil => simp [p3Cells]
    | cons q l =>
      rw [List.take_succ_cons, show p3Cells (q :: l) = .int .i64 q.1 :: .int .i64 q.2.1 :: .int .i64 q.2.2 :: p3Cells l by simp [p3Cells], show (k + 1) * 3 = k * 3 + 1 + 1 + 1 by omega, List.take_succ_cons, List.take_succ_cons, List.take_succ_cons, ← ih]
      simp [p3Cells]
theorem cut_from {w : World} {b off n c : Nat} {l : List P3} (h : HasK 3 w (some ⟨b, off, none⟩) n c (p3Cells l)) {k : Nat} (hk : k ≤ n) : HasK 3 w (some ⟨b, off + k * 3, none⟩) (n - k) (c - k) (p3Cells (l.drop k)) := by
  have hl := h.len
  have hc := h.cap
  refine ⟨by rw [p3Cells_drop, List.length_drop, hl, Nat.sub_mul], by omega, fun e => (by cases e), fun hn => ?_⟩
  obtain ⟨_, _, e, hlt, hcell⟩ := h.spot (by omega)
  cases e
  refine ⟨_, _, rfl, hlt, fun j u hj => ?_⟩
  rw [p3Cells_drop, List.getElem?_drop] at hj
  rw [Nat.add_assoc]
  exact hcell _ _ hj
theorem cut_to {w : World} {A : Option Addr} {n c : Nat} {l : List P3} (h : HasK 3 w A n c (p3Cells l)) {k : Nat} (hk : k ≤ n) : HasK 3 w A k c (p3Cells (l.take k)) := by
  have hl := h.len
  have hc := h.cap
  refine ⟨by rw [p3Cells_take, List.length_take, hl, Nat.min_eq_left (by omega)], by omega, h.bare, fun hn => ?_⟩
  obtain ⟨b, off, e, hlt, hcell⟩ := h.spot (by omega)
  refine ⟨b, off, e, hlt, fun j u hj => hcell _ _ ?_⟩
  rw [p3Cells_take, List.getElem?_take] at hj
  split at hj
  · exact hj
  · cases hj
set_option maxRecDepth 100000 in
set_option maxHeartbeats 2000000 in
theorem walk (A : Option Addr) (n c : Nat) (l : List P3) (at_ : Int) (w : World) (h : HasK 3 w A n c (p3Cells l)) (_ : ∀ x ∈ l, i64P x) (_ : n ≤ 9223372036854775807) (hat : 0 ≤ at_ ∧ at_ ≤ 255) :
    Calls Try.prog 9 #[.slice A n c, .int .u8 at_] w fun e w' => e = .returned (.bool true) ∧ Below w.heap.size w w' := by
  by_cases h60 : 60 < n
  · have t : decide ((60 : Int) < (n : Int)) = true := by simp; omega
    clear h
    go_enter Try.func9, Try.ntmps9
    go_wp2_with (go_at_call 17; refine (known09 _).mono ?_; rintro e w9 ⟨rfl, hb9⟩)
    go_ret
    exact ⟨rfl, hb9⟩
  have t : decide ((60 : Int) < (n : Int)) = false := by simp; omega
  have hn : n ≤ 60 := by omega
  have HL : Hid (l.length = n) := by have := h.len; rw [p3Cells_len] at this; show _ = _; omega
  have HH := Lib.hid h
  have hcap := h.cap
  have HA := Lib.hid (geomArea_any A n c l w h (by omega))
  have HRA := Lib.hid (fun W (hW : Below w.heap.size w W) => ref9Area_any A n c l W (h.kept hW) (by omega))
  obtain ⟨N, rfl⟩ := Int.eq_ofNat_of_zero_le hat.1
  obtain ⟨k, hk⟩ : ∃ k, (if 0 < n then N % n else 0) = k := ⟨_, rfl⟩
  have hk1 : 0 < n → N % n = k ∧ k < n := fun h0 => by rw [if_pos h0] at hk; exact ⟨hk, by rw [← hk]; exact Nat.mod_lt _ h0⟩
  have hkn : k ≤ n := by
    by_cases h0 : 0 < n
    · exact Nat.le_of_lt (hk1 h0).2
    · rw [if_neg h0] at hk; omega
  have HAR := Lib.hid (fun (A' : Option Addr) (c' : Nat) W (hW : HasK 3 W A' n c' (p3Cells (l.drop k ++ l.take k))) => geomArea_any A' n c' _ W hW (by omega))
  rw [area_turned _ _ (by rw [HL.out]; exact hkn)] at HAR
  have HAB := Lib.hid (fun (A' : Option Addr) (c' : Nat) W (hW : HasK 3 W A' n c' (p3Cells l.reverse)) => geomArea_any A' n c' _ W hW (by omega))
  rw [area_rev] at HAB
  generalize areaF l = S at *
  have HIs := Lib.hid (fun B d W (hB : Has W B 8 d (intVs (digI 8 S))) => ref8Is_any B d S (hiW S) (loW S) W hB (hi_in S) (lo_in S) (cong_num S))
  have HNg := Lib.hid (fun W => wideNegC_any S W)
  unfold numV at HA HAR HAB HNg
  have hku : IntKind.wrap .i64 (N : Int) = (N : Int) := by rw [IntKind.wrap_i64]; omega
  clear h
  go_enter Try.func9, Try.ntmps9
  go_wp2_with fail
  refine HA.out.mono ?_
  rintro e w1 ⟨rfl, hb1⟩
  have HB1 := Lib.hid (new_alloc hb1 (.cells #[.int .i64 (hiW S), .int .u64 (loW S)] 34))
  have HN1 := Lib.hid (Blk.new w1 34 #[.int .i64 (hiW S), .int .u64 (loW S)])
  clear hb1 HA
  go_upto_if 18 with (with_reducible fail)
  generalize w1.alloc (.cells #[.int .i64 (hiW S), .int .u64 (loW S)] 34) = W1 at *
  go_cut [6] from 16 to 70 (fun s6 wx => s6 = .int .i64 (k : Int) ∧ wx = W1)
  case first =>
    by_cases h0 : 0 < n
    · have t2 : decide ((0 : Int) < (n : Int)) = true := by simp; omega
      have n1 : ¬ (n : Int) = 0 := by omega
      have n2 : ¬ n = 0 := by omega
      have e1 : ((N : Int)).tmod (n : Int) = (k : Int) := by rw [show ((N : Int)).tmod (n : Int) = ((N % n : Nat) : Int) from rfl, (hk1 h0).1]
      have e2 : (N : Int) % (n : Int) = (k : Int) := by rw [← (hk1 h0).1]; rfl
      clear hk
      go_wp2_with (with_reducible fail)
      go_meet
      case rel => exact ⟨by first | rfl | rw [e1] | rw [e2], rfl⟩
    · have t2 : decide ((0 : Int) < (n : Int)) = false := by simp; omega
      rw [if_neg h0] at hk
      subst hk
      go_wp2_with (with_reducible fail)
      go_meet
      case rel => exact ⟨rfl, rfl⟩
  case rest =>
    obtain ⟨rfl, hw⟩ := hcut
    have hw2 := hw.symm
    subst hw2
    clear hk hku
    have k0 : (0 : Int) ≤ (k : Int) := by omega
    have k1 : (k : Int) ≤ (n : Int) := by omega
    have k2 : (n : Int) ≤ (c : Int) := by omega
    have HB1s : Hid (w.heap.size ≤ W1.heap.size) := HB1.out.size
    go_upto_region 8 with (with_reducible fail)
    go_cut [7] from 16 to 70 (fun s7 wx => ∃ (A7 : Option Addr) (c7 : Nat), s7 = .slice A7 (n - k) c7 ∧ Hid (OwnK 3 wx W1.heap.size 23 (.slice A7 (n - k) c7) (n - k) (p3Cells (l.drop k))) ∧ Hid (Below W1.heap.size W1 wx))
    case first =>
      by_cases h0 : 0 < n
      · obtain ⟨b, off, rfl, _, _⟩ := HH.out.at_ h0
        have hkl := (hk1 h0).2
        have hc0 : ¬ c - k = 0 := by omega
        have hc1 : ¬ c ≤ k := by omega
        have HN := Lib.hid (cut_from (HH.out.kept HB1.out) hkn)
        go_wp2_with (at_builtin
                     refine wpList_joinK rfl _ _ 28 rfl elemP3 (by decide) W1.heap.size _ 0 [] rfl (OwnK.nil _ _ _ _) _ (n - k) (c - k) (p3Cells (l.drop k)) rfl HN.out (p3Cells_one _) (by omega) (by decide) (Nat.le_refl _) ?_
                     intro v7 w7 hown7 hbel7 _
                     rw [List.nil_append, Nat.zero_add] at hown7
                     obtain ⟨A7, c7, hv7, _⟩ := hown7.has
                     subst hv7
                     have HO7 := Lib.hid hown7
                     have HB7 := Lib.hid hbel7
                     clear hown7 hbel7)
        go_meet
        case rel => exact ⟨A7, c7, rfl, HO7, HB7⟩
      · obtain rfl : n = 0 := by omega
        obtain rfl : k = 0 := by omega
        have hl0 : l = [] := List.length_eq_zero_iff.1 HL.out
        subst hl0
        cases A with
        | none =>
          obtain rfl : c = 0 := HH.out.bare rfl
          go_wp2_with (at_builtin
                       refine wpList_joinK rfl _ _ 28 rfl elemP3 (by decide) W1.heap.size _ 0 [] rfl (OwnK.nil _ _ _ _) _ 0 _ [] rfl (HasK.none _ _ _ _ (fun e => by first | rfl | cases e)) (by intro u hu; cases hu) (by decide) (by decide) (Nat.le_refl _) ?_
                       intro v7 w7 hown7 hbel7 _
                       obtain ⟨A7, c7, hv7, _⟩ := hown7.has
                       subst hv7
                       have HO7 := Lib.hid hown7
                       have HB7 := Lib.hid hbel7
                       clear hown7 hbel7)
          go_meet
          case rel => exact ⟨A7, c7, rfl, HO7, HB7⟩
        | some a =>
          obtain ⟨b, off, spot⟩ := a
          by_cases hc : c = 0
          · subst hc
            go_wp2_with (at_builtin
                         refine wpList_joinK rfl _ _ 28 rfl elemP3 (by decide) W1.heap.size _ 0 [] rfl (OwnK.nil _ _ _ _) _ 0 _ [] rfl (HasK.none _ _ _ _ (fun e => by first | rfl | cases e)) (by intro u hu; cases hu) (by decide) (by decide) (Nat.le_refl _) ?_
                         intro v7 w7 hown7 hbel7 _
                         obtain ⟨A7, c7, hv7, _⟩ := hown7.has
                         subst hv7
                         have HO7 := Lib.hid hown7
                         have HB7 := Lib.hid hbel7
                         clear hown7 hbel7)
            go_meet
            case rel => exact ⟨A7, c7, rfl, HO7, HB7⟩
          · have hc1 : ¬ c ≤ 0 := by omega
            go_wp2_with (at_builtin
                         refine wpList_joinK rfl _ _ 28 rfl elemP3 (by decide) W1.heap.size _ 0 [] rfl (OwnK.nil _ _ _ _) _ 0 _ [] rfl (HasK.none _ _ _ _ (fun e => by first | rfl | cases e)) (by intro u hu; cases hu) (by decide) (by decide) (Nat.le_refl _) ?_
                         intro v7 w7 hown7 hbel7 _
                         obtain ⟨A7, c7, hv7, _⟩ := hown7.has
                         subst hv7
                         have HO7 := Lib.hid hown7
                         have HB7 := Lib.hid hbel7
                         clear hown7 hbel7)
            go_meet
            case rel => exact ⟨A7, c7, rfl, HO7, HB7⟩
    case rest =>
      obtain ⟨A7, c7, rfl, HO7, HB7⟩ := hcut
      have HB8 := Lib.hid (HB1.out.trans (HB7.out.mono HB1s.out))
      have hz7 := HB7.out.size
      have HT7 := Lib.hid (cut_to (HH.out.kept HB8.out) hkn)
      generalize wc = W2 at *
      go_upto_region 9 with (with_reducible fail)
      go_cut [7] from 16 to 70 (fun s7 wx => ∃ (A9 : Option Addr) (c9 : Nat), s7 = .slice A9 n c9 ∧ Hid (OwnK 3 wx W1.heap.size 23 (.slice A9 n c9) n (p3Cells (l.drop k ++ l.take k))) ∧ Hid (Below W1.heap.size W1 wx))
      case first =>
        go_wp2_with (at_builtin
                     refine wpList_joinK rfl _ _ 28 rfl elemP3 (by decide) W1.heap.size _ (n - k) _ rfl HO7.out _ k c (p3Cells (l.take k)) rfl HT7.out (p3Cells_one _) (by omega) (by decide) hz7 ?_
                     intro v9 w9 hown9 hbel9 _
                     rw [← p3Cells_app, Nat.sub_add_cancel hkn] at hown9
                     obtain ⟨A9, c9, hv9, _⟩ := hown9.has
                     subst hv9
                     have HO9 := Lib.hid hown9
                     have HB9 := Lib.hid (HB7.out.trans hbel9)
                     clear hown9 hbel9)
        go_meet
        case rel => exact ⟨A9, c9, rfl, HO9, HB9⟩
      case rest =>
        obtain ⟨A9, c9, rfl, HO9, HB9⟩ := hcut
        have HB10 := Lib.hid (HB1.out.trans (HB9.out.mono HB1s.out))
        have HN2 := Lib.hid (HN1.out.below HB9.out HN1.out.lt)
        obtain ⟨_, _, e9, hh9⟩ := HO9.out.has
        cases e9
        have HR9 := Lib.hid hh9
        clear hh9 HO9 HB9 HB8 HB7 HO7 HT7 HN1 HB1 HB1s hz7
        generalize wc = W3 at *
        have hw0 : IntKind.wrap .i64 ((n : Int) - 1) = (n : Int) - 1 := by rw [IntKind.wrap_i64]; omega
        go_wp2
        go_loopg [8, 9] n (fun g s8 s9 wx => ∃ j : Nat, j + g = n ∧ s9 = .int .i64 ((n : Int) - 1 - (j : Int)) ∧ Hid (OwnK 3 wx W3.heap.size 23 s8 j (p3Cells (l.reverse.take j))) ∧ Hid (Below W3.heap.size W3 wx))
        case atStart => exact ⟨0, by omega, by go_num, OwnK.nil _ _ _ _, Below.refl _ _⟩
        case round =>
          obtain ⟨j, hjg, rfl, HO, HB⟩ := hrel
          have hz := HB.out.size
          by_cases hj : j < n
          · obtain ⟨m, hm⟩ : ∃ m, n - 1 - j = m := ⟨_, rfl⟩
            have em : (n : Int) - 1 - (j : Int) = (m : Int) := by omega
            have hml : m < l.length := by rw [HL.out]; omega
            have m1 : (m : Int) < (n : Int) := by omega
            have t0 : decide ((0 : Int) ≤ (m : Int)) = true := by simp
            obtain ⟨b, off, rfl, _, _⟩ := HH.out.at_ (by omega)
            obtain ⟨z1, z2, z3⟩ := p3_at (HH.out.kept (new_call HB10.out HB.out)) hml
            have HS : Hid (p3Cells (l.reverse.take j) ++ p3Cells [l[m]] = p3Cells (l.reverse.take (j + 1))) := by
              show _ = _
              have hjr : j < l.reverse.length := by rw [List.length_reverse, HL.out]; exact hj
              have e : l.reverse[j] = l[m] := by
                rw [List.getElem_reverse]
                congr 1
                have := HL.out
                omega
              rw [← p3Cells_app, List.take_succ_eq_append_getElem hjr, e]
            generalize l[m] = q at *
            obtain ⟨qx, qy, qz⟩ := q
            simp only at z1 z2 z3
            have HEm : Hid ((n : Int) - 1 - (j : Int) = (m : Int)) := em
            have hw1 : IntKind.wrap .i64 ((m : Int) - 1) = (m : Int) - 1 := by rw [IntKind.wrap_i64]; omega
            rw [em]
            clear em hm hml hw0
            go_wp2_with (at_builtin
                         refine wpList_joinK rfl _ _ 28 rfl elemP3 (by decide) W3.heap.size _ j _ rfl (HO.out.alloc _) _ 1 1 (p3Cells [(qx, qy, qz)]) rfl (HasK.new_at 3 _ #[_, _, _] _ _ 1 rfl rfl) (p3Cells_one _) (by omega) (by decide) (Nat.le_trans hz (new_alloc (Below.refl _ _) _).size) ?_
                         intro v7 w7 hown7 hbel7 _
                         rw [HS.out] at hown7
                         have HO7 := Lib.hid hown7
                         have HB7 := Lib.hid ((new_alloc HB.out _).trans hbel7)
                         clear hown7 hbel7)
            go_roundg (gk - 1)
            case measure => omega
            case rel => exact ⟨j + 1, by omega, by have := HEm.out; go_num, HO7, HB7⟩
          · obtain rfl : j = n := by omega
            have em : (j : Int) - 1 - (j : Int) = -1 := by omega
            rw [em]
            rw [List.take_of_length_le (by rw [List.length_reverse, HL.out]; exact Nat.le_refl _)] at HO
            obtain ⟨A8, c8, e8, hh8⟩ := HO.out.has
            subst e8
            have HAR4 := Lib.hid (fun W (hW : Below wr.heap.size wr W) => HAR.out A9 c9 W (HR9.out.kept (new_call HB.out hW)))
            have HAB4 := Lib.hid (fun W (hW : Below wr.heap.size wr W) => HAB.out A8 c8 W (hh8.kept hW))
            have HB4 := Lib.hid (new_call HB10.out HB.out)
            have HN4 := Lib.hid (HN2.out.below HB.out HN2.out.lt)
            have HS : Hid (∀ W, Below wr.heap.size wr W → W.cell? ⟨w1.heap.size, 0, none⟩ = some (.int .i64 (hiW S)) ∧ W.cell? ⟨w1.heap.size, 1, none⟩ = some (.int .u64 (loW S))) := fun W hW =>
              ⟨(HN4.out.below hW HN4.out.lt).cell 0, (HN4.out.below hW HN4.out.lt).cell 1⟩
            have HBv0 : Hid (Below wr.heap.size wr wr.drew) := (Below.refl _ _).drew
            clear hh8 HO HB HB10 HN2 HR9 HAR HAB em hw0
            go_wp2_with (with_reducible fail)
            go_region_held3 (fun W => W.cell? ⟨w1.heap.size, 0, none⟩ = some (.int .i64 (hiW S)) ∧ W.cell? ⟨w1.heap.size, 1, none⟩ = some (.int .u64 (loW S))) (first | (with_reducible exact HS.out _ HBv6.out) | (with_reducible exact HS.out _ HBv5.out) | (with_reducible exact HS.out _ HBv4.out) | (with_reducible exact HS.out _ HBv3.out) | (with_reducible exact HS.out _ HBv2.out) | (with_reducible exact HS.out _ HBv1.out) | (with_reducible exact HS.out _ HBv0.out)) (first
              | (go_at_call 22; (with_reducible refine (HRA.out wr.drew (new_call HB4.out HBv0.out)).mono ?_); rintro e v1 ⟨A1, c1, rfl, hh1, hb1, _⟩; have HBv1 := Lib.hid (new_call HBv0.out hb1); have HIw := Lib.hid (HIs.out A1 c1 v1 hh1); clear hh1 hb1)
              | (go_at_call 21; (with_reducible refine HIw.out.mono ?_); rintro e v2 ⟨rfl, hb2⟩; have HBv2 := Lib.hid (new_call HBv1.out hb2); clear hb2)
              | (go_at_call 20; (with_reducible refine (HAR4.out v2 HBv2.out).mono ?_); rintro e v3 ⟨rfl, hb3⟩; have HBv3 := Lib.hid (new_call HBv2.out hb3); clear hb3)
              | (go_at_call 20; (with_reducible refine (HAB4.out v3 HBv3.out).mono ?_); rintro e v4 ⟨rfl, hb4⟩; have HBv4 := Lib.hid (new_call HBv3.out hb4); clear hb4)
              | (go_at_call 26; (with_reducible refine (HNg.out v4).mono ?_); rintro e v5 ⟨rfl, hb5⟩; have HBv5 := Lib.hid (new_call HBv4.out hb5); clear hb5)
              | (go_at_call 17; (with_reducible refine (known09 _).mono ?_); rintro e v6 ⟨rfl, hb6⟩; have HBv6 := Lib.hid (new_call HBv5.out hb6); clear hb6))
            all_goals
              go_wp2
              go_ret
              exact ⟨rfl, new_call HB4.out HBv6.out⟩

set_option maxRecDepth 100000 in
theorem lifted (os : Os) (started : os.Started) (H : Type) (enc : TypeId × Value → H) :
    ReturnsInHanded {} Try.checked os 9 .any (Rows.geomAreasSpec.pre6 enc Try.prog Try.f9 Rows.geomAreasRow.domain false) (Rows.geomAreasSpec.post enc Try.prog Try.f9 false true false false) := by
  refine returnsInHanded_of_change (C := Try.checked) Try.own started (by kernel_rfl) Try.func9
    (ChangeSpec.witness6 (enc := enc) (C := Try.checked) false ⟨#[], #[.slice none 0 0, .int .u8 0], []⟩ 8 (by kernel_rfl) (by kernel_rfl) (by kernel_rfl) (by kernel_rfl)) ?_
  intro W base args ds gs before hval0 hW _ _
  have hval : ∀ (j : Nat) t v, Try.f9.params[j]? = some t → args[j]? = some v → Value.okWide Try.prog W .any base t v := hval0
  have hW' := hW
  obtain ⟨p, q, hA0, hV, rfl, _, _⟩ := hW
  have hA : DataW.TrodAll enc Try.prog W 0 (fun _ => true) true Try.f9.params.toList args.toList ds p := hA0
  rw [Try.params9] at hA hval
  obtain ⟨v0, v1, d0, d1, p0, p1, rfl, rfl, rfl, h0, h1⟩ := trodAll_two hA
  obtain ⟨rfl, rfl⟩ := trodVars_none hV
  obtain ⟨A0, n0, c0, bs0, rfl, hh0, hb0, hn0⟩ := open_pts (hval 0 28 v0 rfl rfl) h0
  obtain ⟨a1, rfl, rfl, rfl, w1⟩ := open_int Try.underlying5 (hval 1 5 v1 rfl rfl) h1
  exact (walk A0 n0 c0 bs0 a1 W hh0 hb0 hn0 (wf_u8 w1)).mono fun e W' he =>
    law_post rfl rfl (by rw [Try.params9]; intro t ht; simp at ht; rcases ht with rfl | rfl <;> exact ⟨by kernel_rfl, of_decide_eq_true (by kernel_rfl)⟩) hW' rfl he

theorem proved : Rows.GeomAreasSaid :=
  OpenClaim.holds_of_wide 9 Try.f9 rfl rfl rfl rfl rfl rfl rfl ⟨rfl, rfl, rfl, rfl, rfl⟩ rfl rfl rfl rfl rfl (by kernel_rfl) Try.func9 (by kernel_rfl)
    (of_decide_eq_true (by kernel_rfl)) (by unfold Func.isWrapper; first | (rw [if_pos (by decide +kernel)]; kernel_rfl) | (rw [if_neg (by decide +kernel)]; exact ⟨rfl, rfl⟩))
    (fun os started H enc _ => lifted os started H enc)
end Go.Proofs.Ytnhoinonojhgiaa.geomAreas
