/- Triangles begun elsewhere in their row, and each begun at another corner, are a surface just if they were, and of the same edges: whatever mesh, whatever corners and whatever place come in, MeshTurned answers true. -/
import Derived.Test.YtckjmnbglbegmaaDoorMeshRot
import Derived.Test.YtckjmnbglbegmaaDoorLawMesh
import Derived.Test.YtckjmnbglbegmaaDoorLawInts
import Derived.Test.YtckjmnbglbegmaaDoorLawLaid
import Derived.Deep.CutRange
namespace Go.Proofs.YtckjmnbglbegmaaDoor.meshTurned
open Go.ChangeShapes Go.WideShapes Go.ChangeAt Go.RowKit

set_option maxRecDepth 100000 in
set_option maxHeartbeats 8000000 in
theorem walk (A : Option Addr) (n c : Nat) (P : List P3) (B : Option Addr) (m d : Nat) (T : List P3) (C : Option Addr) (k f : Nat) (l : List Int) (at_ : Int) (W : World) (hbe : BehW W) (hp : HasK 3 W A n c (p3Cells P)) (ht : HasK 3 W B m d (p3Cells T)) (_ : ∀ x ∈ P, i64T x) (_ : ∀ x ∈ T, i64T x) (_ : n ≤ 9223372036854775807) (_ : m ≤ 9223372036854775807)
    (hl : Has W C k f (intVs l)) (_ : ∀ x ∈ l, -9223372036854775808 ≤ x ∧ x ≤ 9223372036854775807) (hk : k ≤ 9223372036854775807) (_ : -9223372036854775808 ≤ at_ ∧ at_ ≤ 9223372036854775807) : Calls Tryd.prog 5 #[.agg #[.slice A n c, .slice B m d], .slice C k f, .int .i64 at_] W fun e w' => e = .returned (.bool true) ∧ Below W.heap.size W w' := by
  have HK0 := Lib.hid (MeshAt.new W (.slice A n c) (.slice B m d))
  have m0 := HK0.out.b0.cell 0
  have m1 := HK0.out.b0.cell 1
  have HKn := Lib.hid (fun w (hW : Below W.heap.size W w) => known10 w (hbe.kept hW))
  by_cases hlg : n ≤ 40 ∧ m ≤ 60
  · have HLo := Lib.hid (fun w => lawlong_any A n c B m d false w (by rw [decide_eq_false (by omega), decide_eq_false (by omega)]; rfl))
    obtain ⟨r, hr⟩ := check_total P T
    have HPn : Hid (P.length = n) := by have := hp.len; rw [p3Cells_len] at this; show _ = _; omega
    have HTm : Hid (T.length = m) := by have := ht.len; rw [p3Cells_len] at this; show _ = _; omega
    have HLk : Hid (l.length = k) := by have := hl.len; rw [intVs_len] at this; exact this
    have HCk := Lib.hid (fun w (hW : Below W.heap.size W w) => meshCheck_any A n c P B m d T r w (hbe.kept hW) (hp.kept hW) (ht.kept hW) (by omega) (by omega) hr)
    have HTu := Lib.hid (fun w (hW : Below W.heap.size W w) => meshTurned_any A n c P B m d T C k f l r w (hbe.kept hW) (hp.kept hW) (ht.kept hW) (hl.kept hW) (by omega) (by omega) hk hr)
    have HBe := Lib.hid hbe
    have HPs := Lib.hid hp
    have HTs := Lib.hid ht
    have HLs := Lib.hid hl
    have HR := Lib.hid hr
    obtain ⟨N, hN⟩ : ∃ N : Nat, IntKind.wrap .u64 at_ = (N : Int) := ⟨(IntKind.wrap .u64 at_).toNat, by rw [IntKind.wrap_u64]; omega⟩
    obtain ⟨q, hq⟩ : ∃ q, (if 0 < m then N % m else 0) = q := ⟨_, rfl⟩
    have hq1 : 0 < m → N % m = q ∧ q < m := fun h0 => by rw [if_pos h0] at hq; exact ⟨hq, by rw [← hq]; exact Nat.mod_lt _ h0⟩
    have hqm : q ≤ m := by
      by_cases h0 : 0 < m
      · exact Nat.le_of_lt (hq1 h0).2
      · rw [if_neg h0] at hq; omega
    have HCr := Lib.hid (fun (B9 : Option Addr) (d9 : Nat) w (hW : Below W.heap.size W w) (h : HasK 3 w B9 m d9 (p3Cells (T.drop q ++ T.take q))) => meshCheck_any A n c P B9 m d9 (T.drop q ++ T.take q) r w (hbe.kept hW) (hp.kept hW) h (by omega) (by omega) (check_perm (rot_perm T q).symm hr))
    have hcd := ht.cap
    have hmu : IntKind.wrap .u64 (m : Int) = (m : Int) := by rw [IntKind.wrap_u64]; omega
    have hqi : IntKind.wrap .i64 (q : Int) = (q : Int) := by rw [IntKind.wrap_i64]; omega
    obtain ⟨kz, ks⟩ := zero_of_info meshM_info
    have hlg1 := hlg.1
    have hlg2 := hlg.2
    clear hp ht hl hr hbe hlg
    go_enter Tryd.func5, Tryd.ntmps5
    go_wp2_with fail
    refine (HLo.out _).mono ?_
    rintro e w1 ⟨rfl, hb1⟩
    have HK1 := Lib.hid (HK0.out.next hb1)
    clear hb1 HK0 m0 m1
    have m0 := HK1.out.b0.cell 0
    have m1 := HK1.out.b0.cell 1
    go_wp2_with fail
    refine (HCk.out _ HK1.out.bel).mono ?_
    rintro e w2 ⟨rfl, hb2⟩
    have HK2 := Lib.hid (HK1.out.next hb2)
    clear hb2 HK1 m0 m1
    have HA2 := Lib.hid (HK2.out.next (new_alloc (Below.refl _ _) (.cells #[.slice none 0 0, .slice none 0 0] 25)))
    have m0 := HA2.out.b0.cell 0
    have m1 := HA2.out.b0.cell 1
    have n0 := (Blk.new w2 25 #[.slice none 0 0, .slice none 0 0]).cell 0
    have f0 := (Blk.new w2 25 #[.slice none 0 0, .slice none 0 0]).frozen 0
    have HR2 := Lib.hid (RotW.new HK2.out (.slice A n c))
    have p1 := HR2.out.at_.b0.cell 1
    go_upto_if 36 with (with_reducible fail)
    have HZ2 : Hid (MeshAt W (.slice A n c) (.slice B m d) w2) := HK2.out
    generalize w2.alloc (.cells #[.slice A n c, .slice none 0 0] 25) = W3 at *
    go_cut [9] from 25 to 225 (fun s9 wx => s9 = .int .i64 (q : Int) ∧ wx = W3)
    case first =>
      as_aux_lemma =>
        by_cases h0 : 0 < m
        · have t2 : decide ((0 : Int) < (m : Int)) = true := by simp; omega
          have n1 : ¬ (m : Int) = 0 := by omega
          have n2 : ¬ m = 0 := by omega
          have e1 : ((N : Int)).tmod (m : Int) = (q : Int) := by rw [show ((N : Int)).tmod (m : Int) = ((N % m : Nat) : Int) from rfl, (hq1 h0).1]
          have e2 : (N : Int) % (m : Int) = (q : Int) := by rw [← (hq1 h0).1]; rfl
          clear hq
          go_wp2_with (with_reducible fail)
          go_meet
          case rel => exact ⟨by first | rfl | rw [e1] | rw [e2] | (rw [e1, hqi]) | (rw [e2, hqi]), rfl⟩
        · have t2 : decide ((0 : Int) < (m : Int)) = false := by simp; omega
          rw [if_neg h0] at hq
          subst hq
          go_wp2_with (with_reducible fail)
          go_meet
          case rel => exact ⟨rfl, rfl⟩
    case rest =>
      as_aux_lemma =>
        obtain ⟨rfl, hw⟩ := hcut
        have hw2 := hw.symm
        subst hw2
        clear hq hN hmu m0 m1 n0 f0 p1
        have k0 : (0 : Int) ≤ (q : Int) := by omega
        have k1 : (q : Int) ≤ (m : Int) := by omega
        have k2 : (m : Int) ≤ (d : Int) := by omega
        go_upto_region 9 with (with_reducible fail)
        go_cut [9] from 25 to 225 (fun s9 wx => s9 = .int .i64 (q : Int) ∧ ∃ (A7 : Option Addr) (c7 : Nat), Hid (RotW W w2 (.slice A n c) (.slice B m d) (.slice A n c) (.slice A7 (m - q) c7) (m - q) (T.drop q) wx))
        case first =>
          as_aux_lemma =>
            have HRd := Lib.hid (HR2.out.next (Below.refl _ _).drew)
            have m1 := HRd.out.at_.b0.cell 1
            have n1 := HRd.out.own.cell 1
            have f1 := HRd.out.own.frozen 1
            by_cases h0 : 0 < m
            · obtain ⟨b, off, rfl, _, _⟩ := HTs.out.spot h0
              have hqm2 := (hq1 h0).2
              have hc0 : ¬ d - q = 0 := by omega
              have hc1 : ¬ d ≤ q := by omega
              have hc2 : ¬ d = q := by omega
              have hc3 : q ≤ d := by omega
              have hc4 : q ≤ m := by omega
              have HN := Lib.hid (cut_from (HTs.out.kept HRd.out.at_.bel) hqm)
              clear hq1
              go_wp2_with fail
              go_region_law (refine step_joinK (o := ⟨some 51, _, _, _, _, _⟩) rfl (.tmp 46) (.tmp 50) 23 rfl elemT3 (by decide) (w2.heap.size + 1) (.slice none 0 0) 0 [] (by kernel_rfl) (OwnK.nil _ _ _ _) (some ⟨b, off + q * 3, none⟩) (m - q) (d - q) (p3Cells (T.drop q)) (by kernel_rfl) HN.out (p3Cells_one _) (by omega) (by decide) HRd.out.own.lt ?_
                             intro v7 w7 hown7 hbel7 _
                             rw [List.nil_append, Nat.zero_add] at hown7
                             obtain ⟨A7, c7, hv7, _⟩ := hown7.has
                             subst hv7
                             have HM7 := Lib.hid (HRd.out.app (L' := T.drop q) hown7 hbel7)
                             have HR7 := Lib.hid HM7.out.put
                             clear hown7 hbel7
                             have y1 := HM7.out.own.cell 1
                             have y2 := HM7.out.own.frozen 1)
              all_goals
                go_wp2_with (with_reducible fail)
                go_meet
                case rel => exact ⟨rfl, A7, c7, HR7⟩
            · obtain rfl : m = 0 := by omega
              obtain rfl : q = 0 := by omega
              have hT0 : T = [] := List.length_eq_zero_iff.1 HTm.out
              subst hT0
              cases B with
              | none =>
                obtain rfl : d = 0 := HTs.out.bare rfl
                go_wp2_with fail
                go_region_law (refine step_joinK (o := ⟨some 51, _, _, _, _, _⟩) rfl (.tmp 46) (.tmp 50) 23 rfl elemT3 (by decide) (w2.heap.size + 1) (.slice none 0 0) 0 [] (by kernel_rfl) (OwnK.nil _ _ _ _) none 0 0 [] (by kernel_rfl) (HasK.none _ _ _ _ (fun e => by first | rfl | cases e)) (fun u hu => by cases hu) (by omega) (by decide) HRd.out.own.lt ?_
                               intro v7 w7 hown hbel _
                               rw [List.nil_append, Nat.zero_add] at hown
                               obtain ⟨A7, c7, hv, _⟩ := hown.has
                               subst hv
                               have HM7 := Lib.hid (HRd.out.app (L' := []) hown hbel)
                               have HR7 := Lib.hid HM7.out.put
                               clear hown hbel
                               have y1 := HM7.out.own.cell 1
                               have y2 := HM7.out.own.frozen 1)
                all_goals
                  go_wp2_with (with_reducible fail)
                  go_meet
                  case rel => exact ⟨rfl, A7, c7, HR7⟩
              | some a =>
                obtain ⟨b, off, spot⟩ := a
                by_cases hc : d = 0
                · subst hc
                  go_wp2_with fail
                  go_region_law (refine step_joinK (o := ⟨some 51, _, _, _, _, _⟩) rfl (.tmp 46) (.tmp 50) 23 rfl elemT3 (by decide) (w2.heap.size + 1) (.slice none 0 0) 0 [] (by kernel_rfl) (OwnK.nil _ _ _ _) (some ⟨b, off, spot⟩) 0 0 [] (by kernel_rfl) (HasK.none _ _ _ _ (fun e => by first | rfl | cases e)) (fun u hu => by cases hu) (by omega) (by decide) HRd.out.own.lt ?_
                                 intro v7 w7 hown hbel _
                                 rw [List.nil_append, Nat.zero_add] at hown
                                 obtain ⟨A7, c7, hv, _⟩ := hown.has
                                 subst hv
                                 have HM7 := Lib.hid (HRd.out.app (L' := []) hown hbel)
                                 have HR7 := Lib.hid HM7.out.put
                                 clear hown hbel
                                 have y1 := HM7.out.own.cell 1
                                 have y2 := HM7.out.own.frozen 1)
                  all_goals
                    go_wp2_with (with_reducible fail)
                    go_meet
                    case rel => exact ⟨rfl, A7, c7, HR7⟩
                · have hc1 : ¬ d ≤ 0 := by omega
                  go_wp2_with fail
                  go_region_law (refine step_joinK (o := ⟨some 51, _, _, _, _, _⟩) rfl (.tmp 46) (.tmp 50) 23 rfl elemT3 (by decide) (w2.heap.size + 1) (.slice none 0 0) 0 [] (by kernel_rfl) (OwnK.nil _ _ _ _) (some ⟨b, off, spot⟩) 0 d [] (by kernel_rfl) (HasK.none _ _ _ _ (fun e => by first | rfl | cases e)) (fun u hu => by cases hu) (by omega) (by decide) HRd.out.own.lt ?_
                                 intro v7 w7 hown hbel _
                                 rw [List.nil_append, Nat.zero_add] at hown
                                 obtain ⟨A7, c7, hv, _⟩ := hown.has
                                 subst hv
                                 have HM7 := Lib.hid (HRd.out.app (L' := []) hown hbel)
                                 have HR7 := Lib.hid HM7.out.put
                                 clear hown hbel
                                 have y1 := HM7.out.own.cell 1
                                 have y2 := HM7.out.own.frozen 1)
                  all_goals
                    go_wp2_with (with_reducible fail)
                    go_meet
                    case rel => exact ⟨rfl, A7, c7, HR7⟩
        case rest =>
          obtain ⟨rfl, A7, c7, HR7⟩ := hcut
          go_upto_region 10 with (with_reducible fail)
          go_cut [9] from 25 to 225 (fun s9 wx => s9 = .int .i64 (q : Int) ∧ ∃ (A9 : Option Addr) (c9 : Nat), Hid (RotW W w2 (.slice A n c) (.slice B m d) (.slice A n c) (.slice A9 m c9) m (T.drop q ++ T.take q) wx))
          case first =>
            as_aux_lemma =>
              have HRd := Lib.hid (HR7.out.next (Below.refl _ _).drew)
              have m1 := HRd.out.at_.b0.cell 1
              have n1 := HRd.out.own.cell 1
              have f1 := HRd.out.own.frozen 1
              have HN := Lib.hid (cut_to (HTs.out.kept HRd.out.at_.bel) hqm)
              have hqd : q ≤ d := Nat.le_trans hqm hcd
              clear hq1
              go_wp2_with fail
              go_region_law (refine step_joinK (o := ⟨some 59, _, _, _, _, _⟩) rfl (.tmp 54) (.tmp 58) 23 rfl elemT3 (by decide) (w2.heap.size + 1) (.slice A7 (m - q) c7) (m - q) (p3Cells (T.drop q)) (by kernel_rfl) HRd.out.tri B q d (p3Cells (T.take q)) (by kernel_rfl) HN.out (p3Cells_one _) (by omega) (by decide) HRd.out.own.lt ?_
                             intro v9 w9 hown hbel _
                             rw [← p3Cells_app, Nat.sub_add_cancel hqm] at hown
                             obtain ⟨A9, c9, hv, _⟩ := hown.has
                             subst hv
                             have HM9 := Lib.hid (HRd.out.app (L' := T.drop q ++ T.take q) hown hbel)
                             have HR9 := Lib.hid HM9.out.put
                             clear hown hbel
                             have y1 := HM9.out.own.cell 1
                             have y2 := HM9.out.own.frozen 1)
              all_goals
                go_wp2_with (with_reducible fail)
                go_meet
                case rel => exact ⟨rfl, A9, c9, HR9⟩
          case rest =>
            as_aux_lemma =>
              obtain ⟨rfl, A9, c9, HR9⟩ := hcut
              have HRt : Hid (HasK 3 wc A9 m c9 (p3Cells (T.drop q ++ T.take q))) := by
                obtain ⟨_, _, e9, h9⟩ := HR9.out.tri.has
                cases e9
                exact h9
              have HCr9 := Lib.hid (HCr.out A9 c9 wc HR9.out.at_.bel HRt.out)
              have m0 := HR9.out.at_.b0.cell 0
              have m1 := HR9.out.at_.b0.cell 1
              have n0 := HR9.out.own.cell 0
              have n1 := HR9.out.own.cell 1
              have tr : (r != r) = false := by simp
              clear HR7 HCr hq1 hqi hcd k0 k1 k2 hw HZ2
              go_wp2_with fail
              refine HCr9.out.mono ?_
              rintro e w3 ⟨rfl, hb3⟩
              have HR3 := Lib.hid (HR9.out.next hb3)
              have HRt3 := Lib.hid (HRt.out.kept hb3)
              clear hb3 m0 m1 n0 n1 HR9 HRt HCr9
              have m0 := HR3.out.at_.b0.cell 0
              have m1 := HR3.out.at_.b0.cell 1
              have n0 := HR3.out.own.cell 0
              have n1 := HR3.out.own.cell 1
              by_cases h0 : r = 0
              · subst h0
                have t0 : ((0 : Int) != 0) = false := rfl
                clear tr
                obtain ⟨⟨P', T', E⟩, hX⟩ : ∃ X, turnedF P T l 0 = X := ⟨_, rfl⟩
                have HX := Lib.hid hX
                rw [hX] at HTu
                simp only at HTu
                clear hX
                go_wp2_with fail
                refine (HTu.out _ HR3.out.at_.bel).mono ?_
                rintro e w4 ⟨A4, c4, B4, d4, rfl, ho1, ho2, hb4, _⟩
                have HR4 := Lib.hid (HR3.out.next hb4)
                have HRt4 := Lib.hid (HRt3.out.kept hb4)
                have HXp : Hid (HasK 3 w4 A4 P'.length c4 (p3Cells P')) := by
                  obtain ⟨_, _, e9, h9⟩ := OwnK.has ho1
                  cases e9
                  exact h9
                have HXt : Hid (HasK 3 w4 B4 T'.length d4 (p3Cells T')) := by
                  obtain ⟨_, _, e9, h9⟩ := OwnK.has ho2
                  cases e9
                  exact h9
                clear hb4 ho1 ho2 m0 m1 n0 n1 HR3 HRt3
                have HN4 := Lib.hid (new_alloc (Below.refl w4.heap.size w4) (.cells #[.slice A4 P'.length c4, .slice B4 T'.length d4] 25))
                have HY5 : Hid (TurnX W w2 (.slice A n c) (.slice B m d) (.slice A n c) (.slice A9 m c9) m (T.drop q ++ T.take q) w4.heap.size (.slice A4 P'.length c4) (.slice B4 T'.length d4) (w4.alloc (.cells #[.slice A4 P'.length c4, .slice B4 T'.length d4] 25))) := ⟨HR4.out.next HN4.out, Blk.new w4 _ _⟩
                have HRt5 := Lib.hid (HRt4.out.kept HN4.out)
                have HXp5 := Lib.hid (HXp.out.kept HN4.out)
                have HXt5 := Lib.hid (HXt.out.kept HN4.out)
                have m1 := HY5.out.rot.at_.b0.cell 1
                obtain ⟨b0, hb0⟩ : ∃ b0, decide (k = m) = b0 := ⟨_, rfl⟩
                have hkm : ((k : Int) == (m : Int)) = b0 := by rw [← hb0, Bool.eq_iff_iff, beq_iff_eq, decide_eq_true_iff]; omega
                have HB0 : Hid (bysOk T l = (b0 && l.all cornB)) := by show _ = _; rw [bys_corn, HLk.out, HTm.out, hb0]
                clear hb0 HR4 HRt4 HXp HXt HN4
                go_wp2_with fail
                generalize w4.alloc (.cells #[.slice A4 P'.length c4, .slice B4 T'.length d4] 25) = W5 at *
                generalize w4.heap.size = G2 at *
                clear m1
                go_loopg [12, 13] k (fun g s12 s13 wx => ∃ i : Nat, i + g = k ∧ s13 = .int .i64 i ∧ s12 = .bool (b0 && (l.take i).all cornB) ∧ W5 = wx)
                case atStart => exact ⟨0, by omega, rfl, by first | (rw [hkm]; simp) | simp | (cases b0 <;> rfl), rfl⟩
                case round =>
                  obtain ⟨i, hig, rfl, rfl, rfl⟩ := hrel
                  by_cases hi : i < k
                  · as_aux_lemma =>
                      have ti : decide ((i : Int) < (k : Int)) = true := by simp; omega
                      have i2 : (i : Int) < (k : Int) := by omega
                      have hil : i < l.length := by rw [HLk.out]; exact hi
                      have HNx : Hid ((b0 && (l.take (i + 1)).all cornB) = ((b0 && (l.take i).all cornB) && cornB l[i])) := corn_next hil b0
                      obtain ⟨bC, oC, rfl, _, hcl⟩ := (HLs.out.kept HY5.out.rot.at_.bel).spot (by omega)
                      have c0 := hcl i _ (intVs_at hil)
                      generalize (b0 && (l.take i).all cornB) = z at *
                      generalize l[i] = x at *
                      clear hcl hil
                      cases z with
                      | false =>
                        go_wp2
                        go_roundg (k - (i + 1))
                        case measure => omega
                        case rel => exact ⟨i + 1, by omega, by go_num, by rw [HNx.out]; rfl, rfl⟩
                      | true =>
                        rcases corn_ways x with ⟨h1, h2⟩ | ⟨h1, h2, h3⟩ | ⟨h1, h2, h3⟩
                        · have d1 : decide ((0 : Int) ≤ x) = false := decide_eq_false (by omega)
                          rw [h2] at HNx
                          go_wp2
                          go_roundg (k - (i + 1))
                          case measure => omega
                          case rel => exact ⟨i + 1, by omega, by go_num, by rw [HNx.out]; rfl, rfl⟩
                        · have d1 : decide ((0 : Int) ≤ x) = true := decide_eq_true (by omega)
                          have d2 : decide (x ≤ 2) = false := decide_eq_false (by omega)
                          rw [h3] at HNx
                          go_wp2
                          go_roundg (k - (i + 1))
                          case measure => omega
                          case rel => exact ⟨i + 1, by omega, by go_num, by rw [HNx.out]; rfl, rfl⟩
                        · have d1 : decide ((0 : Int) ≤ x) = true := decide_eq_true (by omega)
                          have d2 : decide (x ≤ 2) = true := decide_eq_true (by omega)
                          rw [h3] at HNx
                          go_wp2
                          go_roundg (k - (i + 1))
                          case measure => omega
                          case rel => exact ⟨i + 1, by omega, by go_num, by rw [HNx.out]; rfl, rfl⟩
                  · as_aux_lemma =>
                      have ti : decide ((i : Int) < (k : Int)) = false := by simp; omega
                      obtain rfl : i = k := by omega
                      rw [List.take_of_length_le (Nat.le_of_eq HLk.out)]
                      cases hby : (b0 && l.all cornB) with
                      | false =>
                        as_aux_lemma =>
                          have hX := (turned_bad (P := P) (HB0.out.trans hby)).symm.trans HX.out
                          obtain ⟨rfl, rfl, rfl⟩ : P' = [] ∧ T' = [] ∧ E = 2 := by
                            injection hX with e1 e2
                            injection e2 with e2 e3
                            exact ⟨e1.symm, e2.symm, e3.symm⟩
                          have x1 := HY5.out.own.cell 1
                          simp only [List.length_nil] at x1
                          clear hX hby
                          go_wp2_with fail
                          refine (HKn.out _ HY5.out.rot.at_.bel).mono ?_
                          rintro e w9 ⟨rfl, hb9⟩
                          go_wp2
                          go_ret
                          exact ⟨rfl, new_call HY5.out.rot.at_.bel hb9⟩
                      | true =>
                        as_aux_lemma =>
                          have hX := (turned_good (P := P) (HB0.out.trans hby)).symm.trans HX.out
                          have hall : l.all cornB = true := (Bool.and_eq_true_iff.1 hby).2
                          have hlen : l.length = T.length := by
                            have h9 := HB0.out.trans hby
                            rw [bys_corn, Bool.and_eq_true, decide_eq_true_iff] at h9
                            exact h9.1
                          have hlb : (l.map Int.toNat).length = T.length := by rw [List.length_map]; exact hlen
                          obtain ⟨rfl, rfl, rfl⟩ : P = P' ∧ turnsT T (l.map Int.toNat) = T' ∧ 0 = E := by
                            injection hX with e1 e2
                            injection e2 with e2 e3
                            exact ⟨e1, e2, e3⟩
                          have hT2 : (turnsT T (l.map Int.toNat)).length = m := (turns_len hlb).trans HTm.out
                          have hpn : P.length = n := HPn.out
                          rw [hpn] at HXp5
                          rw [hT2] at HXt5
                          rw [hpn, hT2] at HY5 ⊢
                          have HEd : Hid (∀ w, Below W5.heap.size W5 w → Calls Tryd.prog 16 #[.agg #[.slice A n c, .slice B m d]] w (Edgd w (edgesF P.length T false) 0)) := fun w hW => by
                            have hB := new_call HY5.out.rot.at_.bel hW
                            have := meshEdges_any A n c P B m d T 0 w (HBe.out.kept hB) (HPs.out.kept hB) (HTs.out.kept hB) (by omega) (by omega) HR.out
                            rw [if_pos rfl] at this
                            exact this
                          have HEr : Hid (∀ w, Below W5.heap.size W5 w → Calls Tryd.prog 16 #[.agg #[.slice A n c, .slice A9 m c9]] w (Edgd w (edgesF P.length T false) 0)) := fun w hW => by
                            have hB := new_call HY5.out.rot.at_.bel hW
                            have := meshEdges_any A n c P A9 m c9 (T.drop q ++ T.take q) 0 w (HBe.out.kept hB) (HPs.out.kept hB) (HRt5.out.kept hW) (by omega) (by omega) (check_perm (rot_perm T q).symm HR.out)
                            rw [if_pos rfl, perm_edges (rot_perm T q)] at this
                            exact this
                          have HEx : Hid (∀ w, Below W5.heap.size W5 w → Calls Tryd.prog 16 #[.agg #[.slice A4 n c4, .slice B4 m d4]] w (Edgd w (edgesF P.length T false) 0)) := fun w hW => by
                            have hB := new_call HY5.out.rot.at_.bel hW
                            have := meshEdges_any A4 n c4 P B4 m d4 (turnsT T (l.map Int.toNat)) 0 w (HBe.out.kept hB) (HXp5.out.kept hW) (HXt5.out.kept hW) (by omega) (by omega) (check_turns hlb HR.out)
                            rw [if_pos rfl, turns_edges hlb] at this
                            exact this
                          have HBm : Hid (∀ w, Below W5.heap.size W5 w → Calls Tryd.prog 17 #[.agg #[.slice A n c, .slice B m d]] w (Edgd w (edgesF P.length T true) 0)) := fun w hW => by
                            have hB := new_call HY5.out.rot.at_.bel hW
                            have := meshBorder_any A n c P B m d T 0 w (HBe.out.kept hB) (HPs.out.kept hB) (HTs.out.kept hB) (by omega) (by omega) HR.out
                            rw [if_pos rfl] at this
                            exact this
                          have HBx : Hid (∀ w, Below W5.heap.size W5 w → Calls Tryd.prog 17 #[.agg #[.slice A4 n c4, .slice B4 m d4]] w (Edgd w (edgesF P.length T true) 0)) := fun w hW => by
                            have hB := new_call HY5.out.rot.at_.bel hW
                            have := meshBorder_any A4 n c4 P B4 m d4 (turnsT T (l.map Int.toNat)) 0 w (HBe.out.kept hB) (HXp5.out.kept hW) (HXt5.out.kept hW) (by omega) (by omega) (check_turns hlb HR.out)
                            rw [if_pos rfl, turns_edges hlb] at this
                            exact this
                          have hLe : (edgesF P.length T false).length ≤ 1600 := Nat.le_trans (edges_le _ _ _) (by rw [hpn]; exact Nat.mul_le_mul hlg1 hlg1)
                          have hMe : (edgesF P.length T true).length ≤ 1600 := Nat.le_trans (edges_le _ _ _) (by rw [hpn]; exact Nat.mul_le_mul hlg1 hlg1)
                          generalize edgesF P.length T false = L at *
                          generalize edgesF P.length T true = M at *
                          have HV5 := Lib.hid (Below.refl W5.heap.size W5)
                          have HAl := Lib.hid hall
                          have HLb := Lib.hid hlb
                          have m0 := HY5.out.rot.at_.b0.cell 0
                          have m1 := HY5.out.rot.at_.b0.cell 1
                          have n0 := HY5.out.rot.own.cell 0
                          have n1 := HY5.out.rot.own.cell 1
                          have x0 := HY5.out.own.cell 0
                          have x1 := HY5.out.own.cell 1
                          clear hX hby hall hlb hpn hlen
                          go_wp2_with fail
                          refine (HEd.out _ HV5.out).mono ?_
                          rintro e w6 ⟨A6, c6, rfl, hh, hb, _⟩
                          have HY6 := Lib.hid (HY5.out.next hb)
                          have HV6 := Lib.hid (new_call HV5.out hb)
                          have HE6 := Lib.hid hh
                          clear hb hh m0 m1 n0 n1 x0 x1 HY5 HV5 
                          have m0 := HY6.out.rot.at_.b0.cell 0
                          have m1 := HY6.out.rot.at_.b0.cell 1
                          have n0 := HY6.out.rot.own.cell 0
                          have n1 := HY6.out.rot.own.cell 1
                          have x0 := HY6.out.own.cell 0
                          have x1 := HY6.out.own.cell 1
                          go_wp2_with fail
                          refine (HEr.out _ HV6.out).mono ?_
                          rintro e w7 ⟨A7, c7, rfl, hh, hb, _⟩
                          have HY7 := Lib.hid (HY6.out.next hb)
                          have HV7 := Lib.hid (new_call HV6.out hb)
                          have HE7 := Lib.hid hh
                          have HE6_7 := Lib.hid (HE6.out.kept hb)
                          clear hb hh m0 m1 n0 n1 x0 x1 HY6 HV6 HE6
                          have m0 := HY7.out.rot.at_.b0.cell 0
                          have m1 := HY7.out.rot.at_.b0.cell 1
                          have n0 := HY7.out.rot.own.cell 0
                          have n1 := HY7.out.rot.own.cell 1
                          have x0 := HY7.out.own.cell 0
                          have x1 := HY7.out.own.cell 1
                          go_wp2_with fail
                          refine (HEx.out _ HV7.out).mono ?_
                          rintro e w8 ⟨A8, c8, rfl, hh, hb, _⟩
                          have HY8 := Lib.hid (HY7.out.next hb)
                          have HV8 := Lib.hid (new_call HV7.out hb)
                          have HE8 := Lib.hid hh
                          have HE6_8 := Lib.hid (HE6_7.out.kept hb)
                          have HE7_8 := Lib.hid (HE7.out.kept hb)
                          clear hb hh m0 m1 n0 n1 x0 x1 HY7 HV7 HE6_7 HE7
                          have m0 := HY8.out.rot.at_.b0.cell 0
                          have m1 := HY8.out.rot.at_.b0.cell 1
                          have n0 := HY8.out.rot.own.cell 0
                          have n1 := HY8.out.rot.own.cell 1
                          have x0 := HY8.out.own.cell 0
                          have x1 := HY8.out.own.cell 1
                          go_wp2_with fail
                          refine (HBm.out _ HV8.out).mono ?_
                          rintro e w10 ⟨A10, c10, rfl, hh, hb, _⟩
                          have HY10 := Lib.hid (HY8.out.next hb)
                          have HV10 := Lib.hid (new_call HV8.out hb)
                          have HE10 := Lib.hid hh
                          have HE6_10 := Lib.hid (HE6_8.out.kept hb)
                          have HE7_10 := Lib.hid (HE7_8.out.kept hb)
                          have HE8_10 := Lib.hid (HE8.out.kept hb)
                          clear hb hh m0 m1 n0 n1 x0 x1 HY8 HV8 HE6_8 HE7_8 HE8
                          have m0 := HY10.out.rot.at_.b0.cell 0
                          have m1 := HY10.out.rot.at_.b0.cell 1
                          have n0 := HY10.out.rot.own.cell 0
                          have n1 := HY10.out.rot.own.cell 1
                          have x0 := HY10.out.own.cell 0
                          have x1 := HY10.out.own.cell 1
                          go_wp2_with fail
                          refine (HBx.out _ HV10.out).mono ?_
                          rintro e w11 ⟨A11, c11, rfl, hh, hb, _⟩
                          have HY11 := Lib.hid (HY10.out.next hb)
                          have HV11 := Lib.hid (new_call HV10.out hb)
                          have HE11 := Lib.hid hh
                          have HE6_11 := Lib.hid (HE6_10.out.kept hb)
                          have HE7_11 := Lib.hid (HE7_10.out.kept hb)
                          have HE8_11 := Lib.hid (HE8_10.out.kept hb)
                          have HE10_11 := Lib.hid (HE10.out.kept hb)
                          clear hb hh m0 m1 n0 n1 x0 x1 HY10 HV10 HE6_10 HE7_10 HE8_10 HE10
                          have m0 := HY11.out.rot.at_.b0.cell 0
                          have m1 := HY11.out.rot.at_.b0.cell 1
                          have n0 := HY11.out.rot.own.cell 0
                          have n1 := HY11.out.rot.own.cell 1
                          have x0 := HY11.out.own.cell 0
                          have x1 := HY11.out.own.cell 1
                          have tmm : ((m : Int) != (m : Int)) = false := by simp
                          go_wp2_with fail
                          clear m0 m1 n0 n1 x0 x1
                          go_loopg [24] m (fun g s24 wx => ∃ j : Nat, j + g = m ∧ s24 = .int .i64 j ∧ Hid (Below w11.heap.size w11 wx))
                          case atStart => exact ⟨0, by omega, rfl, Below.refl _ _⟩
                          case round =>
                            obtain ⟨j, hjg, rfl, HBj⟩ := hrel
                            have HYj := Lib.hid (HY11.out.next HBj.out)
                            have HVj := Lib.hid (new_call HV11.out HBj.out)
                            have HWj := Lib.hid HYj.out.rot.at_.bel
                            have m0 := HYj.out.rot.at_.b0.cell 0
                            have m1 := HYj.out.rot.at_.b0.cell 1
                            have x0 := HYj.out.own.cell 0
                            have x1 := HYj.out.own.cell 1
                            by_cases hj : j < m
                            · as_aux_lemma =>
                                have tj : decide ((j : Int) < (m : Int)) = true := by simp; omega
                                have j2 : (j : Int) < (m : Int) := by omega
                                have hjT : j < T.length := by rw [HTm.out]; exact hj
                                have hjl : j < l.length := by have := HLb.out; rw [List.length_map] at this; omega
                                have j3 : (j : Int) < (i : Int) := by have := HLk.out; omega
                                obtain ⟨b, hb3, hlb, hbm⟩ := corn_nat HAl.out hjl
                                obtain ⟨hj2, htu⟩ := turns_at HLb.out hjT
                                rw [hbm] at htu
                                obtain ⟨r1, r2⟩ := rot_fst hb3 T[j]
                                obtain ⟨bC, oC, rfl, _, hcl⟩ := (HLs.out.kept HWj.out).spot (by omega)
                                have cl := hcl j _ (intVs_at hjl)
                                rw [hlb] at cl
                                obtain ⟨bT, oT, rfl, _, _⟩ := (HTs.out.kept HWj.out).spot (by omega)
                                have cT0 := t3_cells (HTs.out.kept HWj.out) hjT hb3
                                have cT1 := t3_cells (HTs.out.kept HWj.out) hjT (k := (b + 1) % 3) (Nat.mod_lt _ (by decide))
                                obtain ⟨bX, oX, rfl, _, _⟩ := (HXt5.out.kept HVj.out).spot (by omega)
                                obtain ⟨cX0, cX1, cX2⟩ := p3_at (HXt5.out.kept HVj.out) hj2
                                rw [htu, r1] at cX0
                                rw [htu, r2] at cX1
                                have hnx := next3 hb3
                                have b2 : (b : Int) < 3 := by omega
                                have wb : IntKind.wrap .i64 ((b : Int) + 1) = (b : Int) + 1 := by rw [IntKind.wrap_i64]; omega
                                obtain ⟨b1, hb1⟩ : ∃ z, (b + 1) % 3 = z := ⟨_, rfl⟩
                                have hb13 : b1 < 3 := by omega
                                have b12 : (b1 : Int) < 3 := by omega
                                rw [hb1] at cT1 cX1 hnx
                                generalize at3 T[j] b = u at *
                                generalize at3 T[j] b1 = v at *
                                have tu : (u != u) = false := by simp
                                have tv : (v != v) = false := by simp
                                have z1 : ¬ (b1 : Int) < 0 := by omega
                                clear cX2 hb1 htu r1 r2 hlb hbm hcl hj2 hjl hjT m0 x0
                                go_wp2
                                go_quiet (fail)
                                go_wp2
                                go_roundg (m - (j + 1))
                                case measure => omega
                                case rel => exact ⟨j + 1, by omega, by go_num, new_call HBj.out ⟨rfl, rfl, rfl, Nat.le_refl _, fun _ _ => rfl⟩⟩
                            · as_aux_lemma =>
                                have tj : decide ((j : Int) < (m : Int)) = false := by simp; omega
                                have HS1 : Hid (∀ w, Below w11.heap.size w11 w → Calls Tryd.prog 21 #[.slice A6 L.length c6, .slice A7 L.length c7] w fun e w' => e = .returned (.bool true) ∧ Below w.heap.size w w') := fun w hW => by
                                  have := ref10SameEdges_any A6 L.length c6 L A7 L.length c7 L w (HE6_11.out.kept hW) (HE7_11.out.kept hW) (by omega) (by omega)
                                  rw [decide_eq_true rfl] at this
                                  exact this
                                have HS2 : Hid (∀ w, Below w11.heap.size w11 w → Calls Tryd.prog 21 #[.slice A6 L.length c6, .slice A8 L.length c8] w fun e w' => e = .returned (.bool true) ∧ Below w.heap.size w w') := fun w hW => by
                                  have := ref10SameEdges_any A6 L.length c6 L A8 L.length c8 L w (HE6_11.out.kept hW) (HE8_11.out.kept hW) (by omega) (by omega)
                                  rw [decide_eq_true rfl] at this
                                  exact this
                                have HS3 : Hid (∀ w, Below w11.heap.size w11 w → Calls Tryd.prog 21 #[.slice A10 M.length c10, .slice A11 M.length c11] w fun e w' => e = .returned (.bool true) ∧ Below w.heap.size w w') := fun w hW => by
                                  have := ref10SameEdges_any A10 M.length c10 M A11 M.length c11 M w (HE10_11.out.kept hW) (HE11.out.kept hW) (by omega) (by omega)
                                  rw [decide_eq_true rfl] at this
                                  exact this
                                clear HE6_11 HE7_11 HE8_11 HE10_11 HE11
                                go_wp2_with fail
                                refine (HS1.out _ HBj.out).mono ?_
                                rintro e w12 ⟨rfl, hb12⟩
                                have HB12 := Lib.hid (new_call HBj.out hb12)
                                have HW12 := Lib.hid (new_call HWj.out hb12)
                                clear hb12 m0 m1 x0 x1
                                go_wp2_with fail
                                refine (HS2.out _ HB12.out).mono ?_
                                rintro e w13 ⟨rfl, hb13⟩
                                have HB13 := Lib.hid (new_call HB12.out hb13)
                                have HW13 := Lib.hid (new_call HW12.out hb13)
                                clear hb13
                                go_wp2_with fail
                                refine (HS3.out _ HB13.out).mono ?_
                                rintro e w14 ⟨rfl, hb14⟩
                                have HW14 := Lib.hid (new_call HW13.out hb14)
                                clear hb14
                                go_wp2_with fail
                                refine (HKn.out _ HW14.out).mono ?_
                                rintro e w9 ⟨rfl, hb9⟩
                                go_wp2
                                go_ret
                                exact ⟨rfl, new_call HW14.out hb9⟩
              · as_aux_lemma =>
                  have t0 : (r != 0) = true := bne_iff_ne.2 h0
                  have te : (r == r) = true := by simp
                  have HTn : Hid (turnedF P T l r = ([], [], r)) := by show _ = _; unfold turnedF; rw [if_neg h0]
                  rw [HTn.out] at HTu
                  go_wp2_with fail
                  refine (HTu.out _ HR3.out.at_.bel).mono ?_
                  rintro e w4 ⟨A4, c4, B4, d4, rfl, _, _, hb4, _⟩
                  have HR4 := Lib.hid (HR3.out.at_.next hb4)
                  have x1 := (Blk.new w4 25 #[.slice A4 ([] : List P3).length c4, .slice B4 ([] : List P3).length d4]).cell 1
                  clear hb4 m0 m1 n0 n1
                  simp only [List.length_nil] at x1
                  go_wp2_with fail
                  refine (HKn.out _ (HR4.out.next (new_alloc (Below.refl _ _) _)).bel).mono ?_
                  rintro e w9 ⟨rfl, hb9⟩
                  go_wp2
                  go_ret
                  exact ⟨rfl, new_call (HR4.out.next (new_alloc (Below.refl _ _) _)).bel hb9⟩
  · have HLo := Lib.hid (fun w => lawlong_any A n c B m d true w (by
      by_cases h1 : 40 < n
      · rw [decide_eq_true h1]; rfl
      · rw [decide_eq_true (show 60 < m by omega)]; exact Bool.or_true _))
    clear hp ht hlg
    go_enter Tryd.func5, Tryd.ntmps5
    go_wp2_with fail
    refine (HLo.out _).mono ?_
    rintro e w1 ⟨rfl, hb1⟩
    go_wp2_with fail
    refine (HKn.out _ (HK0.out.next hb1).bel).mono ?_
    rintro e w2 ⟨rfl, hb2⟩
    go_wp2
    go_ret
    exact ⟨rfl, new_call (HK0.out.next hb1).bel hb2⟩

set_option maxRecDepth 100000 in
theorem reads (os : Os) {H : Type} (enc : TypeId × Value → H) : ∃ places, DataW.whole enc Tryd.prog ((laidWorld os).forCall (fun _ _ => 0) ⟨#[], #[.agg #[.slice none 0 0, .slice none 0 0], .slice none 0 0, .int .i64 0], []⟩).memory Tryd.f5.params.toList Rows.meshTurnedSpec.vars false (#[.agg #[.slice none 0 0, .slice none 0 0], .slice none 0 0, .int .i64 0] : Array Value).toList 8 = some ([.agg [.nil, .nil], .nil, .lit (.int .i64 0)], [], places) := ⟨[], by kernel_rfl⟩
set_option maxRecDepth 100000 in
theorem lifted (os : Os) (started : os.Started) (H : Type) (enc : TypeId × Value → H) (F : Stop.Interp) :
    ReturnsInHanded {} Tryd.checked os 5 .any ((OpenSpec.ofChange Rows.meshTurnedSpec).preRow enc Tryd.prog Tryd.f5 Rows.meshTurnedRow.domain false Rows.meshTurnedRow.laid) (((OpenSpec.ofChange Rows.meshTurnedSpec).at F).post enc Tryd.prog Tryd.f5 false true false false) := by
  obtain ⟨places, hx⟩ := reads os enc
  refine returnsInHanded_of_row (C := Tryd.checked) (s := OpenSpec.ofChange Rows.meshTurnedSpec) Tryd.own started (by kernel_rfl) Tryd.func5
    (witness_row_at (enc := enc) (C := Tryd.checked) false (laidWorld os) #[.agg #[.slice none 0 0, .slice none 0 0], .slice none 0 0, .int .i64 0] rfl (by kernel_rfl) (by kernel_rfl) (by kernel_rfl)
      (OpenSpec.preRow_of_cond 8 hx (by kernel_rfl) (fun k hk => by cases hk) (by kernel_rfl) (laidMet_of_run' 8 (by kernel_rfl) (by kernel_rfl)))) ?_
  intro W base args ds gs before hval0 hW _ _ hsz0 hL _ _
  have hbe : BehW W := behW_of_laid hL
  have hval : ∀ (j : Nat) t v, Tryd.f5.params[j]? = some t → args[j]? = some v → Value.okWide Tryd.prog W .any base t v := hval0
  have hW' := hW
  obtain ⟨p, q, hA0, hV, rfl, _, _⟩ := hW
  have hA : DataW.TrodAll enc Tryd.prog W 0 (fun _ => true) true Tryd.f5.params.toList args.toList ds p := hA0
  rw [Tryd.params5] at hA hval
  obtain ⟨v0, v1, v2, d0, d1, d2, p0, p1, p2, rfl, rfl, rfl, h0, h1, h2⟩ := trodAll_three hA
  obtain ⟨rfl, rfl⟩ := trodVars_none hV
  obtain ⟨A0, n0, c0, P0, B0, m0, e0, T0, rfl, hp0, ht0, bp0, bt0, hn0, hm0⟩ := open_mesh (hval 0 25 v0 rfl rfl) h0
  obtain ⟨A1, n1, c1, bs1, rfl, hh1, hb1, hn1⟩ := open_intsl (hval 1 34 v1 rfl rfl) h1
  obtain ⟨a2, rfl, rfl, rfl, w2⟩ := open_int Tryd.underlying3 (hval 2 3 v2 rfl rfl) h2
  exact (walk A0 n0 c0 P0 B0 m0 e0 T0 A1 n1 c1 bs1 a2 W hbe hp0 ht0 bp0 bt0 hn0 hm0 hh1 hb1 hn1 (wf_i64 w2)).mono fun e W' he =>
    law_post rfl rfl (by rw [Tryd.params5]; intro t ht; simp at ht; rcases ht with rfl | rfl | rfl <;> exact ⟨by kernel_rfl, of_decide_eq_true (by kernel_rfl)⟩) hW' rfl he

theorem said : Rows.MeshTurnedSaid :=
  OpenClaim.holds_of_cond 5 Tryd.f5 rfl rfl rfl rfl rfl rfl rfl ⟨rfl, rfl, rfl, rfl, rfl⟩ rfl rfl rfl rfl rfl (by kernel_rfl) Tryd.func5 (by kernel_rfl)
    (of_decide_eq_true (by kernel_rfl)) (by unfold Func.isWrapper; first | (rw [if_pos (by decide +kernel)]; kernel_rfl) | (rw [if_neg (by decide +kernel)]; exact ⟨rfl, rfl⟩))
    (fun os started H enc _ F => by rw [OpenClaim.pre_eq_preRow]; exact lifted os started H enc F)
theorem plain (f : FuncId) (fn : Func) (hf : Tryd.pinned.checked.prog.funcNamed "lapidary/lapidarylaw10.MeshTurned" = some f) (hfn : Tryd.pinned.checked.prog.funcs[f]? = some fn) :
    false = Tryd.pinned.checked.prog.looks [] ∧ ∀ (j : Nat) t, fn.params[j]? = some t → Tryd.pinned.checked.prog.wantsStandIn t = false := by
  obtain rfl : f = 5 := Option.some.inj ((show Tryd.prog.funcNamed "lapidary/lapidarylaw10.MeshTurned" = some 5 by kernel_rfl).symm.trans hf) |>.symm
  obtain rfl : fn = Tryd.f5 := (Option.some.inj (Tryd.func5.symm.trans hfn)).symm
  refine ⟨by kernel_rfl, fun j t ht => ?_⟩
  rw [Tryd.params5] at ht
  have hm : t ∈ [25, 34, 3] := by simpa using Array.mem_of_getElem? ht
  have hall : ([25, 34, 3].all fun u => !Tryd.prog.wantsStandIn u) = true := by kernel_rfl
  exact (show Tryd.prog.wantsStandIn t = false by simpa using List.all_eq_true.1 hall t hm)
theorem proved : Rows.MeshTurnedCardSaid :=
  Claim7.holds_tied_plain_at .later [] _ _ _ _ said (fun _ h => by cases h) (by kernel_rfl) (fun _ h => by cases h) meshTurned_row_tie rfl ⟨rfl, rfl⟩ (by kernel_rfl) rfl plain (by kernel_rfl)
end Go.Proofs.YtckjmnbglbegmaaDoor.meshTurned
