/- Of any segment and any ring GeomEnds answers true: each end of a segment lies on it, and what lies between two lies on the way back; a ring's corners are neither in it nor out. Conditions: none. -/
import Derived.Test.YtnhoinonojhgiaaKnown09
import Derived.Test.YtnhoinonojhgiaaLawPts
namespace Go.Proofs.Ytnhoinonojhgiaa.geomEnds
open Go.ChangeShapes Go.WideShapes Go.ChangeAt Go.RowKit

/-- Two points in blocks of the call's own. -/
structure Pair (w : World) (a b : P3) (wx : World) : Prop where
  b0 : Blk wx w.heap.size 23 #[.int .i64 a.1, .int .i64 a.2.1, .int .i64 a.2.2]
  b1 : Blk wx (w.heap.size + 1) 23 #[.int .i64 b.1, .int .i64 b.2.1, .int .i64 b.2.2]
  bel : Below w.heap.size w wx
theorem Pair.next {w wx w' : World} {a b : P3} (h : Pair w a b wx) (hb : Below wx.heap.size wx w') : Pair w a b w' :=
  ⟨h.b0.below hb h.b0.lt, h.b1.below hb h.b1.lt, new_call h.bel hb⟩
theorem size_two (w : World) (o p : Obj) : w.heap.size + 2 = ((w.alloc o).alloc p).heap.size := by
  show _ = (Array.push _ _).size
  rw [Array.size_push]
  show _ = (Array.push _ _).size + 1
  rw [Array.size_push]
set_option maxRecDepth 100000 in
set_option maxHeartbeats 2000000 in
theorem walk (ax ay az bx bY bz : Int) (A : Option Addr) (n c : Nat) (l : List P3) (w : World) (_ : i64P (ax, ay, az)) (_ : i64P (bx, bY, bz)) (h : HasK 3 w A n c (p3Cells l)) (_ : ∀ x ∈ l, i64P x) (hn : n ≤ 9223372036854775807) :
    Calls Try.prog 7 #[.agg #[.int .i64 ax, .int .i64 ay, .int .i64 az], .agg #[.int .i64 bx, .int .i64 bY, .int .i64 bz], .slice A n c] w fun e w' => e = .returned (.bool true) ∧ Below w.heap.size w w' := by
  have HP0 : Hid (Pair w (ax, ay, az) (bx, bY, bz) ((w.alloc (.cells #[.int .i64 ax, .int .i64 ay, .int .i64 az] 23)).alloc (.cells #[.int .i64 bx, .int .i64 bY, .int .i64 bz] 23))) := ⟨(Blk.new w _ _).alloc _, blk_two w _ _ _, new_alloc (new_alloc (Below.refl _ _) _) _⟩
  have HR1 := Lib.hid (geomRight_any (some ⟨w.heap.size + 2, 0, none⟩) 2 2 [(ax, ay, az), (bx, bY, bz)] (((w.alloc (.cells #[.int .i64 ax, .int .i64 ay, .int .i64 az] 23)).alloc (.cells #[.int .i64 bx, .int .i64 bY, .int .i64 bz] 23)).alloc (.cells #[.int .i64 ax, .int .i64 ay, .int .i64 az, .int .i64 bx, .int .i64 bY, .int .i64 bz] 23)) (HasK.new_at 3 _ _ _ _ 2 (size_two w _ _) rfl) (by decide))
  have HR2 := Lib.hid (fun W (hW : Below w.heap.size w W) => geomRight_any A n c l W (h.kept hW) hn)
  have HH := Lib.hid h
  clear h
  by_cases hr : rights [(ax, ay, az), (bx, bY, bz)] = true
  · rw [hr] at HR1
    by_cases hrl : rights l = true
    · rw [hrl] at HR2
      by_cases h60 : 60 < n
      · have t : decide ((60 : Int) < (n : Int)) = true := by simp; omega
        go_enter Try.func7, Try.ntmps7
        go_wp2_with fail
        refine HR1.out.mono ?_
        rintro e w1 ⟨rfl, hb1⟩
        have HP1 := Lib.hid (HP0.out.next (new_call (new_alloc (Below.refl _ _) _) hb1))
        clear hb1 HP0 HR1
        go_wp2_with fail
        refine (HR2.out _ HP1.out.bel).mono ?_
        rintro e w2 ⟨rfl, hb2⟩
        have HP2 := Lib.hid (HP1.out.next hb2)
        clear hb2 HP1
        go_wp2_with fail
        refine (known09 _).mono ?_
        rintro e w9 ⟨rfl, hb9⟩
        go_wp2
        go_ret
        exact ⟨rfl, new_call HP2.out.bel hb9⟩
      · have t : decide ((60 : Int) < (n : Int)) = false := by simp; omega
        have HL : Hid (l.length = n) := by have := HH.out.len; rw [p3Cells_len] at this; show _ = _; omega
        obtain ⟨ra, rb⟩ : rightP (ax, ay, az) = true ∧ rightP (bx, bY, bz) = true := by simpa [rights] using hr
        have HIn := Lib.hid (fun x y z i (hi : i < l.length) (e : l[i] = (x, y, z)) W (hW : Below w.heap.size w W) => by
          have h1 := geomIn_any x y z A n c l W (HH.out.kept hW) (by omega)
          rw [← e, in_corner hrl hi] at h1
          exact h1)
        have HO1 := Lib.hid (fun W => geomOn_any ax ay az ax ay az bx bY bz W)
        have HO2 := Lib.hid (fun W => geomOn_any bx bY bz ax ay az bx bY bz W)
        have HM1 := Lib.hid (fun W => geomMeet_any ax ay az bx bY bz ax ay az ax ay az W)
        have HM2 := Lib.hid (fun W => geomMeet_any ax ay az bx bY bz bx bY bz ax ay az W)
        rw [on_first ra rb] at HO1
        rw [on_last ra rb] at HO2
        rw [meet_point ra rb] at HM1
        rw [meet_back ra rb] at HM2
        have HW : Hid (((ax, ay, az) = (bx, bY, bz)) ∨ ((ax, ay, az) ≠ (bx, bY, bz) ∧ ((ax == bx) = false ∨ ((ax == bx) = true ∧ (ay == bY) = false) ∨ ((ax == bx) = true ∧ (ay == bY) = true ∧ (az == bz) = false)))) := by
          by_cases e : (ax, ay, az) = (bx, bY, bz)
          · exact Or.inl e
          · exact Or.inr ⟨e, neq_ways e⟩
        clear hr hrl ra rb
        go_enter Try.func7, Try.ntmps7
        go_wp2_with fail
        refine HR1.out.mono ?_
        rintro e w1 ⟨rfl, hb1⟩
        have HP1 := Lib.hid (HP0.out.next (new_call (new_alloc (Below.refl _ _) _) hb1))
        clear hb1 HP0 HR1
        go_wp2_with fail
        refine (HR2.out _ HP1.out.bel).mono ?_
        rintro e w2 ⟨rfl, hb2⟩
        have HP2 := Lib.hid (HP1.out.next hb2)
        clear hb2 HP1 HR2
        go_wp2
        go_loopg [7] n (fun g s7 wx => ∃ i : Nat, i + g = n ∧ s7 = .int .i64 i ∧ Hid (Pair w (ax, ay, az) (bx, bY, bz) wx))
        case atStart => exact ⟨0, by omega, rfl, HP2⟩
        case round =>
          obtain ⟨i, hig, rfl, HP⟩ := hrel
          clear HP2
          by_cases hi : i < n
          · have ti : decide ((i : Int) < (n : Int)) = true := by simp; omega
            have i2 : (i : Int) < (n : Int) := by omega
            have hil : i < l.length := by rw [HL.out]; exact hi
            obtain ⟨b, off, rfl, _, _⟩ := HH.out.at_ (by omega)
            have HQ : Hid (∀ W, Below w.heap.size w W → W.cell? ⟨b, off + i * 3, none⟩ = some (.int .i64 l[i].1) ∧ W.cell? ⟨b, off + i * 3 + 1, none⟩ = some (.int .i64 l[i].2.1) ∧ W.cell? ⟨b, off + i * 3 + 2, none⟩ = some (.int .i64 l[i].2.2)) := fun W hW => p3_at (HH.out.kept hW) hil
            obtain ⟨⟨qx, qy, qz⟩, hq⟩ : ∃ q, l[i] = q := ⟨_, rfl⟩
            rw [hq] at HQ
            simp only at HQ
            have HI := Lib.hid (HIn.out qx qy qz i hil hq)
            have HG1 := Lib.hid (fun W => geomOn_any qx qy qz ax ay az bx bY bz W)
            have HG2 := Lib.hid (fun W => geomOn_any qx qy qz bx bY bz ax ay az W)
            rw [on_swap (qx, qy, qz) (ax, ay, az) (bx, bY, bz)] at HG2
            generalize onF (qx, qy, qz) (ax, ay, az) (bx, bY, bz) = o at *
            clear hq hil
            have HS : Hid (∀ W, Below wr.heap.size wr W → W.cell? ⟨w.heap.size, 0, none⟩ = some (.int .i64 ax) ∧ W.cell? ⟨w.heap.size, 1, none⟩ = some (.int .i64 ay) ∧ W.cell? ⟨w.heap.size, 2, none⟩ = some (.int .i64 az) ∧ W.cell? ⟨w.heap.size + 1, 0, none⟩ = some (.int .i64 bx) ∧ W.cell? ⟨w.heap.size + 1, 1, none⟩ = some (.int .i64 bY) ∧ W.cell? ⟨w.heap.size + 1, 2, none⟩ = some (.int .i64 bz) ∧ W.cell? ⟨b, off + i * 3, none⟩ = some (.int .i64 qx) ∧ W.cell? ⟨b, off + i * 3 + 1, none⟩ = some (.int .i64 qy) ∧ W.cell? ⟨b, off + i * 3 + 2, none⟩ = some (.int .i64 qz)) := fun W hW =>
              have h := HP.out.next hW
              have q := HQ.out W (new_call HP.out.bel hW)
              ⟨h.b0.cell 0, h.b0.cell 1, h.b0.cell 2, h.b1.cell 0, h.b1.cell 1, h.b1.cell 2, q.1, q.2.1, q.2.2⟩
            have HBv0 : Hid (Below wr.heap.size wr wr.drew) := (Below.refl _ _).drew
            go_wp2_with (with_reducible fail)
            go_region_held3 (fun W => W.cell? ⟨w.heap.size, 0, none⟩ = some (.int .i64 ax) ∧ W.cell? ⟨w.heap.size, 1, none⟩ = some (.int .i64 ay) ∧ W.cell? ⟨w.heap.size, 2, none⟩ = some (.int .i64 az) ∧ W.cell? ⟨w.heap.size + 1, 0, none⟩ = some (.int .i64 bx) ∧ W.cell? ⟨w.heap.size + 1, 1, none⟩ = some (.int .i64 bY) ∧ W.cell? ⟨w.heap.size + 1, 2, none⟩ = some (.int .i64 bz) ∧ W.cell? ⟨b, off + i * 3, none⟩ = some (.int .i64 qx) ∧ W.cell? ⟨b, off + i * 3 + 1, none⟩ = some (.int .i64 qy) ∧ W.cell? ⟨b, off + i * 3 + 2, none⟩ = some (.int .i64 qz)) (first | (with_reducible exact HS.out _ HBv3.out) | (with_reducible exact HS.out _ HBv2.out) | (with_reducible exact HS.out _ HBv1.out) | (with_reducible exact HS.out _ HBv0.out)) (first
              | (go_at_call 23; (with_reducible refine (HI.out wr.drew (new_call HP.out.bel HBv0.out)).mono ?_); rintro e v1 ⟨rfl, hb1⟩; have HBv1 := Lib.hid (new_call HBv0.out hb1); clear hb1)
              | (go_at_call 13; (with_reducible refine (HG1.out v1).mono ?_); rintro e v2 ⟨rfl, hb2⟩; have HBv2 := Lib.hid (new_call HBv1.out hb2); clear hb2)
              | (go_at_call 13; (with_reducible refine (HG2.out v2).mono ?_); rintro e v3 ⟨rfl, hb3⟩; have HBv3 := Lib.hid (new_call HBv2.out hb3); clear hb3))
            have HP3 := Lib.hid (HP.out.next HBv3.out)
            clear HS HQ HI HG1 HG2 HP HBv0 HBv1 HBv2 HBv3
            go_wp2
            go_roundg (gk - 1)
            case measure => omega
            case rel => exact ⟨i + 1, by omega, by go_num, HP3⟩
          · have ti : decide ((i : Int) < (n : Int)) = false := by simp; omega
            have HS : Hid (∀ W, Below wr.heap.size wr W → W.cell? ⟨w.heap.size, 0, none⟩ = some (.int .i64 ax) ∧ W.cell? ⟨w.heap.size, 1, none⟩ = some (.int .i64 ay) ∧ W.cell? ⟨w.heap.size, 2, none⟩ = some (.int .i64 az) ∧ W.cell? ⟨w.heap.size + 1, 0, none⟩ = some (.int .i64 bx) ∧ W.cell? ⟨w.heap.size + 1, 1, none⟩ = some (.int .i64 bY) ∧ W.cell? ⟨w.heap.size + 1, 2, none⟩ = some (.int .i64 bz)) := fun W hW =>
              have h := HP.out.next hW
              ⟨h.b0.cell 0, h.b0.cell 1, h.b0.cell 2, h.b1.cell 0, h.b1.cell 1, h.b1.cell 2⟩
            have HBv0 : Hid (Below wr.heap.size wr wr.drew) := (Below.refl _ _).drew
            have HPw := HP
            rcases HW.out with e | ⟨hne, e1 | ⟨e1, e2⟩ | ⟨e1, e2, e3⟩⟩
            · rw [if_pos e] at HM2
              cases e
              go_wp2_with (with_reducible fail)
              go_region_held3 (fun W => W.cell? ⟨w.heap.size, 0, none⟩ = some (.int .i64 ax) ∧ W.cell? ⟨w.heap.size, 1, none⟩ = some (.int .i64 ay) ∧ W.cell? ⟨w.heap.size, 2, none⟩ = some (.int .i64 az) ∧ W.cell? ⟨w.heap.size + 1, 0, none⟩ = some (.int .i64 ax) ∧ W.cell? ⟨w.heap.size + 1, 1, none⟩ = some (.int .i64 ay) ∧ W.cell? ⟨w.heap.size + 1, 2, none⟩ = some (.int .i64 az)) (first | (with_reducible exact HS.out _ HBv5.out) | (with_reducible exact HS.out _ HBv4.out) | (with_reducible exact HS.out _ HBv3.out) | (with_reducible exact HS.out _ HBv2.out) | (with_reducible exact HS.out _ HBv1.out) | (with_reducible exact HS.out _ HBv0.out)) (first
                | (go_at_call 13; (with_reducible refine (HO1.out wr.drew).mono ?_); rintro e v1 ⟨rfl, hb1⟩; have HBv1 := Lib.hid (new_call HBv0.out hb1); clear hb1)
                | (go_at_call 13; (with_reducible refine (HO2.out v1).mono ?_); rintro e v2 ⟨rfl, hb2⟩; have HBv2 := Lib.hid (new_call HBv1.out hb2); clear hb2)
                | (go_at_call 18; (with_reducible refine (HM1.out v2).mono ?_); rintro e v3 ⟨rfl, hb3⟩; have HBv3 := Lib.hid (new_call HBv2.out hb3); clear hb3)
                | (go_at_call 18; (with_reducible refine (HM2.out v3).mono ?_); rintro e v4 ⟨rfl, hb4⟩; have HBv4 := Lib.hid (new_call HBv3.out hb4); clear hb4)
                | (go_at_call 17; (with_reducible refine (known09 _).mono ?_); rintro e v5 ⟨rfl, hb5⟩; have HBv5 := Lib.hid (new_call HBv4.out hb5); clear hb5))
              all_goals
                go_wp2
                go_ret
                exact ⟨rfl, new_call HPw.out.bel HBv5.out⟩
            all_goals
              rw [if_neg hne] at HM2
              clear hne
              go_wp2_with (with_reducible fail)
              go_region_held3 (fun W => W.cell? ⟨w.heap.size, 0, none⟩ = some (.int .i64 ax) ∧ W.cell? ⟨w.heap.size, 1, none⟩ = some (.int .i64 ay) ∧ W.cell? ⟨w.heap.size, 2, none⟩ = some (.int .i64 az) ∧ W.cell? ⟨w.heap.size + 1, 0, none⟩ = some (.int .i64 bx) ∧ W.cell? ⟨w.heap.size + 1, 1, none⟩ = some (.int .i64 bY) ∧ W.cell? ⟨w.heap.size + 1, 2, none⟩ = some (.int .i64 bz)) (first | (with_reducible exact HS.out _ HBv5.out) | (with_reducible exact HS.out _ HBv4.out) | (with_reducible exact HS.out _ HBv3.out) | (with_reducible exact HS.out _ HBv2.out) | (with_reducible exact HS.out _ HBv1.out) | (with_reducible exact HS.out _ HBv0.out)) (first
                | (go_at_call 13; (with_reducible refine (HO1.out wr.drew).mono ?_); rintro e v1 ⟨rfl, hb1⟩; have HBv1 := Lib.hid (new_call HBv0.out hb1); clear hb1)
                | (go_at_call 13; (with_reducible refine (HO2.out v1).mono ?_); rintro e v2 ⟨rfl, hb2⟩; have HBv2 := Lib.hid (new_call HBv1.out hb2); clear hb2)
                | (go_at_call 18; (with_reducible refine (HM1.out v2).mono ?_); rintro e v3 ⟨rfl, hb3⟩; have HBv3 := Lib.hid (new_call HBv2.out hb3); clear hb3)
                | (go_at_call 18; (with_reducible refine (HM2.out v3).mono ?_); rintro e v4 ⟨rfl, hb4⟩; have HBv4 := Lib.hid (new_call HBv3.out hb4); clear hb4)
                | (go_at_call 17; (with_reducible refine (known09 _).mono ?_); rintro e v5 ⟨rfl, hb5⟩; have HBv5 := Lib.hid (new_call HBv4.out hb5); clear hb5))
              all_goals
                go_wp2
                go_ret
                exact ⟨rfl, new_call HPw.out.bel HBv5.out⟩
    · have hrl2 : rights l = false := by simpa using hrl
      rw [hrl2] at HR2
      clear hr hrl hrl2
      go_enter Try.func7, Try.ntmps7
      go_wp2_with fail
      refine HR1.out.mono ?_
      rintro e w1 ⟨rfl, hb1⟩
      have HP1 := Lib.hid (HP0.out.next (new_call (new_alloc (Below.refl _ _) _) hb1))
      clear hb1 HP0 HR1
      go_wp2_with fail
      refine (HR2.out _ HP1.out.bel).mono ?_
      rintro e w2 ⟨rfl, hb2⟩
      have HP2 := Lib.hid (HP1.out.next hb2)
      clear hb2 HP1
      go_wp2_with fail
      refine (known09 _).mono ?_
      rintro e w9 ⟨rfl, hb9⟩
      go_wp2
      go_ret
      exact ⟨rfl, new_call HP2.out.bel hb9⟩
  · have hr2 : rights [(ax, ay, az), (bx, bY, bz)] = false := by simpa using hr
    rw [hr2] at HR1
    clear hr hr2
    go_enter Try.func7, Try.ntmps7
    go_wp2_with fail
    refine HR1.out.mono ?_
    rintro e w1 ⟨rfl, hb1⟩
    have HP1 := Lib.hid (HP0.out.next (new_call (new_alloc (Below.refl _ _) _) hb1))
    clear hb1 HP0 HR1
    go_wp2_with fail
    refine (known09 _).mono ?_
    rintro e w9 ⟨rfl, hb9⟩
    go_wp2
    go_ret
    exact ⟨rfl, new_call HP1.out.bel hb9⟩

set_option maxRecDepth 100000 in
theorem lifted (os : Os) (started : os.Started) (H : Type) (enc : TypeId × Value → H) :
    ReturnsInHanded {} Try.checked os 7 .any (Rows.geomEndsSpec.pre6 enc Try.prog Try.f7 Rows.geomEndsRow.domain false) (Rows.geomEndsSpec.post enc Try.prog Try.f7 false true false false) := by
  refine returnsInHanded_of_change (C := Try.checked) Try.own started (by kernel_rfl) Try.func7
    (ChangeSpec.witness6 (enc := enc) (C := Try.checked) false ⟨#[], #[.agg #[.int .i64 0, .int .i64 0, .int .i64 0], .agg #[.int .i64 0, .int .i64 0, .int .i64 0], .slice none 0 0], []⟩ 8 (by kernel_rfl) (by kernel_rfl) (by kernel_rfl) (by kernel_rfl)) ?_
  intro W base args ds gs before hval0 hW _ _
  have hval : ∀ (j : Nat) t v, Try.f7.params[j]? = some t → args[j]? = some v → Value.okWide Try.prog W .any base t v := hval0
  have hW' := hW
  obtain ⟨p, q, hA0, hV, rfl, _, _⟩ := hW
  have hA : DataW.TrodAll enc Try.prog W 0 (fun _ => true) true Try.f7.params.toList args.toList ds p := hA0
  rw [Try.params7] at hA hval
  obtain ⟨v0, v1, v2, d0, d1, d2, p0, p1, p2, rfl, rfl, rfl, h0, h1, h2⟩ := trodAll_three hA
  obtain ⟨rfl, rfl⟩ := trodVars_none hV
  obtain ⟨x0, y0, z0, rfl, hh0⟩ := open_pt (hval 0 23 v0 rfl rfl) h0
  obtain ⟨x1, y1, z1, rfl, hh1⟩ := open_pt (hval 1 23 v1 rfl rfl) h1
  obtain ⟨A2, n2, c2, bs2, rfl, hh2, hb2, hn2⟩ := open_pts (hval 2 28 v2 rfl rfl) h2
  exact (walk x0 y0 z0 x1 y1 z1 A2 n2 c2 bs2 W hh0 hh1 hh2 hb2 hn2).mono fun e W' he =>
    law_post rfl rfl (by rw [Try.params7]; intro t ht; simp at ht; rcases ht with rfl | rfl | rfl <;> exact ⟨by kernel_rfl, of_decide_eq_true (by kernel_rfl)⟩) hW' rfl he

theorem proved : Rows.GeomEndsSaid :=
  OpenClaim.holds_of_wide 7 Try.f7 rfl rfl rfl rfl rfl rfl rfl ⟨rfl, rfl, rfl, rfl, rfl⟩ rfl rfl rfl rfl rfl (by kernel_rfl) Try.func7 (by kernel_rfl)
    (of_decide_eq_true (by kernel_rfl)) (by unfold Func.isWrapper; first | (rw [if_pos (by decide +kernel)]; kernel_rfl) | (rw [if_neg (by decide +kernel)]; exact ⟨rfl, rfl⟩))
    (fun os started H enc _ => lifted os started H enc)
end Go.Proofs.Ytnhoinonojhgiaa.geomEnds
