/- The landed geom: Meet, by its own ways. -/
import Derived.Test.YtnhoinonojhgiaaGeomCodeE
namespace Go.Proofs.Ytnhoinonojhgiaa
open Go.RowKit

set_option maxRecDepth 100000 in
set_option maxHeartbeats 2000000 in
theorem geomMeet_any (ax ay az bx bY bz cx cy cz dx dy dz : Int) (w : World) : Calls Try.prog 18 #[.agg #[.int .i64 ax, .int .i64 ay, .int .i64 az], .agg #[.int .i64 bx, .int .i64 bY, .int .i64 bz], .agg #[.int .i64 cx, .int .i64 cy, .int .i64 cz], .agg #[.int .i64 dx, .int .i64 dy, .int .i64 dz]] w fun e w' => e = .returned (.int .i64 (meetF (ax, ay, az) (bx, bY, bz) (cx, cy, cz) (dx, dy, dz))) ∧ Below w.heap.size w w' := by
  have HQ0 := Lib.hid (Quad.new w (ax, ay, az) (bx, bY, bz) (cx, cy, cz) (dx, dy, dz))
  have HR := Lib.hid (geomRight_any (some ⟨w.heap.size + 4, 0, none⟩) 4 4 [(ax, ay, az), (bx, bY, bz), (cx, cy, cz), (dx, dy, dz)] (((((w.alloc (.cells #[.int .i64 ax, .int .i64 ay, .int .i64 az] 23)).alloc (.cells #[.int .i64 bx, .int .i64 bY, .int .i64 bz] 23)).alloc (.cells #[.int .i64 cx, .int .i64 cy, .int .i64 cz] 23)).alloc (.cells #[.int .i64 dx, .int .i64 dy, .int .i64 dz] 23)).alloc (.cells #[.int .i64 ax, .int .i64 ay, .int .i64 az, .int .i64 bx, .int .i64 bY, .int .i64 bz, .int .i64 cx, .int .i64 cy, .int .i64 cz, .int .i64 dx, .int .i64 dy, .int .i64 dz] 23)) (HasK.new_at 3 _ _ _ _ 4 (size_four w _ _ _ _) rfl) (by decide))
  by_cases hr : rights [(ax, ay, az), (bx, bY, bz), (cx, cy, cz), (dx, dy, dz)] = true
  · have HFx := Lib.hid (geomfar_any ax bx cx dx)
    have HFy := Lib.hid (geomfar_any ay bY cy dy)
    have HS1 := Lib.hid (fun W => geomastride_any ax ay az bx bY bz cx cy cz dx dy dz W hr)
    have HS2 := Lib.hid (fun W => geomastride_any cx cy cz dx dy dz ax ay az bx bY bz W (by
      obtain ⟨h1, h2, h3, h4⟩ := rights4 hr
      simp [rights, h1, h2, h3, h4]))
    have HM := Lib.hid (fun W => geommeetAtEnds_any ax ay az bx bY bz cx cy cz dx dy dz W hr)
    have HFar := Lib.hid (meet_far (a := (ax, ay, az)) (b := (bx, bY, bz)) (c := (cx, cy, cz)) (d := (dx, dy, dz)))
    have HCr := Lib.hid (meet_cross hr)
    have HEn := Lib.hid (fun h => meet_ends hr h (0, 0, 0))
    rw [hr] at HR
    clear hr
    simp only at HFar
    generalize endF 0 (0, 0, 0) _ = E at *
    generalize farF ax bx cx dx = fx at *
    generalize farF ay bY cy dy = fy at *
    generalize astrideF (ax, ay, az) (bx, bY, bz) (cx, cy, cz) (dx, dy, dz) = s1 at *
    generalize astrideF (cx, cy, cz) (dx, dy, dz) (ax, ay, az) (bx, bY, bz) = s2 at *
    generalize meetF (ax, ay, az) (bx, bY, bz) (cx, cy, cz) (dx, dy, dz) = m at *
    go_enter Try.func18, Try.ntmps18
    go_wp2_with fail
    refine HR.out.mono ?_
    rintro e w1 ⟨rfl, hb1⟩
    have HQ1 := Lib.hid (HQ0.out.next (new_call (new_alloc (Below.refl _ _) _) hb1))
    clear hb1 HQ0 HR
    obtain ⟨c0, c1, c2, c3, c4, c5, c6, c7, c8, c9, c10, c11⟩ := HQ1.out.cells
    simp only at c0 c1 c2 c3 c4 c5 c6 c7 c8 c9 c10 c11
    cases fx with
    | true =>
      have HZ := Lib.hid (HFar.out rfl)
      go_wp2_with fail
      refine (HFx.out _).mono ?_
      rintro e w2 ⟨rfl, rfl⟩
      go_wp2
      go_ret
      exact ⟨by rw [HZ.out]; rfl, HQ1.out.bel⟩
    | false =>
      cases fy with
      | true =>
        have HZ := Lib.hid (HFar.out rfl)
        go_wp2_with fail
        refine (HFx.out _).mono ?_
        rintro e w2 ⟨rfl, rfl⟩
        go_wp2_with fail
        refine (HFy.out _).mono ?_
        rintro e w2 ⟨rfl, rfl⟩
        go_wp2
        go_ret
        exact ⟨by rw [HZ.out]; rfl, HQ1.out.bel⟩
      | false =>
        go_wp2_with fail
        refine (HFx.out _).mono ?_
        rintro e w2 ⟨rfl, rfl⟩
        go_wp2_with fail
        refine (HFy.out _).mono ?_
        rintro e w2 ⟨rfl, rfl⟩
        go_wp2_with fail
        refine (HS1.out _).mono ?_
        rintro e w3 ⟨rfl, hb3⟩
        have HQ3 := Lib.hid (HQ1.out.next hb3)
        clear hb3 HQ1 c0 c1 c2 c3 c4 c5 c6 c7 c8 c9 c10 c11
        obtain ⟨c0, c1, c2, c3, c4, c5, c6, c7, c8, c9, c10, c11⟩ := HQ3.out.cells
        simp only at c0 c1 c2 c3 c4 c5 c6 c7 c8 c9 c10 c11
        cases s1 with
        | false =>
          have HZ := Lib.hid (HEn.out rfl)
          go_wp2_with fail
          refine (HM.out _).mono ?_
          rintro e w4 ⟨rfl, hb4⟩
          go_wp2
          go_ret
          exact ⟨by rw [HZ.out]; rfl, (HQ3.out.next hb4).bel⟩
        | true =>
          go_wp2_with fail
          refine (HS2.out _).mono ?_
          rintro e w4 ⟨rfl, hb4⟩
          have HQ4 := Lib.hid (HQ3.out.next hb4)
          clear hb4 HQ3 c0 c1 c2 c3 c4 c5 c6 c7 c8 c9 c10 c11
          obtain ⟨c0, c1, c2, c3, c4, c5, c6, c7, c8, c9, c10, c11⟩ := HQ4.out.cells
          simp only at c0 c1 c2 c3 c4 c5 c6 c7 c8 c9 c10 c11
          cases s2 with
          | true =>
            have HZ := Lib.hid (HCr.out (by trivial) (by trivial))
            go_wp2
            go_ret
            exact ⟨by rw [HZ.out]; rfl, HQ4.out.bel⟩
          | false =>
            have HZ := Lib.hid (HEn.out rfl)
            go_wp2_with fail
            refine (HM.out _).mono ?_
            rintro e w5 ⟨rfl, hb5⟩
            go_wp2
            go_ret
            exact ⟨by rw [HZ.out]; rfl, (HQ4.out.next hb5).bel⟩
  · have hr2 : rights [(ax, ay, az), (bx, bY, bz), (cx, cy, cz), (dx, dy, dz)] = false := by simpa using hr
    have HZ : Hid (meetF (ax, ay, az) (bx, bY, bz) (cx, cy, cz) (dx, dy, dz) = 0) := if_neg hr
    rw [hr2] at HR
    clear hr hr2
    go_enter Try.func18, Try.ntmps18
    go_wp2_with fail
    refine HR.out.mono ?_
    rintro e w1 ⟨rfl, hb1⟩
    have HQ1 := Lib.hid (HQ0.out.next (new_call (new_alloc (Below.refl _ _) _) hb1))
    go_wp2
    go_ret
    exact ⟨by rw [HZ.out]; rfl, HQ1.out.bel⟩
end Go.Proofs.Ytnhoinonojhgiaa
