/- The landed geom: In. -/
import Derived.Test.YtnhoinonojhgiaaGeomCodeC
namespace Go.Proofs.Ytnhoinonojhgiaa
open Go.RowKit

theorem rights3_of {p a b : P3} (hp : rightP p = true) (ha : rightP a = true) (hb : rightP b = true) : rights [p, a, b] = true := by simp [rights, hp, ha, hb]
set_option maxRecDepth 100000 in
set_option maxHeartbeats 2000000 in
theorem geomIn_any (px py pz : Int) (A : Option Addr) (n c : Nat) (l : List P3) (w : World) (h : HasK 3 w A n c (p3Cells l)) (hn : n ≤ 100000) : Calls Try.prog 23 #[.agg #[.int .i64 px, .int .i64 py, .int .i64 pz], .slice A n c] w fun e w' => e = .returned (.int .i64 (inF (px, py, pz) l)) ∧ Below w.heap.size w w' := by
  have HL : Hid (l.length = n) := by have := h.len; rw [p3Cells_len] at this; show _ = _; omega
  have HH := Lib.hid h
  have hsz1 : w.heap.size + 1 = (w.alloc (.cells #[.int .i64 px, .int .i64 py, .int .i64 pz] 23)).heap.size := (Array.size_push _).symm
  have HR1 := Lib.hid (geomRight_any (some ⟨w.heap.size + 1, 0, none⟩) 1 1 [(px, py, pz)] ((w.alloc (.cells #[.int .i64 px, .int .i64 py, .int .i64 pz] 23)).alloc (.cells #[.int .i64 px, .int .i64 py, .int .i64 pz] 23)) (HasK.new_at 3 _ _ _ _ 1 hsz1 rfl) (by decide))
  have HR2 := Lib.hid (fun W (hW : Below w.heap.size w W) => geomRight_any A n c l W (h.kept hW) (by omega))
  have HB0 := Lib.hid (new_alloc (new_alloc (Below.refl w.heap.size w) (.cells #[.int .i64 px, .int .i64 py, .int .i64 pz] 23)) (.cells #[.int .i64 px, .int .i64 py, .int .i64 pz] 23))
  have HK0 := Lib.hid ((Blk.new w 23 #[.int .i64 px, .int .i64 py, .int .i64 pz]).alloc (.cells #[.int .i64 px, .int .i64 py, .int .i64 pz] 23))
  have hrp : rights [(px, py, pz)] = rightP (px, py, pz) := by simp [rights]
  rw [hrp] at HR1
  clear h hsz1 hrp
  by_cases hp : rightP (px, py, pz) = true
  · by_cases hr : rights l = true
    · have HE : Hid (inF (px, py, pz) l = if (sides l).any (onSide (px, py, pz)) then 0 else if (sides l).countP (hitF (px, py, pz)) % 2 = 1 then 1 else -1) := by
        show _ = _
        unfold inF
        rw [hp, hr]
        rfl
      have HRi := Lib.hid (fun i hi => right_at (i := i) hr hi)
      have HPr := Lib.hid hp
      rw [hp] at HR1
      rw [hr] at HR2
      clear hp hr
      go_enter Try.func23, Try.ntmps23
      go_wp2_with fail
      go_step3
      go_wp2_with fail
      refine HR1.out.mono ?_
      rintro e w1 ⟨rfl, hb1⟩
      have HB1 := Lib.hid (new_call HB0.out hb1)
      have HK1 := Lib.hid (HK0.out.below hb1 HK0.out.lt)
      clear hb1 HB0 HK0 HR1
      go_wp2_with fail
      refine (HR2.out _ HB1.out).mono ?_
      rintro e w2 ⟨rfl, hb2⟩
      have HB2 := Lib.hid (new_call HB1.out hb2)
      have HK2 := Lib.hid (HK1.out.below hb2 HK1.out.lt)
      clear hb2 HB1 HK1 HR2
      go_wp2_with fail
      go_step3
      go_wp2_with fail
      go_loopg [5, 20] n (fun g s5 s20 wx => ∃ (i cnt : Nat) (v : Int), i + g = n ∧ s5 = .int .i64 v ∧ s20 = .int .i64 i ∧ (v = 1 ∧ cnt % 2 = 1 ∨ v = -1 ∧ cnt % 2 = 0) ∧ Hid (Blk wx w.heap.size 23 #[.int .i64 px, .int .i64 py, .int .i64 pz]) ∧ Hid (Below w.heap.size w wx) ∧ Hid (((sides l).take i).any (onSide (px, py, pz)) = false) ∧ Hid (((sides l).take i).countP (hitF (px, py, pz)) = cnt))
      case atStart => exact ⟨0, 0, -1, by omega, rfl, rfl, Or.inr ⟨rfl, rfl⟩, HK2, HB2, rfl, rfl⟩
      case round =>
        obtain ⟨i, cnt, v, hig, rfl, rfl, HV, HK, HB, HO, HC⟩ := hrel
        clear HK2 HB2
        by_cases hi : i < n
        · have ti : decide ((i : Int) < (n : Int)) = true := by simp; omega
          have i2 : (i : Int) < (n : Int) := by omega
          have hil : i < l.length := by rw [HL.out]; exact hi
          obtain ⟨b, off, rfl, hlt, _⟩ := (HH.out.kept HB.out).at_ (by omega)
          obtain ⟨z1, z2, z3⟩ := p3_at (HH.out.kept HB.out) hil
          obtain ⟨q, hq⟩ : ∃ q, (if h2 : i + 1 < l.length then l[i + 1] else l[0]'(by omega)) = q := ⟨_, rfl⟩
          have HSd : Hid ((sides l)[i]? = some (l[i], q)) := by
            have h1 := sides_at hil
            rw [hq] at h1
            exact h1
          have ra := HRi.out i hil
          have rb : rightP q = true := by
            by_cases h2 : i + 1 < l.length
            · rw [dif_pos h2] at hq
              have h1 := HRi.out (i + 1) h2
              rw [hq] at h1
              exact h1
            · rw [dif_neg h2] at hq
              have h1 := HRi.out 0 (by omega)
              rw [hq] at h1
              exact h1
          obtain ⟨qx, qy, qz⟩ := q
          have HFo := Lib.hid (fun W (hW : Below w.heap.size w W) => geomfollowing_any (some ⟨b, off, none⟩) n c l W (HH.out.kept hW) hn i hil qx qy qz hq)
          clear hq
          generalize l[i] = a at *
          obtain ⟨ax, ay, az⟩ := a
          simp only at z1 z2 z3
          have HOn := Lib.hid (fun W => geomon_any px py pz ax ay az qx qy qz W (rights3_of HPr.out ra rb))
          have HGo := Lib.hid (fun W => geomgoes_any px py pz ax ay az qx qy qz W (rights3_of HPr.out ra rb))
          have HGe := Lib.hid (goes_is HPr.out ra rb)
          have HA2 := Lib.hid (any_take (f := onSide (px, py, pz)) HSd.out)
          have HC2 := Lib.hid (count_take (f := hitF (px, py, pz)) HSd.out)
          rw [HO.out, Bool.false_or] at HA2
          rw [HC.out] at HC2
          have HAy : Hid (onSide (px, py, pz) ((ax, ay, az), qx, qy, qz) = true → (sides l).any (onSide (px, py, pz)) = true) := any_of HSd.out
          have hon : onF (px, py, pz) (ax, ay, az) (qx, qy, qz) = onSide (px, py, pz) ((ax, ay, az), qx, qy, qz) := rfl
          rw [hon] at HOn HGe
          clear hon ra rb hil hlt
          have HBa : Hid (Below w.heap.size w (wr.alloc (.cells #[.int .i64 ax, .int .i64 ay, .int .i64 az] 23))) := new_alloc HB.out _
          have HKa : Hid (Blk (wr.alloc (.cells #[.int .i64 ax, .int .i64 ay, .int .i64 az] 23)) wr.heap.size 23 #[.int .i64 ax, .int .i64 ay, .int .i64 az]) := Blk.new wr _ _
          have HKb : Hid (Blk (wr.alloc (.cells #[.int .i64 ax, .int .i64 ay, .int .i64 az] 23)) w.heap.size 23 #[.int .i64 px, .int .i64 py, .int .i64 pz]) := HK.out.alloc _
          go_wp2_with fail
          refine (HFo.out _ HBa.out).mono ?_
          rintro e w3 ⟨rfl, hb3⟩
          have HK3 : Hid (Blk (w3.alloc (.cells #[.int .i64 qx, .int .i64 qy, .int .i64 qz] 23)) w.heap.size 23 #[.int .i64 px, .int .i64 py, .int .i64 pz]) := (HKb.out.below hb3 HKb.out.lt).alloc _
          have HA3 : Hid (Blk (w3.alloc (.cells #[.int .i64 qx, .int .i64 qy, .int .i64 qz] 23)) wr.heap.size 23 #[.int .i64 ax, .int .i64 ay, .int .i64 az]) := (HKa.out.below hb3 HKa.out.lt).alloc _
          have HQ3 : Hid (Blk (w3.alloc (.cells #[.int .i64 qx, .int .i64 qy, .int .i64 qz] 23)) w3.heap.size 23 #[.int .i64 qx, .int .i64 qy, .int .i64 qz]) := Blk.new w3 _ _
          have HB3 : Hid (Below w.heap.size w (w3.alloc (.cells #[.int .i64 qx, .int .i64 qy, .int .i64 qz] 23))) := new_alloc (new_call HBa.out hb3) _
          clear hb3 HBa HKa HKb HFo z1 z2 z3 HK HB
          have c0 := HK3.out.cell 0
          have c1 := HK3.out.cell 1
          have c2 := HK3.out.cell 2
          have c3 := HA3.out.cell 0
          have c4 := HA3.out.cell 1
          have c5 := HA3.out.cell 2
          have c6 := HQ3.out.cell 0
          have c7 := HQ3.out.cell 1
          have c8 := HQ3.out.cell 2
          generalize onSide (px, py, pz) ((ax, ay, az), qx, qy, qz) = on at *
          cases on with
          | true =>
            have HZ : Hid (inF (px, py, pz) l = 0) := by
              show _ = _
              rw [HE.out, HAy.out rfl]
              rfl
            go_wp2_with fail
            refine (HOn.out _).mono ?_
            rintro e w4 ⟨rfl, hb4⟩
            have HB4 := Lib.hid (new_call HB3.out hb4)
            clear hb4
            go_wp2
            try rw [Exit.noGoto_ret]
            go_ret
            exact ⟨by rw [HZ.out]; rfl, HB4.out⟩
          | false =>
            have hge := HGe.out rfl
            rw [hge] at HGo
            clear hge HGe HAy
            go_wp2_with fail
            refine (HOn.out _).mono ?_
            rintro e w4 ⟨rfl, hb4⟩
            have HK4 := Lib.hid (HK3.out.below hb4 HK3.out.lt)
            have HA4 := Lib.hid (HA3.out.below hb4 HA3.out.lt)
            have HQ4 := Lib.hid (HQ3.out.below hb4 HQ3.out.lt)
            have HB4 := Lib.hid (new_call HB3.out hb4)
            clear hb4 HK3 HA3 HQ3 HB3 c0 c1 c2 c3 c4 c5 c6 c7 c8
            have c0 := HK4.out.cell 0
            have c1 := HK4.out.cell 1
            have c2 := HK4.out.cell 2
            have c3 := HA4.out.cell 0
            have c4 := HA4.out.cell 1
            have c5 := HA4.out.cell 2
            have c6 := HQ4.out.cell 0
            have c7 := HQ4.out.cell 1
            have c8 := HQ4.out.cell 2
            generalize hitF (px, py, pz) ((ax, ay, az), qx, qy, qz) = hit at *
            cases hit with
            | true =>
              go_wp2_with fail
              refine (HGo.out _).mono ?_
              rintro e w5 ⟨rfl, hb5⟩
              have HK5 := Lib.hid (HK4.out.below hb5 HK4.out.lt)
              have HB5 := Lib.hid (new_call HB4.out hb5)
              clear hb5
              rcases HV with ⟨rfl, hm⟩ | ⟨rfl, hm⟩
              all_goals
                go_wp2
                go_roundg (gk - 1)
                case measure => omega
                case rel => exact ⟨i + 1, cnt + 1, _, by omega, rfl, by go_num, by first | exact Or.inr ⟨rfl, by omega⟩ | exact Or.inl ⟨rfl, by omega⟩, HK5, HB5, HA2, HC2⟩
            | false =>
              go_wp2_with fail
              refine (HGo.out _).mono ?_
              rintro e w5 ⟨rfl, hb5⟩
              have HK5 := Lib.hid (HK4.out.below hb5 HK4.out.lt)
              have HB5 := Lib.hid (new_call HB4.out hb5)
              clear hb5
              go_wp2
              go_roundg (gk - 1)
              case measure => omega
              case rel => exact ⟨i + 1, cnt, _, by omega, rfl, by go_num, HV, HK5, HB5, HA2, HC2⟩
        · have ti : decide ((i : Int) < (n : Int)) = false := by simp; omega
          have hln : (sides l).length ≤ i := by rw [sides_len, HL.out]; omega
          rw [List.take_of_length_le hln] at HO HC
          have HZ : Hid (inF (px, py, pz) l = v) := by
            show _ = _
            rw [HE.out, HO.out, HC.out]
            rcases HV with ⟨rfl, hm⟩ | ⟨rfl, hm⟩
            · rw [if_neg (by decide), if_pos hm]
            · rw [if_neg (by decide), if_neg (by omega)]
          clear hln HE
          go_wp2
          try rw [Exit.noGoto_ret]
          go_ret
          exact ⟨by rw [HZ.out]; rfl, HB.out⟩
    · have hr2 : rights l = false := by simpa using hr
      have HE : Hid (inF (px, py, pz) l = 0) := by
        show _ = _
        unfold inF
        rw [hp, hr2]
        rfl
      rw [hp] at HR1
      rw [hr2] at HR2
      clear hp hr hr2
      go_enter Try.func23, Try.ntmps23
      go_wp2_with fail
      go_step3
      go_wp2_with fail
      refine HR1.out.mono ?_
      rintro e w1 ⟨rfl, hb1⟩
      have HB1 := Lib.hid (new_call HB0.out hb1)
      clear hb1 HB0 HK0 HR1
      go_wp2_with fail
      refine (HR2.out _ HB1.out).mono ?_
      rintro e w2 ⟨rfl, hb2⟩
      have HB2 := Lib.hid (new_call HB1.out hb2)
      go_wp2
      try rw [Exit.noGoto_ret]
      go_ret
      exact ⟨by rw [HE.out]; rfl, HB2.out⟩
  · have hp2 : rightP (px, py, pz) = false := by simpa using hp
    have HE : Hid (inF (px, py, pz) l = 0) := by
      show _ = _
      unfold inF
      rw [hp2]
      rfl
    rw [hp2] at HR1
    clear hp hp2
    go_enter Try.func23, Try.ntmps23
    go_wp2_with fail
    go_step3
    go_wp2_with fail
    refine HR1.out.mono ?_
    rintro e w1 ⟨rfl, hb1⟩
    have HB1 := Lib.hid (new_call HB0.out hb1)
    go_wp2
    try rw [Exit.noGoto_ret]
    go_ret
    exact ⟨by rw [HE.out]; rfl, HB1.out⟩
end Go.Proofs.Ytnhoinonojhgiaa
