/- lapidaryref09: In. -/
import Derived.Test.YtnhoinonojhgiaaGeomRefC
namespace Go.Proofs.Ytnhoinonojhgiaa
open Go.RowKit

theorem hit_ways (ay py bY t : Int) (hit : Bool) (hh : ((decide (ay ≤ py) && decide (py < bY)) && decide (0 < t) || (decide (bY ≤ py) && decide (py < ay)) && decide (t < 0)) = hit) :
    (decide (ay ≤ py) = true ∧ decide (py < bY) = true ∧ decide (bY ≤ py) = false ∧ decide (0 < t) = true ∧ hit = true) ∨
    (decide (ay ≤ py) = true ∧ decide (py < bY) = true ∧ decide (bY ≤ py) = false ∧ decide (0 < t) = false ∧ hit = false) ∨
    (decide (ay ≤ py) = false ∧ decide (bY ≤ py) = true ∧ decide (py < ay) = true ∧ decide (t < 0) = true ∧ hit = true) ∨
    (decide (ay ≤ py) = false ∧ decide (bY ≤ py) = true ∧ decide (py < ay) = true ∧ decide (t < 0) = false ∧ hit = false) ∨
    (decide (ay ≤ py) = false ∧ decide (bY ≤ py) = false ∧ hit = false) ∨
    (decide (ay ≤ py) = true ∧ decide (py < bY) = false ∧ decide (bY ≤ py) = true ∧ decide (py < ay) = false ∧ hit = false) := by
  subst hh
  by_cases h1 : ay ≤ py
  · have e1 : decide (py < ay) = false := by simp; omega
    by_cases h2 : py < bY
    · have e2 : decide (bY ≤ py) = false := by simp; omega
      rw [e1, e2, decide_eq_true h1, decide_eq_true h2]
      cases decide (0 < t) <;> simp
    · have e2 : decide (bY ≤ py) = true := by simp; omega
      rw [e1, e2, decide_eq_true h1, decide_eq_false h2]
      simp
  · have e1 : decide (py < ay) = true := by simp; omega
    rw [e1, decide_eq_false h1]
    cases decide (bY ≤ py) <;> cases decide (t < 0) <;> simp
/-- A point, and the ends of a side, in blocks of the call's own. -/
structure SideAt (w wr : World) (p a b : P3) (wx : World) : Prop where
  b0 : Blk wx w.heap.size 23 #[.int .i64 p.1, .int .i64 p.2.1, .int .i64 p.2.2]
  b7 : Blk wx wr.heap.size 23 #[.int .i64 a.1, .int .i64 a.2.1, .int .i64 a.2.2]
  b8 : Blk wx (wr.heap.size + 1) 23 #[.int .i64 b.1, .int .i64 b.2.1, .int .i64 b.2.2]
  bel : Below w.heap.size w wx
theorem SideAt.next {w wr wx w' : World} {p a b : P3} (h : SideAt w wr p a b wx) (hb : Below wx.heap.size wx w') : SideAt w wr p a b w' :=
  ⟨h.b0.below hb h.b0.lt, h.b7.below hb h.b7.lt, h.b8.below hb h.b8.lt, new_call h.bel hb⟩
theorem SideAt.new {w wr : World} {p : P3} (h0 : Blk wr w.heap.size 23 #[.int .i64 p.1, .int .i64 p.2.1, .int .i64 p.2.2]) (hb : Below w.heap.size w wr) (a b : P3) :
    SideAt w wr p a b ((wr.alloc (.cells #[.int .i64 a.1, .int .i64 a.2.1, .int .i64 a.2.2] 23)).alloc (.cells #[.int .i64 b.1, .int .i64 b.2.1, .int .i64 b.2.2] 23)) :=
  ⟨(h0.alloc _).alloc _, (Blk.new wr _ _).alloc _, blk_two wr _ _ _, new_alloc (new_alloc hb _) _⟩
theorem SideAt.put {w wr wx : World} {p a b : P3} (h : SideAt w wr p a b wx) (hw : w.heap.size < wr.heap.size) (q : P3) : SideAt w wr p a q (((wx.setCell ⟨wr.heap.size + 1, 0, none⟩ (.int .i64 q.1)).setCell ⟨wr.heap.size + 1, 1, none⟩ (.int .i64 q.2.1)).setCell ⟨wr.heap.size + 1, 2, none⟩ (.int .i64 q.2.2)) := by
  have e0 : w.heap.size ≠ wr.heap.size + 1 := by omega
  have e7 : wr.heap.size ≠ wr.heap.size + 1 := by omega
  have el : w.heap.size ≤ wr.heap.size + 1 := by omega
  exact ⟨((h.b0.far e0 _).far e0 _).far e0 _, ((h.b7.far e7 _).far e7 _).far e7 _, ((h.b8.set_ 0 _).set_ 1 _).set_ 2 _, ((h.bel.setCell el _).setCell el _).setCell el _⟩
theorem SideAt.cells {w wr wx : World} {p a b : P3} (h : SideAt w wr p a b wx) :
    (wx.cell? ⟨w.heap.size, 0, none⟩ = some (.int .i64 p.1) ∧ wx.cell? ⟨w.heap.size, 1, none⟩ = some (.int .i64 p.2.1) ∧ wx.cell? ⟨w.heap.size, 2, none⟩ = some (.int .i64 p.2.2)) ∧
    (wx.cell? ⟨wr.heap.size, 0, none⟩ = some (.int .i64 a.1) ∧ wx.cell? ⟨wr.heap.size, 1, none⟩ = some (.int .i64 a.2.1) ∧ wx.cell? ⟨wr.heap.size, 2, none⟩ = some (.int .i64 a.2.2)) ∧
    (wx.cell? ⟨wr.heap.size + 1, 0, none⟩ = some (.int .i64 b.1) ∧ wx.cell? ⟨wr.heap.size + 1, 1, none⟩ = some (.int .i64 b.2.1) ∧ wx.cell? ⟨wr.heap.size + 1, 2, none⟩ = some (.int .i64 b.2.2)) :=
  ⟨⟨h.b0.cell 0, h.b0.cell 1, h.b0.cell 2⟩, ⟨h.b7.cell 0, h.b7.cell 1, h.b7.cell 2⟩, ⟨h.b8.cell 0, h.b8.cell 1, h.b8.cell 2⟩⟩
theorem any_take {α : Type} {l : List α} {f : α → Bool} {i : Nat} {x : α} (h : l[i]? = some x) : (l.take (i + 1)).any f = ((l.take i).any f || f x) := by
  obtain ⟨hi, rfl⟩ := List.getElem?_eq_some_iff.1 h
  rw [List.take_succ_eq_append_getElem hi, List.any_append]
  simp
theorem count_take {α : Type} {l : List α} {f : α → Bool} {i : Nat} {x : α} (h : l[i]? = some x) : (l.take (i + 1)).countP f = (l.take i).countP f + if f x then 1 else 0 := by
  obtain ⟨hi, rfl⟩ := List.getElem?_eq_some_iff.1 h
  rw [List.take_succ_eq_append_getElem hi, List.countP_append]
  simp [List.countP_cons]
theorem any_of {α : Type} {l : List α} {f : α → Bool} {i : Nat} {x : α} (h : l[i]? = some x) (hf : f x = true) : l.any f = true := List.any_eq_true.2 ⟨x, List.mem_of_getElem? h, hf⟩
set_option maxRecDepth 100000 in
set_option maxHeartbeats 2000000 in
theorem ref9In_any (px py pz : Int) (A : Option Addr) (n c : Nat) (l : List P3) (w : World) (h : HasK 3 w A n c (p3Cells l)) (hn : n ≤ 100000) : Calls Try.prog 24 #[.agg #[.int .i64 px, .int .i64 py, .int .i64 pz], .slice A n c] w fun e w' => e = .returned (.int .i64 (inF (px, py, pz) l)) ∧ Below w.heap.size w w' := by
  have HL : Hid (l.length = n) := by have := h.len; rw [p3Cells_len] at this; show _ = _; omega
  have HH := Lib.hid h
  have hsz1 : w.heap.size + 1 = (w.alloc (.cells #[.int .i64 px, .int .i64 py, .int .i64 pz] 23)).heap.size := (Array.size_push _).symm
  have HR1 := Lib.hid (ref9Right_any (some ⟨w.heap.size + 1, 0, none⟩) 1 1 [(px, py, pz)] ((w.alloc (.cells #[.int .i64 px, .int .i64 py, .int .i64 pz] 23)).alloc (.cells #[.int .i64 px, .int .i64 py, .int .i64 pz] 23)) (HasK.new_at 3 _ _ _ _ 1 hsz1 rfl) (by decide))
  have HR2 := Lib.hid (fun W (hW : Below w.heap.size w W) => ref9Right_any A n c l W (h.kept hW) hn)
  have HB0 := Lib.hid (new_alloc (new_alloc (Below.refl w.heap.size w) (.cells #[.int .i64 px, .int .i64 py, .int .i64 pz] 23)) (.cells #[.int .i64 px, .int .i64 py, .int .i64 pz] 23))
  have HK0 := Lib.hid ((Blk.new w 23 #[.int .i64 px, .int .i64 py, .int .i64 pz]).alloc (.cells #[.int .i64 px, .int .i64 py, .int .i64 pz] 23))
  have hrp : rights [(px, py, pz)] = rightP (px, py, pz) := by simp [rights]
  rw [hrp] at HR1
  clear h hsz1 hrp
  by_cases hp : rightP (px, py, pz) = true
  · by_cases hr : rights l = true
    · have HE : Hid (inF (px, py, pz) l = if (sides l).any (onSide (px, py, pz)) then 0 else if (sides l).countP (hitF (px, py, pz)) % 2 = 1 then 1 else -1) := by
        show _ = _
        unfold inF
        rw [hp, hr]
        rfl
      rw [hp] at HR1
      rw [hr] at HR2
      clear hp hr
      go_enter Try.func24, Try.ntmps24
      go_wp2_with fail
      refine HR1.out.mono ?_
      rintro e w1 ⟨rfl, hb1⟩
      have HB1 := Lib.hid (new_call HB0.out hb1)
      have HK1 := Lib.hid (HK0.out.below hb1 HK0.out.lt)
      clear hb1 HB0 HK0 HR1
      go_wp2_with fail
      refine (HR2.out _ HB1.out).mono ?_
      rintro e w2 ⟨rfl, hb2⟩
      have HB2 := Lib.hid (new_call HB1.out hb2)
      have HK2 := Lib.hid (HK1.out.below hb2 HK1.out.lt)
      clear hb2 HB1 HK1 HR2
      go_wp2
      go_loopg [5, 6] n (fun g s5 s6 wx => ∃ (i cnt : Nat), i + g = n ∧ cnt ≤ i ∧ s5 = .int .i64 cnt ∧ s6 = .int .i64 i ∧ Hid (Blk wx w.heap.size 23 #[.int .i64 px, .int .i64 py, .int .i64 pz]) ∧ Hid (Below w.heap.size w wx) ∧ Hid (((sides l).take i).any (onSide (px, py, pz)) = false) ∧ Hid (((sides l).take i).countP (hitF (px, py, pz)) = cnt))
      case atStart => exact ⟨0, 0, by omega, by omega, rfl, rfl, HK2, HB2, rfl, rfl⟩
      case round =>
        obtain ⟨i, cnt, hig, hcn, rfl, rfl, HK, HB, HO, HC⟩ := hrel
        clear HK2 HB2
        by_cases hi : i < n
        · have ti : decide ((i : Int) < (n : Int)) = true := by simp; omega
          have i2 : (i : Int) < (n : Int) := by omega
          have n2 : (0 : Int) < (n : Int) := by omega
          have hil : i < l.length := by rw [HL.out]; exact hi
          have h0l : 0 < l.length := by omega
          obtain ⟨b, off, rfl, hlt, _⟩ := (HH.out.kept HB.out).at_ (by omega)
          obtain ⟨_, _, e0, hlt0, _⟩ := HH.out.at_ (by omega)
          cases e0
          have hzr := HK.out.lt
          obtain ⟨q, hq⟩ : ∃ q, (if h2 : i + 1 < l.length then l[i + 1] else l[0]) = q := ⟨_, rfl⟩
          have HSd : Hid ((sides l)[i]? = some (l[i], q)) := by
            have h1 := sides_at hil
            rw [hq] at h1
            exact h1
          have HC0 : Hid (∀ W, Below w.heap.size w W → W.cell? ⟨b, off + i * 3, none⟩ = some (.int .i64 l[i].1) ∧ W.cell? ⟨b, off + i * 3 + 1, none⟩ = some (.int .i64 l[i].2.1) ∧ W.cell? ⟨b, off + i * 3 + 2, none⟩ = some (.int .i64 l[i].2.2)) := fun W hW => p3_at (HH.out.kept hW) hil
          have HC1 : Hid (∀ W, Below w.heap.size w W → W.cell? ⟨b, off, none⟩ = some (.int .i64 l[0].1) ∧ W.cell? ⟨b, off + 1, none⟩ = some (.int .i64 l[0].2.1) ∧ W.cell? ⟨b, off + 2, none⟩ = some (.int .i64 l[0].2.2)) := fun W hW => by
            have h1 := p3_at (HH.out.kept hW) h0l
            simpa using h1
          have HC2 : Hid ((i + 1 < n ∧ ∀ W, Below w.heap.size w W → W.cell? ⟨b, off + (i + 1) * 3, none⟩ = some (.int .i64 q.1) ∧ W.cell? ⟨b, off + (i + 1) * 3 + 1, none⟩ = some (.int .i64 q.2.1) ∧ W.cell? ⟨b, off + (i + 1) * 3 + 2, none⟩ = some (.int .i64 q.2.2)) ∨ (¬ i + 1 < n ∧ q = l[0])) := by
            have hln := HL.out
            by_cases h2 : i + 1 < n
            · refine Or.inl ⟨h2, fun W hW => ?_⟩
              have h3 : i + 1 < l.length := by omega
              rw [dif_pos h3] at hq
              have h4 := p3_at (HH.out.kept hW) h3
              rw [hq] at h4
              exact h4
            · refine Or.inr ⟨h2, ?_⟩
              rw [dif_neg (by omega)] at hq
              exact hq.symm
          clear hq
          generalize l[i] = a at *
          generalize l[0] = f at *
          obtain ⟨ax, ay, az⟩ := a
          obtain ⟨qx, qy, qz⟩ := q
          obtain ⟨fx, fy, fz⟩ := f
          simp only at HC0 HC1 HC2
          have HS1 := Lib.hid (SideAt.new (p := (px, py, pz)) HK.out HB.out (ax, ay, az) (fx, fy, fz))
          obtain ⟨z1, z2, z3⟩ := HC0.out wr HB.out
          obtain ⟨y1, y2, y3⟩ := HC1.out _ (new_alloc HB.out (.cells #[.int .i64 ax, .int .i64 ay, .int .i64 az] 23))
          clear hil h0l hlt hlt0
          go_upto_if 37 with (with_reducible fail)
          generalize (wr.alloc (.cells #[.int .i64 ax, .int .i64 ay, .int .i64 az] 23)).alloc (.cells #[.int .i64 fx, .int .i64 fy, .int .i64 fz] 23) = W1 at *
          go_cut [] from 20 to 90 (fun wx => Hid (SideAt w wr (px, py, pz) (ax, ay, az) (qx, qy, qz) wx))
          case first =>
            have fz0 := HS1.out.b8.frozen 0
            have fz1 := HS1.out.b8.frozen 1
            have fz2 := HS1.out.b8.frozen 2
            obtain ⟨_, _, ⟨k1, k2, k3⟩⟩ := HS1.out.cells
            simp only at k1 k2 k3
            rcases HC2.out with ⟨h2, hq⟩ | ⟨h2, hq⟩
            · have t2 : decide ((i : Int) + 1 < (n : Int)) = true := by simp; omega
              have j1 : (i : Int) + 1 < (n : Int) := by omega
              have j2 : (0 : Int) ≤ (i : Int) + 1 := by omega
              have j3 : ((i : Int) + 1).toNat = i + 1 := by omega
              have j4 : ((i : Int) + 1 < 0) = False := eq_false (by omega)
              obtain ⟨x1, x2, x3⟩ := hq _ HS1.out.bel
              have HS2 := Lib.hid (HS1.out.put hzr (qx, qy, qz))
              clear h2 hq HC2
              go_wp2_with (with_reducible fail)
              go_meet
              case rel => exact HS2
            · have t2 : decide ((i : Int) + 1 < (n : Int)) = false := by simp; omega
              cases hq
              go_wp2_with (with_reducible fail)
              go_meet
              case rel => exact HS1
          case rest =>
            have HS2 : Hid (SideAt w wr (px, py, pz) (ax, ay, az) (qx, qy, qz) wc) := hcut
            clear hcut HS1 HC2 HC0 HC1 z1 z2 z3
            obtain ⟨⟨p1, p2, p3⟩, ⟨a1, a2, a3⟩, ⟨q1, q2, q3⟩⟩ := HS2.out.cells
            simp only at p1 p2 p3 a1 a2 a3 q1 q2 q3
            have HOn := Lib.hid (ref9On_any px py pz ax ay az qx qy qz wc)
            have HA2 := Lib.hid (any_take (f := onSide (px, py, pz)) HSd.out)
            have HC2 := Lib.hid (count_take (f := hitF (px, py, pz)) HSd.out)
            rw [HO.out, Bool.false_or] at HA2
            rw [HC.out] at HC2
            have HAy : Hid (onSide (px, py, pz) ((ax, ay, az), qx, qy, qz) = true → (sides l).any (onSide (px, py, pz)) = true) := any_of HSd.out
            have hon : onF (px, py, pz) (ax, ay, az) (qx, qy, qz) = onSide (px, py, pz) ((ax, ay, az), qx, qy, qz) := rfl
            rw [hon] at HOn
            clear hon
            generalize onSide (px, py, pz) ((ax, ay, az), qx, qy, qz) = on at *
            cases on with
            | true =>
              have HZ : Hid (inF (px, py, pz) l = 0) := by
                show _ = _
                rw [HE.out, HAy.out rfl]
                rfl
              go_wp2_with fail
              refine HOn.out.mono ?_
              rintro e w3 ⟨rfl, hb3⟩
              have HB3 := Lib.hid (new_call HS2.out.bel hb3)
              clear hb3
              go_wp2
              go_ret
              exact ⟨by rw [HZ.out]; rfl, HB3.out⟩
            | false =>
              go_wp2_with fail
              refine HOn.out.mono ?_
              rintro e w3 ⟨rfl, hb3⟩
              have HS3 := Lib.hid (HS2.out.next hb3)
              clear hb3 HOn HAy HS2 p1 p2 p3 a1 a2 a3 q1 q2 q3
              obtain ⟨⟨p1, p2, p3⟩, ⟨a1, a2, a3⟩, ⟨q1, q2, q3⟩⟩ := HS3.out.cells
              simp only at p1 p2 p3 a1 a2 a3 q1 q2 q3
              have HTu := Lib.hid (ref9Turn_any ax ay az qx qy qz px py pz w3)
              have hw := hit_ways ay py qy (turnF (ax, ay, az) (qx, qy, qz) (px, py, pz)) _ rfl
              have hh : hitF (px, py, pz) ((ax, ay, az), qx, qy, qz) = ((decide (ay ≤ py) && decide (py < qy)) && decide (0 < turnF (ax, ay, az) (qx, qy, qz) (px, py, pz)) || (decide (qy ≤ py) && decide (py < ay)) && decide (turnF (ax, ay, az) (qx, qy, qz) (px, py, pz) < 0)) := rfl
              rw [← hh] at hw
              clear hh
              generalize turnF (ax, ay, az) (qx, qy, qz) (px, py, pz) = t at *
              generalize hitF (px, py, pz) ((ax, ay, az), qx, qy, qz) = hit at *
              rcases hw with ⟨d1, d2, d3, d4, rfl⟩ | ⟨d1, d2, d3, d4, rfl⟩ | ⟨d1, d2, d3, d4, rfl⟩ | ⟨d1, d2, d3, d4, rfl⟩ | ⟨d1, d2, rfl⟩ | ⟨d1, d2, d3, d4, rfl⟩
              iterate 4
                · go_wp2_with fail
                  refine HTu.out.mono ?_
                  rintro e w4 ⟨rfl, hb4⟩
                  have HB4 := Lib.hid (new_call HS3.out.bel hb4)
                  have HK4 := Lib.hid (HS3.out.b0.below hb4 HS3.out.b0.lt)
                  clear hb4
                  go_wp2
                  go_roundg (gk - 1)
                  case measure => omega
                  case rel => exact ⟨i + 1, _, by omega, by first | exact Nat.succ_le_succ hcn | exact Nat.le_succ_of_le hcn, by first | rfl | go_num, by go_num, HK4, HB4, HA2, HC2⟩
              iterate 2
                · go_wp2
                  go_roundg (gk - 1)
                  case measure => omega
                  case rel => exact ⟨i + 1, _, by omega, Nat.le_succ_of_le hcn, rfl, by go_num, Lib.hid HS3.out.b0, Lib.hid HS3.out.bel, HA2, HC2⟩
        · have ti : decide ((i : Int) < (n : Int)) = false := by simp; omega
          have hln : (sides l).length ≤ i := by rw [sides_len, HL.out]; omega
          rw [List.take_of_length_le hln] at HO HC
          have HZ : Hid (inF (px, py, pz) l = if cnt % 2 = 1 then 1 else -1) := by
            show _ = _
            rw [HE.out, HO.out, HC.out]
            rfl
          clear hln HE
          by_cases hm : cnt % 2 = 1
          · rw [if_pos hm] at HZ
            have m1 : ((cnt : Int) % 2 == 1) = true := beq_iff_eq.2 (by omega)
            have m2 : (((cnt : Int)).tmod 2 == 1) = true := by rw [show ((cnt : Int)).tmod 2 = ((cnt % 2 : Nat) : Int) from rfl, hm]; rfl
            go_wp2
            go_ret
            exact ⟨by rw [HZ.out]; rfl, HB.out⟩
          · rw [if_neg hm] at HZ
            have m1 : ((cnt : Int) % 2 == 1) = false := beq_eq_false_iff_ne.2 (by omega)
            have m2 : (((cnt : Int)).tmod 2 == 1) = false := by rw [show ((cnt : Int)).tmod 2 = ((cnt % 2 : Nat) : Int) from rfl, show cnt % 2 = 0 by omega]; rfl
            go_wp2
            go_ret
            exact ⟨by rw [HZ.out]; rfl, HB.out⟩
    · have hr2 : rights l = false := by simpa using hr
      have HE : Hid (inF (px, py, pz) l = 0) := by
        show _ = _
        unfold inF
        rw [hp, hr2]
        rfl
      rw [hp] at HR1
      rw [hr2] at HR2
      clear hp hr hr2
      go_enter Try.func24, Try.ntmps24
      go_wp2_with fail
      refine HR1.out.mono ?_
      rintro e w1 ⟨rfl, hb1⟩
      have HB1 := Lib.hid (new_call HB0.out hb1)
      clear hb1 HB0 HK0 HR1
      go_wp2_with fail
      refine (HR2.out _ HB1.out).mono ?_
      rintro e w2 ⟨rfl, hb2⟩
      have HB2 := Lib.hid (new_call HB1.out hb2)
      go_wp2
      go_ret
      exact ⟨by rw [HE.out]; rfl, HB2.out⟩
  · have hp2 : rightP (px, py, pz) = false := by simpa using hp
    have HE : Hid (inF (px, py, pz) l = 0) := by
      show _ = _
      unfold inF
      rw [hp2]
      rfl
    rw [hp2] at HR1
    clear hp hp2
    go_enter Try.func24, Try.ntmps24
    go_wp2_with fail
    refine HR1.out.mono ?_
    rintro e w1 ⟨rfl, hb1⟩
    have HB1 := Lib.hid (new_call HB0.out hb1)
    go_wp2
    go_ret
    exact ⟨by rw [HE.out]; rfl, HB1.out⟩
end Go.Proofs.Ytnhoinonojhgiaa
