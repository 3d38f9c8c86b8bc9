/- lapidaryref09: Area. -/
import Derived.Test.YtnhoinonojhgiaaGeomRefB
import Derived.Deep.CutRange
namespace Go.Proofs.Ytnhoinonojhgiaa
open Go.RowKit

theorem sums_drop {l : List P3} {i : Nat} (h : i < l.length) {a b : P3} (ha : l[i] = a) (hb : (if h2 : i + 1 < l.length then l[i + 1] else l[0]'(by omega)) = b) : sumS ((sides l).drop i) = a.1 * b.2.1 - a.2.1 * b.1 + sumS ((sides l).drop (i + 1)) := by
  have hs : i < (sides l).length := by rw [sides_len]; exact h
  rw [List.drop_eq_getElem_cons hs]
  have e : (sides l)[i] = (a, b) := by
    have h1 := sides_at h
    rw [List.getElem?_eq_getElem hs, hb, ha] at h1
    exact Option.some.inj h1
  rw [e]
  rfl
theorem right_at {l : List P3} (h : rights l = true) {i : Nat} (hi : i < l.length) : rightP l[i] = true := List.all_eq_true.1 h _ (List.getElem_mem hi)
theorem SumAt.gone {w wx : World} {g : Nat} {A : Option Addr} {c : Nat} {x y : Int} (h : SumAt w g A c x wx) (e : x = y) : SumAt w g A c y wx := by subst e; exact h
set_option maxRecDepth 100000 in
set_option maxHeartbeats 2000000 in
theorem ref9Area_any (A : Option Addr) (n c : Nat) (l : List P3) (w : World) (h : HasK 3 w A n c (p3Cells l)) (hn : n ≤ 100000) : Calls Try.prog 22 #[.slice A n c] w (Bigd w (areaF l)) := by
  obtain ⟨kz, ks⟩ := zero_of_info bigInfo
  have HL : Hid (l.length = n) := by have := h.len; rw [p3Cells_len] at this; show _ = _; omega
  have HH := Lib.hid h
  have HK0 : Hid (Blk (w.alloc (.cells #[.slice none 0 0] 39)) w.heap.size 39 #[.slice none 0 0]) := Blk.new w _ _
  have HB0 := Lib.hid (new_alloc (Below.refl w.heap.size w) (.cells #[.slice none 0 0] 39))
  have HZ0 : Hid (w.heap.size < (w.alloc (.cells #[.slice none 0 0] 39)).heap.size) := HK0.out.lt
  have HO0 := Lib.hid (ref8Of_any 0 (w.alloc (.cells #[.slice none 0 0] 39)) (by unfold i64W; decide))
  have HRt := Lib.hid (fun W (hW : Below w.heap.size w W) => ref9Right_any A n c l W (h.kept hW) hn)
  clear h
  go_enter Try.func22, Try.ntmps22
  go_wp2_with fail
  refine HO0.out.mono ?_
  rintro e w1 ⟨A1, c1, rfl, hh1, hb1, hn1⟩
  have HS1 : Hid (SumAt w w1.heap.size A1 c1 0 (w1.alloc (.cells #[.slice A1 8 c1] 39))) := ⟨(HK0.out.below hb1 HK0.out.lt).alloc _, Blk.new w1 _ _, hh1.alloc _, (fun b off hA => by obtain ⟨b', off', hA', hlt, _⟩ := hh1.spot (by decide); rw [hA] at hA'; cases hA'; have := hn1 b off hA; have := HZ0.out; omega), new_alloc (new_call HB0.out hb1) _, Nat.lt_of_lt_of_le HZ0.out hb1.size⟩
  clear hh1 hb1 hn1 HO0 HK0 HB0 HZ0
  go_wp2_with fail
  refine (HRt.out _ HS1.out.bel).mono ?_
  rintro e w2 ⟨rfl, hb2⟩
  have HS2 := Lib.hid (HS1.out.next hb2)
  clear hb2 HS1 HRt
  generalize w1.heap.size = G at *
  by_cases hr : rights l = true
  · have HA : Hid (areaF l = sumS (sides l)) := if_pos hr
    have HRi := Lib.hid (fun i hi => rightP_iff.1 (right_at (i := i) hr hi))
    rw [HA.out]
    rw [hr]
    clear hr
    go_wp2
    go_loopg [4] n (fun g s4 wx => ∃ (i : Nat) (B : Option Addr) (d : Nat) (acc : Int), i + g = n ∧ s4 = .int .i64 i ∧ Hid (SumAt w G B d acc wx) ∧ Hid (acc + sumS ((sides l).drop i) = sumS (sides l)))
    case atStart => exact ⟨0, A1, c1, 0, by omega, rfl, HS2, by show _ = _; simp⟩
    case round =>
      obtain ⟨i, B, d, acc, hig, rfl, HS, HP⟩ := hrel
      clear HS2
      by_cases hi : i < n
      · have ti : decide ((i : Int) < (n : Int)) = true := by simp; omega
        have i2 : (i : Int) < (n : Int) := by omega
        have hil : i < l.length := by rw [HL.out]; exact hi
        obtain ⟨b, off, rfl, hlt, _⟩ := (HH.out.kept HS.out.bel).at_ (by omega)
        obtain ⟨_, _, e0, hlt0, _⟩ := HH.out.at_ (by omega)
        cases e0
        have hbg : G ≠ b := by have := HS.out.gt; omega
        obtain ⟨k, hkn, hk⟩ : ∃ k, k < n ∧ ((i + 1 < n ∧ k = i + 1) ∨ (i + 1 = n ∧ k = 0)) := by
          by_cases h2 : i + 1 < n
          · exact ⟨i + 1, h2, Or.inl ⟨h2, rfl⟩⟩
          · exact ⟨0, by omega, Or.inr ⟨by omega, rfl⟩⟩
        have hkl : k < l.length := by rw [HL.out]; exact hkn
        have k2 : (k : Int) < (n : Int) := by omega
        have HD : Hid (sumS ((sides l).drop i) = l[i].1 * l[k].2.1 - l[i].2.1 * l[k].1 + sumS ((sides l).drop (i + 1))) := sums_drop hil rfl (by
          have := HL.out
          rcases hk with ⟨h2, rfl⟩ | ⟨h2, rfl⟩
          · rw [dif_pos (by omega)]
          · rw [dif_neg (by omega)])
        have hx := HRi.out i hil
        have hy := HRi.out k hkl
        have HCb : Hid (∀ W, Below w.heap.size w W → W.cell? ⟨b, off + i * 3, none⟩ = some (.int .i64 l[i].1) ∧ W.cell? ⟨b, off + i * 3 + 1, none⟩ = some (.int .i64 l[i].2.1) ∧ W.cell? ⟨b, off + k * 3, none⟩ = some (.int .i64 l[k].1) ∧ W.cell? ⟨b, off + k * 3 + 1, none⟩ = some (.int .i64 l[k].2.1)) := fun W hW =>
          have h1 := p3_at (HH.out.kept hW) hil
          have h2 := p3_at (HH.out.kept hW) hkl
          ⟨h1.1, h1.2.1, h2.1, h2.2.1⟩
        generalize l[i] = p at *
        generalize l[k] = q at *
        obtain ⟨x1, y1, z1⟩ := p
        obtain ⟨x2, y2, z2⟩ := q
        simp only at hx hy HD HCb
        have HP2 : Hid (acc + x1 * y2 + -(y1 * x2) + sumS ((sides l).drop (i + 1)) = sumS (sides l)) := by show _ = _; have h1 := HP.out; rw [HD.out] at h1; omega
        have HM1 := Lib.hid (fun W => ref9product_any x1 y2 W (by unfold i64W; omega) (by unfold i64W; omega))
        have HM2 := Lib.hid (fun W => ref9product_any y1 x2 W (by unfold i64W; omega) (by unfold i64W; omega))
        have hw1 : IntKind.wrap .i64 ((i : Int) + 1) = (i : Int) + 1 := by rw [IntKind.wrap_i64]; omega
        have HHl := Lib.hid hlt
        clear hx hy HD hil hkl hlt hlt0 HP
        have HK : Hid (((i : Int) + 1 == (n : Int)) = false ∧ (i : Int) + 1 = (k : Int) ∨ ((i : Int) + 1 == (n : Int)) = true ∧ (0 : Int) = (k : Int)) := by
          rcases hk with ⟨h2, rfl⟩ | ⟨h2, rfl⟩
          · exact Or.inl ⟨beq_eq_false_iff_ne.2 (by omega), by omega⟩
          · exact Or.inr ⟨beq_iff_eq.2 (by omega), rfl⟩
        clear hk
        have HG : Hid (∀ W, Below wr.heap.size wr W → W.cell? ⟨G, 0, none⟩ = some (.slice B 8 d)) := fun W hW => (HS.out.next hW).b1.cell 0
        go_upto_if 22 with (with_reducible fail)
        go_cut [5] from 11 to 49 (fun s5 wx => s5 = .int .i64 (k : Int) ∧ wx = wr)
        case first =>
          rcases HK.out with ⟨t1, ek⟩ | ⟨t1, ek⟩
          · go_wp2_with (with_reducible fail)
            go_meet
            case rel => exact ⟨by first | rfl | rw [ek], rfl⟩
          · go_wp2_with (with_reducible fail)
            go_meet
            case rel => exact ⟨by first | rfl | rw [ek], rfl⟩
        case rest =>
          obtain ⟨rfl, rfl⟩ := hcut
          clear HK
          obtain ⟨z1, z2, z3, z4⟩ := HCb.out wc HS.out.bel
          have z5 := HG.out wc (Below.refl _ _)
          go_wp2_with (with_reducible fail)
          go_cut [] from 11 to 49 (fun wx => ∃ (A6 : Option Addr) (c6 : Nat), Hid (SumAt w G A6 c6 (acc + x1 * y2) wx))
          case first =>
            go_region_law (first
              | (go_simp; go_at_call 29; (with_reducible refine (HM1.out _).mono ?_); rintro e w3 ⟨A3, c3, rfl, hh3, hb3, _⟩; have HB3 := Lib.hid (new_call (Below.refl wc.heap.size wc).drew hb3); have HA3 := Lib.hid (ref8AddD_any B d acc A3 c3 (x1 * y2) w3 (HS.out.has.kept HB3.out) hh3); obtain ⟨s1, s2, s3, s4⟩ := HCb.out w3 (new_call HS.out.bel HB3.out); have s5 := HG.out w3 HB3.out; clear hh3 hb3)
              | (go_simp; go_at_call 43; (with_reducible refine HA3.out.mono ?_); rintro e w6 ⟨A6, c6, rfl, hh6, hb6, hn6⟩; have HB6 := Lib.hid (new_call HB3.out hb6); have HS6 := Lib.hid (HS.out.put HB6.out hh6 (fun b off hA => Nat.le_trans HB3.out.size (hn6 b off hA))); have fz := (HS.out.next HB6.out).b1.frozen 0; have q5 := HG.out w6 HB6.out; clear hh6 hb6 hn6))
            all_goals
              go_wp2_with fail
              go_meet
              case rel => exact ⟨A6, c6, HS6⟩
          case rest =>
            obtain ⟨A6, c6, HS6⟩ := hcut
            clear z1 z2 z3 z4 z5 HG HS
            obtain ⟨acc2, hacc⟩ : ∃ a, acc + x1 * y2 = a := ⟨_, rfl⟩
            rw [hacc] at HS6 HP2
            clear hacc
            generalize wc = wd at *
            have HG : Hid (∀ W, Below wd.heap.size wd W → W.cell? ⟨G, 0, none⟩ = some (.slice A6 8 c6)) := fun W hW => (HS6.out.next hW).b1.cell 0
            obtain ⟨z1, z2, z3, z4⟩ := HCb.out wd HS6.out.bel
            have z5 := HG.out wd (Below.refl _ _)
            go_wp2_with (with_reducible fail)
            go_region_law (first
              | (go_simp; go_at_call 29; (with_reducible refine (HM2.out _).mono ?_); rintro e w3 ⟨A3, c3, rfl, hh3, hb3, _⟩; have HB3 := Lib.hid (new_call (Below.refl wd.heap.size wd).drew hb3); have HN3 := Lib.hid (ref8Neg_any A3 c3 (y1 * x2) w3 hh3); obtain ⟨s1, s2, s3, s4⟩ := HCb.out w3 (new_call HS6.out.bel HB3.out); have s5 := HG.out w3 HB3.out; clear hh3 hb3)
              | (go_simp; go_at_call 44; (with_reducible refine HN3.out.mono ?_); rintro e w4 ⟨A4, c4, rfl, hh4, hb4, _⟩; have HB4 := Lib.hid (new_call HB3.out hb4); have HA4 := Lib.hid (ref8AddD_any A6 c6 acc2 A4 c4 (-(y1 * x2)) w4 (HS6.out.has.kept HB4.out) hh4); have s5 := HG.out w4 HB4.out; clear hh4 hb4)
              | (go_simp; go_at_call 43; (with_reducible refine HA4.out.mono ?_); rintro e w6 ⟨A9, c9, rfl, hh6, hb6, hn6⟩; have HB6 := Lib.hid (new_call HB4.out hb6); have HS9 := Lib.hid (HS6.out.put HB6.out hh6 (fun b off hA => Nat.le_trans HB4.out.size (hn6 b off hA))); have fz := (HS6.out.next HB6.out).b1.frozen 0; have q5 := HG.out w6 HB6.out; clear hh6 hb6 hn6))
            all_goals
              clear z1 z2 z3 z4 z5 HG HS6
              go_wp2
              go_roundg (gk - 1)
              case measure => omega
              case rel => exact ⟨i + 1, A9, c9, acc2 + -(y1 * x2), by omega, by go_num, HS9, HP2⟩
      · have ti : decide ((i : Int) < (n : Int)) = false := by simp; omega
        have HP2 : Hid (acc = sumS (sides l)) := by
          have h1 := HP.out
          rw [List.drop_of_length_le (by rw [sides_len, HL.out]; omega), show sumS [] = 0 from rfl, Int.add_zero] at h1
          exact h1
        rw [HP2.out] at HS
        have c4 : wr.cell? ⟨G, 0, none⟩ = some (.slice B 8 d) := HS.out.b1.cell 0
        have fz := HS.out.b0.frozen 0
        have cz : wr.cell? ⟨w.heap.size, 0, none⟩ = some (.slice none 0 0) := HS.out.b0.cell 0
        have HPs := Lib.hid (big_pass HS.out.b0 (Nat.le_refl _) HS.out.has (fun b off hA => (HS.out.far b off hA).2) HS.out.bel)
        rw [← HA.out] at HPs
        go_wp2
        exact bodyPost_ret (results_cell8 Try.results22 rfl HPs.out.1) rfl HPs.out.2
  · have hr2 : rights l = false := by simpa using hr
    have HA : Hid (areaF l = 0) := if_neg hr
    rw [hr2]
    have HS3 := Lib.hid (HS2.out.gone HA.out.symm)
    have c4 : w2.cell? ⟨G, 0, none⟩ = some (.slice A1 8 c1) := HS3.out.b1.cell 0
    have fz := HS3.out.b0.frozen 0
    have cz : w2.cell? ⟨w.heap.size, 0, none⟩ = some (.slice none 0 0) := HS3.out.b0.cell 0
    have HPs := Lib.hid (big_pass HS3.out.b0 (Nat.le_refl _) HS3.out.has (fun b off hA => (HS3.out.far b off hA).2) HS3.out.bel)
    clear hr hr2
    go_wp2
    exact bodyPost_ret (results_cell8 Try.results22 rfl HPs.out.1) rfl HPs.out.2
end Go.Proofs.Ytnhoinonojhgiaa
