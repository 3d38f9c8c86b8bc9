/- lapidaryref08: Of, From, settled. -/
import Derived.Test.YtnhoinonojhgiaaWideMath
import Derived.Deep.LoopGhost
import Derived.Deep.WholeRow
import Derived.Laws.ResultCell
import Derived.RegionTactic
import Derived.Deep.RegionHeld3
namespace Go.Proofs.Ytnhoinonojhgiaa
open Go.RowKit

theorem elemI : Elem Try.prog 37 3 8 := by
  have h : (Try.prog.info? 3).map (fun i => (i.zero, i.size, i.bytes)) = some (some (.int .i64 0), 1, 8) := by kernel_rfl
  obtain ⟨i, h1, h2, h3, h4⟩ := info_parts h
  exact ⟨Try.underlying37, i, _, h1, h2, h3, h4, rfl⟩
theorem bigInfo : (Try.prog.info? 39).map (fun i => (i.zero, i.size)) = some (some (.agg #[.slice none 0 0]), 1) := by kernel_rfl
theorem results_cell8 {fn : Func} {p : Tmp} {ty : TypeId} (h : fn.results = #[.cell p ty]) {tmps : Array Value} {P : Program} {w : World} {a : Addr} {v : Value} (hp : tmps.getD p undef = .pointer (some a))
    (hl : (loadVar ty a).run P w = .ok v w) : (results fn tmps).run P w = .ok v w := by
  have hp' : tmps[p]?.getD undef = .pointer (some a) := by rw [← hp]; simp
  simp only [results, h]
  simp [hp', asAddr, hl]
theorem big_load (W : World) (v : Value) (g : Nat) (h : Blk W g 39 #[v]) : (loadVar 39 ⟨g, 0, none⟩).run Try.prog W = .ok (.agg #[v]) W := by
  obtain ⟨kz, ks⟩ := zero_of_info bigInfo
  exact run_loadVar_row _ _ _ _ _ _ _ h Try.underlying39 rfl (by rw [ks]; rfl)
/-- A call's digits. -/
def Bigd (w : World) (x : Int) (e : Ending) (w' : World) : Prop := ∃ A c, e = .returned (.agg #[.slice A 8 c]) ∧ Has w' A 8 c (intVs (digI 8 x)) ∧ Below w.heap.size w w' ∧ ∀ b off, A = some ⟨b, off, none⟩ → w.heap.size ≤ b
theorem own8 {w : World} {base : Nat} {v : Value} {l : List Int} (h : Own w base 3 v (intVs l)) (hl : l.length = 8) : ∃ A c, v = .slice A 8 c ∧ Has w A 8 c (intVs l) := by
  obtain ⟨A, c, hv, hh⟩ := h.has
  rw [intVs_len, hl] at hv hh
  exact ⟨A, c, hv, hh⟩
theorem Has.off {w : World} {A : Option Addr} {n c : Nat} {xs : List Value} (h : Has w A n c xs) (g : Nat) (hA : ∀ b off, A = some ⟨b, off, Option.none⟩ → g ≠ b) (i : Nat) (u : Value) : Has (w.setCell ⟨g, i, Option.none⟩ u) A n c xs := by
  refine ⟨h.len, h.cap, h.bare, fun hn => ?_⟩
  obtain ⟨b, off, hA', hlt, hc⟩ := h.spot hn
  exact ⟨b, off, hA', Nat.lt_of_lt_of_le hlt ((Below.refl 0 w).setCell (p := ⟨g, i, Option.none⟩) (Nat.zero_le _) u).size, fun j v hv => (World.cell?_setCell_far w ⟨g, i, Option.none⟩ ⟨b, off + j, Option.none⟩ u (hA b off hA')).trans (hc j v hv)⟩
theorem Has.first {w : World} {A : Option Addr} {n c : Nat} {xs : List Value} (h : Has w A n c xs) {m : Nat} (hm : m ≤ n) : Has w A m c (xs.take m) := by
  refine ⟨by rw [List.length_take, h.len]; omega, Nat.le_trans hm h.cap, h.bare, fun h0 => ?_⟩
  obtain ⟨b, off, hA, hlt, hc⟩ := h.spot (by omega)
  refine ⟨b, off, hA, hlt, fun j u hu => hc j u ?_⟩
  rw [List.getElem?_take] at hu
  split at hu
  · exact hu
  · cases hu
theorem Own.low {w : World} {base b2 : Nat} {e : TypeId} {v : Value} {xs : List Value} (h : Own w base e v xs) (hb : b2 ≤ base) : Own w b2 e v xs :=
  ⟨h.1, h.2.imp id fun ⟨g, cap, cur, e1, hg, r⟩ => ⟨g, cap, cur, e1, Nat.le_trans hb hg, r⟩⟩
theorem big_pass {w w2 : World} {g : Nat} {A : Option Addr} {c : Nat} {x : Int} {v : Value} (hK : Blk w2 g 39 #[v]) (hg : w.heap.size ≤ g) (hh : Has w2 A 8 c (intVs (digI 8 x))) (hn : ∀ b off, A = some ⟨b, off, none⟩ → g < b) (hB : Below w.heap.size w w2) :
    (loadVar 39 ⟨g, 0, none⟩).run Try.prog (w2.setCell ⟨g, 0, none⟩ (.slice A 8 c)) = .ok (.agg #[.slice A 8 c]) (w2.setCell ⟨g, 0, none⟩ (.slice A 8 c))
      ∧ Bigd w x (.returned (.agg #[.slice A 8 c])) (w2.setCell ⟨g, 0, none⟩ (.slice A 8 c)) :=
  ⟨big_load _ _ _ (hK.set_ 0 _), A, c, rfl, hh.off _ (fun b off hA => Nat.ne_of_lt (hn b off hA)) 0 _, hB.setCell hg _, fun b off hA => Nat.le_trans hg (Nat.le_of_lt (hn b off hA))⟩
theorem big_ret {w wr : World} {A : Option Addr} {c : Nat} {x : Int} {v : Value} (hK : Blk wr w.heap.size 39 #[v]) (hO : Own wr (w.heap.size + 1) 3 (.slice A 8 c) (intVs (digI 8 x))) (hB : Below w.heap.size w wr) :
    (loadVar 39 ⟨w.heap.size, 0, none⟩).run Try.prog (wr.setCell ⟨w.heap.size, 0, none⟩ (.slice A 8 c)) = .ok (.agg #[.slice A 8 c]) (wr.setCell ⟨w.heap.size, 0, none⟩ (.slice A 8 c))
      ∧ Bigd w x (.returned (.agg #[.slice A 8 c])) (wr.setCell ⟨w.heap.size, 0, none⟩ (.slice A 8 c)) := by
  obtain ⟨A', c', hv, hh⟩ := own8 hO (digI_len 8 x)
  cases hv
  refine big_pass hK (Nat.le_refl _) hh (fun b off hA => ?_) hB
  obtain ⟨g', cap, hv, hg, _⟩ := Own.form hO (by rw [intVs_len, digI_len]; decide)
  rw [hA] at hv
  cases hv
  omega
theorem rem_is (m : Int) : -65536 < m.tmod 65536 ∧ m.tmod 65536 < 65536 ∧ (m.tmod 65536 < 0 → m.tmod 65536 + 65536 = m % 65536) ∧ (¬ m.tmod 65536 < 0 → m.tmod 65536 = m % 65536) := by
  rw [Int.tmod_eq_emod]
  split <;> omega
theorem quo_is (m : Int) : (m - m % 65536).tdiv 65536 = m / 65536 := by
  rw [show m - m % 65536 = 65536 * (m / 65536) by omega, Int.mul_tdiv_cancel_left _ (by decide)]
set_option maxRecDepth 100000 in
set_option maxHeartbeats 400000 in
theorem ref8Of_any (n : Int) (w : World) (hn : i64W n) : Calls Try.prog 42 #[.int .i64 n] w (Bigd w n) := by
  obtain ⟨kz, ks⟩ := zero_of_info bigInfo
  go_enter Try.func42, Try.ntmps42
  go_wp2
  go_loopg [0, 3, 4] 8 (fun g s0 s3 s4 wx => ∃ i : Nat, i + g = 8 ∧ s0 = .int .i64 (shI i n) ∧ s4 = .int .i64 i ∧ Hid (Own wx (w.heap.size + 1) 3 s3 (intVs (digI i n))) ∧ Hid (Blk wx w.heap.size 39 #[.slice none 0 0]) ∧ Hid (Below w.heap.size w wx) ∧ Hid (i64W (shI i n)) ∧ w.heap.size + 1 ≤ wx.heap.size)
  case atStart => exact ⟨0, by omega, rfl, rfl, Own.nil _ _ _, Blk.new _ _ _, new_alloc (Below.refl _ _) _, hn, Nat.succ_le_of_lt (Blk.lt (Blk.new w _ _))⟩
  case round =>
    obtain ⟨i, hig, rfl, rfl, HO, HK, HB, HI, hz⟩ := hrel
    by_cases hi : i < 8
    · have ti : decide ((i : Int) < 8) = true := by simp; omega
      have hsn := digI_snoc i n
      have hl8 := digI_len i n
      have hsh : shI (i + 1) n = shI i n / 65536 := rfl
      have hin := HI.out
      unfold i64W at hin
      have HI2 : Hid (i64W (shI (i + 1) n)) := by show _ ∧ _; rw [hsh]; omega
      have HV : Hid (shI i n / 65536 = shI (i + 1) n) := by show _ = _; rw [hsh]
      generalize shI i n = m at *
      have HS : Hid (intVs (digI i n) ++ intVs [m % 65536] = intVs (digI (i + 1) n)) := by show _ = _; rw [← intVs_app, hsn]
      have hlen : (intVs (digI i n)).length ≤ 8 := by rw [intVs_len, hl8]; omega
      clear hsh hsn hl8
      obtain ⟨r1, r2, r3, r4⟩ := rem_is m
      have HQ := Lib.hid (quo_is m)
      have hmm : 0 ≤ m % 65536 ∧ m % 65536 < 65536 := by omega
      by_cases hneg : m.tmod 65536 < 0
      · have tneg : decide (m.tmod 65536 < 0) = true := by simpa using hneg
        have e1 := r3 hneg
        have q2 : (m - m % 65536).tdiv 65536 = m / 65536 := HQ.out
        go_wp2_with (at_builtin
                     refine wpList_join rfl _ _ 37 rfl elemI (w.heap.size + 1) _ _ rfl (HO.out.alloc _) _ 1 1 (intVs [m % 65536]) rfl (Has.one _ _ _) (intVs_one _) (by omega) (by decide) (Nat.le_trans hz (new_alloc (Below.refl _ wr) _).size) ?_
                     intro v2 w2 hown2 hbel2
                     rw [HS.out] at hown2
                     have HO2 := Lib.hid hown2
                     have HK2 := Lib.hid ((HK.out.alloc _).below hbel2 (by omega))
                     have HB2 := Lib.hid ((new_alloc HB.out _).trans (hbel2.mono (by omega)))
                     have hz2 : w.heap.size + 1 ≤ w2.heap.size := Nat.le_trans (Nat.le_trans hz (new_alloc (Below.refl _ wr) _).size) hbel2.size
                     clear hown2 hbel2)
        go_roundg (gk - 1)
        case measure => omega
        case rel => exact ⟨i + 1, by omega, by first | rfl | rw [HV.out], by go_num, HO2, HK2, HB2, HI2, hz2⟩
      · have tneg : decide (m.tmod 65536 < 0) = false := by simpa using hneg
        have e1 := r4 hneg
        have q2 : (m - m % 65536).tdiv 65536 = m / 65536 := HQ.out
        go_wp2_with (at_builtin
                     refine wpList_join rfl _ _ 37 rfl elemI (w.heap.size + 1) _ _ rfl (HO.out.alloc _) _ 1 1 (intVs [m % 65536]) rfl (Has.one _ _ _) (intVs_one _) (by omega) (by decide) (Nat.le_trans hz (new_alloc (Below.refl _ wr) _).size) ?_
                     intro v2 w2 hown2 hbel2
                     rw [HS.out] at hown2
                     have HO2 := Lib.hid hown2
                     have HK2 := Lib.hid ((HK.out.alloc _).below hbel2 (by omega))
                     have HB2 := Lib.hid ((new_alloc HB.out _).trans (hbel2.mono (by omega)))
                     have hz2 : w.heap.size + 1 ≤ w2.heap.size := Nat.le_trans (Nat.le_trans hz (new_alloc (Below.refl _ wr) _).size) hbel2.size
                     clear hown2 hbel2)
        go_roundg (gk - 1)
        case measure => omega
        case rel => exact ⟨i + 1, by omega, by first | rfl | rw [HV.out], by go_num, HO2, HK2, HB2, HI2, hz2⟩
    · obtain rfl : i = 8 := by omega
      obtain ⟨A, c, hv, hh⟩ := own8 HO.out (digI_len 8 n)
      subst hv
      have fz := HK.out.frozen 0
      have cz : wr.cell? ⟨w.heap.size, 0, none⟩ = some (.slice none 0 0) := HK.out.cell 0
      clear hh
      go_wp2
      exact bodyPost_ret (results_cell8 Try.results42 rfl (big_ret HK.out HO.out HB.out).1) rfl (big_ret HK.out HO.out HB.out).2
set_option maxRecDepth 100000 in
set_option maxHeartbeats 400000 in
theorem ref8From_any (y l : Int) (w : World) (hh : i64W y) (hl : u64W l) : Calls Try.prog 41 #[.int .i64 y, .int .u64 l] w (Bigd w (valW y l)) := by
  obtain ⟨kz, ks⟩ := zero_of_info bigInfo
  have HOf := Lib.hid (fun W => ref8Of_any y W hh)
  have HFr := Lib.hid (digI_from (h := y) hl)
  go_enter Try.func41, Try.ntmps41
  go_wp2_with fail
  refine (HOf.out _).mono ?_
  rintro e w1 ⟨A1, c1, rfl, hh1, hb1, _⟩
  have HH1 := Lib.hid hh1
  have hc8 := hh1.cap
  have HK1 : Hid (Blk w1 w.heap.size 39 #[.slice none 0 0]) := (Blk.new w _ _).below hb1 (Blk.lt (Blk.new w _ _))
  have HB1 := Lib.hid (new_call (new_alloc (Below.refl w.heap.size w) (.cells #[.slice none 0 0] 39)) hb1)
  have hz1 : w.heap.size + 1 ≤ w1.heap.size := Nat.le_trans (Nat.succ_le_of_lt (Blk.lt (Blk.new w 39 #[.slice none 0 0]))) hb1.size
  clear hh1 hb1 HOf
  go_wp2
  go_loopg [1, 6, 7] 4 (fun g s1 s6 s7 wx => ∃ i : Nat, i + g = 4 ∧ s1 = .int .u64 (shI i l) ∧ s7 = .int .i64 i ∧ Hid (Own wx (w1.heap.size + 1) 3 s6 (intVs (digI i l))) ∧ Hid (Blk wx w1.heap.size 39 #[.slice A1 8 c1]) ∧ Hid (Below w1.heap.size w1 wx) ∧ Hid (u64W (shI i l)) ∧ w1.heap.size + 1 ≤ wx.heap.size)
  case atStart => exact ⟨0, by omega, rfl, rfl, Own.nil _ _ _, Blk.new _ _ _, new_alloc (Below.refl _ _) _, hl, Nat.succ_le_of_lt (Blk.lt (Blk.new w1 _ _))⟩
  case round =>
    obtain ⟨i, hig, rfl, rfl, HO, HK, HB, HI, hz⟩ := hrel
    by_cases hi : i < 4
    · have ti : decide ((i : Int) < 4) = true := by simp; omega
      have hsn := digI_snoc i l
      have hl8 := digI_len i l
      have hsh : shI (i + 1) l = shI i l / 65536 := rfl
      have hin := HI.out
      unfold u64W at hin
      have HI2 : Hid (u64W (shI (i + 1) l)) := by show _ ∧ _; rw [hsh]; omega
      have HV : Hid (shI i l / 65536 = shI (i + 1) l) := by show _ = _; rw [hsh]
      generalize shI i l = m at *
      have HS : Hid (intVs (digI i l) ++ intVs [m % 65536] = intVs (digI (i + 1) l)) := by show _ = _; rw [← intVs_app, hsn]
      have hlen : (intVs (digI i l)).length ≤ 8 := by rw [intVs_len, hl8]; omega
      have hmm : 0 ≤ m % 65536 ∧ m % 65536 < 65536 := by omega
      clear hsh hsn hl8
      go_wp2_with (at_builtin
                   refine wpList_join rfl _ _ 37 rfl elemI (w1.heap.size + 1) _ _ rfl (HO.out.alloc _) _ 1 1 (intVs [m % 65536]) rfl (Has.one _ _ _) (intVs_one _) (by omega) (by decide) (Nat.le_trans hz (new_alloc (Below.refl _ wr) _).size) ?_
                   intro v2 w2 hown2 hbel2
                   rw [HS.out] at hown2
                   have HO2 := Lib.hid hown2
                   have HK2 := Lib.hid ((HK.out.alloc _).below hbel2 (by omega))
                   have HB2 := Lib.hid ((new_alloc HB.out _).trans (hbel2.mono (by omega)))
                   have hz2 : w1.heap.size + 1 ≤ w2.heap.size := Nat.le_trans (Nat.le_trans hz (new_alloc (Below.refl _ wr) _).size) hbel2.size
                   clear hown2 hbel2)
      go_roundg (gk - 1)
      case measure => omega
      case rel => exact ⟨i + 1, by omega, by first | rfl | rw [HV.out], by go_num, HO2, HK2, HB2, HI2, hz2⟩
    · obtain rfl : i = 4 := by omega
      have cz : wr.cell? ⟨w1.heap.size, 0, none⟩ = some (.slice A1 8 c1) := HK.out.cell 0
      have HS : Hid (intVs (digI 4 l) ++ (intVs (digI 8 y)).take 4 = intVs (digI 8 (valW y l))) := by
        show _ = _
        rw [← HFr.out, intVs_app]
        simp [intVs]
      have HBr := Lib.hid (new_call HB1.out HB.out)
      have HK0 : Hid (Blk wr w.heap.size 39 #[.slice none 0 0]) := HK1.out.below HB.out HK1.out.lt
      have hlen : (intVs (digI 4 l)).length ≤ 8 := by rw [intVs_len, digI_len]; decide
      have ho1 : ∀ u ∈ (intVs (digI 8 y)).take 4, u.oneCell' = true := fun u hu => intVs_one _ u (List.mem_of_mem_take hu)
      obtain ⟨b, off, hA, _, _⟩ := HH1.out.spot (by decide)
      subst hA
      have HH4 := Lib.hid ((HH1.out.kept HB.out).first (m := 4) (by decide))
      clear HFr HI
      go_wp2_with (at_builtin
                   refine wpList_join rfl _ _ 37 rfl elemI (w1.heap.size + 1) _ _ rfl HO.out _ 4 _ ((intVs (digI 8 y)).take 4) rfl HH4.out ho1 (by omega) (by decide) hz ?_
                   intro v2 w2 hown2 hbel2
                   rw [HS.out] at hown2
                   have HO2 := Lib.hid hown2
                   have HK2 := Lib.hid (HK0.out.below hbel2 (by omega))
                   have HB2 := Lib.hid (HBr.out.trans (hbel2.mono (by omega)))
                   have fz := HK2.out.frozen 0
                   have cy : w2.cell? ⟨w.heap.size, 0, none⟩ = some (.slice none 0 0) := HK2.out.cell 0
                   obtain ⟨A9, c9, hv9, _⟩ := own8 hown2 (digI_len 8 _)
                   subst hv9
                   clear hown2 hbel2)
      have hO9 := HO2.out.low (show w.heap.size + 1 ≤ w1.heap.size + 1 by omega)
      exact bodyPost_ret (results_cell8 Try.results41 rfl (big_ret HK2.out hO9 HB2.out).1) rfl (big_ret HK2.out hO9 HB2.out).2
theorem settle_len (ds : List Int) : ∀ c, (settle c ds).length = ds.length := by intro c; rw [settle_is, digI_len]
set_option maxRecDepth 100000 in
set_option maxHeartbeats 400000 in
theorem ref8Settled_any (A : Option Addr) (c : Nat) (ds : List Int) (w : World) (h : Has w A 8 c (intVs ds)) (hd : ∀ d ∈ ds, 0 ≤ d ∧ d < 1099511627776) : Calls Try.prog 52 #[.slice A 8 c] w (Bigd w (valD ds)) := by
  obtain ⟨kz, ks⟩ := zero_of_info bigInfo
  have HL : Hid (ds.length = 8) := by have := h.len; rw [intVs_len] at this; exact this
  have HH := Lib.hid h
  have HD := Lib.hid hd
  obtain ⟨b, off, hA, _, _⟩ := h.spot (by decide)
  subst hA
  have hcap := h.cap
  clear h hd
  go_enter Try.func52, Try.ntmps52
  go_wp2
  go_loopg [3, 4, 5] 8 (fun g s3 s4 s5 wx => ∃ i : Nat, i + g = 8 ∧ s4 = .int .i64 (carry 0 (ds.take i)) ∧ s5 = .int .i64 i ∧ Hid (Own wx (w.heap.size + 1) 3 s3 (intVs (settle 0 (ds.take i)))) ∧ Hid (Blk wx w.heap.size 39 #[.slice none 0 0]) ∧ Hid (Below w.heap.size w wx) ∧ w.heap.size + 1 ≤ wx.heap.size)
  case atStart => exact ⟨0, by omega, rfl, rfl, Own.nil _ _ _, Blk.new _ _ _, new_alloc (Below.refl _ _) _, Nat.succ_le_of_lt (Blk.lt (Blk.new w _ _))⟩
  case round =>
    obtain ⟨i, hig, rfl, rfl, HO, HK, HB, hz⟩ := hrel
    by_cases hi : i < 8
    · have ti : decide ((i : Int) < 8) = true := by simp; omega
      have hil : i < ds.length := by rw [HL.out]; exact hi
      obtain ⟨b', off', hA', _, hc⟩ := (HH.out.kept HB.out).spot (by decide)
      cases hA'
      have hcx := hc _ _ (intVs_at hil)
      have hcb := carry_bd (ds.take i) (fun d hd => HD.out d (List.mem_of_mem_take hd)) 0 (by decide)
      have hdb := HD.out _ (List.getElem_mem hil)
      have hT := List.take_succ_eq_append_getElem hil
      have HC2 : Hid (carry 0 (ds.take (i + 1)) = (carry 0 (ds.take i) + ds[i]) / 65536) := by show _ = _; rw [hT, carry_app]; rfl
      have hS2 : settle 0 (ds.take (i + 1)) = settle 0 (ds.take i) ++ [(carry 0 (ds.take i) + ds[i]) % 65536] := by rw [hT, settle_app]; rfl
      have hl2 : (settle 0 (ds.take i)).length ≤ 8 := by rw [settle_len, List.length_take]; omega
      generalize ds[i] = d at *
      generalize carry 0 (ds.take i) = k at *
      generalize settle 0 (ds.take i) = so at *
      have HS : Hid (intVs so ++ intVs [(k + d) % 65536] = intVs (settle 0 (ds.take (i + 1)))) := by show _ = _; rw [← intVs_app, hS2]
      have hlen : (intVs so).length ≤ 8 := by rw [intVs_len]; exact hl2
      clear hS2 hl2 hT hc hil
      go_wp2_with (at_builtin
                   refine wpList_join rfl _ _ 37 rfl elemI (w.heap.size + 1) _ _ rfl (HO.out.alloc _) _ 1 1 (intVs [(k + d) % 65536]) rfl (Has.one _ _ _) (intVs_one _) (by omega) (by decide) (Nat.le_trans hz (new_alloc (Below.refl _ wr) _).size) ?_
                   intro v2 w2 hown2 hbel2
                   rw [HS.out] at hown2
                   have HO2 := Lib.hid hown2
                   have HK2 := Lib.hid ((HK.out.alloc _).below hbel2 (by omega))
                   have HB2 := Lib.hid ((new_alloc HB.out _).trans (hbel2.mono (by omega)))
                   have hz2 : w.heap.size + 1 ≤ w2.heap.size := Nat.le_trans (Nat.le_trans hz (new_alloc (Below.refl _ wr) _).size) hbel2.size
                   clear hown2 hbel2)
      go_roundg (gk - 1)
      case measure => omega
      case rel => exact ⟨i + 1, by omega, by rw [HC2.out], by go_num, HO2, HK2, HB2, hz2⟩
    · obtain rfl : i = 8 := by omega
      have hS : settle 0 (ds.take 8) = digI 8 (valD ds) := by rw [List.take_of_length_le (by rw [HL.out]; decide), settle_is, HL.out, Int.zero_add]
      rw [hS] at HO
      obtain ⟨A9, c9, hv, _⟩ := own8 HO.out (digI_len 8 _)
      subst hv
      have fz := HK.out.frozen 0
      have cz : wr.cell? ⟨w.heap.size, 0, none⟩ = some (.slice none 0 0) := HK.out.cell 0
      clear hS
      go_wp2
      exact bodyPost_ret (results_cell8 Try.results52 rfl (big_ret HK.out HO.out HB.out).1) rfl (big_ret HK.out HO.out HB.out).2
end Go.Proofs.Ytnhoinonojhgiaa
