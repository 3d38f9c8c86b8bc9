/- lapidaryref08: Cmp, Is. -/
import Derived.Test.YtnhoinonojhgiaaWideRefB
namespace Go.Proofs.Ytnhoinonojhgiaa
open Go.RowKit

theorem ret_i64 {a b : Int} (h : a = b) : Ending.returned (.int .i64 a) = .returned (.int .i64 b) := by rw [h]
theorem cmp_lt' {x y : Int} (h : x < y) : cmpI x y = -1 := if_pos h
theorem cmp_gt' {x y : Int} (h : y < x) : cmpI x y = 1 := by unfold cmpI; rw [if_neg (by omega), if_pos h]
theorem cmp_eq' {x y : Int} (h : x = y) : cmpI x y = 0 := by unfold cmpI; rw [if_neg (by omega), if_neg (by omega)]
set_option maxRecDepth 100000 in
set_option maxHeartbeats 800000 in
theorem ref8Cmp_any (A : Option Addr) (c : Nat) (x : Int) (B : Option Addr) (d : Nat) (y : Int) (w : World) (hA : Has w A 8 c (intVs (digI 8 x))) (hB : Has w B 8 d (intVs (digI 8 y))) (hx : inW x) (hy : inW y) :
    Calls Try.prog 28 #[.agg #[.slice A 8 c], .agg #[.slice B 8 d]] w fun e w' => e = .returned (.int .i64 (cmpI x y)) ∧ Below w.heap.size w w' := by
  have HA := Lib.hid hA
  have HB := Lib.hid hB
  have HX7 := Lib.hid (sh7_in hx)
  have HY7 := Lib.hid (sh7_in hy)
  obtain ⟨ba, oa, e1, _, hca0⟩ := hA.spot (by decide)
  obtain ⟨bb, ob, e2, _, hcb0⟩ := hB.spot (by decide)
  subst e1 e2
  have HCa : Hid (∀ j, j < 8 → ∀ W, Below w.heap.size w W → W.cell? ⟨ba, oa + j, none⟩ = some (.int .i64 (shI j x % 65536))) := fun j hj W hW => by
    obtain ⟨_, _, e, _, hc⟩ := (hA.kept hW).spot (by decide)
    cases e
    exact hc j _ (by unfold intVs; rw [List.getElem?_map, digI_at hj]; rfl)
  have HCb : Hid (∀ j, j < 8 → ∀ W, Below w.heap.size w W → W.cell? ⟨bb, ob + j, none⟩ = some (.int .i64 (shI j y % 65536))) := fun j hj W hW => by
    obtain ⟨_, _, e, _, hc⟩ := (hB.kept hW).spot (by decide)
    cases e
    exact hc j _ (by unfold intVs; rw [List.getElem?_map, digI_at hj]; rfl)
  clear hA hB hx hy hca0 hcb0
  go_enter Try.func28, Try.ntmps28
  go_wp2
  go_loopg [5] 8 (fun g s5 wx => ∃ i : Nat, i = g ∧ i ≤ 8 ∧ s5 = .int .i64 ((i : Int) - 1) ∧ Hid (i = 8 ∨ shI i x = shI i y) ∧ Hid (Blk wx w.heap.size 39 #[.slice (some ⟨ba, oa, none⟩) 8 c]) ∧ Hid (Blk wx (w.heap.size + 1) 39 #[.slice (some ⟨bb, ob, none⟩) 8 d]) ∧ Hid (Below w.heap.size w wx))
  case atStart =>
    refine ⟨8, rfl, by decide, rfl, Or.inl rfl, (Blk.new w _ _).alloc _, ?_, new_alloc (new_alloc (Below.refl _ _) _) _⟩
    have h := Blk.new (w.alloc (.cells #[.slice (some ⟨ba, oa, none⟩) 8 c] 39)) 39 #[.slice (some ⟨bb, ob, none⟩) 8 d]
    rw [show (w.alloc (.cells #[.slice (some ⟨ba, oa, none⟩) 8 c] 39)).heap.size = w.heap.size + 1 from Array.size_push _] at h
    exact h
  case round =>
    obtain ⟨i, rfl, hi8, rfl, HE, HK0, HK1, HBw⟩ := hrel
    have c0 : wr.cell? ⟨w.heap.size, 0, none⟩ = some (.slice (some ⟨ba, oa, none⟩) 8 c) := HK0.out.cell 0
    have c1 : wr.cell? ⟨w.heap.size + 1, 0, none⟩ = some (.slice (some ⟨bb, ob, none⟩) 8 d) := HK1.out.cell 0
    cases i with
    | zero =>
      have HR : Hid (cmpI x y = 0) := by
        refine cmp_eq' ?_
        rcases HE.out with h | h
        · cases h
        · exact h
      go_wp2
      go_ret
      exact ⟨ret_i64 HR.out.symm, HBw.out⟩
    | succ j =>
      have hj1 : ((j + 1 : Nat) : Int) - 1 = (j : Int) := by omega
      rw [hj1]
      have hj8 : j < 8 := by omega
      have hxc := HCa.out j hj8 wr HBw.out
      have hyc := HCb.out j hj8 wr HBw.out
      have hxs : shI (j + 1) x = shI j x / 65536 := rfl
      have hys : shI (j + 1) y = shI j y / 65536 := rfl
      have hE := HE.out
      have HLt := Lib.hid (fun h : shI j x < shI j y => cmp_lt' (shI_lt h))
      have HGt := Lib.hid (fun h : shI j y < shI j x => cmp_gt' (shI_lt h))
      by_cases h7 : j = 7
      · subst h7
        have h1 := HX7.out
        have h2 := HY7.out
        obtain ⟨p, hp⟩ : ∃ p, shI 7 x = p := ⟨_, rfl⟩
        obtain ⟨q, hq⟩ : ∃ q, shI 7 y = q := ⟨_, rfl⟩
        rw [hp] at hxc HLt HGt h1 hxs
        rw [hq] at hyc HLt HGt h2 hys
        have HP := Lib.hid hp
        have HQ := Lib.hid hq
        clear hp hq hE hxs hys
        have e1 : (p % 65536 + 32768) % 65536 = p + 32768 := by omega
        have e2 : (q % 65536 + 32768) % 65536 = q + 32768 := by omega
        have e3 : (p % 65536 + 32768).tmod 65536 = p + 32768 := by rw [Int.tmod_eq_emod_of_nonneg (by omega)]; exact e1
        have e4 : (q % 65536 + 32768).tmod 65536 = q + 32768 := by rw [Int.tmod_eq_emod_of_nonneg (by omega)]; exact e2
        have hpb : 0 ≤ p % 65536 ∧ p % 65536 < 65536 := by omega
        have hqb : 0 ≤ q % 65536 ∧ q % 65536 < 65536 := by omega
        by_cases hlt : p < q
        · have g1 : decide (p + 32768 < q + 32768) = true := by simp; omega
          have HR : Hid (cmpI x y = -1) := HLt.out hlt
          clear HLt HGt HE HCa HCb
          go_wp2
          go_ret
          exact ⟨ret_i64 HR.out.symm, HBw.out⟩
        · have g1 : decide (p + 32768 < q + 32768) = false := by simp; omega
          by_cases hgt : q < p
          · have g2 : decide (q + 32768 < p + 32768) = true := by simp; omega
            have HR : Hid (cmpI x y = 1) := HGt.out hgt
            clear HLt HGt HE HCa HCb
            go_wp2
            go_ret
            exact ⟨ret_i64 HR.out.symm, HBw.out⟩
          · have g2 : decide (q + 32768 < p + 32768) = false := by simp; omega
            have HR : Hid (7 = 8 ∨ p = q) := Or.inr (by omega)
            clear HLt HGt HE HCa HCb
            go_wp2
            go_roundg 7
            case measure => omega
            case rel => exact ⟨7, rfl, by omega, by go_num, by rw [HP.out, HQ.out]; exact HR, HK0, HK1, HBw⟩
      · obtain ⟨p, hp⟩ : ∃ p, shI j x = p := ⟨_, rfl⟩
        obtain ⟨q, hq⟩ : ∃ q, shI j y = q := ⟨_, rfl⟩
        rw [hp] at hxc HLt HGt hxs
        rw [hq] at hyc HLt HGt hys
        have HP := Lib.hid hp
        have HQ := Lib.hid hq
        have hpq : p / 65536 = q / 65536 := by
          rcases hE with h | h
          · omega
          · rw [← hxs, ← hys, h]
        have h7i : ((j : Int) == 7) = false := beq_eq_false_iff_ne.2 (by omega)
        have h7d : decide ((j : Int) = 7) = false := by simp; omega
        clear hp hq hE hxs hys
        by_cases hlt : p < q
        · have g1 : decide (p % 65536 < q % 65536) = true := by simp; omega
          have HR : Hid (cmpI x y = -1) := HLt.out hlt
          clear HLt HGt HE HCa HCb
          go_wp2
          go_ret
          exact ⟨ret_i64 HR.out.symm, HBw.out⟩
        · have g1 : decide (p % 65536 < q % 65536) = false := by simp; omega
          by_cases hgt : q < p
          · have g2 : decide (q % 65536 < p % 65536) = true := by simp; omega
            have HR : Hid (cmpI x y = 1) := HGt.out hgt
            clear HLt HGt HE HCa HCb
            go_wp2
            go_ret
            exact ⟨ret_i64 HR.out.symm, HBw.out⟩
          · have g2 : decide (q % 65536 < p % 65536) = false := by simp; omega
            have HR : Hid (j = 8 ∨ p = q) := Or.inr (by omega)
            clear HLt HGt HE HCa HCb
            go_wp2
            go_roundg j
            case measure => omega
            case rel => exact ⟨j, rfl, by omega, by go_num, by rw [HP.out, HQ.out]; exact HR, HK0, HK1, HBw⟩
set_option maxRecDepth 100000 in
set_option maxHeartbeats 400000 in
theorem ref8Is_any (A : Option Addr) (c : Nat) (x y l : Int) (w : World) (hA : Has w A 8 c (intVs (digI 8 x))) (hy : i64W y) (hl : u64W l) (hx : Cong x (valW y l)) :
    Calls Try.prog 21 #[.agg #[.slice A 8 c], .int .i64 y, .int .u64 l] w fun e w' => e = .returned (.bool true) ∧ Below w.heap.size w w' := by
  rw [digI_cong hx] at hA
  have HF := Lib.hid (fun W => ref8From_any y l W hy hl)
  have hin := valW_in hy hl
  have HC := Lib.hid (fun W B d hW hB => ref8Cmp_any A c (valW y l) B d (valW y l) W (hA.kept hW) hB hin hin)
  rw [cmp_eq' rfl] at HC
  have HB0 := Lib.hid (new_alloc (Below.refl w.heap.size w) (.cells #[.slice A 8 c] 39))
  have HK0 : Hid (Blk (w.alloc (.cells #[.slice A 8 c] 39)) w.heap.size 39 #[.slice A 8 c]) := Blk.new w _ _
  have x0 : (w.alloc (.cells #[.slice A 8 c] 39)).cell? ⟨w.heap.size, 0, none⟩ = some (.slice A 8 c) := HK0.out.cell 0
  clear hA hx hin
  go_enter Try.func21, Try.ntmps21
  go_wp2
  go_region_held3 (fun W => W.cell? ⟨w.heap.size, 0, none⟩ = some (.slice A 8 c)) (first | exact x0 | exact y0 | exact z0) (first
    | (go_at_call 41; refine (HF.out _).mono ?_; rintro e w3 ⟨B3, d3, rfl, hh3, hb3, _⟩; have HB3 := Lib.hid (new_call HB0.out.drew hb3); have HC3 := Lib.hid (HC.out w3 B3 d3 HB3.out hh3); have HK3 := Lib.hid (HK0.out.below (new_call (Below.refl _ _).drew hb3) HK0.out.lt); have y0 : w3.cell? ⟨w.heap.size, 0, none⟩ = some (.slice A 8 c) := HK3.out.cell 0; clear hh3 hb3)
    | (go_at_call 28; refine HC3.out.mono ?_; rintro e w4 ⟨rfl, hb4⟩; have HB4 := Lib.hid (new_call HB3.out hb4); have z0 : w4.cell? ⟨w.heap.size, 0, none⟩ = some (.slice A 8 c) := (HK3.out.below hb4 HK3.out.lt).cell 0; clear hb4))
  all_goals
    go_wp2
    go_ret
    exact ⟨rfl, HB4.out⟩
end Go.Proofs.Ytnhoinonojhgiaa
