/- lapidaryref08: Mul. -/
import Derived.Test.YtnhoinonojhgiaaWideRefC
import Derived.BigRegion
namespace Go.Proofs.Ytnhoinonojhgiaa
open Go.RowKit

theorem mul_add_step {ds ys : List Int} {D0 x y : Int} {i k : Nat} (hj : i + k < ds.length) (hk : k < ys.length) (hy : ys[k] = y) (h : valD ds = D0 + 65536 ^ i * (x * valD (ys.take k))) :
    valD (ds.set (i + k) (ds[i + k] + x * y)) = D0 + 65536 ^ i * (x * valD (ys.take (k + 1))) := by
  rw [valD_set ds (i + k) (x * y) hj, h, valD_take hk, hy, Int.mul_add, Int.mul_add, Int.add_assoc]
  congr 2
  rw [Int.pow_add, Int.mul_assoc]
  congr 1
  rw [← Int.mul_assoc, Int.mul_comm (65536 ^ k) x, Int.mul_assoc]
theorem mul_row {D0 P Y x T R : Int} {i : Nat} (hi : i ≤ 8) (hc : Cong D0 (P * Y)) (hY : Y = T + 65536 ^ (8 - i) * R) : Cong (D0 + 65536 ^ i * (x * T)) ((P + 65536 ^ i * x) * Y) := by
  have h1 : (P + 65536 ^ i * x) * Y = P * Y + (65536 ^ i * (x * T) + bigW * (x * R)) := by
    rw [Int.add_mul, hY, Int.mul_add (65536 ^ i * x), Int.mul_assoc, ← powB8, show (65536 : Int) ^ 8 = 65536 ^ i * 65536 ^ (8 - i) by rw [← Int.pow_add, Nat.add_sub_cancel' hi]]
    congr 2
    rw [Int.mul_assoc, Int.mul_assoc]
    congr 1
    rw [← Int.mul_assoc, ← Int.mul_assoc, Int.mul_comm x]
  rw [h1]
  refine hc.add ⟨-(x * R), ?_⟩
  rw [Int.mul_neg]
  omega
def Bd (i k : Nat) (ds : List Int) : Prop := ∀ j (h : j < ds.length), 0 ≤ ds[j] ∧ ds[j] ≤ (if j < i + k then (i : Int) + 1 else (i : Int)) * 4294967296
theorem Bd.set {i k : Nat} {ds : List Int} (h : Bd i k ds) (hj : i + k < ds.length) {m : Int} (hm : 0 ≤ m ∧ m ≤ 4294967296) : Bd i (k + 1) (ds.set (i + k) (ds[i + k] + m)) := by
  intro j hjl
  rw [List.getElem_set]
  have h0 := h (i + k) hj
  rw [if_neg (by omega)] at h0
  split
  · rename_i e
    rw [if_pos (by omega)]
    omega
  · rename_i e
    have h1 := h j (by simpa using hjl)
    by_cases hlt : j < i + k
    · rw [if_pos hlt] at h1; rw [if_pos (by omega)]; exact h1
    · rw [if_neg hlt] at h1; rw [if_neg (by omega)]; exact h1
theorem Bd.next {i k : Nat} {ds : List Int} (h : Bd i k ds) (hk : 8 ≤ i + k) (hl : ds.length = 8) : Bd (i + 1) 0 ds := by
  intro j hj
  have h1 := h j hj
  rw [if_pos (by omega)] at h1
  split <;> omega
/-- The product's digits, in a row of the call's own. -/
structure Row8 (w : World) (A : Option Addr) (c : Nat) (B : Option Addr) (d G : Nat) (ds : List Int) (wx : World) : Prop where
  trio : Trio w A c B d wx
  own : Own wx (w.heap.size + 3) 3 (.slice (some ⟨G, 0, none⟩) 8 8) (intVs ds)
  len : ds.length = 8
theorem Row8.set {w wx : World} {A : Option Addr} {c : Nat} {B : Option Addr} {d G : Nat} {ds : List Int} (h : Row8 w A c B d G ds wx) (j : Nat) (v : Int) : Row8 w A c B d G (ds.set j v) (wx.setCell ⟨G, j, none⟩ (.int .i64 v)) := by
  obtain ⟨h1, h2⟩ := Own.stored h.own (by rw [intVs_len]; exact h.len) j (.int .i64 v)
  refine ⟨h.trio.next h2, ?_, by rw [List.length_set]; exact h.len⟩
  unfold intVs
  rw [List.map_set]
  exact h1
theorem Row8.drew {w wx : World} {A : Option Addr} {c : Nat} {B : Option Addr} {d G : Nat} {ds : List Int} (h : Row8 w A c B d G ds wx) : Row8 w A c B d G ds wx.drew :=
  ⟨h.trio.next (Below.refl _ _).drew, h.own.keep (Below.refl _ _).drew, h.len⟩
set_option maxRecDepth 100000 in
set_option maxHeartbeats 800000 in
theorem ref8Mul_any (A : Option Addr) (c : Nat) (xs : List Int) (B : Option Addr) (d : Nat) (ys : List Int) (w : World) (hA : Has w A 8 c (intVs xs)) (hB : Has w B 8 d (intVs ys)) (ha : ∀ d ∈ xs, 0 ≤ d ∧ d < 65536) (hb : ∀ d ∈ ys, 0 ≤ d ∧ d < 65536) :
    Calls Try.prog 48 #[.agg #[.slice A 8 c], .agg #[.slice B 8 d]] w (Bigd w (valD xs * valD ys)) := by
  obtain ⟨kz, ks⟩ := zero_of_info bigInfo
  have HAl : Hid (xs.length = 8) := by have := hA.len; rw [intVs_len] at this; exact this
  have HBl : Hid (ys.length = 8) := by have := hB.len; rw [intVs_len] at this; exact this
  have HA := Lib.hid hA
  have HB := Lib.hid hB
  have HAd := Lib.hid ha
  have HBd := Lib.hid hb
  obtain ⟨ba, oa, e1, _, _⟩ := hA.spot (by decide)
  obtain ⟨bb, ob, e2, _, _⟩ := hB.spot (by decide)
  subst e1 e2
  clear hA hB ha hb
  have HT0 := Lib.hid (Trio.new w (some ⟨ba, oa, none⟩) c (some ⟨bb, ob, none⟩) d)
  have hz0 := HT0.out.size
  go_enter Try.func48, Try.ntmps48
  go_wp2_with (at_make
               refine wpList_made rfl _ _ 37 rfl elemI (.int .i64 0) (by kernel_rfl) rfl (w.heap.size + 3) .i64 .i64 _ _ 8 rfl rfl (by first | rfl | omega) (by first | rfl | omega) (by omega) (by decide) hz0 ?_
               intro w1 hown1 hbel1
               have HR1 : Hid (Row8 w (some ⟨ba, oa, none⟩) c (some ⟨bb, ob, none⟩) d (w.heap.size + 1 + 1 + 1) [0, 0, 0, 0, 0, 0, 0, 0] w1) := ⟨HT0.out.next hbel1, by
                 have e : (((w.alloc (.cells #[.slice (some ⟨ba, oa, none⟩) 8 c] 39)).alloc (.cells #[.slice (some ⟨bb, ob, none⟩) 8 d] 39)).alloc (.cells #[.slice none 0 0] 39)).heap.size = w.heap.size + 1 + 1 + 1 := by
                   show (Array.push _ _).size = _
                   rw [Array.size_push]
                   exact congrArg (· + 1) (by show (Array.push _ _).size = _; rw [Array.size_push]; exact congrArg (· + 1) (Array.size_push _))
                 rw [e] at hown1
                 exact hown1, rfl⟩
               clear hown1 hbel1)
  clear HT0 hz0
  generalize w.heap.size + 1 + 1 + 1 = G at *
  go_loopg [6] 8 (fun g s6 wx => ∃ (i : Nat) (ds : List Int), i + g = 8 ∧ s6 = .int .i64 i ∧ Hid (Row8 w (some ⟨ba, oa, none⟩) c (some ⟨bb, ob, none⟩) d G ds wx) ∧ Hid (Cong (valD ds) (valD (xs.take i) * valD ys)) ∧ Hid (Bd i 0 ds))
  case atStart => exact ⟨0, _, by omega, rfl, HR1, ⟨0, by simp [valD]⟩, fun j hj => by
    have h0 : ∀ d ∈ ([0, 0, 0, 0, 0, 0, 0, 0] : List Int), d = 0 := by decide
    rw [h0 _ (List.getElem_mem hj)]; split <;> omega⟩
  case round =>
    obtain ⟨i, ds, hig, rfl, HR, HV, HD⟩ := hrel
    clear HR1
    by_cases hi : i < 8
    · have ti : decide ((i : Int) < 8) = true := by simp; omega
      have hia : i < xs.length := by rw [HAl.out]; exact hi
      have HCa : Hid (∀ W, Below w.heap.size w W → W.cell? ⟨ba, oa + i, none⟩ = some (.int .i64 xs[i])) := fun W hW => by
        obtain ⟨_, _, e, _, hc⟩ := (HA.out.kept hW).spot (by decide)
        cases e
        exact hc i _ (intVs_at hia)
      have hxb := HAd.out _ (List.getElem_mem hia)
      have HT := Lib.hid (valD_take hia)
      generalize xs[i] = x at *
      obtain ⟨D0, hD0⟩ : ∃ D0, valD ds = D0 := ⟨_, rfl⟩
      rw [hD0] at HV
      have HD0 := Lib.hid hD0
      have HIg := Lib.hid hig
      clear hia hD0 hig
      generalize wr = wo at *
      generalize gk = gh at *
      go_wp2
      go_loopg [7] (8 - i) (fun g s7 wy => ∃ (k : Nat) (es : List Int), i + k + g = 8 ∧ s7 = .int .i64 k ∧ Hid (Row8 w (some ⟨ba, oa, none⟩) c (some ⟨bb, ob, none⟩) d G es wy) ∧ Hid (valD es = D0 + 65536 ^ i * (x * valD (ys.take k))) ∧ Hid (Bd i k es))
      case atStart => exact ⟨0, ds, by omega, rfl, HR, by show _ = _; rw [HD0.out]; simp [valD], HD⟩
      case round =>
        obtain ⟨k, es, hkg, rfl, HRk, HVk, HDk⟩ := hrel
        by_cases hk : i + k < 8
        · obtain ⟨j, hj⟩ : ∃ j, i + k = j := ⟨_, rfl⟩
          have hjk : (i : Int) + (k : Int) = (j : Int) := by omega
          have tj : decide ((j : Int) < 8) = true := by simp; omega
          have hjl : i + k < es.length := by rw [HRk.out.len]; exact hk
          have hkb : k < ys.length := by rw [HBl.out]; omega
          obtain ⟨_, _, e, _, hcb⟩ := (HB.out.kept HRk.out.trio.bel).spot (by decide)
          cases e
          have hyc := hcb _ _ (intVs_at hkb)
          have hyb := HBd.out _ (List.getElem_mem hkb)
          have hxc := HCa.out wr HRk.out.trio.bel
          obtain ⟨hdc, hdf⟩ := Own.cellAt HRk.out.own (by rw [intVs_len]; exact HRk.out.len) (i + k) hk
          rw [intVs_at hjl] at hdc
          have hdb := HDk.out (i + k) hjl
          rw [if_neg (by omega)] at hdb
          obtain ⟨y, hy⟩ : ∃ y, ys[k] = y := ⟨_, rfl⟩
          rw [hy] at hyc hyb
          have hm0 : 0 ≤ x * y := Int.mul_nonneg hxb.1 hyb.1
          have hm1 : x * y ≤ 4294967296 := by
            have h1 : x * y ≤ 65536 * 65536 := Int.mul_le_mul (by omega) (by omega) hyb.1 (by decide)
            omega
          have HV2 := Lib.hid (mul_add_step hjl hkb hy HVk.out)
          have HD2 := Lib.hid (HDk.out.set hjl ⟨hm0, hm1⟩)
          have HR2 := Lib.hid (HRk.out.drew.set (i + k) (es[i + k] + x * y))
          obtain ⟨m, hm⟩ : ∃ m, x * y = m := ⟨_, rfl⟩
          obtain ⟨v, hv⟩ : ∃ v, es[i + k] = v := ⟨_, rfl⟩
          rw [hv] at hdc hdb HV2 HD2 HR2
          rw [hm] at hm0 hm1 HV2 HD2 HR2
          rw [hj] at hdc hdf HV2 HD2 HR2
          have w1 : IntKind.wrap .i64 (x * y) = m := by rw [IntKind.wrap_i64, hm]; omega
          have w2 : IntKind.wrap .i64 (v + m) = v + m := by rw [IntKind.wrap_i64]; omega
          have w3 : wrap64 (x * y) = m := by rw [hm]; unfold wrap64; omega
          have c0 : wr.cell? ⟨w.heap.size, 0, none⟩ = some (.slice (some ⟨ba, oa, none⟩) 8 c) := HRk.out.trio.b0.cell 0
          have c1 : wr.cell? ⟨w.heap.size + 1, 0, none⟩ = some (.slice (some ⟨bb, ob, none⟩) 8 d) := HRk.out.trio.b1.cell 0
          have i8 : (i : Int) < 8 := by omega
          have k8 : (k : Int) < 8 := by omega
          have j8 : (j : Int) < 8 := by omega
          have hJ := Lib.hid hj
          clear hcb hjl hkb hv hy hm hj hk
          go_wp2
          go_region
          all_goals
            go_wp2
            go_roundg (gk - 1)
            case measure => omega
            case rel => exact ⟨k + 1, _, by have := hJ.out; omega, by go_num, HR2, HV2, HD2⟩
        · have tj : decide ((i : Int) + (k : Int) < 8) = false := by simp; omega
          obtain rfl : k = 8 - i := by omega
          have HV3 : Hid (Cong (valD es) (valD (xs.take (i + 1)) * valD ys)) := by
            show Cong _ _
            rw [HVk.out, HT.out]
            have hY := valD_cut ys (8 - i)
            rw [HBl.out, Nat.min_eq_left (by omega)] at hY
            exact mul_row (by omega) HV.out hY
          have HD3 := Lib.hid (HDk.out.next (by omega) HRk.out.len)
          go_wp2
          go_roundg (8 - (i + 1))
          case measure => have := HIg.out; omega
          case rel => exact ⟨i + 1, es, by omega, by go_num, HRk, HV3, HD3⟩
    · obtain rfl : i = 8 := by omega
      rw [List.take_of_length_le (by rw [HAl.out]; decide)] at HV
      obtain ⟨A9, c9, hv, hh⟩ := own8 HR.out.own HR.out.len
      cases hv
      have hz := HR.out.trio.size
      have HSe := Lib.hid (ref8Settled_any _ _ ds wr hh (fun d hd => by
        obtain ⟨j, hj, rfl⟩ := List.mem_iff_getElem.1 hd
        have h1 := HD.out j hj
        split at h1 <;> omega))
      have HE := Lib.hid (digI_cong HV.out)
      clear hh
      go_wp2_with fail
      refine HSe.out.mono ?_
      rintro e w2 ⟨A2, c2, rfl, hh2, hb2, hn2⟩
      rw [HE.out] at hh2
      have HT2 := Lib.hid (HR.out.trio.next (hb2.mono hz))
      have fz := HT2.out.b2.frozen 0
      have cz : w2.cell? ⟨w.heap.size + 2, 0, none⟩ = some (.slice none 0 0) := HT2.out.b2.cell 0
      have HP := Lib.hid (big_pass HT2.out.b2 (Nat.le_add_right _ 2) hh2 (fun b off hA => by have := hn2 b off hA; omega) HT2.out.bel)
      clear hh2 hb2 hn2
      go_wp2
      exact bodyPost_ret (results_cell8 Try.results48 rfl HP.out.1) rfl HP.out.2
end Go.Proofs.Ytnhoinonojhgiaa
