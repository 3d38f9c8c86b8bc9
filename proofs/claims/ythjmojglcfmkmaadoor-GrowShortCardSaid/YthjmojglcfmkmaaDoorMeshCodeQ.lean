/- The landed mesh: a row of so many times the same number. -/
import Derived.Test.YthjmojglcfmkmaaDoorMeshCodeH
import Derived.Test.YthjmojglcfmkmaaDoorWideBits
import Derived.Laws.CopyOwn
namespace Go.Proofs.YthjmojglcfmkmaaDoor
open Go.RowKit

def repL (m n : Nat) : List Value := List.replicate n (.int .i64 (-1)) ++ List.replicate (m - n) (.int .i64 0)
theorem repL_len {m n : Nat} (h : n ≤ m) : (repL m n).length = m := by unfold repL; rw [List.length_append, List.length_replicate, List.length_replicate]; omega
theorem repL_splice {m n q : Nat} (h : n + q ≤ m) : splice (repL m n) n (List.replicate q (.int .i64 (-1))) = repL m (n + q) := by
  unfold splice repL
  rw [List.length_replicate]
  have e1 : (List.replicate n (Value.int .i64 (-1)) ++ List.replicate (m - n) (Value.int .i64 0)).take n = List.replicate n (Value.int .i64 (-1)) := by
    rw [List.take_append_of_le_length (by rw [List.length_replicate]; exact Nat.le_refl _)]
    exact List.take_of_length_le (by rw [List.length_replicate]; exact Nat.le_refl _)
  have e2 : (List.replicate n (Value.int .i64 (-1)) ++ List.replicate (m - n) (Value.int .i64 0)).drop (n + q) = List.replicate (m - (n + q)) (Value.int .i64 0) := by
    rw [List.drop_append, List.length_replicate, List.drop_of_length_le (by rw [List.length_replicate]; omega), List.nil_append, List.drop_replicate]
    congr 1
    omega
  rw [e1, e2, ← List.append_assoc, List.replicate_append_replicate]
theorem repL_at {m n j : Nat} (h : j < n) : (repL m n)[j]? = some (.int .i64 (-1)) := by
  unfold repL
  rw [List.getElem?_append_left (by rw [List.length_replicate]; exact h), List.getElem?_replicate, if_pos h]
theorem repL_all (m : Nat) : repL m m = intVs (List.replicate m (-1)) := by
  unfold repL intVs
  rw [Nat.sub_self, List.replicate_zero, List.append_nil, List.map_replicate]
set_option maxRecDepth 100000 in
theorem mulW_any (x y : Int) (hx : u64W x) (hy : u64W y) (w : World) : Calls Tryd.prog 67 #[.int .u64 x, .int .u64 y] w fun e w' => e = .returned (.tuple #[.int .u64 (x * y / 18446744073709551616), .int .u64 (x * y % 18446744073709551616)]) ∧ w = w' := by
  have HM := Lib.hid (mul64_any x y hx hy w)
  generalize x * y / 18446744073709551616 = q at *
  generalize x * y % 18446744073709551616 = r at *
  go_enter Tryd.func67, Tryd.ntmps67
  go_wp2_with fail
  refine HM.out.mono ?_
  rintro e w1 ⟨rfl, rfl⟩
  go_wp2
  go_ret2
  exact ⟨rfl, rfl⟩
theorem run_makeRep (m : Nat) (hm : m ≤ 100000) (w : World) : (Instr.makeSlice 79 (.int .i64 (m : Int)) (.int .i64 (m : Int))).run Tryd.prog w = .ok (.slice (some ⟨w.heap.size, 0, none⟩) m m) (w.alloc (.cells (repL m 0).toArray 3)) := by
  rw [run_makeCnt m hm w]
  have e : cntA (fun _ => 0) m = (repL m 0).toArray := by
    apply Array.ext
    · simp [cntA, repL]
    · intro j h1 h2
      simp [cntA, repL]
  rw [e]
set_option maxRecDepth 100000 in
set_option maxHeartbeats 1600000 in
theorem repeat_any (g m : Nat) (w : World) (hc : w.cell? ⟨g, 0, none⟩ = some (.int .i64 (-1))) (hm : m ≤ 100000) : Calls Tryd.prog 54 #[.slice (some ⟨g, 0, none⟩) 1 1, .int .i64 (m : Int)] w fun e w' => e = .returned (.slice (some ⟨w.heap.size, 0, none⟩) m m) ∧ Blk w' w.heap.size 3 (repL m m).toArray ∧ Below w.heap.size w w' := by
  have HCg : Hid (∀ W, Below w.heap.size w W → W.cell? ⟨g, 0, none⟩ = some (.int .i64 (-1))) := fun W hW => cell_stays w W hW hc
  have HMu := Lib.hid (mulW_any 1 (m : Int) (by unfold u64W; omega) (by unfold u64W; omega) w)
  rw [Int.one_mul, show (m : Int) / 18446744073709551616 = 0 by omega, show (m : Int) % 18446744073709551616 = (m : Int) by omega] at HMu
  have g1 : IntKind.wrap .u64 (m : Int) = (m : Int) := by rw [IntKind.wrap_u64]; omega
  have g2 : IntKind.wrap .i64 (m : Int) = (m : Int) := by rw [IntKind.wrap_i64]; omega
  have g3 : decide ((9223372036854775807 : Int) < (m : Int)) = false := decide_eq_false (by omega)
  have g4 : decide ((m : Int) < 0) = false := decide_eq_false (by omega)
  have hmk := fun W => run_makeRep m hm W
  have HB0 := Lib.hid (new_alloc (Below.refl w.heap.size w) (.cells (repL m 0).toArray 3))
  have HK0 := Lib.hid (Blk.new w 3 (repL m 0).toArray)
  have hsz1 : (Tryd.prog.info? 3).map (·.size) = some 1 := by kernel_rfl
  clear hc
  go_enter Tryd.func54, Tryd.ntmps54
  go_wp2_with fail
  refine HMu.out.mono ?_
  rintro e w1 ⟨rfl, rfl⟩
  have hfit0 : 0 + (List.replicate (Nat.min 1 m) (Value.int .i64 (-1))).length ≤ (repL m 0).length := by
    rw [List.length_replicate, repL_len (Nat.zero_le _), Nat.zero_add]
    exact Nat.min_le_right _ _
  have HSrc : Hid (∀ j v, (List.replicate (Nat.min 1 m) (Value.int .i64 (-1)))[j]? = some v → (w.alloc (.cells (repL m 0).toArray 3)).cell? ((⟨g, 0, none⟩ : Addr).add j) = some v) := fun j v hv => by
    have hj := (List.getElem?_eq_some_iff.1 hv).1
    rw [List.length_replicate] at hj
    have hj1 : j < 1 := Nat.lt_of_lt_of_le hj (Nat.min_le_left _ _)
    have hj0 : j = 0 := by omega
    subst hj0
    rw [List.getElem?_replicate, if_pos hj] at hv
    cases hv
    exact HCg.out _ HB0.out
  have hone : ∀ q, ∀ v ∈ List.replicate q (Value.int .i64 (-1)), v.oneCell' = true := fun q v hv => by rw [(List.mem_replicate.1 hv).2]; rfl
  have HOne := Lib.hid hone
  clear hone
  go_wp2_with (
      (refine wpList_copy_splice (o := ⟨some 33, _, _, _, _, _⟩) rfl (.tmp 31) (.tmp 32) 79 79 rfl 3 Tryd.underlying79 hsz1 (some ⟨w.heap.size, 0, none⟩) (some ⟨g, 0, none⟩) m m 1 1 rfl rfl w.heap.size 0 (repL m 0) 3 HK0.out (List.replicate (Nat.min 1 m) (.int .i64 (-1))) (List.length_replicate) (fun _ => ⟨rfl, ⟨g, 0, none⟩, rfl, HSrc.out⟩) hfit0 (HOne.out _) w.heap.size w HB0.out (Nat.le_refl _) ?_
       rintro w2 hg2 hb2
       have HB2 := Lib.hid hb2
       clear hb2))
  have hmin : Nat.min 1 m ≤ m := Nat.min_le_right _ _
  have hmin1 : 0 < m → 0 < Nat.min 1 m := fun h => by
    show 0 < min 1 m
    omega
  have HK2 : Hid (Blk w2 w.heap.size 3 (repL m (Nat.min 1 m)).toArray) := by
    have h := hg2.out
    rw [repL_splice (by rw [Nat.zero_add]; exact hmin), Nat.zero_add] at h
    exact h
  have hlr : (List.replicate (Nat.min 1 m) (Value.int .i64 (-1))).length = Nat.min 1 m := List.length_replicate
  try rw [hlr]
  generalize Nat.min 1 m = q0 at *
  clear hg2 hlr hfit0 HSrc
  go_loopg [8] (m - q0) (fun gg s8 wx => ∃ q : Nat, q + gg = m ∧ s8 = .int .i64 q ∧ Hid (0 < m → 0 < q) ∧ Hid (Below w.heap.size w wx) ∧ Hid (Blk wx w.heap.size 3 (repL m q).toArray))
  case atStart => exact ⟨q0, by omega, by go_num, hmin1, HB2.out, HK2.out⟩
  case round =>
    obtain ⟨q, hqg, rfl, HP, HB, HK⟩ := hrel
    by_cases hq : q < m
    · have tq : decide ((q : Int) < (m : Int)) = true := by simp; omega
      have q1 : (q : Int) ≤ (m : Int) := by omega
      have q2 : q ≤ m := by omega
      have q3 : ¬ q = m := by omega
      have q4 : ¬ m = q := by omega
      have hq0 : 0 < q := HP.out (by omega)
      have HSrc : Hid (∀ j v, (List.replicate (Nat.min q (m - q)) (Value.int .i64 (-1)))[j]? = some v → wr.cell? ((⟨w.heap.size, 0, none⟩ : Addr).add j) = some v) := fun j v hv => by
        have hj := (List.getElem?_eq_some_iff.1 hv).1
        rw [List.length_replicate] at hj
        have hj1 : j < q := Nat.lt_of_lt_of_le hj (Nat.min_le_left _ _)
        rw [List.getElem?_replicate, if_pos hj] at hv
        cases hv
        have := HK.out.cell j
        rw [List.getElem?_toArray, repL_at hj1] at this
        rw [Go.WideShapes.add_plain, Nat.zero_add]
        exact this
      have hfit : q + (List.replicate (Nat.min q (m - q)) (Value.int .i64 (-1))).length ≤ (repL m q).length := by
        rw [List.length_replicate, repL_len q2]
        have : Nat.min q (m - q) ≤ m - q := Nat.min_le_right _ _
        omega
      go_wp2_with fail
      go_region_law (refine step_copy_splice (o := ⟨some 45, _, _, _, _, _⟩) rfl (.tmp 41) (.tmp 44) 79 79 rfl 3 Tryd.underlying79 hsz1 (some ⟨w.heap.size, q, none⟩) (some ⟨w.heap.size, 0, none⟩) (m - q) (m - q) q m (by kernel_rfl) (by kernel_rfl) w.heap.size q (repL m q) 3 HK.out (List.replicate (Nat.min q (m - q)) (.int .i64 (-1))) (List.length_replicate) (fun _ => ⟨rfl, ⟨w.heap.size, 0, none⟩, rfl, HSrc.out⟩) hfit (HOne.out _) w.heap.size w HB.out.drew (Nat.le_refl _) ?_
                     rintro w3 hg3 hb3
                     have HB3 := Lib.hid hb3
                     clear hb3)
      have HK3 : Hid (Blk w3 w.heap.size 3 (repL m (q + Nat.min q (m - q))).toArray) := by
        have h := hg3.out
        rw [repL_splice (by have : Nat.min q (m - q) ≤ m - q := Nat.min_le_right _ _; omega)] at h
        exact h
      have hmq : Nat.min q (m - q) ≤ m - q := Nat.min_le_right _ _
      have hmq0 : 0 < Nat.min q (m - q) := by
        show 0 < min q (m - q)
        omega
      clear hg3 HSrc hfit
      generalize Nat.min q (m - q) = z at *
      have wz : IntKind.wrap .i64 ((q : Int) + (z : Int)) = ((q + z : Nat) : Int) := by rw [IntKind.wrap_i64]; omega
      go_wp2
      go_roundg (m - (q + z))
      case measure => omega
      case rel => exact ⟨q + z, by omega, by first | rfl | rw [wz] | (rw [← wz]), fun _ => Nat.lt_of_lt_of_le hq0 (Nat.le_add_right _ _), HB3.out, HK3.out⟩
    · have tq : decide ((q : Int) < (m : Int)) = false := by simp; omega
      obtain rfl : q = m := by omega
      go_wp2
      go_ret
      exact ⟨rfl, HK.out, HB.out⟩
end Go.Proofs.YthjmojglcfmkmaaDoor
