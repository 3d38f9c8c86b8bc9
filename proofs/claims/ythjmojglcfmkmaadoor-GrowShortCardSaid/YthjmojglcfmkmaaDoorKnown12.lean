/- lapidarylaw12.known: what the chapter's examples fix. -/
import Derived.Test.YthjmojglcfmkmaaDoorGrowRefE
namespace Go.Proofs.YthjmojglcfmkmaaDoor
open Go.RowKit

set_option maxRecDepth 100000 in
theorem growStepNil_any (w : World) : Calls Tryd.prog 11 #[.pointer none, .slice none 0 0] w fun e w' => e = .returned (.int .i64 1) ∧ w = w' := by
  go_enter Tryd.func11, Tryd.ntmps11
  go_wp2
  go_step3
  go_wp2
  rw [Exit.noGoto_ret]
  go_ret
  exact ⟨rfl, rfl⟩
def SO : List (Int × Int) := [(0, 0), (1, 0), (1, 0), (1, 0)]
theorem grow_so : growG SO = ⟨[(0, 1, 2)], 3, [], [(0, 2), (2, 1), (1, 0)], 0⟩ := by rfl
theorem in64_all {l : List (Int × Int)} (h : (l.all fun d => decide (0 ≤ d.1) && decide (d.1 ≤ 1000000) && decide (0 ≤ d.2) && decide (d.2 ≤ 1000000)) = true) : ∀ d ∈ l, in64 d := fun d hd => by
  have := List.all_eq_true.1 h d hd
  simp only [Bool.and_eq_true, decide_eq_true_eq] at this
  exact ⟨wf64 this.1.1.1 this.1.1.2, wf64 this.1.2 this.2⟩
theorem fan_one (v : Nat) (hv : v < 3) : Fan [(0, 1, 2)] v := by
  refine ⟨⟨(0, 1, 2), List.mem_singleton.2 rfl, ?_⟩, ?_⟩
  · rcases (show v = 0 ∨ v = 1 ∨ v = 2 by omega) with rfl | rfl | rfl
    · exact Or.inl rfl
    · exact Or.inr (Or.inl rfl)
    · exact Or.inr (Or.inr rfl)
  · intro t ht u hu _ _
    rw [List.mem_singleton.1 ht, List.mem_singleton.1 hu]
    exact Reach.refl
theorem check_one3 : CheckIs (List.replicate 3 (0, 0, 0)) [(0, 1, 2)] 0 :=
  Or.inr (Or.inr (Or.inr (Or.inr ⟨by unfold longM; decide +kernel, by decide +kernel, by decide +kernel, fun v hv => fan_one v hv, rfl⟩)))
theorem close_so : CloseIs (growG SO) 0 := by
  rw [grow_so]
  exact check_one3
theorem close_s : CloseIs (growG [(0, 0)]) 10 := by
  have h : growG [(0, 0)] = ⟨[(0, 1, 2)], 3, [(0, 1), (1, 2), (2, 0)], [], 0⟩ := rfl
  rw [h]
  rfl
set_option maxRecDepth 100000 in
set_option maxHeartbeats 1600000 in
theorem known12 (w : World) (hbe : BehW w) (hnw : NewW w) : Calls Tryd.prog 9 #[] w fun e w' => e = .returned (.bool true) ∧ Below w.heap.size w w' := by
  obtain ⟨sz, ss⟩ := zero_of_info stepInfo
  have HBe := Lib.hid hbe
  have HNw := Lib.hid hnw
  have HB0 := Lib.hid (new_alloc (Below.refl w.heap.size w) (.cells #[.int .i64 0, .int .i64 0, .int .i64 1, .int .i64 0, .int .i64 1, .int .i64 0, .int .i64 1, .int .i64 0] 33))
  have HA := Lib.hid (growAll_any (some ⟨w.heap.size, 0, none⟩) 4 4 SO 0 _ (HBe.out.kept HB0.out) (HNw.out.kept HB0.out) (HasK.new_at 2 w #[.int .i64 0, .int .i64 0, .int .i64 1, .int .i64 0, .int .i64 1, .int .i64 0, .int .i64 1, .int .i64 0] 33 _ 4 rfl rfl) (in64_all (by decide)) (by decide) close_so)
  clear hbe hnw
  go_enter Tryd.func9, Tryd.ntmps9
  go_wp2_with fail
  refine HA.out.mono ?_
  rintro e w1 ⟨A1, n1, c1, rfl, h1, hb1⟩
  have HB1 := Lib.hid (new_call HB0.out hb1)
  have HT1 : Hid (HasK 3 w1 A1 n1 c1 (p3Cells [(0, 1, 2)])) := h1
  have hn : n1 = 1 := by have := HT1.out.len; rw [p3Cells_len] at this; simp at this; omega
  subst hn
  have HN1 : Hid (closeN (growG SO) 0 = 3) := rfl
  rw [HN1.out]
  have HBa := Lib.hid (new_alloc HB1.out (.cells #[.int .i64 0, .int .i64 0] 33))
  have HA2 := Lib.hid (growAll_any (some ⟨w1.heap.size, 0, none⟩) 1 1 [(0, 0)] 10 _ (HBe.out.kept HBa.out) (HNw.out.kept HBa.out) (HasK.new_at 2 w1 #[.int .i64 0, .int .i64 0] 33 _ 1 rfl rfl) (in64_all (by decide)) (by decide) close_s)
  clear h1 hb1 HA HB0
  go_wp2_with fail
  refine HA2.out.mono ?_
  rintro e w2 ⟨A2, n2, c2, rfl, _, hb2⟩
  have HB2 := Lib.hid (new_call HBa.out hb2)
  have HT2 := Lib.hid ((HT1.out.alloc _).kept hb2)
  have HBb := Lib.hid (new_alloc HB2.out (.cells #[.int .i64 0, .int .i64 1, .int .i64 2] 58))
  have HS := Lib.hid (ref12Same_any A1 1 c1 [(0, 1, 2)] (some ⟨w2.heap.size, 0, none⟩) 1 1 [(0, 1, 2)] _ (HT2.out.alloc _) (HasK.new_at 3 w2 #[.int .i64 0, .int .i64 1, .int .i64 2] 58 _ 1 rfl rfl) (by decide) (by decide))
  clear hb2 HA2 HT1 HB1
  go_wp2_with fail
  refine HS.out.mono ?_
  rintro e w3 ⟨rfl, hb3⟩
  have HB3 := Lib.hid (new_call HBb.out hb3)
  clear hb3 HS HT2
  go_wp2_with fail
  refine (growStepNil_any w3).mono ?_
  rintro e w4 ⟨rfl, rfl⟩
  go_wp2
  go_ret
  exact ⟨rfl, HB3.out⟩
end Go.Proofs.YthjmojglcfmkmaaDoor
