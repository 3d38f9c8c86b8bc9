/- Layer 10: what the chapter's examples fix, and what is too long to be looked at. -/
import Derived.Test.YtckjmnbglbegmaaDoorMeshCode
namespace Go.Proofs.YtckjmnbglbegmaaDoor
open Go.RowKit

def P2 : List P3 := [(0, 0, 0), (1, 0, 0), (0, 1, 0), (1, 1, 0)]
def T2 : List P3 := [(0, 1, 2), (2, 1, 3)]
theorem fan_two (v : Nat) (hv : v < 4) : Fan T2 v := by
  have hmem : ∀ t ∈ T2, t = (0, 1, 2) ∨ t = (2, 1, 3) := fun t ht => by
    unfold T2 at ht
    simpa using ht
  have m1 : ((0, 1, 2) : P3) ∈ T2 := List.mem_cons_self ..
  have m2 : ((2, 1, 3) : P3) ∈ T2 := List.mem_cons_of_mem _ (List.mem_cons_self ..)
  have d1 : ((1, 2) : Int × Int) ∈ dirs (0, 1, 2) := mem_dirs.2 (Or.inr (Or.inl rfl))
  have d2 : ((2, 1) : Int × Int) ∈ dirs (2, 1, 3) := mem_dirs.2 (Or.inl rfl)
  have j12 : ∀ w : Int, w = 1 ∨ w = 2 → joinedV w (0, 1, 2) (2, 1, 3) := fun w hw => ⟨1, 2, d1, by omega, d2⟩
  have j21 : ∀ w : Int, w = 1 ∨ w = 2 → joinedV w (2, 1, 3) (0, 1, 2) := fun w hw => ⟨2, 1, d2, by omega, d1⟩
  rcases (show v = 0 ∨ v = 1 ∨ v = 2 ∨ v = 3 by omega) with rfl | rfl | rfl | rfl
  · refine ⟨⟨_, m1, Or.inl rfl⟩, ?_⟩
    intro t ht u hu hvt hvu
    rcases hmem t ht with rfl | rfl <;> rcases hmem u hu with rfl | rfl
    · exact Reach.refl
    · exfalso; unfold hasV at hvu; simp at hvu
    · exfalso; unfold hasV at hvt; simp at hvt
    · exact Reach.refl
  · refine ⟨⟨_, m1, Or.inr (Or.inl rfl)⟩, ?_⟩
    intro t ht u hu hvt hvu
    rcases hmem t ht with rfl | rfl <;> rcases hmem u hu with rfl | rfl
    · exact Reach.refl
    · exact Reach.refl.step ⟨m2, j12 _ (Or.inl rfl)⟩
    · exact Reach.refl.step ⟨m1, j21 _ (Or.inl rfl)⟩
    · exact Reach.refl
  · refine ⟨⟨_, m1, Or.inr (Or.inr rfl)⟩, ?_⟩
    intro t ht u hu hvt hvu
    rcases hmem t ht with rfl | rfl <;> rcases hmem u hu with rfl | rfl
    · exact Reach.refl
    · exact Reach.refl.step ⟨m2, j12 _ (Or.inr rfl)⟩
    · exact Reach.refl.step ⟨m1, j21 _ (Or.inr rfl)⟩
    · exact Reach.refl
  · refine ⟨⟨_, m2, Or.inr (Or.inr rfl)⟩, ?_⟩
    intro t ht u hu hvt hvu
    rcases hmem t ht with rfl | rfl <;> rcases hmem u hu with rfl | rfl
    · exact Reach.refl
    · exfalso; unfold hasV at hvt; simp at hvt
    · exfalso; unfold hasV at hvu; simp at hvu
    · exact Reach.refl
theorem check_two : CheckIs P2 T2 0 :=
  Or.inr (Or.inr (Or.inr (Or.inr ⟨by unfold longM; decide +kernel, by decide +kernel, by decide +kernel, fun v hv => fan_two v hv, rfl⟩)))
theorem edges_two : (edgesF P2.length T2 false).length = 5 := by decide +kernel
theorem border_two : (edgesF P2.length T2 true).length = 4 := by decide +kernel
theorem check_lone : CheckIs [(0, 0, 0)] [] 81 := by
  refine Or.inr (Or.inr (Or.inr (Or.inl ⟨by unfold longM; decide +kernel, by decide +kernel, by decide +kernel, fun h => ?_, rfl⟩)))
  obtain ⟨⟨t, ht, _⟩, _⟩ := h 0 (by decide)
  cases ht
theorem euler_two : eulerF P2 T2 = 1 := by
  unfold eulerF
  rw [edges_two]
  rfl
theorem meshM_info : (Tryd.prog.info? 25).map (fun i => (i.zero, i.size)) = some (some (.agg #[.slice none 0 0, .slice none 0 0]), 2) := by kernel_rfl
set_option maxRecDepth 100000 in
theorem lawlong_any (A : Option Addr) (n c : Nat) (B : Option Addr) (m d : Nat) (r : Bool) (w : World) (hr : (decide (40 < n) || decide (60 < m)) = r) : Calls Tryd.prog 12 #[.agg #[.slice A n c, .slice B m d]] w fun e w' => e = .returned (.bool r) ∧ Below w.heap.size w w' := by
  have HK := Lib.hid (MeshAt.new w (.slice A n c) (.slice B m d))
  have m0 := HK.out.b0.cell 0
  have m1 := HK.out.b0.cell 1
  by_cases h1 : 40 < n
  · have t1 : decide ((40 : Int) < (n : Int)) = true := by simp; omega
    have HE : Hid (r = true) := by show _ = _; rw [← hr, decide_eq_true h1]; rfl
    rw [HE.out]
    clear hr
    go_enter Tryd.func12, Tryd.ntmps12
    go_wp2
    go_ret
    exact ⟨rfl, HK.out.bel⟩
  · have t1 : decide ((40 : Int) < (n : Int)) = false := by simp; omega
    have HE : Hid (decide (60 < m) = r) := by show _ = _; rw [← hr, decide_eq_false h1]; rfl
    by_cases h2 : 60 < m
    · have t2 : decide ((60 : Int) < (m : Int)) = true := by simp; omega
      have HE2 : Hid (r = true) := by show _ = _; rw [← HE.out, decide_eq_true h2]
      rw [HE2.out]
      clear hr
      go_enter Tryd.func12, Tryd.ntmps12
      go_wp2
      go_ret
      exact ⟨rfl, HK.out.bel⟩
    · have t2 : decide ((60 : Int) < (m : Int)) = false := by simp; omega
      have HE2 : Hid (r = false) := by show _ = _; rw [← HE.out, decide_eq_false h2]
      rw [HE2.out]
      clear hr
      go_enter Tryd.func12, Tryd.ntmps12
      go_wp2
      go_ret
      exact ⟨rfl, HK.out.bel⟩
set_option maxRecDepth 100000 in
theorem lawtwo_any (w : World) : Calls Tryd.prog 29 #[] w fun e w' => ∃ A B, e = .returned (.agg #[.slice A 4 4, .slice B 2 2]) ∧ HasK 3 w' A 4 4 (p3Cells P2) ∧ HasK 3 w' B 2 2 (p3Cells T2) ∧ Below w.heap.size w w' := by
  obtain ⟨kz, ks⟩ := zero_of_info meshM_info
  go_enter Tryd.func29, Tryd.ntmps29
  go_wp2
  refine bodyPost_ret (results_cellM Tryd.results29 rfl (mesh_load _ _ _ _ (((Blk.new w _ _).alloc _).alloc _))) rfl ⟨_, _, rfl, ?_, ?_, new_alloc (new_alloc (new_alloc (Below.refl _ _) _) _) _⟩
  · exact (HasK.new_at 3 _ _ _ _ 4 (Array.size_push _).symm rfl).alloc _
  · exact HasK.new_at 3 _ _ _ _ 2 (by show _ = (Array.push _ _).size; rw [Array.size_push]; exact congrArg (· + 1) (Array.size_push _).symm) rfl
set_option maxRecDepth 100000 in
set_option maxHeartbeats 800000 in
theorem known10 (w : World) (hbe : BehW w) : Calls Tryd.prog 13 #[] w fun e w' => e = .returned (.bool true) ∧ Below w.heap.size w w' := by
  have HTw := Lib.hid (fun W => lawtwo_any W)
  have HEd : Hid (∀ A c B d W, Below w.heap.size w W → HasK 3 W A 4 c (p3Cells P2) → HasK 3 W B 2 d (p3Cells T2) → Calls Tryd.prog 16 #[.agg #[.slice A 4 c, .slice B 2 d]] W (Edgd W (edgesF P2.length T2 false) 0)) := fun A c B d W hW h1 h2 => by
    have := meshEdges_any A 4 c P2 B 2 d T2 0 W (hbe.kept hW) h1 h2 (by decide) (by decide) check_two
    rw [if_pos rfl] at this
    exact this
  have HBo : Hid (∀ A c B d W, Below w.heap.size w W → HasK 3 W A 4 c (p3Cells P2) → HasK 3 W B 2 d (p3Cells T2) → Calls Tryd.prog 17 #[.agg #[.slice A 4 c, .slice B 2 d]] W (Edgd W (edgesF P2.length T2 true) 0)) := fun A c B d W hW h1 h2 => by
    have := meshBorder_any A 4 c P2 B 2 d T2 0 W (hbe.kept hW) h1 h2 (by decide) (by decide) check_two
    rw [if_pos rfl] at this
    exact this
  have HEu : Hid (∀ A c B d W, Below w.heap.size w W → HasK 3 W A 4 c (p3Cells P2) → HasK 3 W B 2 d (p3Cells T2) → Calls Tryd.prog 19 #[.agg #[.slice A 4 c, .slice B 2 d]] W fun e w' => e = .returned (.tuple #[.int .i64 1, .int .i64 0]) ∧ Below W.heap.size W w') := fun A c B d W hW h1 h2 => by
    have := meshEuler_any A 4 c P2 B 2 d T2 0 W (hbe.kept hW) h1 h2 (by decide) (by decide) check_two
    rw [if_pos rfl, euler_two] at this
    exact this
  have HCk := Lib.hid (fun W (hW : Below w.heap.size w W) => meshCheck_any (some ⟨W.heap.size, 0, none⟩) 1 1 [(0, 0, 0)] none 0 0 [] 81 (W.alloc (.cells #[.int .i64 0, .int .i64 0, .int .i64 0] 55)) (hbe.kept (new_alloc hW _)) (HasK.new_at 3 W _ _ _ 1 rfl rfl) (HasK.none _ _ _ _ (fun _ => rfl)) (by decide) (by decide) check_lone)
  have hL := edges_two
  have hM := border_two
  generalize edgesF P2.length T2 false = L at *
  generalize edgesF P2.length T2 true = M at *
  have tl : ((L.length : Int) == 5) = true := beq_iff_eq.2 (by omega)
  have tm : ((M.length : Int) == 4) = true := beq_iff_eq.2 (by omega)
  clear hL hM
  go_enter Tryd.func13, Tryd.ntmps13
  go_wp2_with fail
  refine (HTw.out _).mono ?_
  rintro e w1 ⟨A1, B1, rfl, p1, t1, hb1⟩
  have HB1 := Lib.hid hb1
  have HE1 := Lib.hid (HEd.out _ _ _ _ w1 HB1.out p1 t1)
  clear p1 t1 hb1
  go_wp2_with fail
  refine HE1.out.mono ?_
  rintro e w2 ⟨A2, c2, rfl, _, hb2, _⟩
  have HB2 := Lib.hid (new_call HB1.out hb2)
  clear hb2
  go_wp2_with fail
  refine (HTw.out _).mono ?_
  rintro e w3 ⟨A3, B3, rfl, p3, t3, hb3⟩
  have HB3 := Lib.hid (new_call HB2.out hb3)
  have HE3 := Lib.hid (HBo.out _ _ _ _ w3 HB3.out p3 t3)
  clear p3 t3 hb3
  go_wp2_with fail
  refine HE3.out.mono ?_
  rintro e w4 ⟨A4, c4, rfl, _, hb4, _⟩
  have HB4 := Lib.hid (new_call HB3.out hb4)
  clear hb4
  go_wp2_with fail
  refine (HTw.out _).mono ?_
  rintro e w5 ⟨A5, B5, rfl, p5, t5, hb5⟩
  have HB5 := Lib.hid (new_call HB4.out hb5)
  have HE5 := Lib.hid (HEu.out _ _ _ _ w5 HB5.out p5 t5)
  clear p5 t5 hb5
  go_wp2_with fail
  refine HE5.out.mono ?_
  rintro e w6 ⟨rfl, hb6⟩
  have HB6 := Lib.hid (new_call HB5.out hb6)
  clear hb6
  go_wp2_with fail
  refine (HCk.out w6 HB6.out).mono ?_
  rintro e w7 ⟨rfl, hb7⟩
  go_wp2
  go_ret
  exact ⟨rfl, new_call (new_alloc HB6.out _) hb7⟩
end Go.Proofs.YtckjmnbglbegmaaDoor
