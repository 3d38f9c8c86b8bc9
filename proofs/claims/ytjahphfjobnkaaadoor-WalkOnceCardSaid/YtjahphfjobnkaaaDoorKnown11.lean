/- Layer 11: what the chapter's example fixes, and what is too long to be looked at. -/
import Derived.Test.YtjahphfjobnkaaaDoorWalkCodeJ
namespace Go.Proofs.YtjahphfjobnkaaaDoor
open Go.RowKit

def P2 : List P3 := [(0, 0, 0), (1, 0, 0), (0, 1, 0), (1, 1, 0)]
def T2 : List P3 := [(0, 1, 2), (2, 1, 3)]
theorem fan_two (v : Nat) (hv : v < 4) : Fan T2 v := by
  have hmem : ∀ t ∈ T2, t = (0, 1, 2) ∨ t = (2, 1, 3) := fun t ht => by
    unfold T2 at ht
    simpa using ht
  have m1 : ((0, 1, 2) : P3) ∈ T2 := List.mem_cons_self ..
  have m2 : ((2, 1, 3) : P3) ∈ T2 := List.mem_cons_of_mem _ (List.mem_cons_self ..)
  have d1 : ((1, 2) : Int × Int) ∈ dirs (0, 1, 2) := mem_dirs.2 (Or.inr (Or.inl rfl))
  have d2 : ((2, 1) : Int × Int) ∈ dirs (2, 1, 3) := mem_dirs.2 (Or.inl rfl)
  have j12 : ∀ w : Int, w = 1 ∨ w = 2 → joinedV w (0, 1, 2) (2, 1, 3) := fun w hw => ⟨1, 2, d1, by omega, d2⟩
  have j21 : ∀ w : Int, w = 1 ∨ w = 2 → joinedV w (2, 1, 3) (0, 1, 2) := fun w hw => ⟨2, 1, d2, by omega, d1⟩
  rcases (show v = 0 ∨ v = 1 ∨ v = 2 ∨ v = 3 by omega) with rfl | rfl | rfl | rfl
  · refine ⟨⟨_, m1, Or.inl rfl⟩, ?_⟩
    intro t ht u hu hvt hvu
    rcases hmem t ht with rfl | rfl <;> rcases hmem u hu with rfl | rfl
    · exact Reach.refl
    · exfalso; unfold hasV at hvu; simp at hvu
    · exfalso; unfold hasV at hvt; simp at hvt
    · exact Reach.refl
  · refine ⟨⟨_, m1, Or.inr (Or.inl rfl)⟩, ?_⟩
    intro t ht u hu hvt hvu
    rcases hmem t ht with rfl | rfl <;> rcases hmem u hu with rfl | rfl
    · exact Reach.refl
    · exact Reach.refl.step ⟨m2, j12 _ (Or.inl rfl)⟩
    · exact Reach.refl.step ⟨m1, j21 _ (Or.inl rfl)⟩
    · exact Reach.refl
  · refine ⟨⟨_, m1, Or.inr (Or.inr rfl)⟩, ?_⟩
    intro t ht u hu hvt hvu
    rcases hmem t ht with rfl | rfl <;> rcases hmem u hu with rfl | rfl
    · exact Reach.refl
    · exact Reach.refl.step ⟨m2, j12 _ (Or.inr rfl)⟩
    · exact Reach.refl.step ⟨m1, j21 _ (Or.inr rfl)⟩
    · exact Reach.refl
  · refine ⟨⟨_, m2, Or.inr (Or.inr rfl)⟩, ?_⟩
    intro t ht u hu hvt hvu
    rcases hmem t ht with rfl | rfl <;> rcases hmem u hu with rfl | rfl
    · exact Reach.refl
    · exfalso; unfold hasV at hvt; simp at hvt
    · exfalso; unfold hasV at hvu; simp at hvu
    · exact Reach.refl
theorem check_two : CheckIs P2 T2 0 :=
  Or.inr (Or.inr (Or.inr (Or.inr ⟨by unfold longM; decide +kernel, by decide +kernel, by decide +kernel, fun v hv => fan_two v hv, rfl⟩)))
theorem check_lone : CheckIs [(0, 0, 0)] [] 81 := by
  refine Or.inr (Or.inr (Or.inr (Or.inl ⟨by unfold longM; decide +kernel, by decide +kernel, by decide +kernel, fun h => ?_, rfl⟩)))
  obtain ⟨⟨t, ht, _⟩, _⟩ := h 0 (by decide)
  cases ht
set_option maxRecDepth 100000 in
theorem lawlong_any (A : Option Addr) (n c : Nat) (B : Option Addr) (m d : Nat) (r : Bool) (w : World) (hr : (decide (40 < n) || decide (60 < m)) = r) : Calls Tryd.prog 9 #[.agg #[.slice A n c, .slice B m d]] w fun e w' => e = .returned (.bool r) ∧ Below w.heap.size w w' := by
  have HK := Lib.hid (MeshAt.new w (.slice A n c) (.slice B m d))
  have m0 := HK.out.b0.cell 0
  have m1 := HK.out.b0.cell 1
  by_cases h1 : 40 < n
  · have t1 : decide ((40 : Int) < (n : Int)) = true := by simp; omega
    have HE : Hid (r = true) := by show _ = _; rw [← hr, decide_eq_true h1]; rfl
    rw [HE.out]
    clear hr
    go_enter Tryd.func9, Tryd.ntmps9
    go_wp2
    go_ret
    exact ⟨rfl, HK.out.bel⟩
  · have t1 : decide ((40 : Int) < (n : Int)) = false := by simp; omega
    have HE : Hid (decide (60 < m) = r) := by show _ = _; rw [← hr, decide_eq_false h1]; rfl
    by_cases h2 : 60 < m
    · have t2 : decide ((60 : Int) < (m : Int)) = true := by simp; omega
      have HE2 : Hid (r = true) := by show _ = _; rw [← HE.out, decide_eq_true h2]
      rw [HE2.out]
      clear hr
      go_enter Tryd.func9, Tryd.ntmps9
      go_wp2
      go_ret
      exact ⟨rfl, HK.out.bel⟩
    · have t2 : decide ((60 : Int) < (m : Int)) = false := by simp; omega
      have HE2 : Hid (r = false) := by show _ = _; rw [← HE.out, decide_eq_false h2]
      rw [HE2.out]
      clear hr
      go_enter Tryd.func9, Tryd.ntmps9
      go_wp2
      go_ret
      exact ⟨rfl, HK.out.bel⟩
def S2 : List (Int × Int) := [(0, 0), (1, 0), (2, 0), (1, 0), (1, 0), (1, 0)]
theorem steps_two : (walkF T2).S = S2 := by decide +kernel
set_option maxRecDepth 100000 in
set_option maxHeartbeats 1600000 in
theorem known11 (w : World) (hbe : BehW w) : Calls Tryd.prog 10 #[] w fun e w' => e = .returned (.bool true) ∧ Below w.heap.size w w' := by
  obtain ⟨kz, ks⟩ := zero_of_info meshInfo
  obtain ⟨pz, ps⟩ := zero_of_info p3Info
  obtain ⟨tz, ts⟩ := zero_of_info t3Info
  obtain ⟨sz, ss⟩ := zero_of_info stepInfo
  have HSt : Hid (∀ A c B d W, Below w.heap.size w W → HasK 3 W A 4 c (p3Cells P2) → HasK 3 W B 2 d (p3Cells T2) → Calls Tryd.prog 11 #[.agg #[.slice A 4 c, .slice B 2 d]] W (Stepsd W S2 0)) := fun A c B d W hW h1 h2 => by
    have := walkSteps_any A 4 c P2 B 2 d T2 0 W (hbe.kept hW) h1 h2 (by decide) (by decide) check_two
    rw [if_pos rfl, steps_two] at this
    exact this
  have HLo := Lib.hid (fun W (hW : Below w.heap.size w W) => walkSteps_any (some ⟨W.heap.size, 0, none⟩) 1 1 [(0, 0, 0)] none 0 0 [] 81 (W.alloc (.cells #[.int .i64 0, .int .i64 0, .int .i64 0] 49)) (hbe.kept (new_alloc hW _)) (HasK.new_at 3 W _ _ _ 1 rfl rfl) (HasK.none _ _ _ _ (fun _ => rfl)) (by decide) (by decide) check_lone)
  clear hbe
  go_enter Tryd.func10, Tryd.ntmps10
  go_wp2_with fail
  have HB0 := Lib.hid (new_alloc (new_alloc (new_alloc (Below.refl w.heap.size w) (.cells #[.int .i64 0, .int .i64 0, .int .i64 0, .int .i64 1, .int .i64 0, .int .i64 0, .int .i64 0, .int .i64 1, .int .i64 0, .int .i64 1, .int .i64 1, .int .i64 0] 49)) (.cells #[.int .i64 0, .int .i64 1, .int .i64 2, .int .i64 2, .int .i64 1, .int .i64 3] 50)) (.cells #[.slice (some ⟨w.heap.size, 0, none⟩) 4 4, .slice (some ⟨w.heap.size + 1, 0, none⟩) 2 2] 25))
  refine (HSt.out _ _ _ _ _ HB0.out (((HasK.new_at 3 w _ _ _ 4 rfl rfl).alloc _).alloc _) ((HasK.new_at 3 _ _ _ _ 2 (Array.size_push _).symm rfl).alloc _)).mono ?_
  rintro e w1 ⟨A1, c1, rfl, h1, hb1⟩
  have HB1 := Lib.hid (new_call HB0.out hb1)
  have HL1 := Lib.hid h1
  clear hb1 h1 HB0
  go_wp2_with fail
  refine (HLo.out w1 HB1.out).mono ?_
  rintro e w2 ⟨A2, c2, rfl, _, hb2⟩
  have HB2 := Lib.hid (new_call (new_alloc HB1.out _) hb2)
  have HL2 := Lib.hid ((HL1.out.alloc _).kept hb2)
  clear hb2 HL1
  go_wp2_with fail
  refine (ref11SameSteps_any A1 _ c1 S2 _ 6 6 S2 _ (HL2.out.alloc _) (HasK.new_at 2 w2 _ _ _ 6 rfl rfl) (by decide) (by decide)).mono ?_
  rintro e w3 ⟨rfl, hb3⟩
  rw [decide_eq_true (rfl : S2 = S2)]
  have HB3 := Lib.hid (new_call (new_alloc HB2.out _) hb3)
  clear hb3
  go_wp2
  go_ret
  exact ⟨rfl, HB3.out⟩
end Go.Proofs.YtjahphfjobnkaaaDoor
