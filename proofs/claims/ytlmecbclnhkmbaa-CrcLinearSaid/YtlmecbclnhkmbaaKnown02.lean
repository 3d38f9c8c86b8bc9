/- lapidarylaw02.known: what the chapter's examples fix. -/
import Derived.Test.YtlmecbclnhkmbaaSeal
import Derived.Lib.SlBytesConst
namespace Go.Proofs.Ytlmecbclnhkmbaa
open Go.RowKit

theorem Has.const (w : World) (cs : Array Value) (e : TypeId) (fr : Nat × Nat) (g : Nat) (hg : g = w.heap.size) : Has (w.alloc (.cells cs e fr)) (some ⟨g, 0, Option.none⟩) cs.size cs.size cs.toList := by
  subst hg
  refine ⟨by simp, Nat.le_refl _, (fun h => by cases h), fun _ => ⟨w.heap.size, 0, rfl, by simp, fun j v hv => ?_⟩⟩
  rw [cell_of_row _ _ _ cs e fr (heap_alloc_last w _)]
  simpa using hv
theorem of_nil (w : World) : Calls Try.prog 9 #[.slice none 0 0] w fun e w' => e = .returned (.int .u32 0) ∧ Below w.heap.size w w' := by
  have h := of_any none 0 0 [] w (Parts.none _) (by simp) (by decide) (by simp)
  have e : crcOf ([] : List (List Nat)).flatten = 0 := by show (4294967295 ^^^ 4294967295 : Nat) = 0; exact Nat.xor_self _
  rw [e] at h
  exact h
theorem of_nine (w : World) (e : TypeId) (g1 g2 : Nat) (h1 : Has w (some ⟨g1, 0, none⟩) 5 5 (u8s [49, 50, 51, 52, 53])) (h2 : Has w (some ⟨g2, 0, none⟩) 4 4 (u8s [54, 55, 56, 57])) (g : Nat) (hg : g = w.heap.size) :
    Calls Try.prog 9 #[.slice (some ⟨g, 0, none⟩) 2 2] (w.alloc (.cells #[.slice (some ⟨g1, 0, none⟩) 5 5, .slice (some ⟨g2, 0, none⟩) 4 4] e)) fun e w' => e = .returned (.int .u32 3421780262) ∧ Below w.heap.size w w' := by
  subst hg
  have h := of_any _ 2 2 [[49, 50, 51, 52, 53], [54, 55, 56, 57]] _ (Parts.two h1 h2 e) (by decide) (by decide) (by decide)
  have k2 : crcOf ([[49, 50, 51, 52, 53], [54, 55, 56, 57]] : List (List Nat)).flatten = 3421780262 := by decide +kernel
  rw [k2] at h
  exact h.mono fun e w' ⟨h1, h2⟩ => ⟨h1, new_call (new_alloc (Below.refl _ _) _) h2⟩

set_option maxRecDepth 100000 in
set_option maxHeartbeats 400000 in
theorem known02 (w : World) : Calls Try.prog 8 #[] w fun e w' => e = .returned (.bool true) ∧ Below w.heap.size w w' := by
  have kc : ∀ (w : World) (g : Nat) (C : Array Value) (n c : Nat), g = w.heap.size → (convert 22 22 (.slice (some ⟨g, 0, none⟩) n c)).run Try.prog (w.alloc (.cells C 5)) = .ok (.slice (some ⟨g, 0, none⟩) n c) (w.alloc (.cells C 5 (C.size, C.size + 1))) := fun w g C n c hg => by
    subst hg; exact Lib.run_convert_bytes_const (P := Try.prog) w 22 5 C n c Try.underlying22 Try.underlying5
  have k1 : checkN [1] = ([], 10) := by decide
  go_enter Try.func8, Try.ntmps8
  go_wp2_with fail
  refine (check_any _ 1 1 [1] _ (by exact Has.new _ _ _) (by decide) (by decide)).mono ?_
  rintro e w1 ⟨v, rfl, hown, hbel⟩
  rw [k1] at hown ⊢
  have HB1 := Lib.hid (new_call (new_alloc (Below.refl _ _) _) hbel)
  clear hown hbel k1
  go_wp2_with fail
  have HB2 := Lib.hid (new_alloc (new_alloc HB1.out (.cells #[.int .u8 49, .int .u8 50, .int .u8 51, .int .u8 52, .int .u8 53] 5 (5, 6))) (.cells #[.int .u8 54, .int .u8 55, .int .u8 56, .int .u8 57] 5 (4, 5)))
  have h1 : Has ((w1.alloc (.cells #[.int .u8 49, .int .u8 50, .int .u8 51, .int .u8 52, .int .u8 53] 5 (5, 6))).alloc (.cells #[.int .u8 54, .int .u8 55, .int .u8 56, .int .u8 57] 5 (4, 5))) (some ⟨w1.heap.size, 0, none⟩) 5 5 (u8s [49, 50, 51, 52, 53]) :=
    (Has.const w1 #[.int .u8 49, .int .u8 50, .int .u8 51, .int .u8 52, .int .u8 53] _ _ _ rfl).alloc _
  have h2 : Has ((w1.alloc (.cells #[.int .u8 49, .int .u8 50, .int .u8 51, .int .u8 52, .int .u8 53] 5 (5, 6))).alloc (.cells #[.int .u8 54, .int .u8 55, .int .u8 56, .int .u8 57] 5 (4, 5))) (some ⟨w1.heap.size + 1, 0, none⟩) 4 4 (u8s [54, 55, 56, 57]) :=
    Has.const _ #[.int .u8 54, .int .u8 55, .int .u8 56, .int .u8 57] _ _ _ (by simp)
  have HO := Lib.hid (of_nine _ 22 _ _ h1 h2 (w1.heap.size + 1 + 1) (by simp))
  clear h1 h2
  refine HO.out.mono ?_
  rintro e w2 ⟨rfl, hb2⟩
  have HB3 := Lib.hid (new_call HB2.out hb2)
  clear hb2 HO HB2
  go_wp2_with fail
  refine (of_nil _).mono ?_
  rintro e w3 ⟨rfl, hb3⟩
  have HB4 := Lib.hid (new_call HB3.out hb3)
  clear hb3
  go_wp2
  go_ret
  exact ⟨rfl, HB4.out⟩
end Go.Proofs.Ytlmecbclnhkmbaa
