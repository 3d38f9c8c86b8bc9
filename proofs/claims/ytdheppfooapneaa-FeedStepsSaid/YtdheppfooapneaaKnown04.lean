/- lapidarylaw04.known: what the chapter's example fixes. -/
import Derived.Test.YtdheppfooapneaaFeedCode
import Derived.Outline
namespace Go.Proofs.Ytdheppfooapneaa
open Go.RowKit

theorem Parts.trio {w : World} {A B C : Option Addr} {n c m d p q : Nat} {l r s : List Nat} (h : Has w A n c (u8s l)) (h2 : Has w B m d (u8s r)) (h3 : Has w C p q (u8s s)) (e : TypeId) (g : Nat) (hg : g = w.heap.size) : Parts (w.alloc (.cells #[.slice A n c, .slice B m d, .slice C p q] e)) (some ⟨g, 0, Option.none⟩) 3 3 [l, r, s] := by
  refine ⟨[.slice A n c, .slice B m d, .slice C p q], Has.new_at _ _ _ g hg, rfl, fun i hi => ?_⟩
  match i, hi with
  | 0, _ => exact ⟨A, n, c, rfl, h.alloc _⟩
  | 1, _ => exact ⟨B, m, d, rfl, h2.alloc _⟩
  | 2, _ => exact ⟨C, p, q, rfl, h3.alloc _⟩
theorem example_all : ([[76], [], [80, 68, 89, 1, 0]].flatten.foldl stepN st0) = ⟨[0], 0, true, 6, [], 0⟩ := rfl
theorem trio_rob {D : Nat → Prop} {w : World} (hD : Sit D w.heap.size) : Rob D (((w.alloc (.cells #[.int .u8 76] 5)).alloc (.cells #[.int .u8 80, .int .u8 68, .int .u8 89, .int .u8 1, .int .u8 0] 5)).alloc (.cells #[.slice (some ⟨w.heap.size, 0, none⟩) 1 1, .slice none 0 0, .slice (some ⟨w.heap.size + 1, 0, none⟩) 5 5] 22)) fun W => Parts W (some ⟨w.heap.size + 1 + 1, 0, none⟩) 3 3 [[76], [], [80, 68, 89, 1, 0]] := by
  refine Rob.alloc (Rob.alloc (Rob.alloc (fun W hW => ?_) hD) (hD.le (by simp))) (hD.le (by simp; omega))
  have hz := hW.size
  refine Parts.trio ?_ (Has.none _ _ _ fun _ => rfl) ?_ _ _ (by simp [hz])
  · have := Has.new_at W #[.int .u8 76] 5 w.heap.size hz.symm
    exact this.alloc _
  · exact Has.new_at (W.alloc _) #[.int .u8 80, .int .u8 68, .int .u8 89, .int .u8 1, .int .u8 0] 5 (w.heap.size + 1) (by simp [hz])

set_option maxRecDepth 100000 in
set_option maxHeartbeats 400000 in
theorem known04 (w : World) : Calls Try.prog 7 #[] w fun e w' => e = .returned (.bool true) ∧ Below w.heap.size w w' := by
  go_enter Try.func7, Try.ntmps7
  go_wp2_with fail
  refine (feedNew_any _).mono ?_
  rintro e w1 ⟨p, S1, rfl, hf1, hS1, hb1⟩
  have HF1 := Lib.hid hf1
  have HS1 := Lib.hid hS1
  have HB1 := Lib.hid hb1
  clear hf1 hS1 hb1
  go_wp2_with fail
  have hz0 := HB1.out.size
  have HA3 : Hid (Below w1.heap.size w1 (((w1.alloc (.cells #[.int .u8 76] 5)).alloc (.cells #[.int .u8 80, .int .u8 68, .int .u8 89, .int .u8 1, .int .u8 0] 5)).alloc (.cells #[.slice (some ⟨w1.heap.size, 0, none⟩) 1 1, .slice none 0 0, .slice (some ⟨w1.heap.size + 1, 0, none⟩) 5 5] 22))) := new_alloc (new_alloc (new_alloc (Below.refl _ _) _) _) _
  have HF3 := Lib.hid (HF1.out.chg (D := fun _ => False) (Chg.of_below HA3.out) (fun _ _ h => h))
  have HT3 := Lib.hid (trio_rob (D := S1) HF1.out.sit)
  have hz3 := HA3.out.size
  have HB3 := Lib.hid (new_call HB1.out HA3.out)
  generalize ((w1.alloc (.cells #[.int .u8 76] 5)).alloc (.cells #[.int .u8 80, .int .u8 68, .int .u8 89, .int .u8 1, .int .u8 0] 5)).alloc (.cells #[.slice (some ⟨w1.heap.size, 0, none⟩) 1 1, .slice none 0 0, .slice (some ⟨w1.heap.size + 1, 0, none⟩) 5 5] 22) = w3 at *
  refine (feedFeed_any p S1 st0 _ 3 3 [[76], [], [80, 68, 89, 1, 0]] w3 HF3.out HT3.out (by decide) (by decide) (by decide)).mono ?_
  rintro e w4 ⟨S4, rfl, hf4, hc4, hs4⟩
  rw [example_all] at hf4 ⊢
  have HF4 := Lib.hid hf4
  have HS4 : Hid (∀ k, S4 k → w.heap.size ≤ k) := fun k hk => by
    rcases hs4 k hk with h | h
    · exact HS1.out k h
    · omega
  have HB4 : Hid (Below w.heap.size w w4) := HB3.out.trans (hc4.below HS1.out HB3.out.size)
  clear hf4 hc4 hs4
  go_wp2_with fail
  refine (feedClose_any p S4 _ w4 HF4.out).mono ?_
  rintro e w5 ⟨S5, R5, A5, c5, rfl, _, _, hf5, hc5, hs5⟩
  have HF5 := Lib.hid hf5
  have hz5 := HB4.out.size
  have HS5 : Hid (∀ k, S5 k → w.heap.size ≤ k) := fun k hk => by
    rcases hs5 k hk with h | h
    · exact HS4.out k h
    · omega
  have HB5 : Hid (Below w.heap.size w w5) := HB4.out.trans (hc5.below HS4.out HB4.out.size)
  clear hf5 hc5 hs5
  rw [show closeN ⟨[0], 0, true, 6, [], 0⟩ = ([], 0) from rfl]
  go_wp2_with fail
  refine (feedFeed_closed p S5 _ w5 HF5.out).mono ?_
  rintro e w6 ⟨S6, rfl, hf6, hc6, hs6⟩
  have HF6 := Lib.hid hf6
  have HB6 : Hid (Below w.heap.size w w6) := HB5.out.trans (hc6.below HS5.out HB5.out.size)
  clear hf6 hc6 hs6
  go_wp2_with fail
  refine (feedFeed_nil w6).mono ?_
  rintro e w7 ⟨rfl, hb7⟩
  have HF7 := Lib.hid (HF6.out.chg (D := fun _ => False) (Chg.of_below hb7) (fun _ _ h => h))
  have HB7 := Lib.hid (new_call HB6.out hb7)
  clear hb7
  go_wp2_with fail
  refine (feedTaken_any p S6 _ true w7 HF7.out).mono ?_
  rintro e w8 ⟨rfl, hb8⟩
  have HB8 := Lib.hid (new_call HB7.out hb8)
  clear hb8
  go_wp2
  go_ret
  exact ⟨rfl, HB8.out⟩
end Go.Proofs.Ytdheppfooapneaa
