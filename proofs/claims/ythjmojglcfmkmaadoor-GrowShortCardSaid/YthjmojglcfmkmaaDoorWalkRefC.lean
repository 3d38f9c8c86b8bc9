/- lapidaryref11: take. -/
import Derived.Test.YthjmojglcfmkmaaDoorWalkRef
import Derived.Deep.RegionHeld3
import Derived.Deep.CutRange
namespace Go.Proofs.YthjmojglcfmkmaaDoor
open Go.RowKit

/-- A triangle taken. -/
def takeW (s : WS) (i : Nat) (a b c z : Int) : WS := { V := s.V, O := s.O ++ [i], N := s.N ++ [(findW s.V a, findW s.V b, findW s.V c)], G := (if z = 0 then s.G ++ [(a, b)] else s.G) ++ [(b, c), (c, a)], S := s.S }
theorem seed_take (T : List P3) (s : WS) (i : Nat) : seedW T s i = takeW { s with V := meetW (meetW (meetW s.V (T[i]?.getD (0, 0, 0)).1) (T[i]?.getD (0, 0, 0)).2.1) (T[i]?.getD (0, 0, 0)).2.2, S := s.S ++ [(0, 0)] } i (T[i]?.getD (0, 0, 0)).1 (T[i]?.getD (0, 0, 0)).2.1 (T[i]?.getD (0, 0, 0)).2.2 0 := by
  unfold seedW takeW
  simp
theorem step_take (T : List P3) (s : WS) (i : Nat) (p q : Int) : stepTo T s i p q = takeW { s with V := meetW s.V (thirdV (T[i]?.getD (0, 0, 0)) p q), G := s.G.dropLast, S := s.S ++ [if thirdV (T[i]?.getD (0, 0, 0)) p q ∈ s.V then (3, findW s.V (thirdV (T[i]?.getD (0, 0, 0)) p q)) else (2, 0)] } i q p (thirdV (T[i]?.getD (0, 0, 0)) p q) 1 := by
  unfold stepTo takeW
  simp
theorem own_plain {w : World} {base : Nat} {e : TypeId} {A : Option Addr} {n c : Nat} {xs : List Value} (h : OwnK 1 w base e (.slice A n c) n xs) : Has w A n c xs := by
  obtain ⟨A', c', e, h2⟩ := h.has
  cases e
  exact h2.plain
theorem blk_second {w : World} {t t' : TypeId} {cs cs' : Array Value} : Blk ((w.alloc (.cells cs t)).alloc (.cells cs' t')) (w.heap.size + 1) t' cs' := by
  have h := Blk.new (w.alloc (.cells cs t)) t' cs'
  rw [show (w.alloc (.cells cs t)).heap.size = w.heap.size + 1 from Array.size_push _] at h
  exact h
end Go.Proofs.YthjmojglcfmkmaaDoor
