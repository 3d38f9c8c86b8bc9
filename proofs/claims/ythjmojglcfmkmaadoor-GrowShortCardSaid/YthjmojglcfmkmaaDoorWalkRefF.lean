/- lapidaryref11: Walk. -/
import Derived.Test.YthjmojglcfmkmaaDoorWalkRefE
import Derived.Test.YthjmojglcfmkmaaDoorWalkFine
import Derived.Test.YthjmojglcfmkmaaDoorMeshPair
namespace Go.Proofs.YthjmojglcfmkmaaDoor
open Go.RowKit

/-- A walk, and an error, in new memory. -/
def Walkd (w : World) (s : WS) (r : Int) (e : Ending) (w' : World) : Prop := ∃ a b c d f, e = .returned (.tuple #[.agg #[a, b, c, d, f], .int .i64 r]) ∧ WRows w' (fun k => w.heap.size ≤ k) 66 a b c d f s ∧ Below w.heap.size w w'
/-- Where Walk's rows may lie. -/
def farW (w : World) : Nat → Prop := fun k => w.heap.size + 3 ≤ k
section
variable {w : World} {F : Nat → Prop} {x y a b c d f : Value} {s : WS} {wx w' : World}
end
theorem cutF_self (F : Nat → Prop) (g : Nat) : ¬ cutF F g 1 g := fun e => e.2 ⟨Nat.le_refl _, Nat.lt_succ_self _⟩
theorem set5_far {W : World} {g q : Nat} {t : TypeId} {cs : Array Value} {a b c d f : Value} (h : Blk W g t cs) (hn : g ≠ q) : Blk (((((W.setCell ⟨q, 0, none⟩ a).setCell ⟨q, 1, none⟩ b).setCell ⟨q, 2, none⟩ c).setCell ⟨q, 3, none⟩ d).setCell ⟨q, 4, none⟩ f) g t cs := ((((h.far hn _).far hn _).far hn _).far hn _).far hn _
end Go.Proofs.YthjmojglcfmkmaaDoor
