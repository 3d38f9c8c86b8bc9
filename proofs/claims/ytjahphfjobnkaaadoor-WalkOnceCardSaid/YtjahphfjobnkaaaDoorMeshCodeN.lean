/- The landed mesh: Copy. -/
import Derived.Test.YtjahphfjobnkaaaDoorMeshCodeM
import Derived.Test.YtjahphfjobnkaaaDoorMeshOwn
import Derived.Deep.RegionLaw
namespace Go.Proofs.YtjahphfjobnkaaaDoor
open Go.RowKit

theorem meshInfo : (Tryd.prog.info? 25).map (fun i => (i.zero, i.size)) = some (some (.agg #[.slice none 0 0, .slice none 0 0]), 2) := by kernel_rfl
theorem mesh_load (W : World) (a b : Value) (g : Nat) (h : Blk W g 25 #[a, b]) : (loadVar 25 ⟨g, 0, none⟩).run Tryd.prog W = .ok (.agg #[a, b]) W := by
  obtain ⟨kz, ks⟩ := zero_of_info meshInfo
  exact run_loadVar_row _ _ _ _ _ _ _ h Tryd.underlying25 rfl (by rw [ks]; rfl)
theorem below_nil {w w' : World} (hg : w.grownBy w' (Value.slice none 0 0).ownBlock) : Below w.heap.size w w' := ⟨hg.os, hg.tape, hg.output, hg.size, fun k hk => hg.block k hk (by simp [Value.ownBlock])⟩
/-- A row that was laid when the other one lay already is another one. -/
theorem own_apart {w1 w2 : World} {base base' : Nat} {e e' : TypeId} {A B : Option Addr} {n c m d : Nat} {xs ys : List Value} (h1 : OwnK 3 w1 base e (.slice A n c) n xs) (_ : OwnK 3 w2 base' e' (.slice B m d) m ys) (hw : ∀ g, (Value.slice B m d).ownBlock = some g → (Value.slice none 0 0).ownBlock = some g ∨ w1.heap.size ≤ g) : ∀ b off b' off', A = some ⟨b, off, none⟩ → B = some ⟨b', off', none⟩ → b ≠ b' := by
  intro b off b' off' e1 e2
  subst e1 e2
  have hb : b < w1.heap.size := by
    rcases h1.2 with ⟨h, _⟩ | ⟨g, cap, cur, h, _, hc, _⟩
    · cases h
    · cases h; exact (Array.getElem?_eq_some_iff.1 hc).1
  rcases hw b' rfl with h | h
  · cases h
  · omega
theorem copy_end {f : Value → Ending} {w wl : World} {a b : Value} {Ap At : Option Addr} {n m cp ct : Nat} {P T : List P3} (hl : P.length = n) (hm : T.length = m) (hk : MeshTwo w a b (.slice none 0 0) (.slice none 0 0) wl)
    (hp : OwnK 3 wl (w.heap.size + 2) 49 (.slice Ap n cp) n (p3Cells P)) (ht : OwnK 3 wl (w.heap.size + 2) 50 (.slice At m ct) m (p3Cells T)) (ha : ∀ b off b' off', Ap = some ⟨b, off, none⟩ → At = some ⟨b', off', none⟩ → b ≠ b') :
    MeshOut w P T f (f (.agg #[.slice Ap n cp, .slice At m ct])) ((wl.setCell ⟨w.heap.size + 1, 0, none⟩ (.slice Ap n cp)).setCell ⟨w.heap.size + 1, 1, none⟩ (.slice At m ct)) ∧
    Blk ((wl.setCell ⟨w.heap.size + 1, 0, none⟩ (.slice Ap n cp)).setCell ⟨w.heap.size + 1, 1, none⟩ (.slice At m ct)) (w.heap.size + 1) 25 #[.slice Ap n cp, .slice At m ct] := by
  subst hl hm
  have far : ∀ {v : Value} {e : TypeId} {k : Nat} {xs : List Value}, OwnK 3 wl (w.heap.size + 2) e v k xs → OwnK 3 ((wl.setCell ⟨w.heap.size + 1, 0, none⟩ (.slice Ap P.length cp)).setCell ⟨w.heap.size + 1, 1, none⟩ (.slice At T.length ct)) w.heap.size e v k xs := fun {v e k xs} h => by
    have hn : ∀ g c, v = .slice (some ⟨g, 0, none⟩) k c → g ≠ w.heap.size + 1 := fun g c e => by have := (own3_lt h g c e).1; omega
    exact ((h.far hn _).far hn _).less (Nat.le_add_right _ _)
  exact ⟨⟨Ap, cp, At, ct, rfl, far hp, far ht, (hk.bel.setCell (Nat.le_succ _) _).setCell (Nat.le_succ _) _, ha⟩, (hk.b1.set_ 0 _).set_ 1 _⟩
end Go.Proofs.YtjahphfjobnkaaaDoor
