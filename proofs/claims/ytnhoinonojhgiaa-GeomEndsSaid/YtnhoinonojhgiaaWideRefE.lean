/- lapidaryref08: Dot. -/
import Derived.Test.YtnhoinonojhgiaaWideRefD
namespace Go.Proofs.Ytnhoinonojhgiaa
open Go.RowKit

theorem results_pair8 {fn : Func} {p u : Tmp} {ty : TypeId} (h : fn.results = #[.cell p ty, .tmp u]) {tmps : Array Value} {P : Program} {w : World} {a : Addr} {v : Value} (hp : tmps.getD p undef = .pointer (some a))
    (hl : (loadVar ty a).run P w = .ok v w) : (results fn tmps).run P w = .ok (.tuple #[v, tmps.getD u undef]) w := by
  have hp' : tmps[p]?.getD undef = .pointer (some a) := by rw [← hp]; simp
  simp only [results, h]
  simp [hp', asAddr, hl]
theorem Bigd.cong {w : World} {x y : Int} {e : Ending} {w' : World} (h : Bigd w x e w') (hc : Cong x y) : Bigd w y e w' := by
  obtain ⟨A, c, h1, h2, h3, h4⟩ := h
  rw [digI_cong hc] at h2
  exact ⟨A, c, h1, h2, h3, h4⟩
theorem ref8MulD_any (A : Option Addr) (c : Nat) (x : Int) (B : Option Addr) (d : Nat) (y : Int) (w : World) (hA : Has w A 8 c (intVs (digI 8 x))) (hB : Has w B 8 d (intVs (digI 8 y))) :
    Calls Try.prog 48 #[.agg #[.slice A 8 c], .agg #[.slice B 8 d]] w (Bigd w (x * y)) :=
  (ref8Mul_any A c _ B d _ w hA hB (digI_bd 8 x) (digI_bd 8 y)).mono fun _ _ h => h.cong ((val_cong x).mul (val_cong y)).symm
theorem ref8AddD_any (A : Option Addr) (c : Nat) (x : Int) (B : Option Addr) (d : Nat) (y : Int) (w : World) (hA : Has w A 8 c (intVs (digI 8 x))) (hB : Has w B 8 d (intVs (digI 8 y))) :
    Calls Try.prog 43 #[.agg #[.slice A 8 c], .agg #[.slice B 8 d]] w (Bigd w (x + y)) :=
  (ref8Add_any A c _ B d _ w hA hB (digI_bd 8 x) (digI_bd 8 y)).mono fun _ _ h => h.cong ((val_cong x).add (val_cong y)).symm
/-- The sum of the products of every two. -/
def dotI : List Int → Int
  | a :: b :: l => a * b + dotI l
  | _ => 0
theorem dot_drop {l : List Int} {i : Nat} (h1 : 2 * i < l.length) (h2 : 2 * i + 1 < l.length) : dotI (l.drop (2 * i)) = l[2 * i] * l[2 * i + 1] + dotI (l.drop (2 * (i + 1))) := by
  rw [List.drop_eq_getElem_cons h1, List.drop_eq_getElem_cons h2, show 2 * i + 1 + 1 = 2 * (i + 1) by omega]
  rfl
/-- What Dot tells. -/
def dotR (l : List Int) : Int × Nat := if l.length % 2 ≠ 0 then (0, 2) else (dotI l, 0)
def Dotd (w : World) (r : Int × Nat) (e : Ending) (w' : World) : Prop := ∃ A c, e = .returned (.tuple #[.agg #[.slice A 8 c], .int .i64 (r.2 : Int)]) ∧ Has w' A 8 c (intVs (digI 8 r.1)) ∧ Below w.heap.size w w'
theorem dot_pass {w w2 : World} {g : Nat} {A : Option Addr} {c : Nat} {x : Int} {v : Value} (hK : Blk w2 g 39 #[v]) (hg : w.heap.size ≤ g) (hh : Has w2 A 8 c (intVs (digI 8 x))) (hn : ∀ b off, A = some ⟨b, off, none⟩ → g < b) (hB : Below w.heap.size w w2) (k : Nat) :
    (loadVar 39 ⟨g, 0, none⟩).run Try.prog (w2.setCell ⟨g, 0, none⟩ (.slice A 8 c)) = .ok (.agg #[.slice A 8 c]) (w2.setCell ⟨g, 0, none⟩ (.slice A 8 c))
      ∧ Dotd w (x, k) (.returned (.tuple #[.agg #[.slice A 8 c], .int .i64 (k : Int)])) (w2.setCell ⟨g, 0, none⟩ (.slice A 8 c)) := by
  obtain ⟨h1, A', c', h2, h3, h4, _⟩ := big_pass hK hg hh hn hB
  cases h2
  exact ⟨h1, A, c, rfl, h3, h4⟩
/-- The sum so far, in its place, and the answer's. -/
structure SumAt (w : World) (g : Nat) (A : Option Addr) (c : Nat) (x : Int) (wx : World) : Prop where
  b0 : Blk wx w.heap.size 39 #[.slice none 0 0]
  b1 : Blk wx g 39 #[.slice A 8 c]
  has : Has wx A 8 c (intVs (digI 8 x))
  far : ∀ b off, A = some ⟨b, off, none⟩ → b ≠ g ∧ w.heap.size < b
  bel : Below w.heap.size w wx
  gt : w.heap.size < g
theorem SumAt.next {w wx w' : World} {g : Nat} {A : Option Addr} {c : Nat} {x : Int} (h : SumAt w g A c x wx) (hb : Below wx.heap.size wx w') : SumAt w g A c x w' :=
  ⟨h.b0.below hb h.b0.lt, h.b1.below hb h.b1.lt, h.has.kept hb, h.far, new_call h.bel hb, h.gt⟩
theorem SumAt.put {w wx w' : World} {g : Nat} {A A' : Option Addr} {c c' : Nat} {x x' : Int} (h : SumAt w g A c x wx) (hb : Below wx.heap.size wx w') (hh : Has w' A' 8 c' (intVs (digI 8 x'))) (hn : ∀ b off, A' = some ⟨b, off, none⟩ → wx.heap.size ≤ b) : SumAt w g A' c' x' (w'.setCell ⟨g, 0, none⟩ (.slice A' 8 c')) := by
  have h2 := h.next hb
  have hg := h.b1.lt
  have hgt := h.gt
  refine ⟨h2.b0.far (by show w.heap.size ≠ g; omega) _, h2.b1.set_ 0 _, hh.off g (fun b off hA => by have := hn b off hA; omega) 0 _, fun b off hA => by have := hn b off hA; omega, h2.bel.setCell (Nat.le_of_lt hgt) _, hgt⟩
end Go.Proofs.Ytnhoinonojhgiaa
