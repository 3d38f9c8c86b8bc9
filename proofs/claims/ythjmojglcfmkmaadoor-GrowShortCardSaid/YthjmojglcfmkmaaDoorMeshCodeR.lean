/- The landed mesh: a piece numbered. -/
import Derived.Test.YthjmojglcfmkmaaDoorMeshCodeQ
import Derived.Test.YthjmojglcfmkmaaDoorMeshSpread
namespace Go.Proofs.YthjmojglcfmkmaaDoor
open Go.RowKit

def rowA (a : Nat → Int) (m : Nat) : Array Value := Array.ofFn (n := m) fun j => .int .i64 (a j.val)
theorem rowA_at (a : Nat → Int) {m v : Nat} (h : v < m) : (rowA a m)[v]? = some (.int .i64 (a v)) := by
  unfold rowA
  simp only [Array.getElem?_ofFn, h, dite_true]
theorem rowA_set (a : Nat → Int) (m v : Nat) (x : Int) : (rowA a m).setIfInBounds v (.int .i64 x) = rowA (putI a v x) m := by
  apply Array.ext_getElem?
  intro j
  rw [Array.getElem?_setIfInBounds]
  unfold rowA putI
  simp only [Array.getElem?_ofFn, Array.size_ofFn]
  by_cases h1 : v = j
  · subst h1
    by_cases h : v < m
    · simp only [h, dite_true, if_true]
    · simp only [h, dite_false, if_true, if_false]
  · rw [if_neg h1]
    by_cases h : j < m
    · simp only [h, dite_true, Ne.symm h1, if_false]
    · simp only [h, dite_false]
theorem rowA_congr {a b : Nat → Int} {m : Nat} (h : ∀ j, j < m → a j = b j) : rowA a m = rowA b m := by
  unfold rowA
  apply Array.ext
  · rw [Array.size_ofFn, Array.size_ofFn]
  · intro j h1 h2
    rw [Array.size_ofFn] at h1
    simp only [Array.getElem_ofFn]
    rw [h j h1]
theorem own_pop {w : World} {base g c n : Nat} {e : TypeId} {xs : List Value} {u : Value} (h : Own w base e (.slice (some ⟨g, 0, none⟩) (n + 1) c) (xs ++ [u])) (hn : xs.length = n) : Own w base e (.slice (some ⟨g, 0, none⟩) n c) xs := by
  obtain ⟨hl, hcase⟩ := h
  subst hn
  rcases hcase with ⟨h1, _⟩ | ⟨g', cap, cur, h1, hg, hh, hc, hcap, hsz, ht⟩
  · cases h1
  · obtain ⟨rfl, rfl⟩ : g' = g ∧ cap = c := by
      injection h1 with e1 _ e3
      injection e1 with e1
      injection e1 with e1
      exact ⟨e1.symm, e3.symm⟩
    rw [List.length_append] at hc
    refine ⟨by omega, Or.inr ⟨g', cap, cur, rfl, hg, hh, by omega, hcap, hsz, ?_⟩⟩
    rw [Nat.mul_one] at ht ⊢
    have e := congrArg (List.take xs.length) ht
    rw [List.take_take, List.take_append_of_le_length (Nat.le_refl _), List.take_of_length_le (Nat.le_refl _)] at e
    rw [show min xs.length (xs ++ [u]).length = xs.length by rw [List.length_append]; omega] at e
    exact e
theorem grown_set (w : World) (p : Addr) (u : Value) : w.grownBy (w.setCell p u) (some p.block) :=
  ⟨rfl, rfl, rfl, by simp, fun k hk hne => Below.heap_setCell w p u k (fun e => hne (by rw [e]))⟩
/-- What a piece's numbering holds. -/
structure SpW (w : World) (Gp m : Nat) (a : Nat → Int) (v : Value) (pile : List Nat) (wx : World) : Prop where
  chg : Chg (fun k => k = Gp) w wx
  row : Blk wx Gp 3 (rowA a m)
  own : Own wx w.heap.size 3 v (natVs pile)
  low : Gp < w.heap.size
theorem SpW.next {w : World} {Gp m : Nat} {a : Nat → Int} {v : Value} {pile : List Nat} {wx w' : World} (h : SpW w Gp m a v pile wx) (hb : Below wx.heap.size wx w') : SpW w Gp m a v pile w' :=
  ⟨h.chg.then_ (Chg.of_below (D := fun k => k = Gp) hb) (fun _ _ e => e), h.row.below hb h.row.lt, h.own.keep hb, h.low⟩
theorem SpW.put {w : World} {Gp m : Nat} {a : Nat → Int} {v : Value} {pile : List Nat} {wx : World} (h : SpW w Gp m a v pile wx) (u : Nat) (x : Int) : SpW w Gp m (putI a u x) v pile (wx.setCell ⟨Gp, u, none⟩ (.int .i64 x)) := by
  refine ⟨h.chg.then_ (D' := fun k => k = Gp) ⟨rfl, rfl, rfl, by simp, fun k hk hne => Below.heap_setCell wx _ _ k hne⟩ (fun _ _ e => e), ?_, h.own.grown (grown_set _ _ _) (fun k e => by cases e; exact h.low), h.low⟩
  have := h.row.set_ u (.int .i64 x)
  rw [rowA_set] at this
  exact this
theorem SpW.app {w : World} {Gp m : Nat} {a : Nat → Int} {v v' : Value} {pile : List Nat} {u : Nat} {wx w' : World} (h : SpW w Gp m a v pile wx) (ho : Own w' w.heap.size 3 v' (natVs pile ++ intVs [(u : Int)])) (hb : Below w.heap.size wx w') : SpW w Gp m a v' (pile ++ [u]) w' := by
  rw [natVs_app] at ho
  exact ⟨⟨hb.os.trans h.chg.os, hb.tape.trans h.chg.tape, hb.output.trans h.chg.output, Nat.le_trans h.chg.size hb.size, fun k hk hne => (hb.block k hk).trans (h.chg.block k hk hne)⟩, h.row.below hb h.low, ho, h.low⟩
theorem SpW.pop {w : World} {Gp m : Nat} {a : Nat → Int} {g c n : Nat} {l : List Nat} {x : Nat} {wx : World} (h : SpW w Gp m a (.slice (some ⟨g, 0, none⟩) (n + 1) c) (l ++ [x]) wx) (hn : l.length = n) : SpW w Gp m a (.slice (some ⟨g, 0, none⟩) n c) l wx := by
  have ho := h.own
  rw [← natVs_app] at ho
  exact ⟨h.chg, h.row, own_pop (u := .int .i64 (x : Int)) ho (by rw [natVs_len]; exact hn), h.low⟩
theorem rowA_none (m : Nat) (f : Nat → Nat) : (repL m m).toArray = rowA (numTo f 0) m := by
  rw [repL_all]
  apply Array.ext_getElem?
  intro j
  unfold rowA intVs numTo
  rw [List.getElem?_toArray, List.getElem?_map, List.getElem?_replicate]
  simp only [Array.getElem?_ofFn]
  by_cases h : j < m
  · simp [h]
  · simp [h]
theorem rowA_nums (p : List Nat) {f : Nat → Nat} (hf : ∀ j, ∀ h : j < p.length, f j = p[j]) {N : Nat} (hN : ∀ j, j < p.length → f j < N) : (rowA (numTo f N) p.length).toList = natVs p := by
  apply List.ext_getElem?
  intro j
  rw [Array.getElem?_toList]
  by_cases h : j < p.length
  · rw [rowA_at _ h, natVs_at h]
    unfold numTo
    rw [if_pos (hN j h), hf j h]
  · unfold rowA
    rw [List.getElem?_eq_none (by rw [natVs_len]; omega)]
    simp only [Array.getElem?_ofFn, h, dite_false]
end Go.Proofs.YthjmojglcfmkmaaDoor
