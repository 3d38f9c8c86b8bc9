/- The landed mesh: all fans. -/
import Derived.Test.YthjmojglcfmkmaaDoorMeshCodeE
import Derived.Laws.MakeOwn
namespace Go.Proofs.YthjmojglcfmkmaaDoor
open Go.RowKit

def firstA (F : Nat → D2) (n : Nat) : Array Value := Array.ofFn (n := n * 2) fun j => if j.val % 2 = 0 then .int .i64 (F (j.val / 2)).1 else .int .i64 (F (j.val / 2)).2
def cntA (C : Nat → Nat) (n : Nat) : Array Value := Array.ofFn (n := n) fun j => .int .i64 ((C j.val : Nat) : Int)
theorem firstA_at (F : Nat → D2) {n v : Nat} (h : v < n) : (firstA F n)[v * 2]? = some (.int .i64 (F v).1) ∧ (firstA F n)[v * 2 + 1]? = some (.int .i64 (F v).2) := by
  unfold firstA
  have h0 : v * 2 < n * 2 := by omega
  have h1 : v * 2 + 1 < n * 2 := by omega
  simp only [Array.getElem?_ofFn, h0, h1, dite_true]
  rw [if_pos (by omega), if_neg (by omega), show v * 2 / 2 = v by omega, show (v * 2 + 1) / 2 = v by omega]
  exact ⟨rfl, rfl⟩
theorem cntA_at (C : Nat → Nat) {n v : Nat} (h : v < n) : (cntA C n)[v]? = some (.int .i64 ((C v : Nat) : Int)) := by
  unfold cntA
  simp only [Array.getElem?_ofFn, h, dite_true]
def updN {α : Type} (f : Nat → α) (v : Nat) (a : α) (j : Nat) : α := if j = v then a else f j
theorem firstA_set (F : Nat → D2) (n v : Nat) (a b : Int) : ((firstA F n).setIfInBounds (v * 2) (.int .i64 a)).setIfInBounds (v * 2 + 1) (.int .i64 b) = firstA (updN F v (a, b)) n := by
  apply Array.ext_getElem?
  intro j
  rw [Array.getElem?_setIfInBounds, Array.getElem?_setIfInBounds]
  unfold firstA updN
  simp only [Array.getElem?_ofFn, Array.size_setIfInBounds, Array.size_ofFn]
  by_cases h1 : v * 2 + 1 = j
  · subst h1
    by_cases h : v * 2 + 1 < n * 2
    · simp only [h, dite_true, if_true]
      rw [if_neg (by omega), if_pos (by omega)]
    · simp only [h, dite_false, if_true, if_false]
  · rw [if_neg h1]
    by_cases h2 : v * 2 = j
    · subst h2
      by_cases h : v * 2 < n * 2
      · simp only [h, dite_true, if_true]
        rw [if_pos (by omega), if_pos (by omega)]
      · simp only [h, dite_false, if_true, if_false]
    · rw [if_neg h2]
      by_cases h : j < n * 2
      · have h3 : ¬ j / 2 = v := by omega
        simp only [h, dite_true, h3, if_false]
      · simp only [h, dite_false]
theorem cntA_set (C : Nat → Nat) (n v x : Nat) : (cntA C n).setIfInBounds v (.int .i64 (x : Int)) = cntA (updN C v x) n := by
  apply Array.ext_getElem?
  intro j
  rw [Array.getElem?_setIfInBounds]
  unfold cntA updN
  simp only [Array.getElem?_ofFn, Array.size_ofFn]
  by_cases h1 : v = j
  · subst h1
    by_cases h : v < n
    · simp only [h, dite_true, if_true]
    · simp only [h, dite_false, if_true, if_false]
  · rw [if_neg h1]
    by_cases h : j < n
    · simp only [h, dite_true]
      rw [if_neg (Ne.symm h1)]
    · simp only [h, dite_false]
theorem run_makeFirst (n : Nat) (hn : n ≤ 100000) (w : World) : (Instr.makeSlice 125 (.int .i64 (n : Int)) (.int .i64 (n : Int))).run Tryd.prog w = .ok (.slice (some ⟨w.heap.size, 0, none⟩) n n) (w.alloc (.cells (firstA (fun _ => (0, 0)) n) 124)) := by
  have h : (Tryd.prog.info? 124).map (fun i => (i.zero, i.size, i.bytes)) = some (some (.agg #[.int .i64 0, .int .i64 0]), 2, 16) := by kernel_rfl
  obtain ⟨i, h1, h2, h3, h4⟩ := info_parts h
  have hr := run_make (P := Tryd.prog) w _ _ i _ Tryd.underlying125 h1 h2 .i64 .i64 (n : Int) (n : Int) (by omega) (Int.le_refl _) (by rw [h4]; omega) (by omega)
  rw [Int.toNat_natCast, h3] at hr
  have e : madeCells (Value.agg #[.int .i64 0, .int .i64 0]).cells (n * 2) = firstA (fun _ => (0, 0)) n := by
    apply Array.ext
    · simp [madeCells, firstA]
    · intro j h1 h2
      have hj : j % 2 = 0 ∨ j % 2 = 1 := by omega
      rcases hj with hj | hj <;> simp [madeCells, firstA, Value.cells, hj]
  rw [e] at hr
  exact hr
theorem run_makeCnt (n : Nat) (hn : n ≤ 100000) (w : World) : (Instr.makeSlice 79 (.int .i64 (n : Int)) (.int .i64 (n : Int))).run Tryd.prog w = .ok (.slice (some ⟨w.heap.size, 0, none⟩) n n) (w.alloc (.cells (cntA (fun _ => 0) n) 3)) := by
  have h : (Tryd.prog.info? 3).map (fun i => (i.zero, i.size, i.bytes)) = some (some (.int .i64 0), 1, 8) := by kernel_rfl
  obtain ⟨i, h1, h2, h3, h4⟩ := info_parts h
  have hr := run_make (P := Tryd.prog) w _ _ i _ Tryd.underlying79 h1 h2 .i64 .i64 (n : Int) (n : Int) (by omega) (Int.le_refl _) (by rw [h4]; omega) (by omega)
  rw [Int.toNat_natCast, h3] at hr
  have e : madeCells (Value.int .i64 0).cells (n * 1) = cntA (fun _ => 0) n := by
    apply Array.ext
    · simp [madeCells, cntA]
    · intro j h1 h2
      simp [madeCells, cntA, Value.cells, Nat.mod_one]
  rw [e] at hr
  exact hr
/-- As far as the corners have been gone through: of each vertex how many, and where its fan begins. -/
structure FirstTo (T : List P3) (n : Nat) (K : List D2) (F : Nat → D2) (C : Nat → Nat) : Prop where
  cnt : ∀ v, v < n → C v = K.countP (fun d => decide (d.1 = (v : Int)))
  fst : ∀ v, v < n → 0 < C v → F v ∈ K ∧ (F v).1 = (v : Int) ∧ (swapD (F v) ∉ darts T ∨ ∀ d ∈ K, d.1 = (v : Int) → swapD d ∈ darts T)
theorem FirstTo.start (T : List P3) (n : Nat) : FirstTo T n [] (fun _ => (0, 0)) (fun _ => 0) := ⟨fun _ _ => rfl, fun _ _ h => absurd h (Nat.lt_irrefl 0)⟩
theorem cnt_next (K : List D2) (e : D2) (v : Nat) : (K ++ [e]).countP (fun d => decide (d.1 = (v : Int))) = K.countP (fun d => decide (d.1 = (v : Int))) + if e.1 = (v : Int) then 1 else 0 := by
  rw [List.countP_append, List.countP_cons, List.countP_nil, Nat.zero_add]
  congr 1
  by_cases h : e.1 = (v : Int)
  · rw [if_pos h, if_pos (decide_eq_true h)]
  · rw [if_neg h, if_neg (by simpa using h)]
theorem FirstTo.put {T : List P3} {n : Nat} {K : List D2} {F : Nat → D2} {C : Nat → Nat} (h : FirstTo T n K F C) {v : Nat} {q : Int} (hv : v < n) (hc : C v = 0 ∨ (q, (v : Int)) ∉ darts T) : FirstTo T n (K ++ [((v : Int), q)]) (updN F v ((v : Int), q)) (updN C v (C v + 1)) := by
  refine ⟨fun u hu => ?_, fun u hu hp => ?_⟩
  · rw [cnt_next, ← h.cnt u hu]
    unfold updN
    by_cases e : u = v
    · rw [if_pos e, if_pos (by rw [e]), e]
    · rw [if_neg e, if_neg (by show ¬ (v : Int) = (u : Int); omega)]
      rfl
  · unfold updN at hp ⊢
    by_cases e : u = v
    · rw [if_pos e]
      subst e
      refine ⟨List.mem_append_right _ (List.mem_singleton.2 rfl), rfl, ?_⟩
      by_cases h2 : (q, (u : Int)) ∈ darts T
      · rcases hc with h0 | h0
        · right
          intro d hd hdv
          rcases List.mem_append.1 hd with h3 | h3
          · have := h.cnt u hu
            rw [h0] at this
            have := List.countP_eq_zero.1 this.symm d h3
            simp [hdv] at this
          · rw [List.mem_singleton.1 h3]
            exact h2
        · exact absurd h2 h0
      · exact Or.inl h2
    · rw [if_neg e] at hp ⊢
      obtain ⟨a, b, c⟩ := h.fst u hu hp
      refine ⟨List.mem_append_left _ a, b, c.imp id fun hc d hd hdv => ?_⟩
      rcases List.mem_append.1 hd with h3 | h3
      · exact hc d h3 hdv
      · rw [List.mem_singleton.1 h3] at hdv
        exfalso
        exact e (by have : (v : Int) = (u : Int) := hdv; omega)
theorem FirstTo.pass {T : List P3} {n : Nat} {K : List D2} {F : Nat → D2} {C : Nat → Nat} (h : FirstTo T n K F C) {v : Nat} {q : Int} (_ : v < n) (hc : C v ≠ 0) (hd : (q, (v : Int)) ∈ darts T) : FirstTo T n (K ++ [((v : Int), q)]) F (updN C v (C v + 1)) := by
  refine ⟨fun u hu => ?_, fun u hu hp => ?_⟩
  · rw [cnt_next, ← h.cnt u hu]
    unfold updN
    by_cases e : u = v
    · rw [if_pos e, if_pos (by rw [e]), e]
    · rw [if_neg e, if_neg (by show ¬ (v : Int) = (u : Int); omega)]
      rfl
  · have hp2 : 0 < C u := by
      unfold updN at hp
      by_cases e : u = v
      · rw [e]; omega
      · rw [if_neg e] at hp; exact hp
    obtain ⟨a, b, c⟩ := h.fst u hu hp2
    refine ⟨List.mem_append_left _ a, b, c.imp id fun hcc d hdd hdv => ?_⟩
    rcases List.mem_append.1 hdd with h3 | h3
    · exact hcc d h3 hdv
    · rw [List.mem_singleton.1 h3]
      exact hd
theorem FirstTo.count {T : List P3} {n : Nat} {F : Nat → D2} {C : Nat → Nat} (h : FirstTo T n (darts T) F C) {v : Nat} (hv : v < n) : C v = (outV T (v : Int)).length := by
  rw [h.cnt v hv]
  unfold outV
  exact List.countP_eq_length_filter
/-- What the count of a fan tells. -/
theorem FirstTo.fan {T : List P3} {n m : Nat} {F : Nat → D2} {C : Nat → Nat} (h : FirstTo T n (darts T) F C) (hall : T.all (triM m) = true) (hnd : (darts T).Nodup) {v : Nat} (hv : v < n) (hp : C v ≠ 0) {N : Nat} (he : FanEnd T (F v) N) : Fan T (v : Int) ↔ C v ≤ N := by
  obtain ⟨a, b, c⟩ := h.fst v hv (by omega)
  rw [h.count hv]
  exact round_fan hall hnd a b c he.1 he.2
theorem FirstTo.none {T : List P3} {n : Nat} {F : Nat → D2} {C : Nat → Nat} (h : FirstTo T n (darts T) F C) {v : Nat} (hv : v < n) (hp : C v = 0) : ¬ Fan T (v : Int) := fan_out ((h.count hv).symm.trans hp)
end Go.Proofs.YthjmojglcfmkmaaDoor
