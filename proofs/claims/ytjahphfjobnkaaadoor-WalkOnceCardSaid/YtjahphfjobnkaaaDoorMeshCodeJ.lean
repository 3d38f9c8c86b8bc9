/- The landed mesh: edges sorted. -/
import Derived.Test.YtjahphfjobnkaaaDoorMeshCodeI
namespace Go.Proofs.YtjahphfjobnkaaaDoor
open Go.RowKit Go.Lib Go.Sort

def ltE (d e : D2) : Prop := d.1 < e.1 ∨ (d.1 = e.1 ∧ d.2 < e.2)
def leE (d e : D2) : Prop := d.1 < e.1 ∨ (d.1 = e.1 ∧ d.2 ≤ e.2)
theorem cmpE_lt (d e : D2) : cmpE d e < 0 ↔ ltE d e := by
  unfold cmpE cmpI3 ltE
  grind
theorem ltOf_iff (d e : D2) : ltOf cmpE d e = true ↔ ltE d e := by
  unfold ltOf
  rw [decide_eq_true_iff]
  exact cmpE_lt d e
theorem ltOf_not (d e : D2) : ltOf cmpE d e = false ↔ leE e d := by
  have h := ltOf_iff d e
  cases hq : ltOf cmpE d e with
  | true =>
    have := h.1 hq
    unfold ltE at this
    unfold leE
    constructor
    · intro h2; cases h2
    · intro h2; exfalso; omega
  | false =>
    have : ¬ ltE d e := fun h2 => by have := h.2 h2; rw [hq] at this; cases this
    unfold ltE at this
    unfold leE
    exact ⟨fun _ => by omega, fun _ => rfl⟩
theorem swoE : SWO (ltOf cmpE) where
  irrefl x := by rw [ltOf_not]; exact Or.inr ⟨rfl, Int.le_refl _⟩
  trans x y z h1 h2 := by rw [ltOf_iff] at *; unfold ltE at *; omega
  ntrans x y z h1 h2 := by rw [ltOf_not] at *; unfold leE at *; omega
theorem leE_anti {d e : D2} (h1 : leE d e) (h2 : leE e d) : d = e := by
  unfold leE at *
  exact Prod.ext (by omega) (by omega)
theorem sorted_one : ∀ {l m : List D2}, l.Perm m → l.Pairwise leE → m.Pairwise leE → l = m := by
  intro l
  induction l with
  | nil => intro m hp _ _; exact (List.Perm.nil_eq hp)
  | cons x l ih =>
    intro m hp hl hm
    cases m with
    | nil => exact absurd hp.length_eq (by simp)
    | cons y m =>
      rw [List.pairwise_cons] at hl hm
      have e : x = y := by
        rcases List.mem_cons.1 (hp.mem_iff.1 (List.mem_cons_self ..)) with h | h
        · exact h
        · rcases List.mem_cons.1 (hp.mem_iff.2 (List.mem_cons_self ..)) with h2 | h2
          · exact h2.symm
          · exact leE_anti (hl.1 _ h2) (hm.1 _ h)
      subst e
      rw [ih ((List.perm_cons _).1 hp) hl.2 hm.2]
theorem pairs_sorted (n : Nat) : (pairsN n).Pairwise leE := by
  unfold pairsN
  rw [List.pairwise_flatMap]
  constructor
  · intro a _
    rw [List.pairwise_map]
    refine List.Pairwise.imp ?_ List.pairwise_lt_range
    intro i j h
    exact Or.inr ⟨rfl, by show (i : Int) ≤ (j : Int); omega⟩
  · refine List.Pairwise.imp ?_ List.pairwise_lt_range
    intro a b h x hx y hy
    obtain ⟨i, _, rfl⟩ := List.mem_map.1 hx
    obtain ⟨j, _, rfl⟩ := List.mem_map.1 hy
    exact Or.inl (by show (a : Int) < (b : Int); omega)
theorem edges_sorted (n : Nat) (T : List P3) (b : Bool) : (edgesF n T b).Pairwise leE := (pairs_sorted n).filter _
/-- What is sorted and has the same members is the same. -/
theorem sorted_edges {n : Nat} {T : List P3} {b : Bool} {l l' : List D2} (hn : l.Nodup) (hm : ∀ d, d ∈ l ↔ d ∈ edgesF n T b) (hp : l'.Perm l) (hs : l'.Pairwise leE) : l' = edgesF n T b :=
  sorted_one (hp.trans (perm_of_mem hn (edges_nodup n T b) hm)) hs (edges_sorted n T b)
def encE (d : D2) : List Value := [.int .i64 d.1, .int .i64 d.2]
theorem flat_at (l : List D2) (t : Nat) (h : t < l.length * 2) : (e2Cells l)[t]? = some (flatK encE 2 l.toArray)[t]! := by
  rw [get_flatK encE 2 l.toArray t (by simpa using h)]
  have hi : t / 2 < l.length := by omega
  obtain ⟨a, b⟩ := e2Cells_at hi
  have e : l.toArray[t / 2]! = l[t / 2] := by
    rw [getElem!_pos l.toArray (t / 2) (by simpa using hi)]
    rfl
  rw [e]
  rcases (show t % 2 = 0 ∨ t % 2 = 1 by omega) with h0 | h0
  · have et : t / 2 * 2 = t := by omega
    rw [h0]
    rw [et] at a
    rw [a]
    rfl
  · have et : t / 2 * 2 + 1 = t := by omega
    rw [h0]
    rw [et] at b
    rw [b]
    rfl
theorem isAggE : ∀ w, (isAgg 79).run Tryd.prog w = .ok true w := Tryd.isAgg79
theorem sizeOfE : ∀ w, (Go.sizeOf 79).run Tryd.prog w = .ok 2 w := Tryd.sizeOf79
theorem cmpLaysE (blk off size : Nat) (w : World) : CmpLays Tryd.prog 37 #[] encE 2 cmpE blk off size w := fun m os dk _ x y =>
  (byVertices_any x y (sortWorldK encE 2 w blk off m dk os)).mono fun e w' ⟨he, hw⟩ => ⟨he, 1, #[.cells #[.int .i64 x.1, .int .i64 x.2] 79, .cells #[.int .i64 y.1, .int .i64 y.2] 79], by
    rw [hw, alloc_eq_grow, alloc_eq_grow, grow_grow]
    rfl⟩
theorem holds_down {w : World} {base g n cap : Nat} {e : TypeId} {l : List D2} (ho : OwnK 2 w base e (.slice (some ⟨g, 0, none⟩) n cap) n (e2Cells l)) : HoldsK encE 2 w g 0 l.toArray ∧ n ≤ cap ∧ base ≤ g ∧ g < w.heap.size := by
  obtain ⟨h1, ⟨h2, _⟩ | ⟨g', cap', cur, h2, h3, h4, h5, h6, h7, h8⟩⟩ := ho
  · cases h2
  · cases h2
    refine ⟨fun j hj => ?_, h5, h3, (Array.getElem?_eq_some_iff.1 h4).1⟩
    have hj2 : j < l.length * 2 := by
      have : j < (flatK encE 2 l.toArray).size := hj
      rw [size_flatK] at this
      simpa using this
    have hl : l.length = n := by
      rw [e2Cells_len] at h1
      omega
    constructor
    · rw [Nat.zero_add, cell_of_row w g j cur e (0, 0) h4]
      have h9 := flat_at l j hj2
      rw [← h8, List.getElem?_take, if_pos (by omega)] at h9
      show _ = some (flatK encE 2 l.toArray)[j]!
      rw [← h9]
      exact (Array.getElem?_toList).symm
    · rw [Nat.zero_add]
      exact Blk.frozen (t := e) (cs := cur) h4 j
theorem holds_up {w : World} {g cap : Nat} {d : Array D2} (hH : HoldsK encE 2 w g 0 d) (hg : g < w.heap.size) (hc : d.size ≤ cap) : HasK 2 w (some ⟨g, 0, none⟩) d.toList.length cap (e2Cells d.toList) := by
  refine ⟨by rw [e2Cells_len], by simpa using hc, fun h => (by cases h), fun _ => ⟨g, 0, rfl, hg, fun j u hu => ?_⟩⟩
  have hj : j < d.toList.length * 2 := by
    have := (List.getElem?_eq_some_iff.1 hu).1
    rwa [e2Cells_len] at this
  have h9 := flat_at d.toList j hj
  rw [hu] at h9
  have h10 := (hH j (by show j < (flatK encE 2 d).size; rw [size_flatK]; simpa using hj)).1
  rw [h10, Option.some.inj h9]
  rfl
theorem below_sort {w : World} {base g n : Nat} {d : Array D2} {os : Array Obj} (hb : base ≤ g) (hg : g < w.heap.size) : Go.RowKit.Below base w (sortWorldK encE 2 w g 0 n d os) := by
  refine ⟨rfl, rfl, rfl, ?_, fun k hk => ?_⟩
  · show w.heap.size ≤ ((putRowK encE 2 (Sort.ahead w n) g 0 d).heap ++ os).size
    rw [Array.size_append]
    show w.heap.size ≤ (putRow id (Sort.ahead w n) g 0 (flatK encE 2 d)).heap.size + _
    rw [size_putRow]
    exact Nat.le_add_right _ _
  · show ((putRow id (Sort.ahead w n) g 0 (flatK encE 2 d)).heap ++ os)[k]? = w.heap[k]?
    have hne : k ≠ g := by omega
    have hkw : k < w.heap.size := by omega
    rw [Array.getElem?_append_left (by rw [size_putRow]; exact hkw)]
    show (w.heap.modify g _)[k]? = _
    rw [Array.getElem?_modify, if_neg (Ne.symm hne)]
theorem no_mono {l m : List D2} {n : Nat} (h : PermIn 0 n l.toArray m.toArray) (hn : l.length = n) : m.Perm l := by
  obtain ⟨h1, _, h3⟩ := h
  have hs : m.length = l.length := by simpa using h1
  have e1 : (m.toArray.extract 0 n).toList = m := by
    rw [Array.toList_extract]
    simp
    exact List.take_of_length_le (by omega)
  have e2 : (l.toArray.extract 0 n).toList = l := by
    rw [Array.toList_extract]
    simp
    exact List.take_of_length_le (by omega)
  rwa [e1, e2] at h3
theorem sorted_list {m : List D2} {n : Nat} (h : SortedIn (ltOf cmpE) 0 n m.toArray) (hn : m.length = n) : m.Pairwise leE := by
  rw [List.pairwise_iff_getElem]
  intro i j hi hj hij
  have := h i j (Nat.zero_le _) hij (by omega)
  rw [ltOf_not, getElem!_pos m.toArray i (by simpa using hi), getElem!_pos m.toArray j (by simpa using hj)] at this
  exact this
set_option maxRecDepth 100000 in
/-- A row of the call's own, sorted. -/
theorem sortRow_any (base : Nat) (v : Value) (n : Nat) (l : List D2) (w : World) (ho : OwnK 2 w base 79 v n (e2Cells l)) (hb : base ≤ w.heap.size) (hn : n ≤ 1099511627776) : Calls Tryd.prog 36 #[v, .func (.func 37) #[] #[]] w fun e w' =>
    e = .returned (.tuple #[]) ∧ ∃ (l' : List D2) (A : Option Addr) (c : Nat), l'.Perm l ∧ l'.Pairwise leE ∧ v = .slice A l'.length c ∧ HasK 2 w' A l'.length c (e2Cells l') ∧ Go.RowKit.Below base w w' ∧ ∀ b off, A = some ⟨b, off, none⟩ → base ≤ b := by
  have hln : l.length = n := by
    have := ho.1
    rw [e2Cells_len] at this
    omega
  by_cases h0 : n = 0
  · obtain ⟨A, c, rfl, hh⟩ := ho.has
    have hl0 : l = [] := List.eq_nil_of_length_eq_zero (by omega)
    subst hl0
    subst h0
    refine (AnyF.slices_SortFunc_none laySort A c _ w).mono ?_
    rintro e w' ⟨rfl, rfl⟩
    refine ⟨rfl, [], A, c, List.Perm.nil, List.Pairwise.nil, rfl, hh, Go.RowKit.Below.refl _ _, fun b off e => ?_⟩
    rcases ho.2 with ⟨h2, _⟩ | ⟨g, cap, cur, h2, h3, _⟩
    · cases h2; cases e
    · cases h2; cases e; exact h3
  · obtain ⟨g, cap, rfl⟩ : ∃ g cap, v = .slice (some ⟨g, 0, none⟩) n cap := by
      rcases ho.2 with ⟨_, h2⟩ | ⟨g, cap, cur, h2, _⟩
      · exact absurd h2 h0
      · exact ⟨g, cap, h2⟩
    obtain ⟨hH, hc, hbg, hg⟩ := holds_down ho
    have eg : ∀ args w, (callFunc 37 args).run Tryd.prog w = .ok (.enter 37 args) w := enters_of Tryd.func37 (by kernel_rfl) rfl
    have hcon := sortE_any 2 isAggE sizeOfE encE (fun _ => rfl) (fun x v hv => by simp [encE] at hv; rcases hv with rfl | rfl <;> rfl) cmpE swoE 37 #[] g 0 cap l.toArray w eg (cmpLaysE g 0 _ w) hH hg (by rw [List.size_toArray]; omega)
    rw [show l.toArray.size = n by rw [List.size_toArray]; exact hln] at hcon
    refine hcon.mono ?_
    rintro e w' ⟨rfl, d', q, os, hp, hs, rfl⟩
    have hsz : d'.size = n := (show d'.size = l.toArray.size from hp.1).trans (List.size_toArray.trans hln)
    have hd : d' = d'.toList.toArray := rfl
    have hlen : d'.toList.length = n := by rw [Array.length_toList]; exact hsz
    refine ⟨rfl, d'.toList, some ⟨g, 0, none⟩, cap, no_mono (l := l) (m := d'.toList) hp hln, sorted_list (m := d'.toList) hs hlen, by rw [hlen], ?_, below_sort hbg hg, fun b off e => by cases e; exact hbg⟩
    exact holds_up (holdsK_sortWorldK encE 2 w g 0 q l.toArray d' os hg hH (by rw [hsz, List.size_toArray]; omega)) (lt_sortWorldK encE 2 w g 0 q d' os hg) (by omega)
end Go.Proofs.YtjahphfjobnkaaaDoor
