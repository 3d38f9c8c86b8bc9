/- Layer 10: a pass, and the numbers of the pieces, place by place: plain mathematics. -/
import Derived.Test.YtckjmnbglbegmaaDoorMeshNum
namespace Go.Proofs.YtckjmnbglbegmaaDoor
open Classical

theorem getD_set {l : List Nat} {i : Nat} (h : i < l.length) (x j : Nat) : (l.set i x)[j]?.getD 0 = if j = i then x else l[j]?.getD 0 := by
  by_cases e : i = j
  · subst e
    rw [List.getElem?_set_self h, if_pos rfl]; rfl
  · rw [List.getElem?_set_ne e, if_neg (fun e2 => e e2.symm)]
theorem low_range (T : List P3) {out : List Nat} (hl : out.length = T.length) (h : ∀ j, j < out.length → out[j]? = some j) : Low T out := by
  have e : ∀ (i : Nat) (hi : i < out.length), out[i] = i := fun i hi => by
    have := h i hi
    rw [List.getElem?_eq_getElem hi] at this
    exact Option.some.inj this
  refine ⟨hl, fun i hi => by rw [e i hi]; exact Nat.le_refl _, fun i hi => ?_⟩
  have : T[out[i]]'(by rw [e i hi]; omega) = T[i]'(by omega) := by congr 1; exact e i hi
  rw [this]
  exact Reach.refl
theorem Low.put {T : List P3} {out : List Nat} (h : Low T out) {i u : Nat} (hi : i < T.length) (hu : u < T.length) (hb : Beside T i u) : Low T (out.set i (min (out[i]?.getD 0) (out[u]?.getD 0))) := by
  obtain ⟨hi2, ei⟩ := h.at_ hi
  obtain ⟨hu2, eu⟩ := h.at_ hu
  rw [ei, eu]
  have hle : ∀ (j : Nat) (hj : j < (out.set i (min out[i] out[u])).length), (out.set i (min out[i] out[u]))[j] ≤ j := fun j hj => by
    rw [List.getElem_set]
    split
    · rename_i e
      subst e
      have := h.le i hi2
      omega
    · exact h.le j (by rw [List.length_set] at hj; exact hj)
  refine ⟨by rw [List.length_set]; exact h.len, hle, fun j hj => ?_⟩
  have hj2 : j < out.length := by rw [List.length_set] at hj; exact hj
  by_cases e : i = j
  · subst e
    have hv : (out.set i (min out[i] out[u]))[i] = min out[i] out[u] := List.getElem_set_self ..
    have h1 := h.le i hi2
    have h2 := h.le u hu2
    obtain ⟨t, s, et, es, p, q, hp, hq⟩ := hb
    rw [List.getElem?_eq_getElem hi] at et
    rw [List.getElem?_eq_getElem hu] at es
    cases et
    cases es
    rcases Nat.le_total out[i] out[u] with hl | hl
    · have e2 : (out.set i (min out[i] out[u]))[i] = out[i] := by rw [hv]; exact Nat.min_eq_left hl
      simp only [e2]
      exact h.conn i hi2
    · have e2 : (out.set i (min out[i] out[u]))[i] = out[u] := by rw [hv]; exact Nat.min_eq_right hl
      simp only [e2]
      exact (h.conn u hu2).step ⟨List.getElem_mem hi, q, p, hq, hp⟩
  · have e2 : (out.set i (min out[i] out[u]))[j] = out[j] := List.getElem_set_ne e _
    simp only [e2]
    exact h.conn j hj2
/-- A pass, so far: all of the first so many, and of the next one so many sides. -/
structure PassTo (T : List P3) (out0 cur : List Nat) (i k : Nat) : Prop where
  lo : Low T cur
  le : ∀ j, j < T.length → cur[j]?.getD 0 ≤ out0[j]?.getD 0
  done : ∀ j, j < i → ∀ u, Beside T j u → cur[j]?.getD 0 ≤ out0[u]?.getD 0
  part : ∀ (t : P3), T[i]? = some t → ∀ m, m < k → ∀ (u : Nat) (s : P3), T[u]? = some s → (at3 t ((m + 1) % 3), at3 t m) ∈ dirs s → cur[i]?.getD 0 ≤ out0[u]?.getD 0
theorem PassTo.start {T : List P3} {out : List Nat} (h : Low T out) : PassTo T out out 0 0 := ⟨h, fun _ _ => Nat.le_refl _, fun j hj => absurd hj (by omega), fun _ _ m hm => absurd hm (by omega)⟩
theorem PassTo.none {T : List P3} {out0 cur : List Nat} {i k : Nat} (h : PassTo T out0 cur i k) {t : P3} (ht : T[i]? = some t) (hno : (at3 t ((k + 1) % 3), at3 t k) ∉ darts T) : PassTo T out0 cur i (k + 1) := by
  refine ⟨h.lo, h.le, h.done, fun t' ht' m hm u s hs hd => ?_⟩
  rw [ht] at ht'
  cases ht'
  by_cases e : m = k
  · subst e
    exact absurd (mem_darts.2 ⟨s, List.mem_of_getElem? hs, hd⟩) hno
  · exact h.part t ht m (by omega) u s hs hd
theorem PassTo.put {T : List P3} (hT : (darts T).Nodup) {out0 cur : List Nat} {i k u : Nat} (h : PassTo T out0 cur i k) (hk : k < 3) {t : P3} (ht : T[i]? = some t) (hu : u < T.length) (hd : (at3 t ((k + 1) % 3), at3 t k) ∈ dirs T[u]) : PassTo T out0 (cur.set i (min (cur[i]?.getD 0) (cur[u]?.getD 0))) i (k + 1) := by
  have hi : i < T.length := (List.getElem?_eq_some_iff.1 ht).1
  have hil : i < cur.length := by rw [h.lo.len]; exact hi
  have hb : Beside T i u := ⟨t, T[u], ht, List.getElem?_eq_getElem hu, at3 t k, at3 t ((k + 1) % 3), dirs_mem_at.2 ⟨k, hk, rfl⟩, hd⟩
  refine ⟨h.lo.put hi hu hb, fun j hj => ?_, fun j hj v hv => ?_, fun t' ht' m hm v s hs hd2 => ?_⟩
  · rw [getD_set hil]
    split
    · rename_i e
      subst e
      have := h.le j hj
      omega
    · exact h.le j hj
  · rw [getD_set hil, if_neg (by omega)]
    exact h.done j hj v hv
  · rw [ht] at ht'
    cases ht'
    rw [getD_set hil, if_pos rfl]
    by_cases e : m = k
    · subst e
      have h1 := h.le u hu
      have : v = u := by
        have hv : v < T.length := (List.getElem?_eq_some_iff.1 hs).1
        rw [List.getElem?_eq_getElem hv] at hs
        cases hs
        exact tri_same (darts_nodup hT) hv hu (dart_one hT (List.getElem_mem hv) (List.getElem_mem hu) hd2 hd)
      subst this
      omega
    · have := h.part t ht m (by omega) v s hs hd2
      omega
theorem PassTo.row {T : List P3} {out0 cur : List Nat} {i : Nat} (h : PassTo T out0 cur i 3) (hi : i < T.length) : PassTo T out0 cur (i + 1) 0 := by
  refine ⟨h.lo, h.le, fun j hj u hb => ?_, fun _ _ m hm => absurd hm (by omega)⟩
  by_cases e : j = i
  · subst e
    obtain ⟨t, s, et, es, p, q, hp, hq⟩ := hb
    obtain ⟨m, hm, e2⟩ := dirs_mem_at.1 hp
    cases e2
    exact h.part t et m hm u s es hq
  · exact h.done j (by omega) u hb
theorem PassTo.pass {T : List P3} {out0 cur : List Nat} (h : PassTo T out0 cur T.length 0) : Pass T out0 cur :=
  ⟨h.le, fun i u hb => h.done i (by obtain ⟨t, _, et, _⟩ := hb; exact (List.getElem?_eq_some_iff.1 et).1) u hb⟩
/-- While the pieces are numbered: what stands at a place. -/
def zF (O : List Nat) (i j : Nat) : Int := if O[j]?.getD 0 < i then -1 - (numF O (O[j]?.getD 0) : Int) else ((O[j]?.getD 0 : Nat) : Int)
def zG (O : List Nat) (i k j : Nat) : Int := if O[j]?.getD 0 = i ∧ i < j ∧ j < k then -1 - (numF O i : Int) else zF O i j
def zH (O : List Nat) (n i j : Nat) : Int := if j < i then (numF O (O[j]?.getD 0) : Int) else zF O n j
def rowZ (f : Nat → Int) (n : Nat) : List Int := (List.range n).map f
theorem rowZ_len (f : Nat → Int) (n : Nat) : (rowZ f n).length = n := by unfold rowZ; rw [List.length_map, List.length_range]
theorem rowZ_at (f : Nat → Int) {n j : Nat} (h : j < n) : (rowZ f n)[j]? = some (f j) := by unfold rowZ; rw [List.getElem?_map, List.getElem?_range h]; rfl
theorem rowZ_congr {f g : Nat → Int} {n : Nat} (h : ∀ j, j < n → f j = g j) : rowZ f n = rowZ g n := List.map_congr_left (fun j hj => h j (List.mem_range.1 hj))
theorem rowZ_set {f g : Nat → Int} {n i : Nat} {x : Int} (hi : i < n) (hx : x = g i) (h : ∀ j, j < n → j ≠ i → f j = g j) : (rowZ f n).set i x = rowZ g n := by
  apply List.ext_getElem?
  intro j
  by_cases e : i = j
  · subst e
    rw [List.getElem?_set_self (by rw [rowZ_len]; exact hi), rowZ_at g hi, hx]
  · rw [List.getElem?_set_ne e]
    by_cases hj : j < n
    · rw [rowZ_at f hj, rowZ_at g hj, h j hj (fun e2 => e e2.symm)]
    · rw [List.getElem?_eq_none (by rw [rowZ_len]; omega), List.getElem?_eq_none (by rw [rowZ_len]; omega)]
theorem zF_start (O : List Nat) (j : Nat) : zF O 0 j = ((O[j]?.getD 0 : Nat) : Int) := by unfold zF; rw [if_neg (by omega)]
theorem zG_start (O : List Nat) (i j : Nat) : zG O i (i + 1) j = zF O i j := by unfold zG; rw [if_neg (by omega)]
theorem zH_start (O : List Nat) (n j : Nat) : zH O n 0 j = zF O n j := by unfold zH; rw [if_neg (by omega)]
theorem z_first {T : List P3} {O : List Nat} (h : Firsts T O) {i : Nat} (hi : i < T.length) : (zF O i i = (i : Int) ↔ O[i]?.getD 0 = i) := by
  have := h.le i hi
  unfold zF
  split <;> omega
theorem z_mine (O : List Nat) (i k : Nat) : (zG O i k k = (i : Int) ↔ O[k]?.getD 0 = i) := by
  unfold zG zF
  by_cases h1 : O[k]?.getD 0 = i
  · simp only [h1, true_and]
    rw [if_neg (by omega), if_neg (by omega)]
    simp
  · simp only [h1, false_and, if_false, iff_false]
    split <;> omega
theorem zG_put {O : List Nat} {i k : Nat} (h : i < k) (hk : O[k]?.getD 0 = i) : -1 - (numF O i : Int) = zG O i (k + 1) k := by unfold zG; rw [if_pos ⟨hk, h, by omega⟩]
theorem zG_same {O : List Nat} {i k j : Nat} (h : j ≠ k ∨ O[k]?.getD 0 ≠ i) : zG O i k j = zG O i (k + 1) j := by
  unfold zG
  by_cases e : j = k
  · subst e
    have h2 := h.resolve_left (fun h => h rfl)
    rw [if_neg (fun hh => h2 hh.1), if_neg (fun hh => h2 hh.1)]
  · have e2 : (O[j]?.getD 0 = i ∧ i < j ∧ j < k) ↔ (O[j]?.getD 0 = i ∧ i < j ∧ j < k + 1) := by
      constructor
      · rintro ⟨a, b, c⟩; exact ⟨a, b, by omega⟩
      · rintro ⟨a, b, c⟩; exact ⟨a, b, by omega⟩
    simp only [e2]
theorem zF_put {O : List Nat} {i : Nat} (h : O[i]?.getD 0 = i) : -1 - (numF O i : Int) = zF O (i + 1) i := by unfold zF; rw [h, if_pos (by omega)]
theorem zG_next {T : List P3} {O : List Nat} (h : Firsts T O) {i j : Nat} (hj : j < T.length) (hne : j ≠ i) : zG O i T.length j = zF O (i + 1) j := by
  have hle := h.le j hj
  unfold zG zF
  by_cases e : O[j]?.getD 0 = i
  · rw [if_pos ⟨e, by omega, hj⟩, if_pos (by omega), e]
  · rw [if_neg (fun hh => e hh.1)]
    by_cases e2 : O[j]?.getD 0 < i
    · rw [if_pos e2, if_pos (by omega)]
    · rw [if_neg e2, if_neg (by omega)]
theorem zF_same {T : List P3} {O : List Nat} (h : Firsts T O) {i : Nat} (hno : O[i]?.getD 0 ≠ i) {j : Nat} (hj : j < T.length) : zF O i j = zF O (i + 1) j := by
  have hid := h.idem j hj
  unfold zF
  by_cases e : O[j]?.getD 0 = i
  · rw [e] at hid; exact absurd hid hno
  · by_cases e2 : O[j]?.getD 0 < i
    · rw [if_pos e2, if_pos (by omega)]
    · rw [if_neg e2, if_neg (by omega)]
theorem zH_put {T : List P3} {O : List Nat} (h : Firsts T O) {i : Nat} (hi : i < T.length) : -1 - zH O T.length i i = zH O T.length (i + 1) i := by
  have hle := h.le i hi
  unfold zH zF
  rw [if_neg (by omega), if_pos (by omega), if_pos (by omega)]
  omega
theorem zH_same (O : List Nat) {n i j : Nat} (h : j ≠ i) : zH O n i j = zH O n (i + 1) j := by
  unfold zH
  by_cases e : j < i
  · rw [if_pos e, if_pos (by omega)]
  · rw [if_neg e, if_neg (by omega)]
theorem zH_end {T : List P3} {O : List Nat} (h : Firsts T O) : rowZ (zH O T.length T.length) T.length = (piecesOf O).map fun (k : Nat) => (k : Int) := by
  unfold rowZ piecesOf
  rw [List.map_map, h.len]
  refine List.map_congr_left (fun j hj => ?_)
  rw [List.mem_range] at hj
  unfold zH
  rw [if_pos hj]
  rfl
theorem numF_le (O : List Nat) (m : Nat) : numF O m ≤ m := by
  unfold numF
  have := List.countP_le_length (p := fun j => O[j]?.getD 0 == j) (l := List.range m)
  rw [List.length_range] at this
  exact this
theorem zF_bound {T : List P3} {O : List Nat} (h : Firsts T O) {i j : Nat} (hj : j < T.length) : -1 - (T.length : Int) ≤ zF O i j ∧ zF O i j ≤ T.length := by
  have h1 := h.le j hj
  have h2 := numF_le O (O[j]?.getD 0)
  unfold zF
  split <;> omega
end Go.Proofs.YtckjmnbglbegmaaDoor
