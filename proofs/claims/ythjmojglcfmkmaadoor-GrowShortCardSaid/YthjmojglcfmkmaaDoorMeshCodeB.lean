/- The landed mesh: its map of edges, in plain words. -/
import Derived.Test.YthjmojglcfmkmaaDoorMeshCodeA
import Derived.WideKeyPair
import Derived.Maps.RangeWalk
namespace Go.Proofs.YthjmojglcfmkmaaDoor
open Go.RowKit

abbrev D2 := Int × Int
def e2V (d : D2) : Value := .agg #[.int .i64 d.1, .int .i64 d.2]
def sideD (s : D2) : DataW Unit := .agg [.lit (.int .i64 s.1), .lit (.int .i64 s.2)]
/-- How a side reads: through no place. -/
def sideR (v : Value) : Option (DataW Unit × List MemPlace) := match v with
  | .agg ⟨[.int .i64 a, .int .i64 b]⟩ => some (sideD (a, b), [])
  | _ => none
theorem sideR_mk (s : D2) : sideR (e2V s) = some (sideD s, []) := rfl
theorem sideR_inv {v : Value} {y : DataW Unit × List MemPlace} (h : sideR v = some y) : ∃ s : D2, v = e2V s ∧ y = (sideD s, []) := by
  unfold sideR at h
  split at h
  · cases h
    exact ⟨(_, _), rfl, rfl⟩
  · cases h
theorem sideD_inj {s t : D2} (h : sideD s = sideD t) : s = t := by
  unfold sideD at h
  injection h with h
  injection h with h1 h2
  injection h2 with h2 _
  injection h1 with h1
  injection h2 with h2
  injection h1 with _ h1
  injection h2 with _ h2
  exact Prod.ext h1 h2
def in64 (d : D2) : Prop := (Lit.int .i64 d.1).wf = true ∧ (Lit.int .i64 d.2).wf = true
def keyL (d : D2) : Lit := .string (keyBytes [.int .i64 d.1, .int .i64 d.2])
theorem arrE : WideMaps.ArrKey Tryd.prog 124 3 2 := ⟨Tryd.underlying124, by kernel_rfl, by kernel_rfl, by kernel_rfl⟩
theorem lawE : Maps.Keyed Tryd.prog 124 := Maps.Keyed.of_law arrE.law
theorem typesE : ∃ m, Tryd.prog.types.size = m + 1 := ⟨Tryd.prog.types.size - 1, by
  have h : (Tryd.prog.types.size - 1 + 1 == Tryd.prog.types.size) = true := by kernel_rfl
  exact (beq_iff_eq.1 h).symm⟩
theorem typesE2 : ∃ m, Tryd.prog.types.size = m + 1 + 1 := ⟨Tryd.prog.types.size - 2, by
  have h : (Tryd.prog.types.size - 2 + 1 + 1 == Tryd.prog.types.size) = true := by kernel_rfl
  exact (beq_iff_eq.1 h).symm⟩
theorem keyOf_e2 {d : D2} (h : in64 d) : keyOf Tryd.prog 124 (e2V d) = some (keyL d) := WideMaps.keyOf_pair arrE Tryd.underlying3 typesE h.1 h.2
theorem keyL_inj {d e : D2} (hd : in64 d) (he : in64 e) (h : keyL d = keyL e) : d = e := by
  have := lawE.inj (keyOf_e2 hd) (h ▸ keyOf_e2 he)
  unfold e2V at this
  injection this with h1
  have h2 := congrArg Array.toList h1
  simp only [List.cons.injEq, Value.int.injEq, true_and, and_true] at h2
  exact Prod.ext h2.1 h2.2
theorem keyL_key {d : D2} (hd : in64 d) : WideAt.IsKeyLit (keyL d) := lawE.key (keyOf_e2 hd)
theorem two_of {α : Type} {l : List α} (h : l.length = 2) : ∃ a b, l = [a, b] := by
  match l, h with
  | [a, b], _ => exact ⟨a, b, rfl⟩
theorem lits_int {m : Nat} {c : Value} {y : List Lit} (h : Tryd.prog.keyLits (m + 1) 3 [c] = some y) : ∃ a : Int, c = .int .i64 a ∧ (Lit.int .i64 a).wf = true := by
  unfold Program.keyLits at h
  have hu := Tryd.underlying3
  generalize Tryd.prog.underlying 3 = u at h hu
  subst hu
  cases c <;> simp at h
  obtain ⟨⟨rfl, wa⟩, _⟩ := h
  exact ⟨_, rfl, wa⟩
/-- What is a key is an edge. -/
theorem keyOf_inv {v : Value} {kl : Lit} (h : keyOf Tryd.prog 124 v = some kl) : ∃ d : D2, v = e2V d ∧ in64 d ∧ kl = keyL d := by
  have hu := arrE.hu
  have h0 := h
  unfold keyOf at h
  rw [hu] at h
  simp only at h
  split at h
  · rename_i hc
    rw [Bool.and_eq_true] at hc
    have hf := hc.2
    unfold Value.formed at hf
    cases v with
    | agg cs =>
      obtain ⟨l⟩ := cs
      obtain ⟨ls, h1, _⟩ := Option.map_eq_some_iff.1 h
      obtain ⟨m, hm⟩ := typesE2
      rw [hm] at h1
      unfold Program.keyLits at h1
      rw [hu] at h1
      simp only [Value.cells] at h1
      rw [arrE.size] at h1
      by_cases hl : l.length = 2
      · have h1 := (if_pos hl).symm.trans h1
        obtain ⟨c0, c1, rfl⟩ := two_of hl
        rw [show List.range 2 = [0, 1] from rfl, List.mapM_cons, List.mapM_cons, List.mapM_nil, arrE.one] at h1
        obtain ⟨y, h2, _⟩ := Option.map_eq_some_iff.1 h1
        simp only [bind, Option.bind_eq_some_iff, pure] at h2
        obtain ⟨a0, ha, _, ⟨b0, hb, _⟩, _⟩ := h2
        simp only [Nat.zero_mul, List.drop_zero, List.take_succ_cons, List.take_zero, Nat.one_mul, List.drop_succ_cons] at ha hb
        obtain ⟨a, rfl, wa⟩ := lits_int ha
        obtain ⟨b, rfl, wb⟩ := lits_int hb
        have hin : in64 (a, b) := ⟨wa, wb⟩
        refine ⟨(a, b), rfl, hin, ?_⟩
        have := keyOf_e2 hin
        exact Option.some.inj (h0.symm.trans this)
      · have h1 := (if_neg hl).symm.trans h1
        cases h1
    | _ => simp [hu] at hf
  · cases h
/-! ### rows of entries -/
abbrev Ent := D2 × D2
def putD (D : DataW Unit) (e : Ent) : DataW Unit := D.put (keyL e.1) (sideD e.2)
def entsD (E : List Ent) : DataW Unit := E.foldl putD (.map [])
theorem entsD_snoc (E : List Ent) (e : Ent) : entsD (E ++ [e]) = (entsD E).put (keyL e.1) (sideD e.2) := by
  unfold entsD
  rw [List.foldl_append]
  rfl
def AllIn (E : List Ent) : Prop := ∀ e ∈ E, in64 e.1
theorem AllIn.left {E F : List Ent} (h : AllIn (E ++ F)) : AllIn E := fun e he => h e (List.mem_append_left _ he)
theorem list_snoc {α : Type} {motive : List α → Prop} (h0 : motive []) (h1 : ∀ l x, motive l → motive (l ++ [x])) (l : List α) : motive l := by
  have : ∀ r : List α, motive r.reverse := by
    intro r
    induction r with
    | nil => exact h0
    | cons x r ih => rw [List.reverse_cons]; exact h1 _ _ ih
  have h := this l.reverse
  rwa [List.reverse_reverse] at h
theorem entsD_tidy {E : List Ent} : AllIn E → Maps.Tidy (entsD E) := by
  induction E using list_snoc with
  | h0 => intro _; exact Maps.tidy_empty
  | h1 E e ih =>
    intro h
    rw [entsD_snoc]
    exact (ih h.left).put (keyL_key (h e (List.mem_append_right _ (List.mem_singleton.2 rfl)))) _
theorem entsD_has {E : List Ent} {d : D2} (hd : in64 d) : AllIn E → Maps.has (entsD E) (keyL d) = decide (d ∈ E.map (·.1)) := by
  induction E using list_snoc with
  | h0 => intro _; rfl
  | h1 E e ih =>
    intro h
    have he : in64 e.1 := h e (List.mem_append_right _ (List.mem_singleton.2 rfl))
    rw [entsD_snoc, List.map_append]
    by_cases h1 : d = e.1
    · rw [h1, Maps.has_put_same (entsD_tidy h.left).isMap (keyL_key he)]
      exact (decide_eq_true (List.mem_append_right _ (List.mem_singleton.2 rfl))).symm
    · rw [Maps.has_put_other (fun h2 => h1 (keyL_inj hd he h2)), ih h.left]
      apply decide_eq_decide.2
      rw [List.mem_append]
      constructor
      · exact Or.inl
      · rintro (h2 | h2)
        · exact h2
        · exact absurd (List.mem_singleton.1 h2) h1
theorem entsD_size {E : List Ent} : AllIn E → Maps.size (entsD E) ≤ E.length ∧ (Maps.size (entsD E) = E.length ↔ (E.map (·.1)).Nodup) := by
  induction E using list_snoc with
  | h0 => intro _; exact ⟨Nat.le_refl _, fun _ => List.nodup_nil, fun _ => rfl⟩
  | h1 E e ih =>
    intro h
    have he : in64 e.1 := h e (List.mem_append_right _ (List.mem_singleton.2 rfl))
    obtain ⟨i1, i2⟩ := ih h.left
    rw [entsD_snoc, Maps.size_put (entsD_tidy h.left), entsD_has he h.left, List.map_append, List.length_append]
    have hn : (E.map (·.1) ++ [e].map (·.1)).Nodup ↔ (E.map (·.1)).Nodup ∧ e.1 ∉ E.map (·.1) := by
      rw [List.nodup_append]
      constructor
      · rintro ⟨a, _, c⟩
        exact ⟨a, fun hm => c _ hm _ (List.mem_singleton.2 rfl) rfl⟩
      · rintro ⟨a, b⟩
        refine ⟨a, List.nodup_cons.2 ⟨List.not_mem_nil, List.nodup_nil⟩, fun x hx y hy e1 => ?_⟩
        have e2 : x = e.1 := e1.trans (List.mem_singleton.1 hy)
        exact b (e2 ▸ hx)
    rw [hn, ← i2]
    show _ ≤ E.length + 1 ∧ _
    by_cases hm : e.1 ∈ E.map (·.1)
    · rw [decide_eq_true hm, if_pos rfl]
      exact ⟨by omega, fun h => by have : Maps.size (entsD E) = E.length + 1 := h; omega, fun h => absurd hm h.2⟩
    · rw [decide_eq_false hm, if_neg (by decide)]
      exact ⟨by omega, fun h => ⟨by have : Maps.size (entsD E) + 1 = E.length + 1 := h; omega, hm⟩, fun h => by show Maps.size (entsD E) + 1 = E.length + 1; omega⟩
theorem entsD_at {E : List Ent} {e : Ent} : AllIn E → (E.map (·.1)).Nodup → e ∈ E → ∀ z, (entsD E).atKey (keyL e.1) z = sideD e.2 := by
  induction E using list_snoc with
  | h0 => intro _ _ h; cases h
  | h1 E x ih =>
    intro h hn he z
    have hx : in64 x.1 := h x (List.mem_append_right _ (List.mem_singleton.2 rfl))
    have hee : in64 e.1 := h e he
    rw [entsD_snoc]
    rw [List.map_append, List.nodup_append] at hn
    rcases List.mem_append.1 he with h1 | h1
    · have hne : e.1 ≠ x.1 := fun e1 => hn.2.2 e.1 (List.mem_map_of_mem h1) x.1 (List.mem_singleton.2 rfl) e1
      rw [Maps.atKey_put_other (fun h2 => hne (keyL_inj hee hx h2))]
      exact ih h.left hn.1 h1 z
    · rw [List.mem_singleton.1 h1]
      exact Maps.atKey_put_same (entsD_tidy h.left).isMap (keyL_key hx) _ _
/-- The entry of a triangle's corner: its edge; its place, and the corner behind. -/
def entAt (T : List P3) (i k : Nat) : Ent := ((at3 (T[i]?.getD (0, 0, 0)) k, at3 (T[i]?.getD (0, 0, 0)) ((k + 1) % 3)), ((i : Int), at3 (T[i]?.getD (0, 0, 0)) ((k + 2) % 3)))
def entsTo (T : List P3) (i k : Nat) : List Ent := ((List.range i).flatMap fun j => [entAt T j 0, entAt T j 1, entAt T j 2]) ++ (List.range k).map (entAt T i)
theorem entsTo_next (T : List P3) (i k : Nat) : entsTo T i (k + 1) = entsTo T i k ++ [entAt T i k] := by
  unfold entsTo
  rw [List.range_succ, List.map_append, List.append_assoc]
  rfl
theorem entsTo_row (T : List P3) (i : Nat) : entsTo T (i + 1) 0 = entsTo T i 3 := by
  unfold entsTo
  rw [List.range_succ, List.flatMap_append]
  simp [List.range_succ]
theorem entsTo_len (T : List P3) (i k : Nat) : (entsTo T i k).length = 3 * i + k := by
  unfold entsTo
  rw [List.length_append, List.length_map, List.length_range]
  congr 1
  induction i with
  | zero => rfl
  | succ i ih =>
    rw [List.range_succ, List.flatMap_append, List.length_append, ih]
    simp
    omega
theorem entsTo_keys (T : List P3) : ∀ i, i ≤ T.length → (entsTo T i 0).map (·.1) = darts (T.take i) := by
  intro i
  induction i with
  | zero => intro _; rfl
  | succ i ih =>
    intro h
    have hil : i < T.length := by omega
    rw [entsTo_row, show 3 = 0 + 1 + 1 + 1 from rfl, entsTo_next, entsTo_next, entsTo_next, List.map_append, List.map_append, List.map_append, ih (by omega), List.take_succ_eq_append_getElem hil]
    unfold darts
    rw [List.flatMap_append, List.append_assoc, List.append_assoc]
    congr 1
    show [(entAt T i 0).1] ++ ([(entAt T i 1).1] ++ [(entAt T i 2).1]) = dirs T[i] ++ []
    unfold entAt
    rw [List.getElem?_eq_getElem hil]
    rfl
theorem entsTo_mem {T : List P3} {i k : Nat} (hi : i < T.length) (hk : k < 3) : entAt T i k ∈ entsTo T T.length 0 := by
  unfold entsTo
  apply List.mem_append_left
  refine List.mem_flatMap.2 ⟨i, List.mem_range.2 hi, ?_⟩
  rcases (show k = 0 ∨ k = 1 ∨ k = 2 by omega) with rfl | rfl | rfl <;> simp
theorem wf64 {x : Int} (h0 : 0 ≤ x) (h1 : x ≤ 1000000) : (Lit.int .i64 x).wf = true := WalkArith.wf_i64 ⟨by omega, by omega⟩
theorem at3_in {n : Nat} {T : List P3} (h : T.all (triM n) = true) (hn : n ≤ 100000) (i k : Nat) (hk : k < 3) : 0 ≤ at3 (T[i]?.getD (0, 0, 0)) k ∧ at3 (T[i]?.getD (0, 0, 0)) k ≤ 100000 := by
  cases ht : T[i]? with
  | none =>
    rcases (show k = 0 ∨ k = 1 ∨ k = 2 by omega) with rfl | rfl | rfl <;> decide
  | some t =>
    have hm := List.all_eq_true.1 h t (List.mem_of_getElem? ht)
    obtain ⟨a, b, _⟩ := tri_at.1 hm k hk
    exact ⟨a, by show at3 t k ≤ _; omega⟩
theorem ent_in {n : Nat} {T : List P3} (h : T.all (triM n) = true) (hn : n ≤ 100000) (i k : Nat) (hk : k < 3) : in64 (entAt T i k).1 := by
  obtain ⟨a, b⟩ := at3_in h hn i k hk
  obtain ⟨c, d⟩ := at3_in h hn i ((k + 1) % 3) (Nat.mod_lt _ (by decide))
  exact ⟨wf64 a (show at3 _ _ ≤ _ by omega), wf64 c (show at3 _ _ ≤ _ by omega)⟩
theorem ents_in {n : Nat} {T : List P3} (h : T.all (triM n) = true) (hn : n ≤ 100000) (i k : Nat) (hk : k ≤ 3) : AllIn (entsTo T i k) := by
  intro e he
  unfold entsTo at he
  rcases List.mem_append.1 he with h1 | h1
  · obtain ⟨j, _, h2⟩ := List.mem_flatMap.1 h1
    simp only [List.mem_cons, List.not_mem_nil, or_false] at h2
    rcases h2 with rfl | rfl | rfl
    · exact ent_in h hn j 0 (by decide)
    · exact ent_in h hn j 1 (by decide)
    · exact ent_in h hn j 2 (by decide)
  · obtain ⟨j, hj, rfl⟩ := List.mem_map.1 h1
    exact ent_in h hn i j (by have := List.mem_range.1 hj; omega)
/-- All edges of these triangles in a map. -/
def sidesD (T : List P3) : DataW Unit := entsD (entsTo T T.length 0)
/-- A block holds them. -/
def SidesW (w : World) (b : Nat) (T : List P3) : Prop := w.ownsMap Tryd.prog 124 sideR b (3 * T.length) (sidesD T)
theorem SidesW.kept {w w' : World} {b : Nat} {T : List P3} (h : SidesW w b T) (hb : Below w.heap.size w w') : SidesW w' b T := by
  obtain ⟨es, clock, h1, h2⟩ := h
  exact ⟨es, clock, (hb.block b (Array.getElem?_eq_some_iff.1 h1).1).trans h1, h2⟩
theorem SidesW.lt {w : World} {b : Nat} {T : List P3} (h : SidesW w b T) : b < w.heap.size := World.ownsMap.lt h
theorem sides_keys (T : List P3) : (entsTo T T.length 0).map (·.1) = darts T := by
  rw [entsTo_keys T _ (Nat.le_refl _), List.take_length]
theorem sides_has {n : Nat} {T : List P3} (h : T.all (triM n) = true) (hn : n ≤ 100000) {d : D2} (hd : in64 d) : Maps.has (sidesD T) (keyL d) = decide (d ∈ darts T) := by
  unfold sidesD
  rw [entsD_has hd (ents_in h hn _ _ (by decide)), sides_keys]
theorem sides_size {n : Nat} {T : List P3} (h : T.all (triM n) = true) (hn : n ≤ 100000) : Maps.size (sidesD T) ≤ 3 * T.length ∧ (Maps.size (sidesD T) = 3 * T.length ↔ (darts T).Nodup) := by
  obtain ⟨a, b⟩ := entsD_size (ents_in h hn T.length 0 (by decide))
  rw [entsTo_len, sides_keys] at *
  exact ⟨a, b⟩
theorem sides_at {n : Nat} {T : List P3} (h : T.all (triM n) = true) (hn : n ≤ 100000) (hd : (darts T).Nodup) {i k : Nat} (hi : i < T.length) (hk : k < 3) (z : DataW Unit) : (sidesD T).atKey (keyL (at3 T[i] k, at3 T[i] ((k + 1) % 3))) z = sideD ((i : Int), at3 T[i] ((k + 2) % 3)) := by
  have := entsD_at (ents_in h hn T.length 0 (by decide)) (by rw [sides_keys]; exact hd) (entsTo_mem hi hk) z
  unfold entAt at this
  rw [List.getElem?_eq_getElem hi] at this
  exact this
end Go.Proofs.YthjmojglcfmkmaaDoor
