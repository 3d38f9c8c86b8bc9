/- Sections in memory: a kind and bytes, two cells each; a slice of them. -/
import Derived.Test.YtbmdgoljjffjdaaWide
namespace Go.Proofs.Ytbmdgoljjffjdaa
open Go.RowKit

abbrev Sec := Int × List Nat
def secCells (vs : List (Int × Value)) : List Value := vs.flatMap fun p => [.int .i64 p.1, p.2]
theorem secCells_len (vs : List (Int × Value)) : (secCells vs).length = vs.length * 2 := by
  induction vs with
  | nil => rfl
  | cons p vs ih => simp only [secCells, List.flatMap_cons, List.length_append, List.length_cons, List.length_nil] at *; omega
theorem secCells_app (vs us : List (Int × Value)) : secCells (vs ++ us) = secCells vs ++ secCells us := by simp [secCells]
theorem secCells_at {vs : List (Int × Value)} {i : Nat} {p : Int × Value} (h : vs[i]? = some p) : (secCells vs)[i * 2]? = some (.int .i64 p.1) ∧ (secCells vs)[i * 2 + 1]? = some p.2 := by
  induction vs generalizing i with
  | nil => simp at h
  | cons q vs ih =>
    have e : secCells (q :: vs) = .int .i64 q.1 :: q.2 :: secCells vs := by simp [secCells]
    cases i with
    | zero => simp at h; subst h; rw [e]; simp
    | succ i =>
      have := ih (i := i) (by simpa using h)
      rw [e, show (i + 1) * 2 = i * 2 + 1 + 1 by omega]
      simpa using this
/-- The values are these sections. -/
def SecVs (w : World) (vs : List (Int × Value)) (l : List Sec) : Prop := vs.length = l.length ∧ ∀ i (h : i < l.length), ∃ A n c, vs[i]? = some (l[i].1, .slice A n c) ∧ Has w A n c (u8s l[i].2)
/-- The slice (A, n, c) holds the sections l. -/
def Secs (w : World) (A : Option Addr) (n c : Nat) (l : List Sec) : Prop := ∃ vs, HasK 2 w A n c (secCells vs) ∧ SecVs w vs l
theorem SecVs.kept {w w' : World} {vs : List (Int × Value)} {l : List Sec} (h : SecVs w vs l) (hb : Below w.heap.size w w') : SecVs w' vs l :=
  ⟨h.1, fun i hi => by obtain ⟨A, n, c, h1, h2⟩ := h.2 i hi; exact ⟨A, n, c, h1, h2.kept hb⟩⟩
theorem SecVs.one {vs : List (Int × Value)} {l : List Sec} {w : World} (h : SecVs w vs l) : ∀ u ∈ secCells vs, u.oneCell' = true := by
  intro u hu
  obtain ⟨p, hp, hu⟩ := List.mem_flatMap.1 hu
  obtain ⟨i, hi, rfl⟩ := List.getElem_of_mem hp
  obtain ⟨A, n, c, h1, _⟩ := h.2 i (by rw [← h.1]; exact hi)
  rw [List.getElem?_eq_getElem hi] at h1
  simp only [Option.some.injEq] at h1
  rw [h1] at hu
  simp at hu
  rcases hu with rfl | rfl <;> rfl
theorem SecVs.app {w : World} {vs us : List (Int × Value)} {l r : List Sec} (h : SecVs w vs l) (h2 : SecVs w us r) : SecVs w (vs ++ us) (l ++ r) := by
  refine ⟨by rw [List.length_append, List.length_append, h.1, h2.1], fun i hi => ?_⟩
  by_cases hl : i < l.length
  · obtain ⟨A, n, c, e1, e2⟩ := h.2 i hl
    refine ⟨A, n, c, ?_, ?_⟩
    · rw [List.getElem?_append_left (by rw [h.1]; exact hl), e1, List.getElem_append_left hl]
    · rw [List.getElem_append_left hl]; exact e2
  · obtain ⟨A, n, c, e1, e2⟩ := h2.2 (i - l.length) (by rw [List.length_append] at hi; omega)
    refine ⟨A, n, c, ?_, ?_⟩
    · rw [List.getElem?_append_right (by rw [h.1]; omega), h.1, e1, List.getElem_append_right (by omega)]
    · rw [List.getElem_append_right (by omega)]; exact e2
theorem SecVs.single {w : World} {A : Option Addr} {n c : Nat} {k : Int} {bs : List Nat} (h : Has w A n c (u8s bs)) : SecVs w [(k, .slice A n c)] [(k, bs)] :=
  ⟨rfl, fun i hi => match i, hi with | 0, _ => ⟨A, n, c, rfl, h⟩⟩
theorem Secs.kept {w w' : World} {A : Option Addr} {n c : Nat} {l : List Sec} (h : Secs w A n c l) (hb : Below w.heap.size w w') : Secs w' A n c l := by
  obtain ⟨vs, h1, h2⟩ := h
  exact ⟨vs, h1.kept hb, h2.kept hb⟩
theorem Secs.len {w : World} {A : Option Addr} {n c : Nat} {l : List Sec} (h : Secs w A n c l) : l.length = n := by
  obtain ⟨vs, h1, h2⟩ := h
  have := h1.len
  rw [secCells_len] at this
  rw [← h2.1]; omega
theorem Secs.none (w : World) : Secs w Option.none 0 0 [] := ⟨[], HasK.none _ _ _ _ fun _ => rfl, rfl, fun i hi => absurd hi (by simp)⟩
theorem Secs.at_ {w : World} {A : Option Addr} {n c : Nat} {l : List Sec} (h : Secs w A n c l) {i : Nat} (hi : i < l.length) :
    ∃ b off A' n' c', A = some ⟨b, off, Option.none⟩ ∧ b < w.heap.size ∧ l[i].2.length = n' ∧ ∀ W, Below w.heap.size w W → W.cell? ⟨b, off + i * 2, Option.none⟩ = some (.int .i64 l[i].1) ∧ W.cell? ⟨b, off + i * 2 + 1, Option.none⟩ = some (.slice A' n' c') ∧ Has W A' n' c' (u8s l[i].2) := by
  have hl := h.len
  obtain ⟨vs, h1, h2⟩ := h
  obtain ⟨b, off, hA, hlt, hc⟩ := h1.spot (by omega)
  obtain ⟨A', n', c', h3, h4⟩ := h2.2 i hi
  obtain ⟨e1, e2⟩ := secCells_at h3
  have hl4 := h4.len
  rw [u8s_len] at hl4
  refine ⟨b, off, A', n', c', hA, hlt, hl4, fun W hW => ⟨?_, ?_, h4.kept hW⟩⟩
  · exact (hW.cell (p := ⟨b, off + i * 2, Option.none⟩) hlt).trans (hc _ _ e1)
  · have := (hW.cell (p := ⟨b, off + (i * 2 + 1), Option.none⟩) hlt).trans (hc _ _ e2)
    rw [← Nat.add_assoc] at this
    exact this

/-- The slice value v is the call's own and holds the sections l, each with bytes of its own memory or another's. -/
def OwnSecs (w : World) (base : Nat) (v : Value) (l : List Sec) : Prop := ∃ vs, OwnK 2 w base 33 v l.length (secCells vs) ∧ SecVs w vs l
theorem OwnSecs.nil (w : World) (base : Nat) : OwnSecs w base (.slice Option.none 0 0) [] := ⟨[], OwnK.nil _ _ _ _, rfl, fun i hi => absurd hi (by simp)⟩
theorem OwnSecs.has {w : World} {base : Nat} {v : Value} {l : List Sec} (h : OwnSecs w base v l) : ∃ A c, v = .slice A l.length c ∧ Secs w A l.length c l := by
  obtain ⟨vs, h1, h2⟩ := h
  obtain ⟨A, c, e, h3⟩ := h1.has
  exact ⟨A, c, e, vs, h3, h2⟩
theorem OwnSecs.keep {w w' : World} {base : Nat} {v : Value} {l : List Sec} (h : OwnSecs w base v l) (hb : Below w.heap.size w w') : OwnSecs w' base v l := by
  obtain ⟨vs, h1, h2⟩ := h
  exact ⟨vs, h1.keep hb, h2.kept hb⟩
theorem OwnSecs.less {w : World} {base base' : Nat} {v : Value} {l : List Sec} (h : OwnSecs w base v l) (hb : base' ≤ base) : OwnSecs w base' v l := by
  obtain ⟨vs, h1, h2⟩ := h
  exact ⟨vs, h1.less hb, h2⟩
theorem elemSec : ElemK Try.prog 22 33 2 32 := by
  have h : (Try.prog.info? 33).map (fun i => (i.zero, i.size, i.bytes)) = some (some (.agg #[.int .i64 0, .slice none 0 0]), 2, 32) := by kernel_rfl
  obtain ⟨i, h1, h2, h3, h4⟩ := info_parts h
  exact ⟨Try.underlying22, i, _, h1, h2, h3, h4, rfl⟩
end Go.Proofs.Ytbmdgoljjffjdaa
