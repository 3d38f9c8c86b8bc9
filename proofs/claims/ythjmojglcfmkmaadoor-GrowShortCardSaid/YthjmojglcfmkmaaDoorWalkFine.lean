/- Layer 11: how much a walk holds. -/
import Derived.Test.YthjmojglcfmkmaaDoorWalkRefE
namespace Go.Proofs.YthjmojglcfmkmaaDoor

structure WFine (T : List P3) (i : Nat) (s : WS) : Prop where
  ok : WOk T s
  sz : s.S.length + gatesLeft T s ≤ 3 * T.length + i
  vv : s.V.length ≤ 3 * s.O.length
theorem WFine.small {T : List P3} {i : Nat} {s : WS} (h : WFine T i s) (hi : i ≤ T.length) (hm : T.length ≤ 100000) : WSmall s 1000000 := by
  have h1 := h.ok.le
  have h2 := h.ok.len
  have h3 := h.sz
  have h4 := h.vv
  unfold gatesLeft at h3
  exact ⟨by omega, by omega, by omega, by omega, by omega⟩
theorem gate_sizes (T : List P3) (s : WS) (p q : Int) : (gateTo T s p q).S.length ≤ s.S.length + 1 ∧ (s.V.length ≤ 3 * s.O.length → (gateTo T s p q).V.length ≤ 3 * (gateTo T s p q).O.length) := by
  unfold gateTo
  split
  · exact ⟨by show (s.S ++ [_]).length ≤ _; simp, fun h => h⟩
  · split
    · exact ⟨Nat.le_succ _, fun h => h⟩
    · refine ⟨by show (s.S ++ [_]).length ≤ _; simp, fun h => ?_⟩
      show (meetW s.V _).length ≤ 3 * (s.O ++ [_]).length
      have := meet_le s.V (thirdV (T[(hasF T q p).toNat]?.getD (0, 0, 0)) p q)
      rw [List.length_append, List.length_singleton]
      omega
theorem WFine.gate {T : List P3} {i : Nat} {s : WS} (h : WFine T i s) (hg : s.G ≠ []) : WFine T i (gateW T s) := by
  obtain ⟨p, q, _, e⟩ := gateW_last (T := T) hg
  obtain ⟨h1, h2, _⟩ := gateW_ok h.ok hg
  rw [e] at h1 h2 ⊢
  obtain ⟨h3, h4⟩ := gate_sizes T s p q
  have := h.sz
  exact ⟨h1, by omega, h4 h.vv⟩
theorem WFine.seed {T : List P3} {i : Nat} {s : WS} (h : WFine T i s) (hi : i < T.length) (hn : i ∉ s.O) (hg : s.G = []) : WFine T (i + 1) (seedW T s i) := by
  obtain ⟨h1, _, h3⟩ := seed_ok h.ok hi hn hg
  have h4 := h1.le
  have hsz := h.sz
  have hvv := h.vv
  refine ⟨h1, ?_, ?_⟩
  · unfold gatesLeft at hsz ⊢
    rw [h3, List.length_append, List.length_singleton] at h4 ⊢
    have e1 : (seedW T s i).S.length = s.S.length + 1 := by show (s.S ++ [_]).length = _; simp
    have e2 : (seedW T s i).G.length = 3 := by show (s.G ++ [_, _, _]).length = _; rw [hg]; rfl
    rw [e1, e2]
    rw [hg] at hsz
    simp only [List.length_nil] at hsz
    omega
  · rw [h3, List.length_append, List.length_singleton]
    show (meetW (meetW (meetW s.V _) _) _).length ≤ _
    have a1 := meet_le s.V (T[i]?.getD (0, 0, 0)).1
    have a2 := meet_le (meetW s.V (T[i]?.getD (0, 0, 0)).1) (T[i]?.getD (0, 0, 0)).2.1
    have a3 := meet_le (meetW (meetW s.V (T[i]?.getD (0, 0, 0)).1) (T[i]?.getD (0, 0, 0)).2.1) (T[i]?.getD (0, 0, 0)).2.2
    omega
theorem WFine.drain {T : List P3} {i : Nat} : ∀ (k : Nat) (s : WS), WFine T i s → WFine T i (drainW T k s) := by
  intro k
  induction k with
  | zero => intro s h; exact h
  | succ k ih =>
    intro s h
    unfold drainW
    by_cases hg : s.G = []
    · rw [if_pos hg]; exact h
    · rw [if_neg hg]; exact ih _ (h.gate hg)
theorem WFine.more {T : List P3} {i : Nat} {s : WS} (h : WFine T i s) : WFine T (i + 1) s := ⟨h.ok, by have := h.sz; omega, h.vv⟩
theorem walk_fine (T : List P3) : ∀ i, i ≤ T.length → WFine T i (walkTo T i) := by
  intro i
  induction i with
  | zero => intro _; exact ⟨⟨List.nodup_nil, (fun j hj => by cases hj), rfl⟩, by show 0 + (0 + 3 * (T.length - 0)) ≤ _; omega, Nat.le_refl _⟩
  | succ i ih =>
    intro hi
    have h1 := ih (by omega)
    obtain ⟨_, h2, _⟩ := walk_ok T i (by omega)
    unfold walkTo
    by_cases hm : i ∈ (walkTo T i).O
    · rw [if_pos hm]; exact h1.more
    · rw [if_neg hm]; exact (h1.seed (by omega) hm h2).drain _ _
theorem walkTo_skip {T : List P3} {i : Nat} (h : i ∈ (walkTo T i).O) : walkTo T (i + 1) = walkTo T i := if_pos h
theorem walkTo_take {T : List P3} {i : Nat} (h : i ∉ (walkTo T i).O) : walkTo T (i + 1) = drainW T (3 * T.length + 4) (seedW T (walkTo T i) i) := if_neg h
theorem drain_end {T : List P3} {s : WS} (h : s.G = []) (k : Nat) : drainW T k s = s := by
  cases k with
  | zero => rfl
  | succ k => exact if_pos h
theorem drain_next {T : List P3} {s : WS} (h : s.G ≠ []) (k : Nat) : drainW T (k + 1) s = drainW T k (gateW T s) := if_neg h
end Go.Proofs.YthjmojglcfmkmaaDoor
