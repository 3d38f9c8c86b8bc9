/- Layer 10: two side by side: plain mathematics. -/
import Derived.Test.YtckjmnbglbegmaaDoorMeshEuler
namespace Go.Proofs.YtckjmnbglbegmaaDoor
open Classical

/-- All vertices so many further. -/
def shiftT (n : Int) (t : P3) : P3 := (t.1 + n, t.2.1 + n, t.2.2 + n)
def shiftD (n : Int) (d : Int × Int) : Int × Int := (d.1 + n, d.2 + n)
theorem dirs_shift (n : Int) (t : P3) : dirs (shiftT n t) = (dirs t).map (shiftD n) := rfl
theorem darts_shift (n : Int) (T : List P3) : darts (T.map (shiftT n)) = (darts T).map (shiftD n) := by
  unfold darts
  rw [List.flatMap_map, List.map_flatMap]
  rfl
theorem shift_inj {n : Int} {d e : Int × Int} (h : shiftD n d = shiftD n e) : d = e := by
  have e1 := congrArg Prod.fst h
  have e2 := congrArg Prod.snd h
  simp only [shiftD] at e1 e2
  exact Prod.ext (by omega) (by omega)
theorem shift_dart {n : Int} {t : P3} {p q : Int} : (p, q) ∈ dirs (shiftT n t) ↔ (p - n, q - n) ∈ dirs t := by
  rw [dirs_shift]
  constructor
  · intro h
    obtain ⟨d, hd, e⟩ := List.mem_map.1 h
    have e1 := congrArg Prod.fst e
    have e2 := congrArg Prod.snd e
    simp only [shiftD] at e1 e2
    have : (p - n, q - n) = d := Prod.ext (by simp only; omega) (by simp only; omega)
    rw [this]; exact hd
  · intro h
    refine List.mem_map.2 ⟨_, h, ?_⟩
    exact Prod.ext (by simp only [shiftD]; omega) (by simp only [shiftD]; omega)
/-- Of two side by side each triangle is one of the first's, or a further one. -/
def both (n : Int) (T U : List P3) : List P3 := T ++ U.map (shiftT n)
theorem both_low {n v : Int} {t : P3} {m : Nat} (hu : triM m t = true) (hv : v < n) : ¬ hasV v (shiftT n t) := by
  have h := triM_iff.1 hu
  unfold hasV shiftT
  simp only
  omega
theorem both_high {v : Int} {t : P3} {n : Nat} (ht : triM n t = true) (hv : (n : Int) ≤ v) : ¬ hasV v t := by
  have h := triM_iff.1 ht
  unfold hasV
  omega
theorem fan_both {P Q T U : List P3} (hT : T.all (triM P.length) = true) (hU : U.all (triM Q.length) = true) (hf : fansM P T) (hg : fansM Q U) : ∀ v : Nat, v < P.length + Q.length → Fan (both P.length T U) v := by
  intro v hv
  have hlow : ∀ u ∈ U.map (shiftT P.length), ∀ w : Int, w < P.length → ¬ hasV w u := by
    intro u hu w hw
    obtain ⟨t, ht, rfl⟩ := List.mem_map.1 hu
    exact both_low (List.all_eq_true.1 hU t ht) hw
  by_cases hc : v < P.length
  · obtain ⟨⟨t, ht, hvt⟩, hr⟩ := hf v hc
    refine ⟨⟨t, List.mem_append_left _ ht, hvt⟩, ?_⟩
    intro a ha b hb hva hvb
    have h1 : a ∈ T := (List.mem_append.1 ha).resolve_right fun h => hlow a h v (by omega) hva
    have h2 : b ∈ T := (List.mem_append.1 hb).resolve_right fun h => hlow b h v (by omega) hvb
    exact (hr a h1 b h2 hva hvb).mono (fun x y ⟨h3, h4⟩ => ⟨List.mem_append_left _ h3, h4⟩)
  · have hf2 := hg (v - P.length) (by omega)
    have hcast : (((v - P.length : Nat) : Nat) : Int) = (v : Int) - P.length := by omega
    rw [hcast] at hf2
    have hfu : Fan (U.map (shiftT P.length)) v := by
      refine fan_over (fun t t' => t' = shiftT P.length t) (fun t ht => ⟨_, List.mem_map_of_mem ht, rfl⟩) (fun t' ht' _ => ?_) ?_ ?_ ?_ hf2
      · obtain ⟨t, ht, rfl⟩ := List.mem_map.1 ht'; exact ⟨t, ht, rfl⟩
      · rintro t _ rfl
        unfold hasV shiftT
        simp only
        omega
      · rintro a _ b _ rfl rfl ⟨p, q, h1, h2, h3⟩
        refine ⟨p + P.length, q + P.length, ?_, by omega, ?_⟩
        · rw [shift_dart]
          rw [Int.add_sub_cancel, Int.add_sub_cancel]; exact h1
        · rw [shift_dart]
          rw [Int.add_sub_cancel, Int.add_sub_cancel]; exact h3
      · rintro t _ _ _ _ rfl rfl; rfl
    obtain ⟨⟨t, ht, hvt⟩, hr⟩ := hfu
    have hup : ∀ a ∈ both P.length T U, hasV v a → a ∈ U.map (shiftT P.length) := fun a ha hva => (List.mem_append.1 ha).resolve_left fun h => both_high (List.all_eq_true.1 hT a h) (by omega) hva
    refine ⟨⟨t, List.mem_append_right _ ht, hvt⟩, ?_⟩
    intro a ha b hb hva hvb
    exact (hr a (hup a ha hva) b (hup b hb hvb) hva hvb).mono (fun x y ⟨h3, h4⟩ => ⟨List.mem_append_right _ h3, h4⟩)
theorem both_darts (n : Int) (T U : List P3) : darts (both n T U) = darts T ++ (darts U).map (shiftD n) := by
  unfold both
  rw [← darts_shift]
  exact List.flatMap_append
theorem check_both {P Q T U : List P3} (hc : CheckIs P T 0) (hd : CheckIs Q U 0) (hl : P.length + Q.length ≤ 4000) (hl2 : T.length + U.length ≤ 8000) : CheckIs (P ++ Q) (both P.length T U) 0 ∧ ((edgesF (P ++ Q).length (both P.length T U) false).length = (edgesF P.length T false).length + (edgesF Q.length U false).length) := by
  obtain ⟨_, h, hn, hf⟩ := check_zero hc
  obtain ⟨_, g, hm, hg⟩ := check_zero hd
  have hT := plain_all h
  have hU := plain_all g
  have hplain : plainM (P ++ Q) (both P.length T U) = true := by
    unfold plainM at h g ⊢
    rw [Bool.and_eq_true] at h g ⊢
    refine ⟨by rw [List.all_append, h.1, g.1]; rfl, ?_⟩
    unfold both
    rw [List.all_append, Bool.and_eq_true]
    constructor
    · refine List.all_eq_true.2 (fun t ht => ?_)
      have := triM_iff.1 (List.all_eq_true.1 hT t ht)
      rw [triM_iff, List.length_append]
      omega
    · rw [List.all_map]
      refine List.all_eq_true.2 (fun t ht => ?_)
      have := triM_iff.1 (List.all_eq_true.1 hU t ht)
      show triM _ (shiftT P.length t) = true
      rw [triM_iff, List.length_append]
      unfold shiftT
      simp only
      omega
  have hsep : ∀ a ∈ darts T, ∀ b ∈ (darts U).map (shiftD P.length), a ≠ b := by
    rintro a ha b hb rfl
    obtain ⟨d, hd2, rfl⟩ := List.mem_map.1 hb
    have h1 := (darts_in h ha).1
    have h2 := (darts_in g hd2).1
    rw [mem_pairs] at h1 h2
    simp only [shiftD] at h1
    omega
  have hnod : (darts (both P.length T U)).Nodup := by
    rw [both_darts, List.nodup_append]
    refine ⟨hn, ?_, hsep⟩
    unfold List.Nodup
    rw [List.pairwise_map]
    exact List.Pairwise.imp (fun hne e => hne (shift_inj e)) hm
  constructor
  · refine Or.inr (Or.inr (Or.inr (Or.inr ⟨?_, hplain, hnod, ?_, rfl⟩)))
    · unfold longM both
      rw [List.length_append, List.length_append, List.length_map]
      omega
    · intro v hv
      rw [List.length_append] at hv
      exact fan_both hT hU hf hg v hv
  · have hp : (edgesF (P ++ Q).length (both P.length T U) false).Perm (edgesF P.length T false ++ (edgesF Q.length U false).map (shiftD P.length)) := by
      refine perm_of_mem (edges_nodup _ _ _) ?_ (fun d => ?_)
      · rw [List.nodup_append]
        refine ⟨edges_nodup _ _ _, ?_, ?_⟩
        · unfold List.Nodup
          rw [List.pairwise_map]
          exact List.Pairwise.imp (fun hne e => hne (shift_inj e)) (edges_nodup _ _ _)
        · rintro a ha b hb rfl
          obtain ⟨d, hd2, rfl⟩ := List.mem_map.1 hb
          unfold edgesF at ha hd2
          have h1 := mem_pairs.1 (List.mem_filter.1 ha).1
          have h2 := mem_pairs.1 (List.mem_filter.1 hd2).1
          simp only [shiftD] at h1
          omega
      · rw [mem_edges hplain, List.mem_append, mem_edges h, both_darts, List.mem_append, List.mem_append]
        have hs : d ∈ (edgesF Q.length U false).map (shiftD P.length) ↔ d.1 < d.2 ∧ (d ∈ (darts U).map (shiftD P.length) ∨ swapD d ∈ (darts U).map (shiftD P.length)) := by
          constructor
          · intro hx
            obtain ⟨e, he, rfl⟩ := List.mem_map.1 hx
            obtain ⟨h1, h2⟩ := (mem_edges g).1 he
            refine ⟨by simp only [shiftD]; omega, ?_⟩
            rcases h2 with h2 | h2
            · exact Or.inl (List.mem_map_of_mem h2)
            · exact Or.inr (List.mem_map.2 ⟨swapD e, h2, rfl⟩)
          · rintro ⟨h1, h2 | h2⟩
            · obtain ⟨e, he, rfl⟩ := List.mem_map.1 h2
              refine List.mem_map_of_mem ((mem_edges g).2 ⟨?_, Or.inl he⟩)
              simp only [shiftD] at h1
              omega
            · obtain ⟨e, he, hx⟩ := List.mem_map.1 h2
              have e1 := congrArg Prod.fst hx
              have e2 := congrArg Prod.snd hx
              simp only [shiftD, swapD] at e1 e2
              refine List.mem_map.2 ⟨swapD e, (mem_edges g).2 ⟨?_, Or.inr he⟩, ?_⟩
              · show e.2 < e.1
                omega
              · exact Prod.ext e2 e1
        rw [hs]
        constructor
        · rintro ⟨h1, (h2 | h2) | (h2 | h2)⟩
          · exact Or.inl ⟨h1, Or.inl h2⟩
          · exact Or.inr ⟨h1, Or.inl h2⟩
          · exact Or.inl ⟨h1, Or.inr h2⟩
          · exact Or.inr ⟨h1, Or.inr h2⟩
        · rintro (⟨h1, h2 | h2⟩ | ⟨h1, h2 | h2⟩)
          · exact ⟨h1, Or.inl (Or.inl h2)⟩
          · exact ⟨h1, Or.inr (Or.inl h2)⟩
          · exact ⟨h1, Or.inl (Or.inr h2)⟩
          · exact ⟨h1, Or.inr (Or.inr h2)⟩
    rw [hp.length_eq, List.length_append, List.length_map]
theorem triM_flip {n : Nat} {t : P3} : triM n (flipT t) = triM n t := by
  obtain ⟨a, b, c⟩ := t
  unfold triM flipT
  apply decide_eq_decide.2
  simp only
  grind
theorem set_plain {P T : List P3} {k : Nat} (hk : k < T.length) (h : plainM P T = true) : plainM P (T.set k (flipT T[k])) = true := by
  unfold plainM at h ⊢
  rw [Bool.and_eq_true] at h ⊢
  refine ⟨h.1, List.all_eq_true.2 (fun t ht => ?_)⟩
  rcases List.mem_or_eq_of_mem_set ht with h1 | rfl
  · exact List.all_eq_true.1 h.2 t h1
  · rw [triM_flip]; exact List.all_eq_true.1 h.2 _ (List.getElem_mem hk)
/-- One turned by itself is told by an edge in one direction, if another one is at its side. -/
theorem one_flipped {P T : List P3} {k : Nat} (hk : k < T.length) (hc : CheckIs P T 0) {e : Int} (he : CheckIs P (T.set k (flipT T[k])) e) : e = 80 ↔ ∃ d ∈ dirs T[k], swapD d ∈ darts T := by
  obtain ⟨h1, h2, h3, _⟩ := check_zero hc
  have hl : ¬ longM P (T.set k (flipT T[k])) := by unfold longM at h1 ⊢; rw [List.length_set]; exact h1
  rw [check_edge he hl (set_plain hk h2), nodup_flip_one h3 hk (plain_all h2)]
  constructor
  · intro h
    apply Classical.byContradiction
    intro hno
    exact h (fun d hd hs => hno ⟨d, hd, hs⟩)
  · rintro ⟨d, hd, hs⟩ h
    exact h d hd hs
end Go.Proofs.YtckjmnbglbegmaaDoor
