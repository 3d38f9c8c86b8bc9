/- Layer 10: triangles that are a surface: plain mathematics. -/
import Derived.Test.YtckjmnbglbegmaaDoorMeshGraph
import Derived.Test.YtckjmnbglbegmaaDoorGeomMath
namespace Go.Proofs.YtckjmnbglbegmaaDoor
open Classical

/-- The directed edges of a triangle. -/
def dirs (t : P3) : List (Int × Int) := [(t.1, t.2.1), (t.2.1, t.2.2), (t.2.2, t.1)]
def darts (T : List P3) : List (Int × Int) := T.flatMap dirs
theorem mem_darts {T : List P3} {d : Int × Int} : d ∈ darts T ↔ ∃ t ∈ T, d ∈ dirs t := List.mem_flatMap
def coordM (n : Int) : Bool := decide (-2147483648 ≤ n) && decide (n ≤ 2147483647)
def pointM (p : P3) : Bool := coordM p.1 && coordM p.2.1 && coordM p.2.2
/-- Three others, each of them one of so many. -/
def triM (n : Nat) (t : P3) : Bool := decide (t.1 ≠ t.2.1 ∧ t.2.1 ≠ t.2.2 ∧ t.2.2 ≠ t.1 ∧ (0 ≤ t.1 ∧ t.1 < n) ∧ (0 ≤ t.2.1 ∧ t.2.1 < n) ∧ (0 ≤ t.2.2 ∧ t.2.2 < n))
theorem triM_iff {n : Nat} {t : P3} : triM n t = true ↔ (t.1 ≠ t.2.1 ∧ t.2.1 ≠ t.2.2 ∧ t.2.2 ≠ t.1 ∧ (0 ≤ t.1 ∧ t.1 < n) ∧ (0 ≤ t.2.1 ∧ t.2.1 < n) ∧ (0 ≤ t.2.2 ∧ t.2.2 < n)) := decide_eq_true_iff
def plainM (P T : List P3) : Bool := P.all pointM && T.all (triM P.length)
inductive Reach {α : Type} (r : α → α → Prop) (x : α) : α → Prop
  | refl : Reach r x x
  | step {y z : α} (h : Reach r x y) (s : r y z) : Reach r x z
theorem Reach.trans {α : Type} {r : α → α → Prop} {x y z : α} (h : Reach r x y) (g : Reach r y z) : Reach r x z := by
  induction g with
  | refl => exact h
  | step _ s ih => exact ih.step s
theorem Reach.head {α : Type} {r : α → α → Prop} {x y z : α} (s : r x y) (g : Reach r y z) : Reach r x z := (Reach.refl.step s).trans g
theorem Reach.mono {α : Type} {r s : α → α → Prop} (h : ∀ x y, r x y → s x y) {x y : α} (g : Reach r x y) : Reach s x y := by
  induction g with
  | refl => exact Reach.refl
  | step _ e ih => exact ih.step (h _ _ e)
theorem Reach.least {α : Type} {r s : α → α → Prop} (h : Eqv s) (hr : ∀ x y, r x y → s x y) {x y : α} (g : Reach r x y) : s x y := by
  induction g with
  | refl => exact h.refl _
  | step _ e ih => exact h.trans ih (hr _ _ e)
/-- At a vertex. -/
def hasV (v : Int) (t : P3) : Prop := t.1 = v ∨ t.2.1 = v ∨ t.2.2 = v
/-- An edge at a vertex in common, in opposite directions. -/
def joinedV (v : Int) (a b : P3) : Prop := ∃ p q, (p, q) ∈ dirs a ∧ (p = v ∨ q = v) ∧ (q, p) ∈ dirs b
theorem joined_symm {v : Int} {a b : P3} (h : joinedV v a b) : joinedV v b a := by
  obtain ⟨p, q, h1, h2, h3⟩ := h
  exact ⟨q, p, h3, h2.symm, h1⟩
theorem mem_dirs {t : P3} {d : Int × Int} : d ∈ dirs t ↔ d = (t.1, t.2.1) ∨ d = (t.2.1, t.2.2) ∨ d = (t.2.2, t.1) := by
  unfold dirs
  simp only [List.mem_cons, List.not_mem_nil, or_false]
theorem hasV_out {v : Int} {t : P3} : hasV v t ↔ ∃ q, (v, q) ∈ dirs t := by
  obtain ⟨a, b, c⟩ := t
  simp only [mem_dirs, hasV, Prod.mk.injEq]
  constructor
  · rintro (rfl | rfl | rfl)
    · exact ⟨_, Or.inl ⟨rfl, rfl⟩⟩
    · exact ⟨_, Or.inr (Or.inl ⟨rfl, rfl⟩)⟩
    · exact ⟨_, Or.inr (Or.inr ⟨rfl, rfl⟩)⟩
  · rintro ⟨q, ⟨rfl, _⟩ | ⟨rfl, _⟩ | ⟨rfl, _⟩⟩
    · exact Or.inl rfl
    · exact Or.inr (Or.inl rfl)
    · exact Or.inr (Or.inr rfl)
theorem hasV_in {v : Int} {t : P3} : hasV v t ↔ ∃ p, (p, v) ∈ dirs t := by
  obtain ⟨a, b, c⟩ := t
  simp only [mem_dirs, hasV, Prod.mk.injEq]
  constructor
  · rintro (rfl | rfl | rfl)
    · exact ⟨_, Or.inr (Or.inr ⟨rfl, rfl⟩)⟩
    · exact ⟨_, Or.inl ⟨rfl, rfl⟩⟩
    · exact ⟨_, Or.inr (Or.inl ⟨rfl, rfl⟩)⟩
  · rintro ⟨q, ⟨_, rfl⟩ | ⟨_, rfl⟩ | ⟨_, rfl⟩⟩
    · exact Or.inr (Or.inl rfl)
    · exact Or.inr (Or.inr rfl)
    · exact Or.inl rfl
theorem joined_has {v : Int} {a b : P3} (h : joinedV v a b) : hasV v a ∧ hasV v b := by
  obtain ⟨p, q, h1, rfl | rfl, h3⟩ := h
  · exact ⟨hasV_out.2 ⟨_, h1⟩, hasV_in.2 ⟨_, h3⟩⟩
  · exact ⟨hasV_in.2 ⟨_, h1⟩, hasV_out.2 ⟨_, h3⟩⟩
/-- All at a vertex, and there is one, hang together by such edges. -/
def Fan (T : List P3) (v : Int) : Prop := (∃ t ∈ T, hasV v t) ∧ ∀ t ∈ T, ∀ u ∈ T, hasV v t → hasV v u → Reach (fun a b => b ∈ T ∧ joinedV v a b) t u
def longM (P T : List P3) : Prop := 4000 < P.length ∨ 8000 < T.length
def fansM (P T : List P3) : Prop := ∀ v : Nat, v < P.length → Fan T v
/-- What is wrong, or nothing. -/
def CheckIs (P T : List P3) (e : Int) : Prop :=
  (longM P T ∧ e = 3) ∨ (¬ longM P T ∧ plainM P T = false ∧ e = 2) ∨ (¬ longM P T ∧ plainM P T = true ∧ ¬ (darts T).Nodup ∧ e = 80) ∨
  (¬ longM P T ∧ plainM P T = true ∧ (darts T).Nodup ∧ ¬ fansM P T ∧ e = 81) ∨ (¬ longM P T ∧ plainM P T = true ∧ (darts T).Nodup ∧ fansM P T ∧ e = 0)
theorem check_total (P T : List P3) : ∃ e, CheckIs P T e := by
  by_cases h1 : longM P T
  · exact ⟨3, Or.inl ⟨h1, rfl⟩⟩
  · cases h2 : plainM P T with
    | false => exact ⟨2, Or.inr (Or.inl ⟨h1, h2, rfl⟩)⟩
    | true =>
      by_cases h3 : (darts T).Nodup
      · by_cases h4 : fansM P T
        · exact ⟨0, Or.inr (Or.inr (Or.inr (Or.inr ⟨h1, h2, h3, h4, rfl⟩)))⟩
        · exact ⟨81, Or.inr (Or.inr (Or.inr (Or.inl ⟨h1, h2, h3, h4, rfl⟩)))⟩
      · exact ⟨80, Or.inr (Or.inr (Or.inl ⟨h1, h2, h3, rfl⟩))⟩
theorem check_congr {P T P' T' : List P3} (h1 : longM P T ↔ longM P' T') (h2 : plainM P T = plainM P' T') (h3 : (darts T).Nodup ↔ (darts T').Nodup) (h4 : plainM P T = true → (darts T).Nodup → (fansM P T ↔ fansM P' T')) {e : Int} (h : CheckIs P T e) : CheckIs P' T' e := by
  unfold CheckIs at h ⊢
  rw [← h1, ← h2, ← h3]
  rcases h with h | h | h | h | h
  · exact Or.inl h
  · exact Or.inr (Or.inl h)
  · exact Or.inr (Or.inr (Or.inl h))
  · obtain ⟨a, b, c, d, rfl⟩ := h
    exact Or.inr (Or.inr (Or.inr (Or.inl ⟨a, b, c, fun q => d ((h4 b c).2 q), rfl⟩)))
  · obtain ⟨a, b, c, d, rfl⟩ := h
    exact Or.inr (Or.inr (Or.inr (Or.inr ⟨a, b, c, (h4 b c).1 d, rfl⟩)))
theorem check_one {P T : List P3} {e f : Int} (h : CheckIs P T e) (g : CheckIs P T f) : e = f := by
  unfold CheckIs at h g
  grind
theorem check_zero {P T : List P3} (h : CheckIs P T 0) : ¬ longM P T ∧ plainM P T = true ∧ (darts T).Nodup ∧ fansM P T := by
  unfold CheckIs at h
  rcases h with ⟨_, h⟩ | ⟨_, _, h⟩ | ⟨_, _, _, h⟩ | ⟨_, _, _, _, h⟩ | ⟨a, b, c, d, _⟩
  · cases h
  · cases h
  · cases h
  · cases h
  · exact ⟨a, b, c, d⟩
/-- Who has a directed edge in common is one. -/
theorem dart_one {T : List P3} (hn : (darts T).Nodup) {t u : P3} (ht : t ∈ T) (hu : u ∈ T) {d : Int × Int} (h1 : d ∈ dirs t) (h2 : d ∈ dirs u) : t = u := by
  induction T with
  | nil => cases ht
  | cons x T ih =>
    unfold darts at hn
    rw [List.flatMap_cons, List.nodup_append] at hn
    obtain ⟨_, n2, n3⟩ := hn
    rcases List.mem_cons.1 ht with rfl | ht2 <;> rcases List.mem_cons.1 hu with rfl | hu2
    · rfl
    · exact absurd rfl (n3 d h1 d (mem_darts.2 ⟨u, hu2, h2⟩))
    · exact absurd rfl (n3 d h2 d (mem_darts.2 ⟨t, ht2, h1⟩))
    · exact ih n2 ht2 hu2
theorem darts_nodup {T : List P3} (hn : (darts T).Nodup) : T.Nodup := by
  induction T with
  | nil => exact List.nodup_nil
  | cons x T ih =>
    unfold darts at hn
    rw [List.flatMap_cons, List.nodup_append] at hn
    obtain ⟨_, n2, n3⟩ := hn
    rw [List.nodup_cons]
    refine ⟨fun hx => ?_, ih n2⟩
    have hd : (x.1, x.2.1) ∈ dirs x := by simp [dirs]
    exact n3 _ hd _ (mem_darts.2 ⟨x, hx, hd⟩) rfl
/-- Fans are carried over. -/
theorem fan_over {T T' : List P3} {v v' : Int} (R : P3 → P3 → Prop) (h1 : ∀ t ∈ T, ∃ t' ∈ T', R t t') (h2 : ∀ t' ∈ T', hasV v' t' → ∃ t ∈ T, R t t') (h3 : ∀ t t', R t t' → (hasV v t ↔ hasV v' t')) (h4 : ∀ a a' b b', R a a' → R b b' → joinedV v a b → joinedV v' a' b') (h5 : ∀ t t' t'', t' ∈ T' → t'' ∈ T' → R t t' → R t t'' → t' = t'') (h : Fan T v) : Fan T' v' := by
  obtain ⟨⟨t, ht, hv⟩, hc⟩ := h
  constructor
  · obtain ⟨t', ht', hr⟩ := h1 t ht
    exact ⟨t', ht', (h3 _ _ hr).1 hv⟩
  · intro t' ht' u' hu' hvt hvu
    obtain ⟨t, ht, hr⟩ := h2 t' ht' hvt
    obtain ⟨u, hu, hru⟩ := h2 u' hu' hvu
    have hp := hc t ht u hu ((h3 _ _ hr).2 hvt) ((h3 _ _ hru).2 hvu)
    have key : ∀ {x}, Reach (fun a b => b ∈ T ∧ joinedV v a b) t x → ∀ x', x' ∈ T' → R x x' → Reach (fun a b => b ∈ T' ∧ joinedV v' a b) t' x' := by
      intro x hx
      induction hx with
      | refl => intro x' hx' hr2; rw [h5 t t' x' ht' hx' hr hr2]; exact Reach.refl
      | step hy s ih =>
        intro x' hx' hr2
        rename_i y z
        have hyT : y ∈ T := by
          cases hy with
          | refl => exact ht
          | step _ s2 => exact s2.1
        obtain ⟨y', hy', hry⟩ := h1 _ hyT
        exact (ih y' hy' hry).step ⟨hx', h4 _ _ _ _ hry hr2 s.2⟩
    exact key hp u' hu' hru
theorem fan_mem {T T' : List P3} (h : ∀ t, t ∈ T ↔ t ∈ T') (v : Int) : Fan T v ↔ Fan T' v := by
  unfold Fan
  simp only [h]
theorem darts_perm {T T' : List P3} (h : T.Perm T') : (darts T).Perm (darts T') := h.flatMap_right _
theorem check_perm {P T T' : List P3} (h : T.Perm T') {e : Int} (hc : CheckIs P T e) : CheckIs P T' e := by
  refine check_congr ?_ ?_ (darts_perm h).nodup_iff ?_ hc
  · unfold longM; rw [h.length_eq]
  · unfold plainM; rw [h.all_eq]
  · intro _ _
    unfold fansM
    have := fun v : Nat => fan_mem (fun t => h.mem_iff (a := t)) (v : Int)
    simp only [this]
/-- The other way round. -/
def flipT (t : P3) : P3 := (t.1, t.2.2, t.2.1)
def swapD (d : Int × Int) : Int × Int := (d.2, d.1)
theorem flip_flip (t : P3) : flipT (flipT t) = t := rfl
theorem dirs_flip {t : P3} {p q : Int} : (p, q) ∈ dirs (flipT t) ↔ (q, p) ∈ dirs t := by
  obtain ⟨a, b, c⟩ := t
  simp only [mem_dirs, flipT, Prod.mk.injEq]
  grind
theorem hasV_flip {t : P3} {v : Int} : hasV v (flipT t) ↔ hasV v t := by
  obtain ⟨a, b, c⟩ := t
  simp only [hasV, flipT]
  grind
theorem joined_flip {a b : P3} {v : Int} : joinedV v (flipT a) (flipT b) ↔ joinedV v a b := by
  constructor
  · rintro ⟨p, q, h1, h2, h3⟩; exact ⟨q, p, dirs_flip.1 h1, h2.symm, dirs_flip.1 h3⟩
  · rintro ⟨p, q, h1, h2, h3⟩; exact ⟨q, p, dirs_flip.2 h1, h2.symm, dirs_flip.2 h3⟩
theorem fan_flip {T : List P3} {v : Int} (h : Fan T v) : Fan (T.map flipT) v := by
  refine fan_over (fun t t' => t' = flipT t) (fun t ht => ⟨_, List.mem_map_of_mem ht, rfl⟩) (fun t' ht' _ => ?_) ?_ ?_ ?_ h
  · obtain ⟨t, ht, rfl⟩ := List.mem_map.1 ht'; exact ⟨t, ht, rfl⟩
  · rintro t _ rfl; exact hasV_flip.symm
  · rintro a _ b _ rfl rfl hj; exact joined_flip.2 hj
  · rintro t _ _ _ _ rfl rfl; rfl
theorem map_flip (T : List P3) : (T.map flipT).map flipT = T := by
  rw [List.map_map]
  conv => rhs; rw [← List.map_id T]
  rfl
theorem darts_flip (T : List P3) : (darts (T.map flipT)).Perm ((darts T).map swapD) := by
  induction T with
  | nil => exact List.Perm.nil
  | cons t T ih =>
    show (dirs (flipT t) ++ darts (T.map flipT)).Perm ((dirs t ++ darts T).map swapD)
    rw [List.map_append]
    refine List.Perm.append ?_ ih
    obtain ⟨a, b, c⟩ := t
    show [(a, c), (c, b), (b, a)].Perm [(b, a), (c, b), (a, c)]
    exact List.reverse_perm [(b, a), (c, b), (a, c)]
theorem swap_nodup {D : List (Int × Int)} : (D.map swapD).Nodup ↔ D.Nodup := by
  unfold List.Nodup
  rw [List.pairwise_map]
  constructor
  · intro h; exact h.imp (fun h1 e => h1 (by rw [e]))
  · intro h; exact h.imp (fun h1 e => h1 (by
      have e1 := congrArg Prod.fst e
      have e2 := congrArg Prod.snd e
      exact Prod.ext e2 e1))
theorem check_flip {P T : List P3} {e : Int} (hc : CheckIs P T e) : CheckIs P (T.map flipT) e := by
  refine check_congr ?_ ?_ ?_ ?_ hc
  · unfold longM; rw [List.length_map]
  · unfold plainM
    rw [List.all_map]
    congr 1
    apply List.all_congr rfl
    intro t
    show triM _ t = triM _ (flipT t)
    unfold triM flipT
    apply decide_eq_decide.2
    simp only
    grind
  · rw [(darts_flip T).nodup_iff, swap_nodup]
  · intro _ _
    constructor
    · intro h v hv; exact fan_flip (h v hv)
    · intro h v hv
      have := fan_flip (h v hv)
      rw [map_flip] at this
      exact this
end Go.Proofs.YtckjmnbglbegmaaDoor
