/- Layer 11: a surface by other numbers: plain mathematics for WalkNumbers. -/
import Derived.Test.YtjahphfjobnkaaaDoorWalkRefH
namespace Go.Proofs.YtjahphfjobnkaaaDoor

/-- Numbers, two of them exchanged again and again. -/
def numK (n : Nat) (l : List Nat) : Nat → List Nat
  | 0 => List.range n
  | k + 1 => swapL (numK n l k) (l[k]?.getD 0 % n) ((l[k]?.getD 0 % n + 1 + k) % n)
theorem numK_ok {n : Nat} (h0 : 0 < n) (l : List Nat) : ∀ k, NumOk n (numK n l k) := by
  intro k
  induction k with
  | zero => exact numOk_range n
  | succ k ih => exact ih.swap (Nat.mod_lt _ h0) (Nat.mod_lt _ h0)
/-- Points put where the numbers say. -/
def ptsTo (n : Nat) (P : List P3) (num : List Nat) : Nat → List P3
  | 0 => List.replicate n (0, 0, 0)
  | i + 1 => (ptsTo n P num i).set (num[i]?.getD 0) (P[i]?.getD (0, 0, 0))
theorem ptsTo_len (n : Nat) (P : List P3) (num : List Nat) : ∀ i, (ptsTo n P num i).length = n := by
  intro i
  induction i with
  | zero => exact List.length_replicate
  | succ i ih => unfold ptsTo; rw [List.length_set]; exact ih
theorem ptsTo_at {n : Nat} {P : List P3} {num : List Nat} (h : NumOk n num) : ∀ i, i ≤ n → ∀ j, j < i → (ptsTo n P num i)[num[j]?.getD 0]? = some (P[j]?.getD (0, 0, 0)) := by
  intro i
  induction i with
  | zero => intro _ j hj; exact absurd hj (Nat.not_lt_zero _)
  | succ i ih =>
    intro hi j hj
    unfold ptsTo
    by_cases e : j = i
    · subst e
      exact List.getElem?_set_self (by rw [ptsTo_len]; exact h.lt j (by omega))
    · rw [List.getElem?_set_ne (fun e2 => e (h.inj _ _ (by omega) (by omega) e2).symm)]
      exact ih (by omega) j (by omega)
def oddB (l : List Nat) (i : Nat) : Bool := decide (0 < i) && decide (0 < l.length) && decide (l[i % l.length]?.getD 0 % 2 = 1)
/-- The i-th triangle by other numbers. -/
def triK (n : Nat) (T : List P3) (num l : List Nat) (i : Nat) : P3 :=
  let t := mapT (sigN n num) (T[backI T.length i]?.getD (0, 0, 0))
  if oddB l i then (t.2.1, t.2.2, t.1) else t
theorem triK_rot (n : Nat) (T : List P3) (num l : List Nat) (i : Nat) : ∃ k, triK n T num l i = rotT k (mapT (sigN n num) (T[backI T.length i]?.getD (0, 0, 0))) := by
  unfold triK
  cases oddB l i with
  | true => exact ⟨1, rfl⟩
  | false => exact ⟨0, rfl⟩
def trisK (n : Nat) (T : List P3) (num l : List Nat) (i : Nat) : List P3 := (List.range i).map (triK n T num l)
theorem trisK_next (n : Nat) (T : List P3) (num l : List Nat) (i : Nat) : trisK n T num l (i + 1) = trisK n T num l i ++ [triK n T num l i] := by
  unfold trisK
  rw [List.range_succ, List.map_append]
  rfl
theorem trisK_len (n : Nat) (T : List P3) (num l : List Nat) (i : Nat) : (trisK n T num l i).length = i := by unfold trisK; rw [List.length_map, List.length_range]
/-- By other numbers it is a surface, with the same canon. -/
theorem other_canon {P T : List P3} {num l : List Nat} {p : List Nat} (hc : CheckIs P T 0) (h0 : 0 < T.length) (hp : PiecesIs T p) (h1 : ∀ (i : Nat) (hi : i < p.length), p[i] = 0) (hN : NumOk P.length num) :
    CheckIs (ptsTo P.length P num P.length) (trisK P.length T num l T.length) 0 ∧ (walkF (trisK P.length T num l T.length)).N = (walkF T).N ∧ canonP (ptsTo P.length P num P.length) (trisK P.length T num l T.length) = canonP P T := by
  obtain ⟨_, hpl, hn, _⟩ := check_zero hc
  unfold plainM at hpl
  rw [Bool.and_eq_true] at hpl
  obtain ⟨hpt, hall⟩ := hpl
  have hlen : (trisK P.length T num l T.length).length = T.length := trisK_len _ _ _ _ _
  have hS : SameW T (trisK P.length T num l T.length) (sigN P.length num) (backI T.length) := by
    refine numbers_same hN hlen fun i hi => ?_
    have hb := backI_lt hi
    obtain ⟨k, hk⟩ := triK_rot P.length T num l (backI T.length i)
    refine ⟨k, ?_⟩
    rw [backI_back hi, List.getElem?_eq_getElem hi, Option.getD_some] at hk
    unfold trisK
    rw [List.getElem?_map, List.getElem?_range hb, Option.map_some, hk]
  have hsur : ∀ y, y < P.length → ∃ i, i < P.length ∧ num[i]?.getD 0 = y := fun y hy => hN.sur hy
  have hat := ptsTo_at (P := P) hN P.length (Nat.le_refl _)
  have hpt2 : (ptsTo P.length P num P.length).all pointM = true := by
    rw [List.all_eq_true]
    intro x hx
    obtain ⟨j, hj, rfl⟩ := List.getElem_of_mem hx
    rw [ptsTo_len] at hj
    obtain ⟨i, hi, rfl⟩ := hsur j hj
    have h2 := hat i hi
    rw [List.getElem?_eq_getElem (by rw [ptsTo_len]; exact hj)] at h2
    rw [Option.some.inj h2, List.getElem?_eq_getElem hi]
    exact List.all_eq_true.1 hpt _ (List.getElem_mem hi)
  have hck := hS.check (ptsTo_len _ _ _ _) hpt2 (sigN_range hN) (sigN_sur hN) hc
  obtain ⟨_, hpl2, hn2, _⟩ := check_zero hck
  unfold plainM at hpl2
  rw [Bool.and_eq_true] at hpl2
  have hone := one_all hall hn h0 fun j hj => (hp.same 0 j (by rw [hp.len]; exact h0) (by rw [hp.len]; exact hj)).1 (by rw [h1 0 (by rw [hp.len]; exact h0), h1 j (by rw [hp.len]; exact hj)])
  have hfst : (trisK P.length T num l T.length)[0]? = some (mapT (sigN P.length num) T[0]) := by
    unfold trisK
    rw [List.getElem?_map, List.getElem?_range h0, Option.map_some]
    have e : triK P.length T num l 0 = mapT (sigN P.length num) (T[backI T.length 0]?.getD (0, 0, 0)) := rfl
    rw [e]
    have e2 : backI T.length 0 = 0 := rfl
    rw [e2, List.getElem?_eq_getElem h0]
    rfl
  have hsim := numbers_sim hS hall hpl2.2 hn2 h0 rfl hfst hone
  refine ⟨hck, hsim.N, ?_⟩
  rw [canonP_is, canonP_is, hsim.V, List.map_map]
  apply List.map_congr_left
  intro x hx
  obtain ⟨hx0, hx1⟩ := (verts_all hc x).1 hx
  obtain ⟨j, rfl⟩ := Int.eq_ofNat_of_zero_le hx0
  have hj : j < P.length := by omega
  show ptF _ (sigN P.length num (j : Int)) = ptF P (j : Int)
  unfold sigN ptF
  rw [if_pos ⟨hx0, hx1⟩, Int.toNat_natCast, Int.toNat_natCast, hat j hj]
  rfl
end Go.Proofs.YtjahphfjobnkaaaDoor
