/- lapidaryref10: Has, coord, joined. -/
import Derived.Test.YtckjmnbglbegmaaDoorMeshAlg
import Derived.Test.YtckjmnbglbegmaaDoorPts
import Derived.Deep.LoopGhost
import Derived.Deep.WholeRow
import Derived.Laws.ResultCell
import Derived.Deep.RegionHeld3
import Derived.RegionTactic
namespace Go.Proofs.YtckjmnbglbegmaaDoor
open Go.RowKit

theorem neq_pair {p q a b : Int} (h : ¬ ((p, q) = (a, b))) : (p == a) = false ∨ ((p == a) = true ∧ (q == b) = false) := by
  by_cases h1 : p = a
  · by_cases h2 : q = b
    · subst h1 h2; exact absurd rfl h
    · exact Or.inr ⟨beq_iff_eq.2 h1, beq_eq_false_iff_ne.2 h2⟩
  · exact Or.inl (beq_eq_false_iff_ne.2 h1)
set_option maxRecDepth 100000 in
set_option maxHeartbeats 1600000 in
theorem ref10Has_any (A : Option Addr) (n c : Nat) (l : List P3) (a b : Int) (w : World) (h : HasK 3 w A n c (p3Cells l)) (hn : n ≤ 100000) : Calls Tryd.prog 28 #[.slice A n c, .int .i64 a, .int .i64 b] w fun e w' => e = .returned (.int .i64 (hasF l a b)) ∧ w = w' := by
  have HL : Hid (l.length = n) := by have := h.len; rw [p3Cells_len] at this; show _ = _; omega
  have HH := Lib.hid h
  clear h
  go_enter Tryd.func28, Tryd.ntmps28
  go_wp2
  go_loopg [7, 8] n (fun g s7 s8 wx => ∃ i : Nat, i + g = n ∧ s7 = .int .i64 i ∧ w = wx ∧ Hid (∀ j, ∀ hj : j < i, ∀ hl : j < l.length, (a, b) ∉ dirs l[j]))
  case atStart => exact ⟨0, by omega, rfl, rfl, fun j hj => absurd hj (by omega)⟩
  case round =>
    obtain ⟨i, hig, rfl, rfl, HR⟩ := hrel
    by_cases hi : i < n
    · have ti : decide ((i : Int) < (n : Int)) = true := by simp; omega
      have i2 : (i : Int) < (n : Int) := by omega
      have hil : i < l.length := by rw [HL.out]; exact hi
      obtain ⟨B, off, rfl, hlt, _⟩ := HH.out.spot (by omega)
      obtain ⟨c0, c1, c2⟩ := p3_at HH.out hil
      have HF : Hid ((a, b) ∈ dirs l[i] → hasF l a b = i) := fun hd => hasF_at hil hd (fun j hj => HR.out j hj (by omega))
      have HT : Hid ((a, b) ∉ dirs l[i] → ∀ j, ∀ hj : j < i + 1, ∀ hl : j < l.length, (a, b) ∉ dirs l[j]) := fun hno j hj hl => by
        by_cases e : j = i
        · subst e; exact hno
        · exact HR.out j (by omega) hl
      have hD : dirs l[i] = [(l[i].1, l[i].2.1), (l[i].2.1, l[i].2.2), (l[i].2.2, l[i].1)] := rfl
      rw [hD] at HF HT
      clear hD
      generalize l[i] = t at *
      obtain ⟨x, y, z⟩ := t
      simp only at c0 c1 c2 HF HT
      clear hil hlt
      go_wp2
      go_loopg [8] 3 (fun g s8 wx => ∃ k : Nat, k + g = 3 ∧ s8 = .int .i64 k ∧ w = wx ∧ Hid (∀ m, m < k → ([(x, y), (y, z), (z, x)] : List (Int × Int))[m]? ≠ some (a, b)))
      case atStart => exact ⟨0, by omega, rfl, rfl, fun m hm => absurd hm (by omega)⟩
      case round =>
        obtain ⟨k, hkg, rfl, rfl, HK⟩ := hrel
        rcases (show k = 0 ∨ k = 1 ∨ k = 2 ∨ k = 3 by omega) with rfl | rfl | rfl | rfl
        · by_cases hq : (x, y) = (a, b)
          · have HZ := Lib.hid (HF.out (by rw [hq]; exact List.mem_cons_self ..))
            have e1 : (x == a) = true := beq_iff_eq.2 (congrArg Prod.fst hq)
            have e2 : (y == b) = true := beq_iff_eq.2 (congrArg Prod.snd hq)
            clear hq
            go_wp2
            go_ret
            exact ⟨by rw [HZ.out]; rfl, rfl⟩
          · have HK2 : Hid (∀ m, m < 1 → ([(x, y), (y, z), (z, x)] : List (Int × Int))[m]? ≠ some (a, b)) := fun m hm => by
              obtain rfl : m = 0 := by omega
              exact fun e => hq (Option.some.inj e)
            rcases neq_pair hq with e1 | ⟨e1, e2⟩
            all_goals
              clear hq
              go_wp2
              go_roundg (gk - 1)
              case measure => omega
              case rel => exact ⟨1, by omega, by first | rfl | go_num, rfl, HK2⟩
        · by_cases hq : (y, z) = (a, b)
          · have HZ := Lib.hid (HF.out (by rw [hq]; exact List.mem_cons_of_mem _ (List.mem_cons_self ..)))
            have e1 : (y == a) = true := beq_iff_eq.2 (congrArg Prod.fst hq)
            have e2 : (z == b) = true := beq_iff_eq.2 (congrArg Prod.snd hq)
            clear hq
            go_wp2
            go_ret
            exact ⟨by rw [HZ.out]; rfl, rfl⟩
          · have HK2 : Hid (∀ m, m < 2 → ([(x, y), (y, z), (z, x)] : List (Int × Int))[m]? ≠ some (a, b)) := fun m hm => by
              by_cases e : m = 1
              · subst e; exact fun e => hq (Option.some.inj e)
              · exact HK.out m (by omega)
            rcases neq_pair hq with e1 | ⟨e1, e2⟩
            all_goals
              clear hq
              go_wp2
              go_roundg (gk - 1)
              case measure => omega
              case rel => exact ⟨2, by omega, by first | rfl | go_num, rfl, HK2⟩
        · by_cases hq : (z, x) = (a, b)
          · have HZ := Lib.hid (HF.out (by rw [hq]; exact List.mem_cons_of_mem _ (List.mem_cons_of_mem _ (List.mem_cons_self ..))))
            have e1 : (z == a) = true := beq_iff_eq.2 (congrArg Prod.fst hq)
            have e2 : (x == b) = true := beq_iff_eq.2 (congrArg Prod.snd hq)
            clear hq
            go_wp2
            go_ret
            exact ⟨by rw [HZ.out]; rfl, rfl⟩
          · have HK2 : Hid (∀ m, m < 3 → ([(x, y), (y, z), (z, x)] : List (Int × Int))[m]? ≠ some (a, b)) := fun m hm => by
              by_cases e : m = 2
              · subst e; exact fun e => hq (Option.some.inj e)
              · exact HK.out m (by omega)
            rcases neq_pair hq with e1 | ⟨e1, e2⟩
            all_goals
              clear hq
              go_wp2
              go_roundg (gk - 1)
              case measure => omega
              case rel => exact ⟨3, by omega, by first | rfl | go_num, rfl, HK2⟩
        · have HR2 := Lib.hid (HT.out (fun hm => by
            obtain ⟨m, hm, e⟩ := List.mem_iff_getElem.1 hm
            exact HK.out m hm (by rw [List.getElem?_eq_getElem hm, e])))
          go_wp2
          go_roundg (n - (i + 1))
          case measure => omega
          case rel => exact ⟨i + 1, by omega, by go_num, rfl, HR2⟩
    · have ti : decide ((i : Int) < (n : Int)) = false := by simp; omega
      have HE : Hid (hasF l a b = -1) := hasF_none (fun hc => by
        obtain ⟨t, ht, hd⟩ := mem_darts.1 hc
        obtain ⟨j, hj, rfl⟩ := List.mem_iff_getElem.1 ht
        exact HR.out j (by have := HL.out; omega) hj hd)
      go_wp2
      go_ret
      exact ⟨by rw [HE.out]; rfl, rfl⟩
set_option maxRecDepth 100000 in
theorem ref10coord_any (n : Int) (w : World) : Calls Tryd.prog 48 #[.int .i64 n] w fun e w' => e = .returned (.bool (coordM n)) ∧ w = w' := by
  have hs : (decide (-2147483648 ≤ n) = false ∧ coordM n = false) ∨ (decide (-2147483648 ≤ n) = true ∧ decide (n ≤ 2147483647) = coordM n) := by
    unfold coordM
    cases decide (-2147483648 ≤ n) <;> simp
  generalize coordM n = r at *
  rcases hs with ⟨h1, rfl⟩ | ⟨h1, h2⟩
  all_goals
    go_enter Tryd.func48, Tryd.ntmps48
    go_wp2
    go_ret
    exact ⟨rfl, rfl⟩
end Go.Proofs.YtckjmnbglbegmaaDoor
