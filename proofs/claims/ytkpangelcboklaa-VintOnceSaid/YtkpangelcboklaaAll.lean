/- vint.All and the document's: numbers to the end. -/
import Derived.Test.YtkpangelcboklaaGetInt
namespace Go.Proofs.Ytkpangelcboklaa
open Go.RowKit

/-- Numbers from a place on, behind those that were read. -/
def allF : Nat → List Nat → Nat → List Nat → List Nat × Nat
  | 0, _, _, acc => (acc, 0)
  | f + 1, bs, k, acc =>
    if k < bs.length then (if (get bs k).2.2 = 0 then allF f bs (get bs k).2.1 (acc ++ [(get bs k).1]) else ([], (get bs k).2.2)) else (acc, 0)

theorem scan_size : ∀ (bs : List Nat) (i acc : Nat), (scan i acc bs).2.2 = 0 → i < (scan i acc bs).2.1 ∧ (scan i acc bs).2.1 ≤ i + bs.length
  | [], _, _, h => by simp [scan] at h
  | c :: cs, i, acc, h => by
    unfold scan at h ⊢
    split
    · rename_i h1; rw [if_pos h1] at h; simp at h
    · rename_i h1
      rw [if_neg h1] at h
      split
      · rename_i h2; rw [if_pos h2] at h; simp at h
      · rename_i h2
        rw [if_neg h2] at h
        split
        · simp
        · rename_i h3
          rw [if_neg h3] at h
          have := scan_size cs (i + 1) _ h
          simp only [List.length_cons]
          omega
theorem get_moves {bs : List Nat} {k : Nat} (h : (get bs k).2.2 = 0) : k < (get bs k).2.1 ∧ (get bs k).2.1 ≤ bs.length := by
  unfold get at h ⊢
  split
  · rename_i h1; rw [if_pos h1] at h; simp at h
  · rename_i h1
    rw [if_neg h1] at h
    rw [Int.toNat_natCast] at h ⊢
    unfold getAt at h ⊢
    simp only at h ⊢
    split
    · rename_i h2
      have := scan_size _ _ _ h2
      rw [List.length_drop] at this
      simp only
      omega
    · rename_i h2
      rw [if_neg h2] at h
      exact absurd h h2

theorem allF_len : ∀ (f : Nat) (bs : List Nat) (k : Nat) (acc : List Nat), acc.length ≤ k → k ≤ bs.length → (allF f bs k acc).1.length ≤ bs.length
  | 0, _, _, _, h1, h2 => Nat.le_trans h1 h2
  | f + 1, bs, k, acc, h1, h2 => by
    unfold allF
    split
    · split
      · rename_i h4
        have := get_moves h4
        exact allF_len f bs _ _ (by rw [List.length_append, List.length_singleton]; omega) this.2
      · simp
    · exact Nat.le_trans h1 h2

def Alld (w : World) (r : List Nat × Nat) (e : Ending) (w' : World) : Prop := ∃ v, e = .returned (.tuple #[v, .int .i64 (r.2 : Int)]) ∧ Own w' w.heap.size 26 v (u64s r.1) ∧ Below w.heap.size w w'

set_option maxRecDepth 100000 in
set_option maxHeartbeats 1000000 in
theorem all_any (A : Option Addr) (n c : Nat) (bs : List Nat) (w : World) (h : Has w A n c (u8s bs)) (hb : ∀ x ∈ bs, x < 256) (hn : n ≤ 1000000) :
    Calls Try.prog 18 #[.slice A n c] w (Alld w (allF (n + 1) bs 0 [])) := by
  have HL : Aside (bs.length = n) := by have := h.len; rw [u8s_len] at this; exact this
  have HG : Hid (∀ (k : Int) W, Below w.heap.size w W → Calls Try.prog 16 #[.slice A n c, .int .i64 k] W fun e w' => e = .returned (.tuple #[.int .u64 (get bs k).1, .int .i64 (get bs k).2.1, .int .i64 (get bs k).2.2]) ∧ W = w') :=
    fun k W hW => get_any A n c bs k W (h.kept hW) hb (by omega)
  clear h hb
  go_enter Try.func18, Try.ntmps18
  go_wp2
  go_loopg [4, 5] n (fun g s4 s5 wx => ∃ (k : Nat) (acc : List Nat), k ≤ n ∧ n ≤ k + g ∧ acc.length ≤ k ∧ s5 = .int .i64 k ∧ Own wx w.heap.size 26 s4 (u64s acc) ∧ Below w.heap.size w wx ∧ Aside (allF (n + 1) bs 0 [] = allF (g + 1) bs k acc))
  case atStart => exact ⟨0, [], by omega, by omega, by simp, rfl, Own.nil _ _ _, Below.refl _ _, rfl⟩
  case round =>
    obtain ⟨k, acc, hkn, hkg, hal, rfl, hown, hbel, HA⟩ := hrel
    by_cases hk : k < n
    · have HO := Lib.hid hown
      have HB := Lib.hid hbel
      have hsz := hbel.size
      have HK : Hid (k < bs.length) := by show _; rw [HL.out]; exact hk
      clear hown hbel
      by_cases he : (get bs k).2.2 = 0
      · have hmv := get_moves he
        rw [HL.out] at hmv
        have HA2 : Aside (allF (n + 1) bs 0 [] = allF (gk - 1 + 1) bs (get bs k).2.1 (acc ++ [(get bs k).1])) := by
          show _ = _
          rw [HA.out, allF, if_pos HK.out, if_pos he, show gk - 1 + 1 = gk by omega]
        have HGk := Lib.hid (HG.out (k : Int) wr HB.out)
        have te : (((get bs k).2.2 : Int) != 0) = false := by rw [he]; rfl
        clear he HG
        generalize get bs k = r at *
        go_wp2_with (first
          | (go_at_call 16; refine HGk.out.mono ?_; rintro e w' ⟨rfl, rfl⟩)
          | (at_builtin; refine wpList_join rfl _ _ 22 rfl elem64 w.heap.size _ _ rfl (HO.out.alloc _) _ 1 1 [_] rfl (Has.one _ _ _) ?d1 ?d2 (by decide) ?d3 ?_))
        case d1 => intro u hu; simp at hu; subst hu; rfl
        case d2 => rw [u64s_len]; omega
        case d3 => simp; omega
        intro v' w' hown' hbel'
        have R1 : Own w' w.heap.size 26 v' (u64s (acc ++ [r.1])) := by rw [u64s_app]; exact hown'
        have R2 : Below w.heap.size w w' := (new_alloc HB.out _).trans hbel'
        clear hown' hbel'
        go_wp2
        go_roundg (gk - 1)
        case measure => omega
        case rel => exact ⟨r.2.1, acc ++ [r.1], by omega, by omega, by rw [List.length_append, List.length_singleton]; omega, rfl, R1, R2, HA2⟩
      · have HA2 : Aside (allF (n + 1) bs 0 [] = ([], (get bs k).2.2)) := by
          show _ = _
          rw [HA.out, allF, if_pos HK.out, if_neg he]
        have HGk := Lib.hid (HG.out (k : Int) wr HB.out)
        have te : (((get bs k).2.2 : Int) != 0) = true := by rw [bne_iff_ne]; omega
        clear he HG
        generalize get bs k = r at *
        go_wp2_with (go_at_call 16; refine HGk.out.mono ?_; rintro e w' ⟨rfl, rfl⟩)
        go_ret2
        rw [HA2.out]
        exact ⟨_, rfl, Own.nil _ _ _, HB.out⟩
    · have HA2 : Aside (allF (n + 1) bs 0 [] = (acc, 0)) := by
        show _ = _
        rw [HA.out, allF, if_neg (by rw [HL.out]; exact hk)]
      go_wp2
      go_ret2
      rw [HA2.out]
      exact ⟨_, rfl, hown, hbel⟩

set_option maxRecDepth 100000 in
set_option maxHeartbeats 1000000 in
theorem refAll_any (A : Option Addr) (n c : Nat) (bs : List Nat) (w : World) (h : Has w A n c (u8s bs)) (hb : ∀ x ∈ bs, x < 256) (hn : n ≤ 1000000) :
    Calls Try.prog 19 #[.slice A n c] w (Alld w (allF (n + 1) bs 0 [])) := by
  have HL : Aside (bs.length = n) := by have := h.len; rw [u8s_len] at this; exact this
  have HG : Hid (∀ (k : Int) W, Below w.heap.size w W → Calls Try.prog 17 #[.slice A n c, .int .i64 k] W fun e w' => e = .returned (.tuple #[.int .u64 (get bs k).1, .int .i64 (get bs k).2.1, .int .i64 (get bs k).2.2]) ∧ W = w') :=
    fun k W hW => refGet_any A n c bs k W (h.kept hW) hb (by omega)
  clear h hb
  go_enter Try.func19, Try.ntmps19
  go_wp2
  go_loopg [4, 5] n (fun g s4 s5 wx => ∃ (k : Nat) (acc : List Nat), k ≤ n ∧ n ≤ k + g ∧ acc.length ≤ k ∧ s5 = .int .i64 k ∧ Own wx w.heap.size 26 s4 (u64s acc) ∧ Below w.heap.size w wx ∧ Aside (allF (n + 1) bs 0 [] = allF (g + 1) bs k acc))
  case atStart => exact ⟨0, [], by omega, by omega, by simp, rfl, Own.nil _ _ _, Below.refl _ _, rfl⟩
  case round =>
    obtain ⟨k, acc, hkn, hkg, hal, rfl, hown, hbel, HA⟩ := hrel
    by_cases hk : k < n
    · have HO := Lib.hid hown
      have HB := Lib.hid hbel
      have hsz := hbel.size
      have HK : Hid (k < bs.length) := by show _; rw [HL.out]; exact hk
      clear hown hbel
      by_cases he : (get bs k).2.2 = 0
      · have hmv := get_moves he
        rw [HL.out] at hmv
        have HA2 : Aside (allF (n + 1) bs 0 [] = allF (gk - 1 + 1) bs (get bs k).2.1 (acc ++ [(get bs k).1])) := by
          show _ = _
          rw [HA.out, allF, if_pos HK.out, if_pos he, show gk - 1 + 1 = gk by omega]
        have HGk := Lib.hid (HG.out (k : Int) wr HB.out)
        have te : (((get bs k).2.2 : Int) != 0) = false := by rw [he]; rfl
        clear he HG
        generalize get bs k = r at *
        go_wp2_with (first
          | (go_at_call 17; refine HGk.out.mono ?_; rintro e w' ⟨rfl, rfl⟩)
          | (at_builtin; refine wpList_join rfl _ _ 22 rfl elem64 w.heap.size _ _ rfl (HO.out.alloc _) _ 1 1 [_] rfl (Has.one _ _ _) ?d1 ?d2 (by decide) ?d3 ?_))
        case d1 => intro u hu; simp at hu; subst hu; rfl
        case d2 => rw [u64s_len]; omega
        case d3 => simp; omega
        intro v' w' hown' hbel'
        have R1 : Own w' w.heap.size 26 v' (u64s (acc ++ [r.1])) := by rw [u64s_app]; exact hown'
        have R2 : Below w.heap.size w w' := (new_alloc HB.out _).trans hbel'
        clear hown' hbel'
        go_wp2
        go_roundg (gk - 1)
        case measure => omega
        case rel => exact ⟨r.2.1, acc ++ [r.1], by omega, by omega, by rw [List.length_append, List.length_singleton]; omega, rfl, R1, R2, HA2⟩
      · have HA2 : Aside (allF (n + 1) bs 0 [] = ([], (get bs k).2.2)) := by
          show _ = _
          rw [HA.out, allF, if_pos HK.out, if_neg he]
        have HGk := Lib.hid (HG.out (k : Int) wr HB.out)
        have te : (((get bs k).2.2 : Int) != 0) = true := by rw [bne_iff_ne]; omega
        clear he HG
        generalize get bs k = r at *
        go_wp2_with (go_at_call 17; refine HGk.out.mono ?_; rintro e w' ⟨rfl, rfl⟩)
        go_ret2
        rw [HA2.out]
        exact ⟨_, rfl, Own.nil _ _ _, HB.out⟩
    · have HA2 : Aside (allF (n + 1) bs 0 [] = (acc, 0)) := by
        show _ = _
        rw [HA.out, allF, if_neg (by rw [HL.out]; exact hk)]
      go_wp2
      go_ret2
      rw [HA2.out]
      exact ⟨_, rfl, hown, hbel⟩
end Go.Proofs.Ytkpangelcboklaa
