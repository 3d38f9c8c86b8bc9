/- The landed mesh: Turned. -/
import Derived.Test.YtckjmnbglbegmaaDoorMeshCodeN
namespace Go.Proofs.YtckjmnbglbegmaaDoor
open Go.RowKit

def cornB (x : Int) : Bool := decide (0 ≤ x) && decide (x ≤ 2)
theorem corn_ways (x : Int) : (x < 0 ∧ cornB x = false) ∨ (¬ x < 0 ∧ 2 < x ∧ cornB x = false) ∨ (¬ x < 0 ∧ ¬ 2 < x ∧ cornB x = true) := by
  unfold cornB
  by_cases h1 : x < 0
  · exact Or.inl ⟨h1, by rw [decide_eq_false (by omega)]; rfl⟩
  · by_cases h2 : 2 < x
    · exact Or.inr (Or.inl ⟨h1, h2, by rw [decide_eq_false (p := x ≤ 2) (by omega), Bool.and_false]⟩)
    · exact Or.inr (Or.inr ⟨h1, h2, by rw [decide_eq_true (p := x ≤ 2) (by omega), decide_eq_true (p := 0 ≤ x) (by omega)]; rfl⟩)
set_option maxRecDepth 100000 in
theorem noCorner_any (x : Int) (w : World) : Calls Tryd.prog 40 #[.int .i64 x] w fun e w' => e = .returned (.bool (!cornB x)) ∧ w = w' := by
  rcases corn_ways x with ⟨h1, hr⟩ | ⟨h1, h2, hr⟩ | ⟨h1, h2, hr⟩
  · have d1 : decide (x < 0) = true := decide_eq_true h1
    rw [hr]
    clear hr
    go_enter Tryd.func40, Tryd.ntmps40
    go_wp2
    go_ret
    exact ⟨rfl, rfl⟩
  · have d1 : decide (x < 0) = false := decide_eq_false h1
    have d2 : decide (2 < x) = true := decide_eq_true h2
    rw [hr]
    clear hr
    go_enter Tryd.func40, Tryd.ntmps40
    go_wp2
    go_ret
    exact ⟨rfl, rfl⟩
  · have d1 : decide (x < 0) = false := decide_eq_false h1
    have d2 : decide (2 < x) = false := decide_eq_false h2
    rw [hr]
    clear hr
    go_enter Tryd.func40, Tryd.ntmps40
    go_wp2
    go_ret
    exact ⟨rfl, rfl⟩
set_option maxRecDepth 100000 in
set_option maxHeartbeats 400000 in
theorem indexCorn_any (A : Option Addr) (n c : Nat) (l : List Int) (w : World) (hl : Has w A n c (intVs l)) (hn : n ≤ 100000) : Calls Tryd.prog 55 #[.slice A n c, .func (.func 40) #[] #[]] w fun e w' => ∃ r : Int, e = .returned (.int .i64 r) ∧ decide (0 ≤ r) = (!l.all cornB) ∧ w = w' := by
  have HL : Hid (l.length = n) := by have := hl.len; rw [intVs_len] at this; exact this
  have HH := Lib.hid hl
  clear hl
  generalize hR : l.all cornB = R
  have HR := Lib.hid hR
  clear hR
  go_enter Tryd.func55, Tryd.ntmps55
  go_wp2
  go_loopg [8] n (fun g s8 wx => ∃ i : Nat, i + g = n ∧ s8 = .int .i64 i ∧ Hid ((l.take i).all cornB = true) ∧ w = wx)
  case atStart => exact ⟨0, by omega, rfl, rfl, rfl⟩
  case round =>
    obtain ⟨i, hig, rfl, HA, rfl⟩ := hrel
    by_cases hi : i < n
    · have ti : decide ((i : Int) < (n : Int)) = true := by simp; omega
      have i2 : (i : Int) < (n : Int) := by omega
      have hil : i < l.length := by rw [HL.out]; exact hi
      obtain ⟨b, off, rfl, hlt, hc⟩ := HH.out.spot (by omega)
      have hcell := hc i _ (intVs_at hil)
      have HLk := Lib.hid (noCorner_any l[i] w)
      have HNx : Hid (cornB l[i] = true → (l.take (i + 1)).all cornB = true) := fun h => by
        rw [List.take_succ_eq_append_getElem hil, List.all_append, HA.out]
        simp [h]
      have HF : Hid (cornB l[i] = false → R = false) := fun h => by
        rw [← HR.out]
        exact List.all_eq_false.2 ⟨_, List.getElem_mem hil, by rw [h]; decide⟩
      clear hc
      generalize l[i] = x at *
      clear hil hlt
      cases hpm : cornB x with
      | false =>
        have HD := Lib.hid (HF.out hpm)
        rw [hpm] at HLk
        clear hpm HNx HF
        go_wp2_with (go_at_call 40; refine HLk.out.mono ?_; rintro e w' ⟨rfl, rfl⟩)
        go_ret
        exact ⟨i, rfl, by rw [HD.out]; simp, rfl⟩
      | true =>
        have HD := Lib.hid (HNx.out hpm)
        rw [hpm] at HLk
        clear hpm HNx HF
        go_wp2_with (go_at_call 40; refine HLk.out.mono ?_; rintro e w' ⟨rfl, rfl⟩)
        go_roundg (gk - 1)
        case measure => omega
        case rel => exact ⟨i + 1, by omega, by go_num, HD, rfl⟩
    · have ti : decide ((i : Int) < (n : Int)) = false := by simp; omega
      rw [List.take_of_length_le (by rw [HL.out]; omega)] at HA
      have HD : Hid (R = true) := HR.out.symm.trans HA.out
      go_wp2
      go_ret
      exact ⟨-1, rfl, by rw [HD.out]; rfl, rfl⟩
theorem containsCorn_any (A : Option Addr) (n c : Nat) (l : List Int) (w : World) (hl : Has w A n c (intVs l)) (hn : n ≤ 100000) : Calls Tryd.prog 39 #[.slice A n c, .func (.func 40) #[] #[]] w fun e w' => e = .returned (.bool (!l.all cornB)) ∧ w = w' := by
  have HI := Lib.hid (indexCorn_any A n c l w hl hn)
  clear hl
  generalize l.all cornB = R at *
  go_enter Tryd.func39, Tryd.ntmps39
  go_wp2_with (go_at_call 55; refine HI.out.mono ?_; rintro e w' ⟨r, rfl, hr, rfl⟩; have HR := Lib.hid hr; clear hr)
  go_ret
  exact ⟨ret_bool HR.out, rfl⟩
/-- A triangle whose first corners have been turned already. -/
def mixT (b : Nat) (t : P3) (k : Nat) : P3 := (if 0 < k then at3 t (b % 3) else t.1, if 1 < k then at3 t ((b + 1) % 3) else t.2.1, if 2 < k then at3 t ((b + 2) % 3) else t.2.2)
theorem mix_zero (b : Nat) (t : P3) : mixT b t 0 = t := rfl
theorem mix_three {b : Nat} (hb : b < 3) (t : P3) : mixT b t 3 = rotT b t := by
  obtain ⟨x, y, z⟩ := t
  rcases (show b = 0 ∨ b = 1 ∨ b = 2 by omega) with rfl | rfl | rfl <;> rfl
theorem p3Cells_cons (q : P3) (l : List P3) : p3Cells (q :: l) = .int .i64 q.1 :: .int .i64 q.2.1 :: .int .i64 q.2.2 :: p3Cells l := by simp [p3Cells]
theorem mix_set {b k : Nat} (hk : k < 3) (t : P3) : ∀ (L : List P3) (i : Nat), i < L.length → (p3Cells (L.set i (mixT b t k))).set (i * 3 + k) (.int .i64 (at3 t ((b + k) % 3))) = p3Cells (L.set i (mixT b t (k + 1))) := by
  intro L
  induction L with
  | nil => intro i hi; cases hi
  | cons q L ih =>
    intro i hi
    cases i with
    | zero =>
      rw [List.set_cons_zero, List.set_cons_zero, p3Cells_cons, p3Cells_cons]
      rcases (show k = 0 ∨ k = 1 ∨ k = 2 by omega) with rfl | rfl | rfl <;> rfl
    | succ i =>
      rw [List.set_cons_succ, List.set_cons_succ, p3Cells_cons, p3Cells_cons, ← ih i (by simpa using hi), show (i + 1) * 3 + k = i * 3 + k + 1 + 1 + 1 by omega]
      rfl
/-- The triangles, the first ones turned. -/
def turnTo (T : List P3) (l : List Nat) (i : Nat) : List P3 := turnsT (T.take i) (l.take i) ++ T.drop i
theorem turnTo_zero (T : List P3) (l : List Nat) : turnTo T l 0 = T := by unfold turnTo; simp [turnsT]
theorem turnTo_len {T : List P3} {l : List Nat} (h : l.length = T.length) {i : Nat} (hi : i ≤ T.length) : (turnTo T l i).length = T.length := by
  unfold turnTo turnsT
  rw [List.length_append, List.length_zipWith, List.length_take, List.length_take, List.length_drop]
  omega
theorem turnTo_end {T : List P3} {l : List Nat} (h : l.length = T.length) : turnTo T l T.length = turnsT T l := by
  unfold turnTo
  rw [List.take_length, ← h, List.take_length, h, List.drop_length, List.append_nil]
theorem turnTo_next {T : List P3} {l : List Nat} (h : l.length = T.length) {i : Nat} (hi : i < T.length) : (turnTo T l i).set i (rotT (l[i]'(by omega)) T[i]) = turnTo T l (i + 1) ∧ (turnTo T l i).set i T[i] = turnTo T l i := by
  have hl : (turnsT (T.take i) (l.take i)).length = i := by
    unfold turnsT
    rw [List.length_zipWith, List.length_take, List.length_take]
    omega
  have hd : T.drop i = T[i] :: T.drop (i + 1) := List.drop_eq_getElem_cons hi
  have hs : turnsT (T.take (i + 1)) (l.take (i + 1)) = turnsT (T.take i) (l.take i) ++ [rotT (l[i]'(by omega)) T[i]] := by
    unfold turnsT
    rw [List.take_succ_eq_append_getElem hi, List.take_succ_eq_append_getElem (by omega : i < l.length), List.zipWith_append (by rw [List.length_take, List.length_take]; omega)]
    rfl
  unfold turnTo
  rw [hd, hs, List.set_append_right _ _ (by omega), List.set_append_right _ _ (by omega), hl, Nat.sub_self, List.set_cons_zero, List.set_cons_zero, List.append_assoc]
  exact ⟨rfl, rfl⟩
theorem results_pairM {fn : Func} {p u : Tmp} {ty : TypeId} (h : fn.results = #[.cell p ty, .tmp u]) {tmps : Array Value} {P : Program} {w : World} {a : Addr} {v x : Value} (hp : tmps.getD p undef = .pointer (some a)) (hu : tmps.getD u undef = x)
    (hl : (loadVar ty a).run P w = .ok v w) : (results fn tmps).run P w = .ok (.tuple #[v, x]) w := by
  have hp' : tmps[p]?.getD undef = .pointer (some a) := by rw [← hp]; simp
  have hu' : tmps[u]?.getD undef = x := by rw [← hu]; simp
  simp only [results, h]
  simp [hp', hu', asAddr, hl]
end Go.Proofs.YtckjmnbglbegmaaDoor
