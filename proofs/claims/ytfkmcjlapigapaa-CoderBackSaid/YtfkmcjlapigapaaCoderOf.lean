/- The landed coder: codes that are none, the beginning. -/
import Derived.Test.YtfkmcjlapigapaaCoderEnds
import Derived.Test.YtfkmcjlapigapaaCoderModels
import Derived.Laws.ResultCell
namespace Go.Proofs.Ytfkmcjlapigapaa
open Go.RowKit

set_option maxRecDepth 100000 in
set_option maxHeartbeats 400000 in
theorem indexC_any (A : Option Addr) (n c : Nat) (ps : List Nat) (C : List (List Nat)) (M : Option Addr) (m d : Nat) (l : List Cod) (w : World) (hr : Has w A n c (ptrs ps)) (hm : MS w ps C) (hl : HasK 2 w M m d (codCells l)) (hn : m ≤ 100000) :
    Calls Try.prog 39 #[.slice M m d, .func (.func 24) #[.slice A n c] #[]] w fun e w' => ∃ r : Int, e = .returned (.int .i64 r) ∧ (0 ≤ r ↔ ¬ ∀ x ∈ l, okC C x) ∧ Below w.heap.size w w' := by
  have HR := Lib.hid hr
  have HM := Lib.hid hm
  have HH := Lib.hid hl
  have HL : Hid (l.length = m) := by have := hl.len; rw [codCells_len] at this; show _ = _; omega
  clear hr hm hl
  go_enter Try.func39, Try.ntmps39
  go_wp2
  go_loopg [8] m (fun g s8 wx => ∃ i : Nat, i + g = m ∧ s8 = .int .i64 i ∧ Hid (∀ x ∈ l.take i, okC C x) ∧ Hid (Below w.heap.size w wx))
  case atStart => exact ⟨0, by omega, rfl, by show ∀ _, _; simp, Below.refl _ _⟩
  case round =>
    obtain ⟨i, hig, rfl, HA, HB⟩ := hrel
    by_cases hi : i < m
    · have ti : decide ((i : Int) < (m : Int)) = true := by simp; omega
      have hil : i < l.length := by rw [HL.out]; exact hi
      obtain ⟨b, off, rfl, hlt, hc⟩ := (HH.out.kept HB.out).spot (by omega)
      have hcx := hc _ _ (cod_at hil).1
      have hcy := hc _ _ (cod_at hil).2
      rw [← Nat.add_assoc] at hcy
      have HT : Hid (l.take (i + 1) = l.take i ++ [l[i]]) := List.take_succ_eq_append_getElem hil
      have HMem : Hid (l[i] ∈ l) := List.getElem_mem hil
      generalize l[i] = xy at *
      obtain ⟨x, y⟩ := xy
      simp only at hcx hcy
      have HLk := Lib.hid (coderLacksCode_any A n c ps C x y wr (HR.out.kept HB.out) (HM.out.below HB.out))
      clear hc
      by_cases hx : okC C (x, y)
      · have HA2 : Hid (∀ y ∈ l.take (i + 1), okC C y) := fun y hy => by
          rw [HT.out] at hy
          rcases List.mem_append.1 hy with h | h
          · exact HA.out y h
          · rw [List.mem_singleton.1 h]; exact hx
        rw [decide_eq_false (fun h : ¬ (0 ≤ y ∧ y < (sizeC C x : Int)) => h hx)] at HLk
        clear hx
        go_wp2_with (go_at_call 24; refine HLk.out.mono ?_; rintro e w' ⟨rfl, hb2⟩; have HB2 := Lib.hid (new_call HB.out hb2); clear hb2)
        go_roundg (gk - 1)
        case measure => omega
        case rel => exact ⟨i + 1, by omega, by go_num, HA2, HB2⟩
      · rw [decide_eq_true (show ¬ (0 ≤ y ∧ y < (sizeC C x : Int)) from hx)] at HLk
        have HX := Lib.hid hx
        clear hx
        go_wp2_with (go_at_call 24; refine HLk.out.mono ?_; rintro e w' ⟨rfl, hb2⟩; have HB2 := Lib.hid (new_call HB.out hb2); clear hb2)
        go_ret
        exact ⟨i, rfl, ⟨fun _ h => HX.out (h _ HMem.out), fun _ => by omega⟩, HB2.out⟩
    · have ti : decide ((i : Int) < (m : Int)) = false := by simp; omega
      rw [List.take_of_length_le (by rw [HL.out]; omega)] at HA
      go_wp2
      go_ret
      exact ⟨-1, rfl, ⟨fun h => by omega, fun h => absurd HA.out h⟩, HB.out⟩
theorem containsC_any (A : Option Addr) (n c : Nat) (ps : List Nat) (C : List (List Nat)) (M : Option Addr) (m d : Nat) (l : List Cod) (w : World) (hr : Has w A n c (ptrs ps)) (hm : MS w ps C) (hl : HasK 2 w M m d (codCells l)) (hn : m ≤ 100000) :
    Calls Try.prog 23 #[.slice M m d, .func (.func 24) #[.slice A n c] #[]] w fun e w' => ∃ bo : Bool, e = .returned (.bool bo) ∧ (bo = true ↔ ¬ ∀ x ∈ l, okC C x) ∧ Below w.heap.size w w' := by
  have HI := Lib.hid (indexC_any A n c ps C M m d l w hr hm hl hn)
  clear hr hm hl
  go_enter Try.func23, Try.ntmps23
  go_wp2_with (go_at_call 39; refine HI.out.mono ?_; rintro e w' ⟨r, rfl, hr, hb⟩; have HR := Lib.hid hr; have HB := Lib.hid hb; clear hr hb)
  go_ret
  exact ⟨_, rfl, by rw [← HR.out]; simp, HB.out⟩
theorem heldInfo : (Try.prog.info? 60).map (fun i => (i.zero, i.size)) = some (some (.agg #[.slice none 0 0, .int .u64 0, .int .u64 0]), 3) := by kernel_rfl
theorem writerInfo : (Try.prog.info? 63).map (fun i => (i.zero, i.size)) = some (some (.agg #[.slice none 0 0, .int .u64 0, .int .u64 0, .slice none 0 0, .int .u8 0, .int .i64 0]), 6) := by kernel_rfl
theorem results_cell6 {fn : Func} {p : Tmp} {ty : TypeId} (h : fn.results = #[.cell p ty]) {tmps : Array Value} {P : Program} {w : World} {a : Addr} {v : Value} (hp : tmps.getD p undef = .pointer (some a))
    (hl : (loadVar ty a).run P w = .ok v w) : (results fn tmps).run P w = .ok v w := by
  have hp' : tmps[p]?.getD undef = .pointer (some a) := by rw [← hp]; simp
  simp only [results, h]
  simp [hp', asAddr, hl]
theorem hold_any (A : Option Addr) (n c : Nat) (w : World) : Calls Try.prog 25 #[.slice A n c] w fun e w' => e = .returned (.agg #[.slice A n c, .int .u64 0, .int .u64 4294967295]) ∧ Below w.heap.size w w' := by
  obtain ⟨kz, ks⟩ := zero_of_info heldInfo
  go_enter Try.func25, Try.ntmps25
  go_wp2
  have hld : (loadVar 60 ⟨w.heap.size, 0, none⟩).run Try.prog (w.alloc (.cells #[.slice A n c, .int .u64 0, .int .u64 4294967295] 60)) = .ok (.agg #[.slice A n c, .int .u64 0, .int .u64 4294967295]) (w.alloc (.cells #[.slice A n c, .int .u64 0, .int .u64 4294967295] 60)) :=
    run_loadVar_row _ _ _ _ _ _ _ (Blk.new w 60 #[.slice A n c, .int .u64 0, .int .u64 4294967295]) Try.underlying60 rfl (by rw [ks]; rfl)
  exact bodyPost_ret (results_cell6 Try.results25 rfl hld) rfl ⟨rfl, new_alloc (Below.refl _ _) _⟩

theorem size_same {C C' : List (List Nat)} (h : C.map List.length = C'.map List.length) (k : Int) : sizeC C k = sizeC C' k := by
  have hl : C.length = C'.length := by have := congrArg List.length h; simpa using this
  unfold sizeC
  split
  · rfl
  · rw [hl]
    split
    · rename_i h1
      have h2 : k.toNat < C'.length := by omega
      have h3 : k.toNat < C.length := by omega
      rw [List.getD_eq_getElem?_getD, List.getD_eq_getElem?_getD, List.getElem?_eq_getElem h2, List.getElem?_eq_getElem h3]
      have h4 : (C.map List.length)[k.toNat]? = (C'.map List.length)[k.toNat]? := by rw [h]
      rw [List.getElem?_map, List.getElem?_map, List.getElem?_eq_getElem h2, List.getElem?_eq_getElem h3] at h4
      exact Option.some.inj h4
    · rfl
theorem seen_sizes (C : List (List Nat)) (x : Cod) : (seenC C x).map List.length = C.map List.length := by
  unfold seenC
  split
  · rw [List.map_set, countN_len]
    apply List.ext_getElem (by simp)
    intro i h1 h2
    rw [List.getElem_set]
    split
    · rename_i e
      subst e
      have h3 : x.1.toNat < C.length := by simpa using h2
      simp [List.getD_eq_getElem?_getD, List.getElem?_eq_getElem h3]
    · rfl
  · rfl
theorem step_none {t : Cdr} {x : Cod} (ht : COk t) (h : ¬ okC t.C x) : stepC t x = none := by
  unfold stepC
  rw [if_pos (Classical.byContradiction fun h' => h ((share_ok ht.cnt).2 h'))]
theorem step_some {t : Cdr} {x : Cod} (ht : COk t) (h : okC t.C x) : ∃ u, stepC t x = some u := by
  unfold stepC
  rw [if_neg ((share_ok ht.cnt).1 h)]
  exact ⟨_, rfl⟩
theorem step_sizes {t u : Cdr} {x : Cod} (ht : COk t) (h : stepC t x = some u) (y : Cod) : okC u.C y ↔ okC t.C y := by
  obtain ⟨_, _, _, _, _, _, _, _, _, _, _, _, _, hC, _⟩ := stepC_is ht h
  unfold okC
  rw [hC, size_same (seen_sizes t.C x)]
theorem run_none (l : List Cod) : ∀ {t : Cdr}, COk t → (¬ ∀ x ∈ l, okC t.C x) → runC t l = none := by
  induction l with
  | nil => intro t _ h; exact absurd (by simp) h
  | cons x l ih =>
    intro t ht h
    rw [runC]
    by_cases hx : okC t.C x
    · obtain ⟨u, hu⟩ := step_some ht hx
      rw [hu]
      exact ih (stepC_ok ht hu) fun h' => h fun y hy => by
        rcases List.mem_cons.1 hy with e | hy
        · rw [e]; exact hx
        · exact (step_sizes ht hu y).1 (h' y hy)
    · rw [step_none ht hx]; rfl
theorem run_some (l : List Cod) : ∀ {t : Cdr}, COk t → (∀ x ∈ l, okC t.C x) → ∃ u, runC t l = some u ∧ u.D ≤ t.D + 3 * l.length := by
  induction l with
  | nil => intro t _ _; exact ⟨t, rfl, by omega⟩
  | cons x l ih =>
    intro t ht h
    obtain ⟨u, hu⟩ := step_some ht (h x (by simp))
    obtain ⟨hD, _⟩ := step_shape ht hu
    obtain ⟨v, hv, hD2⟩ := ih (stepC_ok ht hu) fun y hy => (step_sizes ht hu y).2 (h y (by simp [hy]))
    exact ⟨v, by rw [runC, hu]; exact hv, by rw [List.length_cons]; omega⟩
theorem own_rob {D : Nat → Prop} {w : World} {B : Nat} {e : TypeId} {v : Value} {xs : List Value} (h : Own w B e v xs) (hd : ∀ b, v.ownBlock = some b → ¬ D b) : Rob D w fun W => Own W B e v xs := by
  intro W hW
  refine ⟨h.1, ?_⟩
  rcases h.2 with h1 | ⟨g', cap, cur, h1, h2, h3, h4⟩
  · exact Or.inl h1
  · exact Or.inr ⟨g', cap, cur, h1, h2, (hW.block g' (hd g' (by rw [h1]; rfl))).trans h3, h4⟩
theorem MR.rob {w w1 : World} {A : Option Addr} {n c : Nat} {ps : List Nat} {C : List (List Nat)} (h : MR w (.slice A n c) ps C w1) : Rob (fun k => k ∈ ps ∨ w1.heap.size ≤ k) w1 fun W => Has W A n c (ptrs ps) :=
  (own_rob h.own fun b hb hd => by
    rcases hd with hd | hd
    · exact h.far b hb hd
    · have := (World.ownsRow.lt h.own b hb).2; omega).map fun W hW => by
    obtain ⟨A', c', e, hh⟩ := hW.has
    cases e
    exact hh
end Go.Proofs.Ytfkmcjlapigapaa
