import Derived.Test.YtdheppfooapneaaFeedRef
import Derived.Test.YtdheppfooapneaaFrameGo
/- The landed feeder, ahead of its calls: which state of its own goes with which of the document's; what it holds in memory. -/
namespace Go.Proofs.Ytdheppfooapneaa
open Go.RowKit

theorem bytes_snoc {l : List Nat} {x : Nat} (h : ∀ y ∈ l, y < 256) (hx : x < 256) : ∀ y ∈ l ++ [x], y < 256 := by
  intro y hy
  rcases List.mem_append.1 hy with hy | hy
  · exact h y hy
  · rw [List.mem_singleton.1 hy]; exact hx
theorem get_short_one (c : Nat) : get [c] 1 = (0, 0, 10) := by
  rw [get_one (by simp)]
  rfl
/-- A number that is whole stays, whatever comes behind. -/
theorem get_behind {t : List Nat} (b : List Nat) (ht : 1 ≤ t.length) (h0 : (get t 1).2.2 = 0) : get (t ++ b) 1 = get t 1 := by
  have h1 := get_take (r := t ++ b) (j := t.length) ht (by rw [List.length_append]; omega)
  rw [List.take_left] at h1
  rcases h1 with h1 | h1
  · rw [h1] at h0; simp at h0
  · exact h1.symm
/-- A number that was not whole is, with its last byte. -/
theorem get_ends {t : List Nat} {c : Nat} (ht : 1 ≤ t.length) (h1 : (get t 1).2.2 = 10) (h0 : (get (t ++ [c]) 1).2.2 = 0) : (get (t ++ [c]) 1).2.1 = t.length + 1 := by
  have hm := get_moves (bs := t ++ [c]) (k := 1) h0
  rw [List.length_append, List.length_singleton] at hm
  by_cases hle : (get (t ++ [c]) 1).2.1 ≤ t.length
  · have := get_enough (r := t ++ [c]) (j := t.length) ht (by rw [List.length_append]; omega) h0 hle
    rw [List.take_left] at this
    rw [← this] at h0
    omega
  · have := hm.2
    have e : (get (t ++ [c]) ((1 : Nat) : Int)).2.1 = (get (t ++ [c]) 1).2.1 := rfl
    omega

/-- What is known of any state without an error. -/
structure Inv (s : St) : Prop where
  byte : ∀ x ∈ s.took, x < 256
  hold : s.took.length + (s.l.map fun x => x.2.length).sum ≤ s.all
  cnt : s.l.length ≤ s.all
  last : (s.last : Int) = lastK s.l s.l.length
theorem st0_inv : Inv st0 := ⟨by simp [st0], by simp [st0], by simp [st0], by simp [st0, lastK]⟩
theorem lastK_snoc (l : List Sec) (x : Sec) : lastK (l ++ [x]) (l ++ [x]).length = x.1 := by
  simp [lastK]
theorem takeN_inv {s : St} {c : Nat} (h : Inv s) (hl : s.l.length + 1 ≤ s.all) : Inv (takeN s c) := by
  have hc := check_hold s.took
  have h2 := h.hold
  unfold takeN
  repeat' split
  all_goals first
    | exact h
    | exact ⟨h.byte, h.hold, h.cnt, h.last⟩
    | (refine ⟨by simp, ?_, by simp; omega, by rw [lastK_snoc]⟩
       simp only [List.map_append, List.sum_append, List.map_cons, List.map_nil, List.sum_cons, List.sum_nil, List.length_drop, List.length_nil]
       omega)
theorem stepN_inv {s : St} {c : Nat} (h : Inv s) (hc : c < 256) (he : s.e = 0) : Inv (stepN s c) := by
  have h1 := h.hold
  have h2 := h.cnt
  unfold stepN
  rw [if_neg (by simp [he])]
  split
  · exact ⟨h.byte, by simp only; omega, by simp only; omega, h.last⟩
  · split
    · split
      · exact ⟨h.byte, by simp only; omega, by simp only; omega, h.last⟩
      · exact ⟨h.byte, by simp only; omega, by simp only; omega, h.last⟩
    · refine takeN_inv ⟨bytes_snoc h.byte hc, ?_, by simp only; omega, h.last⟩ (by simp only; omega)
      simp only [List.length_append, List.length_singleton]; omega
theorem fold_inv (bs : List Nat) : ∀ {s : St}, Inv s → (∀ x ∈ bs, x < 256) → Inv (bs.foldl stepN s) := by
  induction bs with
  | nil => intro s h _; exact h
  | cons c bs ih =>
    intro s h hb
    rw [List.foldl_cons]
    by_cases he : s.e = 0
    · exact ih (stepN_inv h (hb c (List.mem_cons_self ..)) he) fun x hx => hb x (List.mem_cons_of_mem _ hx)
    · have : stepN s c = s := by unfold stepN; rw [if_pos he]
      rw [this]
      exact ih h fun x hx => hb x (List.mem_cons_of_mem _ hx)
/-- No more is taken than comes. -/
theorem stepN_all_le (s : St) (c : Nat) : (stepN s c).all ≤ s.all + 1 := by
  unfold stepN takeN
  repeat' split
  all_goals first
    | omega
    | (simp only; omega)
theorem fold_all_le (bs : List Nat) : ∀ s : St, (bs.foldl stepN s).all ≤ s.all + bs.length := by
  induction bs with
  | nil => intro s; simp
  | cons c bs ih =>
    intro s
    have h1 := ih (stepN s c)
    have h2 := stepN_all_le s c
    rw [List.foldl_cons, List.length_cons]
    omega
/-- Which of the feeder's own states goes with the document's. -/
structure At (s : St) (m frm whl : Nat) : Prop where
  le : m ≤ 4
  head : m = 0 → s.all < 5 ∧ s.fin = false ∧ s.took = [] ∧ s.l = []
  body : 1 ≤ m → m ≤ 3 → 5 ≤ s.all ∧ s.fin = false
  kind : m = 1 → s.took = []
  size : m = 2 → 1 ≤ s.took.length ∧ (get s.took 1).2.2 = 10
  sec : m = 3 → 2 ≤ s.took.length ∧ (get s.took 1).2.2 = 0 ∧ (get s.took 1).1 ≤ 1048576 ∧ frm = (get s.took 1).2.1 ∧ whl = frm + (get s.took 1).1 + 4 ∧ s.took.length < whl ∧ frm ≤ s.took.length ∧ 2 ≤ frm
  fin : m = 4 → s.fin = true
theorem st0_at : At st0 0 0 0 := ⟨by omega, fun _ => ⟨by simp [st0], rfl, rfl, rfl⟩, fun h => absurd h (by omega), fun h => absurd h (by omega), fun h => absurd h (by omega), fun h => absurd h (by omega), fun h => absurd h (by omega)⟩
theorem At.fin_iff {s : St} {m a b : Nat} (h : At s m a b) : s.fin = decide (m = 4) := by
  by_cases h4 : m = 4
  · rw [h.fin h4, decide_eq_true h4]
  · rw [decide_eq_false h4]
    by_cases h0 : m = 0
    · exact (h.head h0).2.1
    · exact (h.body (by omega) (by have := h.le; omega)).2
/-- The bytes of the section that is being read. -/
def partOf (s : St) : List Nat := if s.fin = true then [] else s.took
/-- Of the head. -/
theorem at_head {s : St} {a b c : Nat} (h : At s 0 a b) (he : s.e = 0) :
    stepN s c = if c ≠ headN.getD s.all 0 then { s with all := s.all + 1, e := 11 } else { s with all := s.all + 1 } := by
  obtain ⟨h1, h2, _⟩ := h.head rfl
  unfold stepN
  rw [if_neg (by simp [he]), if_neg (by simp [h2]), if_pos h1]
theorem at_head_next {s : St} {a b : Nat} (h : At s 0 a b) : At { s with all := s.all + 1 } (if s.all = 4 then 1 else 0) a b := by
  obtain ⟨h1, h2, h3, h4⟩ := h.head rfl
  split
  · exact ⟨by omega, fun h => absurd h (by omega), fun _ _ => ⟨by simp only; omega, h2⟩, fun _ => h3, fun h => absurd h (by omega), fun h => absurd h (by omega), fun h => absurd h (by omega)⟩
  · exact ⟨by omega, fun _ => ⟨by simp only; omega, h2, h3, h4⟩, fun h => absurd h (by omega), fun h => absurd h (by omega), fun h => absurd h (by omega), fun h => absurd h (by omega), fun h => absurd h (by omega)⟩
/-- Of a kind. -/
theorem at_kind {s : St} {a b c : Nat} (h : At s 1 a b) (he : s.e = 0) :
    stepN s c = if c = 0 then { s with all := s.all + 1, took := [c], fin := true } else if c ≤ s.last ∨ 9 < c then { s with all := s.all + 1, took := [c], e := 11 } else { s with all := s.all + 1, took := [c] } := by
  obtain ⟨h1, h2⟩ := h.body (by omega) (by omega)
  have h3 := h.kind rfl
  unfold stepN
  rw [if_neg (by simp [he]), if_neg (by simp [h2]), if_neg (by omega), h3]
  unfold takeN
  rw [if_pos (by simp)]
  simp only [List.nil_append]
theorem at_kind_fin {s : St} {a b c : Nat} : At { s with all := s.all + 1, took := [c], fin := true } 4 a b :=
  ⟨by omega, fun h => absurd h (by omega), fun _ h => absurd h (by omega), fun h => absurd h (by omega), fun h => absurd h (by omega), fun h => absurd h (by omega), fun _ => rfl⟩
theorem at_kind_next {s : St} {a b c : Nat} (h : At s 1 a b) : At { s with all := s.all + 1, took := [c] } 2 a b := by
  obtain ⟨h1, h2⟩ := h.body (by omega) (by omega)
  exact ⟨by omega, fun h => absurd h (by omega), fun _ _ => ⟨by simp only; omega, h2⟩, fun h => absurd h (by omega), fun _ => ⟨by simp, by simp only; rw [get_short_one]⟩, fun h => absurd h (by omega), fun h => absurd h (by omega)⟩
/-- Of a size. -/
theorem at_size {s : St} {a b c : Nat} (h : At s 2 a b) (he : s.e = 0) :
    stepN s c = if (get (s.took ++ [c]) 1).2.2 = 10 then { s with all := s.all + 1, took := s.took ++ [c] } else if (get (s.took ++ [c]) 1).2.2 ≠ 0 then { s with all := s.all + 1, took := s.took ++ [c], e := (get (s.took ++ [c]) 1).2.2 }
      else if 1048576 < (get (s.took ++ [c]) 1).1 then { s with all := s.all + 1, took := s.took ++ [c], e := 3 } else { s with all := s.all + 1, took := s.took ++ [c] } := by
  obtain ⟨h1, h2⟩ := h.body (by omega) (by omega)
  obtain ⟨h3, h4⟩ := h.size rfl
  unfold stepN
  rw [if_neg (by simp [he]), if_neg (by simp [h2]), if_neg (by omega)]
  unfold takeN
  rw [if_neg (by simp only [List.length_append, List.length_singleton]; omega)]
  simp only
  by_cases e1 : (get (s.took ++ [c]) 1).2.2 = 10
  · rw [if_pos e1, if_pos e1]
  · rw [if_neg e1, if_neg e1]
    by_cases e2 : (get (s.took ++ [c]) 1).2.2 = 0
    · have e2' : ¬ (get (s.took ++ [c]) 1).2.2 ≠ 0 := fun h => h e2
      rw [if_neg e2', if_neg e2']
      by_cases e3 : 1048576 < (get (s.took ++ [c]) 1).1
      · rw [if_pos e3, if_pos e3]
      · rw [if_neg e3, if_neg e3, if_pos]
        have := get_ends h3 h4 e2
        rw [List.length_append, List.length_singleton]
        omega
    · rw [if_pos e2, if_pos e2]
theorem at_size_more {s : St} {a b c : Nat} (h : At s 2 a b) (h10 : (get (s.took ++ [c]) 1).2.2 = 10) : At { s with all := s.all + 1, took := s.took ++ [c] } 2 a b := by
  obtain ⟨h1, h2⟩ := h.body (by omega) (by omega)
  exact ⟨by omega, fun h => absurd h (by omega), fun _ _ => ⟨by simp only; omega, h2⟩, fun h => absurd h (by omega), fun _ => ⟨by simp, h10⟩, fun h => absurd h (by omega), fun h => absurd h (by omega)⟩
theorem at_size_next {s : St} {a b c : Nat} (h : At s 2 a b) (h0 : (get (s.took ++ [c]) 1).2.2 = 0) (hl : ¬ 1048576 < (get (s.took ++ [c]) 1).1) : At { s with all := s.all + 1, took := s.took ++ [c] } 3 (get (s.took ++ [c]) 1).2.1 ((get (s.took ++ [c]) 1).2.1 + (get (s.took ++ [c]) 1).1 + 4) := by
  obtain ⟨h1, h2⟩ := h.body (by omega) (by omega)
  obtain ⟨h3, h4⟩ := h.size rfl
  have h5 := get_ends h3 h4 h0
  refine ⟨by omega, fun h => absurd h (by omega), fun _ _ => ⟨by simp only; omega, h2⟩, fun h => absurd h (by omega), fun h => absurd h (by omega), fun _ => ⟨?_, h0, by simp only; omega, rfl, rfl, ?_, ?_, by omega⟩, fun h => absurd h (by omega)⟩
  all_goals
    simp only [List.length_append, List.length_singleton]
    omega
/-- Of a section's own bytes: as many as do not yet make it whole. -/
theorem at_sec_some (bs : List Nat) : ∀ {s : St} {a b : Nat}, At s 3 a b → s.e = 0 → s.took.length + bs.length < b → bs.foldl stepN s = { s with all := s.all + bs.length, took := s.took ++ bs } ∧ At { s with all := s.all + bs.length, took := s.took ++ bs } 3 a b := by
  induction bs with
  | nil => intro s a b h he _; simp only [List.foldl_nil, List.length_nil, Nat.add_zero, List.append_nil]; exact ⟨trivial, h⟩
  | cons c bs ih =>
    intro s a b h he hl
    obtain ⟨h1, h2⟩ := h.body (by omega) (by omega)
    obtain ⟨h3, h4, h5, h6, h7, h8, h9, h10⟩ := h.sec rfl
    have hg := get_behind [c] (by omega) h4
    rw [List.length_cons] at hl
    have hs : stepN s c = { s with all := s.all + 1, took := s.took ++ [c] } := by
      unfold stepN
      rw [if_neg (by simp [he]), if_neg (by simp [h2]), if_neg (by omega)]
      unfold takeN
      rw [if_neg (by simp only [List.length_append, List.length_singleton]; omega)]
      simp only
      rw [hg, if_neg (by omega), if_neg (by simp [h4]), if_neg (by omega), if_pos (by rw [List.length_append, List.length_singleton]; omega)]
    have ha : At { s with all := s.all + 1, took := s.took ++ [c] } 3 a b := by
      refine ⟨by omega, fun h => absurd h (by omega), fun _ _ => ⟨by simp only; omega, h2⟩, fun h => absurd h (by omega), fun h => absurd h (by omega), fun _ => ?_, fun h => absurd h (by omega)⟩
      simp only [hg, List.length_append, List.length_singleton]
      exact ⟨by omega, h4, h5, h6, h7, by omega, by omega, h10⟩
    obtain ⟨i1, i2⟩ := ih ha he (by simp only [List.length_append, List.length_singleton]; omega)
    rw [List.foldl_cons, hs, i1]
    simp only [List.append_assoc, List.singleton_append, List.length_cons] at i2 ⊢
    rw [show s.all + (bs.length + 1) = s.all + 1 + bs.length by omega]
    exact ⟨rfl, i2⟩
/-- As many as make it whole. -/
theorem at_sec_all {s : St} {a b : Nat} {bs : List Nat} (h : At s 3 a b) (he : s.e = 0) (hl : s.took.length + bs.length = b) :
    bs.foldl stepN s = if (checkN (s.took ++ bs)).2 ≠ 0 then { s with all := s.all + bs.length, took := s.took ++ bs, e := (checkN (s.took ++ bs)).2 }
      else { s with all := s.all + bs.length, took := [], last := s.took.headD 0, l := s.l ++ [((s.took.headD 0 : Int), (checkN (s.took ++ bs)).1.drop a)] } := by
  obtain ⟨h1, h2⟩ := h.body (by omega) (by omega)
  obtain ⟨h3, h4, h5, h6, h7, h8, h9, h10⟩ := h.sec rfl
  have hne : bs ≠ [] := by rintro rfl; simp at hl; omega
  obtain ⟨cs, c, rfl⟩ : ∃ cs c, bs = cs ++ [c] := ⟨bs.dropLast, bs.getLast hne, (List.dropLast_concat_getLast hne).symm⟩
  rw [List.length_append, List.length_singleton] at hl
  obtain ⟨i1, i2⟩ := at_sec_some cs h he (by omega)
  obtain ⟨j1, j2⟩ := i2.body (by omega) (by omega)
  have hg := get_behind (cs ++ [c]) (by omega) h4
  have hd : (s.took ++ (cs ++ [c])).headD 0 = s.took.headD 0 := by
    cases ht : s.took with
    | nil => rw [ht] at h3; simp at h3
    | cons x l => rfl
  rw [List.foldl_append, i1, List.foldl_cons, List.foldl_nil]
  unfold stepN
  rw [if_neg (by simp [he]), if_neg (by simp [h2]), if_neg (by simp only; omega)]
  unfold takeN
  rw [if_neg (by simp only [List.length_append, List.length_singleton]; omega)]
  simp only [List.append_assoc]
  rw [hg, if_neg (by omega), if_neg (by simp [h4]), if_neg (by omega), if_neg (by rw [List.length_append, List.length_append, List.length_singleton]; omega), hd, ← h6]
  simp only [List.length_append, List.length_singleton]
  rw [show s.all + (cs.length + 1) = s.all + cs.length + 1 by omega]
theorem at_sec_next {s : St} {a b : Nat} (h : At s 3 a b) (n : Nat) (l : List Sec) (k : Nat) : At { s with all := s.all + n, took := [], last := k, l := l } 1 a b := by
  obtain ⟨h1, h2⟩ := h.body (by omega) (by omega)
  exact ⟨by omega, fun h => absurd h (by omega), fun _ _ => ⟨by simp only; omega, h2⟩, fun _ => rfl, fun h => absurd h (by omega), fun h => absurd h (by omega), fun h => absurd h (by omega)⟩
/-- Behind the end. -/
theorem at_fin {s : St} {a b c : Nat} (h : At s 4 a b) (he : s.e = 0) : stepN s c = { s with all := s.all + 1, e := 11 } := by
  unfold stepN
  rw [if_neg (by simp [he]), if_pos (h.fin rfl)]

/-- What hangs on the blocks of R alone. -/
def On (R : Nat → Prop) (w : World) (F : World → Prop) : Prop := ∀ W : World, (∀ k, R k → W.heap[k]? = w.heap[k]?) → F W
theorem On.here {R : Nat → Prop} {w : World} {F : World → Prop} (h : On R w F) : F w := h w fun _ _ => rfl
theorem On.rob {R D : Nat → Prop} {w : World} {F : World → Prop} (h : On R w F) (hd : ∀ k, D k → ¬ R k) : Rob D w F := fun W hW => h W fun k hk => hW.block k fun h' => hd k h' hk
theorem On.chg {R D : Nat → Prop} {w w' : World} {F : World → Prop} (h : On R w F) (hc : Chg D w w') (hd : ∀ k, R k → ¬ D k) (hs : Sit R w.heap.size) : On R w' F :=
  fun W hW => h W fun k hk => (hW k hk).trans (hc.block k (hs k hk) (hd k hk))
theorem On.wide {R R' : Nat → Prop} {w : World} {F : World → Prop} (h : On R w F) (hr : ∀ k, R k → R' k) : On R' w F := fun W hW => h W fun k hk => hW k (hr k hk)
theorem On.both {R R' : Nat → Prop} {w : World} {F G : World → Prop} (h : On R w F) (h2 : On R' w G) : On (fun k => R k ∨ R' k) w fun W => F W ∧ G W := fun W hW => ⟨h W fun k hk => hW k (Or.inl hk), h2 W fun k hk => hW k (Or.inr hk)⟩
theorem On.map {R : Nat → Prop} {w : World} {F G : World → Prop} (h : On R w F) (hm : ∀ W, F W → G W) : On R w G := fun W hW => hm W (h W hW)
theorem Blk.chg {D : Nat → Prop} {w w' : World} {g : Nat} {t : TypeId} {cs : Array Value} (h : Blk w g t cs) (hc : Chg D w w') (hd : ¬ D g) : Blk w' g t cs := (hc.block g h.lt hd).trans h
theorem OwnK.on {k : Nat} {w : World} {base : Nat} {e : TypeId} {v : Value} {n : Nat} {xs : List Value} (h : OwnK k w base e v n xs) : On (fun g => v.ownBlock = some g) w fun W => OwnK k W base e v n xs := by
  intro W hW
  refine ⟨h.1, ?_⟩
  rcases h.2 with h1 | ⟨g, cap, cur, rfl, h2, h3, h4⟩
  · exact Or.inl h1
  · exact Or.inr ⟨g, cap, cur, rfl, h2, (hW g rfl).trans h3, h4⟩
theorem OwnK.sit {k : Nat} {w : World} {base : Nat} {e : TypeId} {v : Value} {n : Nat} {xs : List Value} (h : OwnK k w base e v n xs) : Sit (fun g => v.ownBlock = some g) w.heap.size := by
  intro g hg
  rcases h.2 with ⟨rfl, _⟩ | ⟨g', cap, cur, rfl, h2, h3, h4⟩
  · cases hg
  · cases hg; exact (Array.getElem?_eq_some_iff.1 h3).1
theorem OwnK.chg {k : Nat} {D : Nat → Prop} {w w' : World} {base : Nat} {e : TypeId} {v : Value} {n : Nat} {xs : List Value} (h : OwnK k w base e v n xs) (hc : Chg D w w') (hd : ∀ g, v.ownBlock = some g → ¬ D g) : OwnK k w' base e v n xs :=
  (OwnK.on h).chg hc hd h.sit |>.here
theorem Own.chg {D : Nat → Prop} {w w' : World} {base : Nat} {e : TypeId} {v : Value} {xs : List Value} (h : Own w base e v xs) (hc : Chg D w w') (hd : ∀ g, v.ownBlock = some g → ¬ D g) : Own w' base e v xs := OwnK.chg (k := 1) h hc hd
theorem Chg.set (w : World) (g o : Nat) (u : Value) : Chg (fun k => k = g) w (w.setCell ⟨g, o, none⟩ u) := Chg.of_far ((Far1.set (Far1.refl g w) o u).farD rfl)
theorem Has.on {w : World} {A : Option Addr} {n c : Nat} {xs : List Value} (h : Has w A n c xs) : On (fun k => ∃ a, A = some a ∧ a.block = k ∧ 0 < n) w fun W => Has W A n c xs := by
  intro W hW
  refine ⟨h.len, h.cap, h.bare, fun hn => ?_⟩
  obtain ⟨b, off, hA, hlt, hc⟩ := h.spot hn
  have hb := hW b ⟨_, hA, rfl, hn⟩
  refine ⟨b, off, hA, ?_, fun j u hu => (World.cell?_of_block (a := ⟨b, off + j, Option.none⟩) hb).trans (hc j u hu)⟩
  rw [Array.getElem?_eq_getElem hlt] at hb
  exact (Array.getElem?_eq_some_iff.1 hb).1
/-- The memory of a feeder that goes on: what is being read, a row; what was read, another; the sections' bytes, apart from both. -/
structure Mem (w : World) (p : Nat) (S : Nat → Prop) (s : St) (pv rv : Value) (vs : List (Int × Value)) (R : Nat → Prop) : Prop where
  part : Own w 0 5 pv (u8s (partOf s))
  row : OwnK 2 w 0 48 rv s.l.length (secCells vs)
  secs : On R w fun W => SecVs W vs s.l
  pblk : ∀ g, pv.ownBlock = some g → S g ∧ g ≠ p ∧ rv.ownBlock ≠ some g ∧ ¬ R g
  rblk : ∀ g, rv.ownBlock = some g → S g ∧ g ≠ p ∧ ¬ R g
  sblk : ∀ g, R g → S g ∧ g ≠ p
theorem Mem.chg {w w' : World} {p : Nat} {S D : Nat → Prop} {s : St} {pv rv : Value} {vs : List (Int × Value)} {R : Nat → Prop} (h : Mem w p S s pv rv vs R) (hS : Sit S w.heap.size) (hc : Chg D w w') (hd : ∀ k, S k → k ≠ p → ¬ D k) : Mem w' p S s pv rv vs R :=
  ⟨h.part.chg hc fun g hg => hd g (h.pblk g hg).1 (h.pblk g hg).2.1, h.row.chg hc fun g hg => hd g (h.rblk g hg).1 (h.rblk g hg).2.1, h.secs.chg hc (fun g hg => hd g (h.sblk g hg).1 (h.sblk g hg).2) fun g hg => hS g (h.sblk g hg).1, h.pblk, h.rblk, h.sblk⟩
/-- The feeder's block: where it stands, how many it took, holds, what it reads, from where, to where, what it read, what is wrong, whether it is closed. -/
def FB (w : World) (p : Nat) (m tk hd : Int) (pv : Value) (a b : Int) (rv : Value) (e : Int) (cl : Bool) : Prop :=
  Blk w p 52 #[.int .i64 m, .int .i64 tk, .int .i64 hd, pv, .int .i64 a, .int .i64 b, rv, .int .i64 e, .bool cl]
/-- A feeder that goes on, all but its block. -/
structure Live (w : World) (p : Nat) (S : Nat → Prop) (s : St) (m : Nat) (hd : Int) (pv : Value) (a b : Nat) (rv : Value) : Prop where
  at_ : At s m a b
  inv : Inv s
  held : hd = (heldN s : Int)
  mem : ∃ vs R, Mem w p S s pv rv vs R
theorem Live.chg {w w' : World} {p : Nat} {S D : Nat → Prop} {s : St} {m : Nat} {hd : Int} {pv : Value} {a b : Nat} {rv : Value} (h : Live w p S s m hd pv a b rv) (hS : Sit S w.heap.size) (hc : Chg D w w') (hx : ∀ k, S k → k ≠ p → ¬ D k) : Live w' p S s m hd pv a b rv := by
  obtain ⟨vs, R, hm⟩ := h.mem
  exact ⟨h.at_, h.inv, h.held, vs, R, hm.chg hS hc hx⟩
/-- A feeder in memory: its block, the blocks that are its own, the document's state, whether it is closed. -/
structure Fdr (w : World) (p : Nat) (S : Nat → Prop) (s : St) (cl : Bool) : Prop where
  own : S p
  sit : Sit S w.heap.size
  blk : ∃ (m : Nat) (hd : Int) (pv : Value) (a b : Nat) (rv : Value), FB w p m s.all hd pv a b rv s.e cl ∧ (s.e = 0 → cl = false → Live w p S s m hd pv a b rv)
theorem Fdr.chg {w w' : World} {p : Nat} {S D : Nat → Prop} {s : St} {cl : Bool} (h : Fdr w p S s cl) (hc : Chg D w w') (hd : ∀ k, S k → ¬ D k) : Fdr w' p S s cl := by
  obtain ⟨m, x, pv, a, b, rv, h1, h2⟩ := h.blk
  exact ⟨h.own, h.sit.le hc.size, m, x, pv, a, b, rv, Blk.chg h1 hc (hd p h.own), fun e1 e2 => (h2 e1 e2).chg h.sit hc fun k hk _ => hd k hk⟩
end Go.Proofs.Ytdheppfooapneaa
