/- The document's way through the bytes, byte by byte, in plain lists. -/
import Derived.Test.YtbmdgoljjffjdaaFrameNums
import Derived.Test.YtbmdgoljjffjdaaRefGet
import Derived.Test.YtbmdgoljjffjdaaGetNums
namespace Go.Proofs.Ytbmdgoljjffjdaa
open Go.RowKit

structure St where
  took : List Nat
  last : Nat
  fin : Bool
  all : Nat
  l : List Sec
  e : Nat
def takeN (s : St) (c : Nat) : St :=
  if s.took.length = 1 then (if c = 0 then { s with fin := true } else if c ≤ s.last ∨ 9 < c then { s with e := 11 } else s)
  else if (get s.took 1).2.2 = 10 then s
  else if (get s.took 1).2.2 ≠ 0 then { s with e := (get s.took 1).2.2 }
  else if 1048576 < (get s.took 1).1 then { s with e := 3 }
  else if s.took.length < (get s.took 1).2.1 + (get s.took 1).1 + 4 then s
  else if (checkN s.took).2 ≠ 0 then { s with e := (checkN s.took).2 }
  else { s with l := s.l ++ [((s.took.headD 0 : Int), (checkN s.took).1.drop (get s.took 1).2.1)], last := s.took.headD 0, took := [] }
def stepN (s : St) (c : Nat) : St :=
  if s.e ≠ 0 then s
  else if s.fin = true then { s with all := s.all + 1, e := 11 }
  else if s.all < 5 then (if c ≠ headN.getD s.all 0 then { s with all := s.all + 1, e := 11 } else { s with all := s.all + 1 })
  else takeN { s with all := s.all + 1, took := s.took ++ [c] } c
def closeN (s : St) : List Sec × Nat := if s.e ≠ 0 then ([], s.e) else if s.fin = false then ([], 10) else if 1048576 < s.all then ([], 3) else (s.l, 0)
def st0 : St := ⟨[], 0, false, 0, [], 0⟩
def decN (bs : List Nat) : List Sec × Nat := closeN (bs.foldl stepN st0)

/-- Nothing but block G has turned. -/
structure Far1 (G : Nat) (W W' : World) : Prop where
  os : W'.os = W.os
  tape : W'.tape = W.tape
  output : W'.output = W.output
  size : W'.heap.size = W.heap.size
  block : ∀ k, k ≠ G → W'.heap[k]? = W.heap[k]?
theorem Far1.refl (G : Nat) (W : World) : Far1 G W W := ⟨rfl, rfl, rfl, rfl, fun _ _ => rfl⟩
theorem Far1.trans {G : Nat} {a b c : World} (h : Far1 G a b) (h2 : Far1 G b c) : Far1 G a c :=
  ⟨h2.os.trans h.os, h2.tape.trans h.tape, h2.output.trans h.output, h2.size.trans h.size, fun k hk => (h2.block k hk).trans (h.block k hk)⟩
theorem Far1.set {G : Nat} {W W' : World} (h : Far1 G W W') (o : Nat) (u : Value) : Far1 G W (W'.setCell ⟨G, o, none⟩ u) :=
  ⟨h.os, h.tape, h.output, by rw [← h.size]; simp [World.setCell], fun k hk => (Below.heap_setCell W' ⟨G, o, none⟩ u k hk).trans (h.block k hk)⟩
/-- What holds whatever becomes of block G. -/
def Rob (G : Nat) (w : World) (F : World → Prop) : Prop := ∀ W', Far1 G w W' → F W'
theorem Rob.here {G : Nat} {w : World} {F : World → Prop} (h : Rob G w F) : F w := h w (Far1.refl _ _)
theorem Rob.far {G : Nat} {w w' : World} {F : World → Prop} (h : Rob G w F) (hf : Far1 G w w') : Rob G w' F := fun W' hW => h W' (hf.trans hW)
theorem Rob.kept {G : Nat} {w w' : World} {F : World → Prop} (hst : ∀ W W', Below W.heap.size W W' → F W → F W') (h : Rob G w F) (hG : G < w.heap.size) (hb : Below w.heap.size w w') : Rob G w' F := by
  intro W' hW
  have hGW : G < W'.heap.size := by rw [hW.size]; exact Nat.lt_of_lt_of_le hG hb.size
  have hF : Far1 G w { w with heap := w.heap.setIfInBounds G W'.heap[G] } := ⟨rfl, rfl, rfl, by simp, fun k hk => Array.getElem?_setIfInBounds_ne (fun e => hk e.symm)⟩
  refine hst { w with heap := w.heap.setIfInBounds G W'.heap[G] } W' ⟨hW.os.trans hb.os, hW.tape.trans hb.tape, hW.output.trans hb.output, ?_, fun k hk => ?_⟩ (h _ hF)
  · rw [hF.size, hW.size]; exact hb.size
  · rw [hF.size] at hk
    by_cases e : k = G
    · subst e
      show W'.heap[k]? = (w.heap.setIfInBounds k W'.heap[k])[k]?
      rw [Array.getElem?_setIfInBounds_self_of_lt hG, Array.getElem?_eq_getElem hGW]
    · rw [hF.block k e, hW.block k e, hb.block k hk]
theorem Rob.has {G : Nat} {w w' : World} {A : Option Addr} {n c : Nat} {xs : List Value} (h : Rob G w fun W => Has W A n c xs) (hG : G < w.heap.size) (hb : Below w.heap.size w w') : Rob G w' fun W => Has W A n c xs :=
  Rob.kept (fun _ _ hb h => h.kept hb) h hG hb
/-- Sections, whatever becomes of block G. -/
def SecsR (G : Nat) (w : World) (A : Option Addr) (n c : Nat) (l : List Sec) : Prop := ∃ vs, Rob G w fun W => HasK 2 W A n c (secCells vs) ∧ SecVs W vs l
theorem SecsR.here {G : Nat} {w : World} {A : Option Addr} {n c : Nat} {l : List Sec} (h : SecsR G w A n c l) : Secs w A n c l := by
  obtain ⟨vs, h1⟩ := h
  exact ⟨vs, h1.here.1, h1.here.2⟩
theorem SecsR.secs {G : Nat} {w w' : World} {A : Option Addr} {n c : Nat} {l : List Sec} (h : SecsR G w A n c l) (hG : G < w.heap.size) (hb : Below w.heap.size w w') : SecsR G w' A n c l := by
  obtain ⟨vs, h1⟩ := h
  exact ⟨vs, Rob.kept (fun _ _ hb h => ⟨h.1.kept hb, h.2.kept hb⟩) h1 hG hb⟩
theorem SecsR.far {G : Nat} {w w' : World} {A : Option Addr} {n c : Nat} {l : List Sec} (h : SecsR G w A n c l) (hf : Far1 G w w') : SecsR G w' A n c l := by
  obtain ⟨vs, h1⟩ := h
  exact ⟨vs, h1.far hf⟩
theorem Rob.nil {G : Nat} {w : World} : Rob G w fun W => Has W none 0 0 (u8s []) := fun _ _ => Has.none _ _ _ fun _ => rfl
theorem SecsR.nil {G : Nat} {w : World} : SecsR G w none 0 0 [] := ⟨[], fun _ _ => ⟨HasK.none _ _ _ _ fun _ => rfl, rfl, fun i hi => absurd hi (by simp)⟩⟩
theorem Rob.own {G : Nat} {w : World} {base : Nat} {e : TypeId} {A : Option Addr} {c : Nat} {l : List Nat} (h : Own w base e (.slice A l.length c) (u8s l)) (hG : G < base) : Rob G w fun W => Has W A l.length c (u8s l) := by
  intro W' hW
  have h' : Own W' base e (.slice A l.length c) (u8s l) := by
    refine ⟨h.1, ?_⟩
    rcases h.2 with h1 | ⟨g', cap, cur, h1, h2, h3, h4⟩
    · exact Or.inl h1
    · exact Or.inr ⟨g', cap, cur, h1, h2, (hW.block g' (by omega)).trans h3, h4⟩
  obtain ⟨A', c', hv, hh⟩ := h'.has
  rw [u8s_len] at hv hh
  cases hv
  exact hh

theorem Rob.ownK {G k : Nat} {w : World} {base : Nat} {e : TypeId} {A : Option Addr} {c n : Nat} {xs : List Value} (h : OwnK k w base e (.slice A n c) n xs) (hG : G < base) : Rob G w fun W => HasK k W A n c xs := by
  intro W' hW
  have h' : OwnK k W' base e (.slice A n c) n xs := by
    refine ⟨h.1, ?_⟩
    rcases h.2 with h1 | ⟨g', cap, cur, h1, h2, h3, h4⟩
    · exact Or.inl h1
    · exact Or.inr ⟨g', cap, cur, h1, h2, (hW.block g' (by omega)).trans h3, h4⟩
  obtain ⟨A', c', hv, hh⟩ := h'.has
  cases hv
  exact hh
/-- The state as a value; what it holds does not lie in block G. -/
def StV (G : Nat) (w : World) (s : St) (v : Value) : Prop := ∃ A n c B m d, v = .agg #[.slice A n c, .int .i64 (s.last : Int), .bool s.fin, .int .i64 (s.all : Int), .slice B m d, .int .i64 (s.e : Int)] ∧ (Rob G w fun W => Has W A n c (u8s s.took)) ∧ SecsR G w B m d s.l
theorem StV.kept {G : Nat} {w w' : World} {s : St} {v : Value} (h : StV G w s v) (hG : G < w.heap.size) (hb : Below w.heap.size w w') : StV G w' s v := by
  obtain ⟨A, n, c, B, m, d, e, h1, h2⟩ := h
  exact ⟨A, n, c, B, m, d, e, h1.has hG hb, h2.secs hG hb⟩
theorem StV.far {G : Nat} {w w' : World} {s : St} {v : Value} (h : StV G w s v) (hf : Far1 G w w') : StV G w' s v := by
  obtain ⟨A, n, c, B, m, d, e, h1, h2⟩ := h
  exact ⟨A, n, c, B, m, d, e, h1.far hf, h2.far hf⟩
/-- A call's answer: a state. -/
def Stepd (G : Nat) (w : World) (s : St) (e : Ending) (w' : World) : Prop := ∃ v, e = .returned v ∧ StV G w' s v ∧ Below w.heap.size w w'
end Go.Proofs.Ytbmdgoljjffjdaa
