import Derived.Test.YtdheppfooapneaaKeep
import Derived.Test.YtdheppfooapneaaCrc
import Derived.Test.YtdheppfooapneaaVint
import Derived.Outline
import Derived.Deep.LoopGhost
import Derived.RegionTactic
import Derived.Deep.QuietTactic
import Derived.BigQuiet
/- Layer 3 in plain lists: the bytes of sections. -/
namespace Go.Proofs.Ytdheppfooapneaa
open Go.RowKit

def headN : List Nat := [76, 80, 68, 89, 1]
def oneBody (s : Sec) : List Nat := s.1.toNat :: (putN s.2.length ++ s.2)
/-- What One answers. -/
def oneN (s : Sec) : List Nat × Nat := if s.1 < 1 ∨ 9 < s.1 then ([], 2) else if 1048576 < s.2.length then ([], 3) else (sealN (oneBody s), 0)
theorem oneN_arg {s : Sec} (h : s.1 < 1 ∨ 9 < s.1) : oneN s = ([], 2) := if_pos h
theorem oneN_long {s : Sec} (h : ¬ (s.1 < 1 ∨ 9 < s.1)) (h2 : 1048576 < s.2.length) : oneN s = ([], 3) := by unfold oneN; rw [if_neg h, if_pos h2]
theorem oneN_ok {s : Sec} (h : ¬ (s.1 < 1 ∨ 9 < s.1)) (h2 : ¬ 1048576 < s.2.length) : oneN s = (sealN (oneBody s), 0) := by unfold oneN; rw [if_neg h, if_neg h2]
theorem oneBody_byte {s : Sec} (h : ¬ (s.1 < 1 ∨ 9 < s.1)) (hb : ∀ x ∈ s.2, x < 256) : ∀ x ∈ oneBody s, x < 256 := by
  intro x hx
  rcases List.mem_cons.1 hx with rfl | hx
  · omega
  · rcases List.mem_append.1 hx with hx | hx
    · exact putN_byte _ x hx
    · exact hb x hx
theorem oneBody_len {s : Sec} (h2 : ¬ 1048576 < s.2.length) : (oneBody s).length ≤ s.2.length + 11 := by
  have := putN_len (n := s.2.length) (by omega)
  simp only [oneBody, List.length_cons, List.length_append]; omega
theorem oneN_byte {s : Sec} (hb : ∀ x ∈ s.2, x < 256) : ∀ x ∈ (oneN s).1, x < 256 := by
  unfold oneN
  split
  · simp
  · split
    · simp
    · rename_i h _; exact sealN_byte (oneBody_byte h hb)
theorem oneN_len (s : Sec) : (oneN s).1.length ≤ s.2.length + 15 := by
  unfold oneN
  split
  · simp
  · split
    · simp
    · rename_i h; rw [sealN_len]; have := oneBody_len h; omega
/-- All of them, one behind the other; the first error. -/
def onesN : List Sec → List Nat × Nat
  | [] => ([], 0)
  | s :: l => if (oneN s).2 ≠ 0 then ([], (oneN s).2) else if (onesN l).2 ≠ 0 then ([], (onesN l).2) else ((oneN s).1 ++ (onesN l).1, 0)
theorem onesN_app (a b : List Sec) : onesN (a ++ b) = if (onesN a).2 ≠ 0 then ([], (onesN a).2) else if (onesN b).2 ≠ 0 then ([], (onesN b).2) else ((onesN a).1 ++ (onesN b).1, 0) := by
  induction a with
  | nil =>
    simp only [List.nil_append, onesN]
    by_cases h : (onesN b).2 = 0
    · simp [h]; rw [← h]
    · simp [h]
      cases b with
      | nil => simp [onesN] at h
      | cons s l =>
        simp only [onesN] at h ⊢
        split
        · rfl
        · split
          · rfl
          · rename_i h1 h2; simp only [if_neg h1, if_neg h2] at h; exact absurd trivial h
  | cons s a ih =>
    simp only [List.cons_append, onesN, ih]
    by_cases h1 : (oneN s).2 = 0 <;> by_cases h2 : (onesN a).2 = 0 <;> by_cases h3 : (onesN b).2 = 0 <;> simp [h1, h2, h3]
theorem onesN_one (s : Sec) : onesN [s] = if (oneN s).2 ≠ 0 then ([], (oneN s).2) else ((oneN s).1, 0) := by simp [onesN]
theorem onesN_err {l : List Sec} (h : (onesN l).2 ≠ 0) : onesN l = ([], (onesN l).2) := by
  have := onesN_app l []
  rw [List.append_nil] at this
  rw [if_pos h] at this
  exact this
theorem onesN_step {l : List Sec} {i : Nat} (hi : i < l.length) (h : (onesN (l.take i)).2 = 0) :
    onesN (l.take (i + 1)) = if (oneN l[i]).2 ≠ 0 then ([], (oneN l[i]).2) else ((onesN (l.take i)).1 ++ (oneN l[i]).1, 0) := by
  rw [List.take_succ_eq_append_getElem hi, onesN_app, onesN_one, if_neg (by simp [h])]
  by_cases h1 : (oneN l[i]).2 = 0 <;> simp [h1]
theorem onesN_stop {l : List Sec} {i : Nat} (h : (onesN (l.take i)).2 ≠ 0) : onesN l = ([], (onesN (l.take i)).2) := by
  have := onesN_app (l.take i) (l.drop i)
  rw [List.take_append_drop, if_pos h] at this
  exact this
/-- Do the kinds rise? -/
def risesB (l : List Sec) : Bool := (List.range (l.length - 1)).all fun i => decide ((l.getD i (0, [])).1 < (l.getD (i + 1) (0, [])).1)
theorem risesB_iff (l : List Sec) : risesB l = true ↔ ∀ i (h : i + 1 < l.length), l[i].1 < l[i + 1].1 := by
  unfold risesB
  rw [List.all_eq_true]
  constructor
  · intro H i hi
    have := H i (List.mem_range.2 (by omega))
    simpa [List.getD, List.getElem?_eq_getElem hi, List.getElem?_eq_getElem (show i < l.length by omega)] using this
  · intro H i hi
    have hi' := List.mem_range.1 hi
    have := H i (by omega)
    simpa [List.getD, List.getElem?_eq_getElem (show i + 1 < l.length by omega), List.getElem?_eq_getElem (show i < l.length by omega)] using this
/-- What Encode answers. -/
def encN (l : List Sec) : List Nat × Nat :=
  if (onesN l).2 ≠ 0 then ([], (onesN l).2)
  else if risesB l = false then ([], 2)
  else if 1048576 < (headN ++ (onesN l).1 ++ [0]).length then ([], 3)
  else (headN ++ (onesN l).1 ++ [0], 0)
theorem onesN_byte {l : List Sec} (h : ∀ s ∈ l, ∀ x ∈ s.2, x < 256) : ∀ x ∈ (onesN l).1, x < 256 := by
  induction l with
  | nil => simp [onesN]
  | cons s l ih =>
    simp only [onesN]
    split
    · simp
    · split
      · simp
      · intro x hx
        rcases List.mem_append.1 hx with hx | hx
        · exact oneN_byte (h s (List.mem_cons_self ..)) x hx
        · exact ih (fun t ht => h t (List.mem_cons_of_mem _ ht)) x hx
theorem encN_byte {l : List Sec} (h : ∀ s ∈ l, ∀ x ∈ s.2, x < 256) : ∀ x ∈ (encN l).1, x < 256 := by
  unfold encN
  split
  · simp
  · split
    · simp
    · split
      · simp
      · intro x hx
        simp only [List.mem_append] at hx
        rcases hx with (hx | hx) | hx
        · simp [headN] at hx; omega
        · exact onesN_byte h x hx
        · simp at hx; omega
end Go.Proofs.Ytdheppfooapneaa

/- lapidaryref03.One. -/
namespace Go.Proofs.Ytdheppfooapneaa
open Go.RowKit

end Go.Proofs.Ytdheppfooapneaa

/- lapidaryref03.Encode. -/
namespace Go.Proofs.Ytdheppfooapneaa
open Go.RowKit

/-- Sections that are short enough for what is looked at. -/
structure Short (l : List Sec) (n : Nat) : Prop where
  num : l.length ≤ n
  all : (l.map fun s => s.2.length).sum ≤ n
theorem Short.each {l : List Sec} {n : Nat} (h : Short l n) {s : Sec} (hs : s ∈ l) : s.2.length ≤ n := by
  have h0 := h.all
  clear h
  induction l with
  | nil => cases hs
  | cons t l ih =>
    simp only [List.map_cons, List.sum_cons] at h0
    rcases List.mem_cons.1 hs with rfl | hs
    · omega
    · exact ih hs (by omega)
theorem onesN_len (l : List Sec) : (onesN l).1.length ≤ (l.map fun s => s.2.length).sum + 15 * l.length := by
  induction l with
  | nil => simp [onesN]
  | cons s l ih =>
    have := oneN_len s
    simp only [onesN, List.map_cons, List.sum_cons, List.length_cons]
    split
    · simp
    · split
      · simp
      · simp only [List.length_append]; omega
theorem sum_take (l : List Sec) (i : Nat) : ((l.take i).map fun s => s.2.length).sum ≤ (l.map fun s => s.2.length).sum := by
  have e : l.map (fun s => s.2.length) = (l.take i).map (fun s => s.2.length) ++ (l.drop i).map (fun s => s.2.length) := by rw [← List.map_append, List.take_append_drop]
  rw [e, List.sum_append]; omega
theorem Short.part {l : List Sec} {n : Nat} (h : Short l n) (i : Nat) : (onesN (l.take i)).1.length ≤ 16 * n := by
  have h1 := onesN_len (l.take i)
  have h2 := sum_take l i
  have h3 := h.all
  have h4 := h.num
  have h5 : (l.take i).length ≤ l.length := by rw [List.length_take]; omega
  omega

end Go.Proofs.Ytdheppfooapneaa

/- lapidaryref03.Same: the same sections? -/
namespace Go.Proofs.Ytdheppfooapneaa
open Go.RowKit

set_option maxRecDepth 100000 in
set_option maxHeartbeats 1000000 in
theorem refSame3_any (A B : Option Addr) (n c m d : Nat) (l r : List Sec) (w : World) (h : Secs w A n c l) (h2 : Secs w B m d r) (hb : ∀ s ∈ l, ∀ x ∈ s.2, x < 256) (hb2 : ∀ s ∈ r, ∀ x ∈ s.2, x < 256) (hn : n ≤ 1000000000) (hm : m ≤ 1000000000) :
    Calls Try.prog 17 #[.slice A n c, .slice B m d] w fun e w' => e = .returned (.bool (decide (l = r))) ∧ Below w.heap.size w w' := by
  have HL := Lib.hid h.len
  have HL2 := Lib.hid h2.len
  have HH := Lib.hid h
  have HH2 := Lib.hid h2
  have HBy := Lib.hid hb
  have HBy2 := Lib.hid hb2
  clear h h2 hb hb2
  by_cases hnm : n = m
  · subst hnm
    go_enter Try.func17, Try.ntmps17
    go_wp2
    go_loopg [5] n (fun g s5 wx => ∃ i : Nat, i + g = n ∧ s5 = .int .i64 i ∧ Hid (l.take i = r.take i) ∧ Hid (Below w.heap.size w wx))
    case atStart => exact ⟨0, by omega, rfl, rfl, Below.refl _ _⟩
    case round =>
      obtain ⟨i, hig, rfl, HT, HB⟩ := hrel
      by_cases hi : i < n
      · have hil : i < l.length := by rw [HL.out]; exact hi
        have hir : i < r.length := by rw [HL2.out]; exact hi
        obtain ⟨b, off, A', n', c', rfl, _, _, hrow⟩ := HH.out.at_ hil
        obtain ⟨b2, off2, B', m', d', rfl, _, _, hrow2⟩ := HH2.out.at_ hir
        obtain ⟨hc1, hc2, hh⟩ := hrow _ HB.out
        obtain ⟨hd1, hd2, hh2⟩ := hrow2 _ HB.out
        have HS1 : Hid (∀ k, Calls Try.prog 24 #[.slice A' n' c', .slice B' m' d'] (wr.drewN k) fun e w' => e = .returned (.bool (decide (l[i].2 = r[i].2))) ∧ w' = wr.drewN k) := fun k =>
          (same_any A' B' n' c' m' d' l[i].2 r[i].2 (wr.drewN k) (hh.kept ⟨rfl, rfl, rfl, Nat.le_refl _, fun _ _ => rfl⟩) (hh2.kept ⟨rfl, rfl, rfl, Nat.le_refl _, fun _ _ => rfl⟩) (HBy.out _ (List.getElem_mem hil)) (HBy2.out _ (List.getElem_mem hir))).mono fun e w' ⟨h1, h2⟩ => ⟨h1, h2.symm⟩
        have ti : decide ((i : Int) < (n : Int)) = true := by simp; omega
        have HTn : Hid (l.take (i + 1) = r.take (i + 1) ↔ l[i] = r[i]) := by
          show _ ↔ _
          rw [List.take_succ_eq_append_getElem hil, List.take_succ_eq_append_getElem hir, HT.out]
          refine ⟨fun h => ?_, fun h => by rw [h]⟩
          have := List.append_cancel_left h
          simpa using this
        have HNo : Hid (l[i] ≠ r[i] → l ≠ r) := fun hne e => hne (by subst e; rfl)
        have hpair : Hid (l[i] = r[i] ↔ l[i].1 = r[i].1 ∧ l[i].2 = r[i].2) := Prod.ext_iff
        clear hrow hrow2 hh hh2
        generalize l[i] = s at *
        generalize r[i] = t at *
        by_cases hk : s.1 = t.1
        · by_cases hx : s.2 = t.2
          · have te : decide (s.2 = t.2) = true := decide_eq_true hx
            have HR := Lib.hid (HTn.out.2 (hpair.out.2 ⟨hk, hx⟩))
            clear HTn HNo hpair hx
            rw [hk] at hc1
            clear hk
            go_wp2
            go_quiet ((go_at_call 24; exact Calls.quiet_of_same (HS1.out _)))
            go_wp2
            go_roundg (gk - 1)
            case measure => omega
            case rel =>
              have h0 := HB.out
              exact ⟨i + 1, by omega, by go_num, HR, ⟨h0.os, h0.tape, h0.output, h0.size, h0.block⟩⟩
          · have te : decide (s.2 = t.2) = false := decide_eq_false hx
            have HR := Lib.hid (HNo.out fun e => hx (hpair.out.1 e).2)
            clear HTn HNo hpair hx
            rw [hk] at hc1
            clear hk
            go_wp2
            go_quiet ((go_at_call 24; exact Calls.quiet_of_same (HS1.out _)))
            go_wp2
            go_ret
            have h0 := HB.out
            exact ⟨ret_bool (decide_eq_false HR.out).symm, ⟨h0.os, h0.tape, h0.output, h0.size, h0.block⟩⟩
        · have HR := Lib.hid (HNo.out fun e => hk (hpair.out.1 e).1)
          have tk : (s.1 != t.1) = true := by rw [bne_iff_ne]; exact hk
          clear HTn HNo hpair hk
          go_wp2
          go_quiet (fail)
          go_wp2
          go_ret
          have h0 := HB.out
          exact ⟨ret_bool (decide_eq_false HR.out).symm, ⟨h0.os, h0.tape, h0.output, h0.size, h0.block⟩⟩
      · have ti : decide ((i : Int) < (n : Int)) = false := by simp; omega
        have HR : Hid (l = r) := by
          have := HT.out
          rw [List.take_of_length_le (by rw [HL.out]; omega), List.take_of_length_le (by rw [HL2.out]; omega)] at this
          exact this
        go_wp2
        go_ret
        exact ⟨ret_bool (decide_eq_true HR.out).symm, HB.out⟩
  · have HR : Hid (l ≠ r) := fun e => hnm (by rw [← HL.out, ← HL2.out, e])
    have tn : ((n : Int) != (m : Int)) = true := by rw [bne_iff_ne]; omega
    go_enter Try.func17, Try.ntmps17
    go_wp2
    go_ret
    exact ⟨ret_bool (decide_eq_false HR.out).symm, Below.refl _ _⟩
end Go.Proofs.Ytdheppfooapneaa

/- The document's way through the bytes, byte by byte, in plain lists. -/
namespace Go.Proofs.Ytdheppfooapneaa
open Go.RowKit

structure St where
  took : List Nat
  last : Nat
  fin : Bool
  all : Nat
  l : List Sec
  e : Nat
def takeN (s : St) (c : Nat) : St :=
  if s.took.length = 1 then (if c = 0 then { s with fin := true } else if c ≤ s.last ∨ 9 < c then { s with e := 11 } else s)
  else if (get s.took 1).2.2 = 10 then s
  else if (get s.took 1).2.2 ≠ 0 then { s with e := (get s.took 1).2.2 }
  else if 1048576 < (get s.took 1).1 then { s with e := 3 }
  else if s.took.length < (get s.took 1).2.1 + (get s.took 1).1 + 4 then s
  else if (checkN s.took).2 ≠ 0 then { s with e := (checkN s.took).2 }
  else { s with l := s.l ++ [((s.took.headD 0 : Int), (checkN s.took).1.drop (get s.took 1).2.1)], last := s.took.headD 0, took := [] }
def stepN (s : St) (c : Nat) : St :=
  if s.e ≠ 0 then s
  else if s.fin = true then { s with all := s.all + 1, e := 11 }
  else if s.all < 5 then (if c ≠ headN.getD s.all 0 then { s with all := s.all + 1, e := 11 } else { s with all := s.all + 1 })
  else takeN { s with all := s.all + 1, took := s.took ++ [c] } c
def closeN (s : St) : List Sec × Nat := if s.e ≠ 0 then ([], s.e) else if s.fin = false then ([], 10) else if 1048576 < s.all then ([], 3) else (s.l, 0)
def st0 : St := ⟨[], 0, false, 0, [], 0⟩
def decN (bs : List Nat) : List Sec × Nat := closeN (bs.foldl stepN st0)

/-- Sections, whatever becomes of G's blocks. -/
def SecsR (G : Nat → Prop) (w : World) (A : Option Addr) (n c : Nat) (l : List Sec) : Prop := ∃ vs, Rob G w fun W => HasK 2 W A n c (secCells vs) ∧ SecVs W vs l
theorem SecsR.here {G : Nat → Prop} {w : World} {A : Option Addr} {n c : Nat} {l : List Sec} (h : SecsR G w A n c l) : Secs w A n c l := by
  obtain ⟨vs, h1⟩ := h
  exact ⟨vs, h1.here.1, h1.here.2⟩
theorem SecsR.secs {G : Nat → Prop} {w w' : World} {A : Option Addr} {n c : Nat} {l : List Sec} (h : SecsR G w A n c l) (hG : Sit G w.heap.size) (hb : Below w.heap.size w w') : SecsR G w' A n c l := by
  obtain ⟨vs, h1⟩ := h
  exact ⟨vs, Rob.kept (fun _ _ hb h => ⟨h.1.kept hb, h.2.kept hb⟩) h1 hG hb⟩
theorem SecsR.far {G : Nat → Prop} {w w' : World} {A : Option Addr} {n c : Nat} {l : List Sec} (h : SecsR G w A n c l) (hf : FarD G w w') : SecsR G w' A n c l := by
  obtain ⟨vs, h1⟩ := h
  exact ⟨vs, h1.far hf⟩
theorem SecsR.nil {G : Nat → Prop} {w : World} : SecsR G w none 0 0 [] := ⟨[], fun _ _ => ⟨HasK.none _ _ _ _ fun _ => rfl, rfl, fun i hi => absurd hi (by simp)⟩⟩
/-- The state as a value; what it holds does not lie in G's blocks. -/
def StV (G : Nat → Prop) (w : World) (s : St) (v : Value) : Prop := ∃ A n c B m d, v = .agg #[.slice A n c, .int .i64 (s.last : Int), .bool s.fin, .int .i64 (s.all : Int), .slice B m d, .int .i64 (s.e : Int)] ∧ (Rob G w fun W => Has W A n c (u8s s.took)) ∧ SecsR G w B m d s.l
theorem StV.kept {G : Nat → Prop} {w w' : World} {s : St} {v : Value} (h : StV G w s v) (hG : Sit G w.heap.size) (hb : Below w.heap.size w w') : StV G w' s v := by
  obtain ⟨A, n, c, B, m, d, e, h1, h2⟩ := h
  exact ⟨A, n, c, B, m, d, e, h1.has hG hb, h2.secs hG hb⟩
theorem StV.far {G : Nat → Prop} {w w' : World} {s : St} {v : Value} (h : StV G w s v) (hf : FarD G w w') : StV G w' s v := by
  obtain ⟨A, n, c, B, m, d, e, h1, h2⟩ := h
  exact ⟨A, n, c, B, m, d, e, h1.far hf, h2.far hf⟩
/-- A call's answer: a state. -/
def Stepd (G : Nat → Prop) (w : World) (s : St) (e : Ending) (w' : World) : Prop := ∃ v, e = .returned v ∧ StV G w' s v ∧ Below w.heap.size w w'
end Go.Proofs.Ytdheppfooapneaa

/- Plain lists: what the document's way tells byte by byte is what is told section by section. -/
namespace Go.Proofs.Ytdheppfooapneaa
open Go.RowKit

theorem scan_take : ∀ (l : List Nat) (j i acc : Nat), scan i acc (l.take j) = (0, 0, 10) ∨ scan i acc (l.take j) = scan i acc l
  | [], j, i, acc => by simp
  | c :: cs, 0, i, acc => by simp [scan]
  | c :: cs, j + 1, i, acc => by
    rw [List.take_succ_cons]
    unfold scan
    by_cases h1 : i = 9 ∧ 1 < c
    · simp [h1]
    · by_cases h2 : 0 < i ∧ c = 0
      · simp only [if_neg h1, if_pos h2]; simp
      · by_cases h3 : c < 128
        · simp only [if_neg h1, if_neg h2, if_pos h3]; simp
        · simp only [if_neg h1, if_neg h2, if_neg h3]
          exact scan_take cs j (i + 1) _
theorem scan_enough : ∀ (l : List Nat) (j i acc : Nat), (scan i acc l).2.2 = 0 → (scan i acc l).2.1 ≤ i + j → scan i acc (l.take j) = scan i acc l
  | [], j, i, acc, _, _ => by simp
  | c :: cs, 0, i, acc, h, h2 => by
    have := scan_size (c :: cs) i acc h
    omega
  | c :: cs, j + 1, i, acc, h, h2 => by
    rw [List.take_succ_cons]
    unfold scan at h h2 ⊢
    by_cases q1 : i = 9 ∧ 1 < c
    · simp [q1]
    · by_cases q2 : 0 < i ∧ c = 0
      · simp only [if_neg q1, if_pos q2]
      · by_cases q3 : c < 128
        · simp only [if_neg q1, if_neg q2, if_pos q3]
        · simp only [if_neg q1, if_neg q2, if_neg q3] at h h2 ⊢
          exact scan_enough cs j (i + 1) _ h (by omega)
theorem get_one {r : List Nat} (h : 1 ≤ r.length) : get r 1 = getAt r 1 := by
  unfold get
  rw [if_neg (by omega)]
  rfl
theorem get_take {r : List Nat} {j : Nat} (hj : 1 ≤ j) (hr : 1 ≤ r.length) : get (r.take j) 1 = (0, 0, 10) ∨ get (r.take j) 1 = get r 1 := by
  rw [get_one hr, get_one (by rw [List.length_take]; omega)]
  have e : (r.take j).drop 1 = (r.drop 1).take (j - 1) := by rw [List.drop_take]
  unfold getAt
  simp only [e]
  rcases scan_take (r.drop 1) (j - 1) 0 0 with h | h
  · left; rw [h]; rfl
  · right; rw [h]
theorem get_enough {r : List Nat} {j : Nat} (hj : 1 ≤ j) (hr : 1 ≤ r.length) (h0 : (get r 1).2.2 = 0) (h1 : (get r 1).2.1 ≤ j) : get (r.take j) 1 = get r 1 := by
  rw [get_one hr] at h0 h1
  rw [get_one hr, get_one (by rw [List.length_take]; omega)]
  have e : (r.take j).drop 1 = (r.drop 1).take (j - 1) := by rw [List.drop_take]
  unfold getAt at h0 h1 ⊢
  simp only [e] at h0 h1 ⊢
  have hs : (scan 0 0 (r.drop 1)).2.2 = 0 := by
    rcases Nat.eq_zero_or_pos (scan 0 0 (r.drop 1)).2.2 with q | q
    · exact q
    · rw [if_neg (by omega)] at h0; exact h0
  rw [if_pos hs] at h1
  simp only at h1
  rw [scan_enough (r.drop 1) (j - 1) 0 0 hs (by omega)]

/-- With an error nothing more comes. -/
theorem fold_err (bs : List Nat) {s : St} (h : s.e ≠ 0) : bs.foldl stepN s = s := by
  induction bs with
  | nil => rfl
  | cons c bs ih => rw [List.foldl_cons, show stepN s c = s by unfold stepN; rw [if_pos h]]; exact ih
theorem close_err {s : St} (h : s.e ≠ 0) (bs : List Nat) : closeN (bs.foldl stepN s) = ([], s.e) := by
  rw [fold_err bs h]; unfold closeN; rw [if_pos h]

/-- Behind the kind: the length, the bytes, the checksum; and on. -/
def restN (r : List Nat) (all : Nat) (l : List Sec) : List Sec × Nat :=
  if (get r 1).2.2 ≠ 0 then ([], (get r 1).2.2)
  else if 1048576 < (get r 1).1 then ([], 3)
  else if r.length < (get r 1).2.1 + (get r 1).1 + 4 then ([], 10)
  else if (checkN (r.take ((get r 1).2.1 + (get r 1).1 + 4))).2 ≠ 0 then ([], (checkN (r.take ((get r 1).2.1 + (get r 1).1 + 4))).2)
  else closeN ((r.drop ((get r 1).2.1 + (get r 1).1 + 4)).foldl stepN ⟨[], r.headD 0, false, all + ((get r 1).2.1 + (get r 1).1 + 4), l ++ [((r.headD 0 : Int), (checkN (r.take ((get r 1).2.1 + (get r 1).1 + 4))).1.drop (get r 1).2.1)], 0⟩)
theorem head_take {r : List Nat} {j : Nat} (hj : 1 ≤ j) : (r.take j).headD 0 = r.headD 0 := by
  cases r with
  | nil => simp
  | cons x xs =>
    obtain ⟨i, rfl⟩ : ∃ i, j = i + 1 := ⟨j - 1, by omega⟩
    rfl
theorem wait_close (r : List Nat) (last all : Nat) (l : List Sec) (h5 : 5 ≤ all) : ∀ (f j : Nat), j + f = r.length → 1 ≤ j →
    ((get (r.take j) 1).2.2 = 10 ∨ ((get r 1).2.2 = 0 ∧ (get r 1).1 ≤ 1048576 ∧ j < (get r 1).2.1 + (get r 1).1 + 4)) →
    closeN ((r.drop j).foldl stepN ⟨r.take j, last, false, all + j, l, 0⟩) = restN r all l
  | 0, j, hf, hj, hw => by
    have hd : r.drop j = [] := List.drop_eq_nil_of_le (by omega)
    have ht : r.take j = r := List.take_of_length_le (by omega)
    rw [hd, List.foldl_nil]
    have hc : closeN ⟨r.take j, last, false, all + j, l, 0⟩ = ([], 10) := by simp [closeN]
    rw [hc]
    unfold restN
    rcases hw with hw | ⟨h0, h1, h2⟩
    · rw [ht] at hw; rw [if_pos (by omega), hw]
    · rw [if_neg (by omega), if_neg (by omega), if_pos (by omega)]
  | f + 1, j, hf, hj, hw => by
    have hlt : j < r.length := by omega
    rw [List.drop_eq_getElem_cons hlt, List.foldl_cons]
    have hts : r.take j ++ [r[j]] = r.take (j + 1) := (List.take_succ_eq_append_getElem hlt).symm
    have htl : (r.take (j + 1)).length = j + 1 := by rw [List.length_take]; omega
    have hstep : stepN ⟨r.take j, last, false, all + j, l, 0⟩ r[j] = takeN ⟨r.take (j + 1), last, false, all + (j + 1), l, 0⟩ r[j] := by
      unfold stepN
      simp only [ne_eq, not_true_eq_false, if_false, Bool.false_eq_true, hts]
      rw [if_neg (by omega)]
      rfl
    rw [hstep]
    unfold takeN
    simp only [htl]
    rw [if_neg (show ¬ j + 1 = 1 by omega)]
    have ih := wait_close r last all l h5 f (j + 1) (by omega) (by omega)
    rcases get_take (r := r) (j := j + 1) (by omega) (by omega) with hg | hg
    · have h10 : (get (r.take (j + 1)) 1).2.2 = 10 := by rw [hg]
      rw [if_pos h10]
      exact ih (Or.inl h10)
    · by_cases h10 : (get (r.take (j + 1)) 1).2.2 = 10
      · rw [if_pos h10]; exact ih (Or.inl h10)
      · rw [if_neg h10, hg]
        rw [hg] at h10
        by_cases h0 : (get r 1).2.2 = 0
        · rw [if_neg (by simp [h0])]
          by_cases hb : 1048576 < (get r 1).1
          · rw [if_pos hb]
            rw [close_err (s := ⟨r.take (j + 1), last, false, all + (j + 1), l, 3⟩) (by simp)]
            unfold restN; rw [if_neg (by simp [h0]), if_pos hb]
          · rw [if_neg hb]
            by_cases hE : j + 1 < (get r 1).2.1 + (get r 1).1 + 4
            · rw [if_pos hE]
              exact ih (Or.inr ⟨h0, by omega, hE⟩)
            · rw [if_neg hE]
              have hj1 : (get r 1).2.1 + (get r 1).1 + 4 = j + 1 := by
                rcases hw with hw | ⟨_, _, h2⟩
                · exfalso
                  have := get_enough (r := r) (j := j) hj (by omega) h0 (by omega)
                  rw [this] at hw
                  omega
                · omega
              by_cases hk : (checkN (r.take (j + 1))).2 = 0
              · rw [if_neg (by simp [hk])]
                unfold restN
                rw [if_neg (by simp [h0]), if_neg hb, if_neg (by omega), hj1, if_neg (by simp [hk]), head_take (by omega)]
              · rw [if_pos hk]
                rw [close_err (s := ⟨r.take (j + 1), last, false, all + (j + 1), l, (checkN (r.take (j + 1))).2⟩) hk]
                unfold restN
                rw [if_neg (by simp [h0]), if_neg hb, if_neg (by omega), hj1, if_pos hk]
        · rw [if_pos h0]
          rw [close_err (s := ⟨r.take (j + 1), last, false, all + (j + 1), l, (get r 1).2.2⟩) h0]
          unfold restN; rw [if_pos h0]

/-- From a kind on. -/
theorem sec_close (r : List Nat) (last all : Nat) (l : List Sec) (h5 : 5 ≤ all) : closeN (r.foldl stepN ⟨[], last, false, all, l, 0⟩) =
    match r with
    | [] => ([], 10)
    | k :: t => if k = 0 then (if t ≠ [] then ([], 11) else if 1048576 < all + 1 then ([], 3) else (l, 0)) else if k ≤ last ∨ 9 < k then ([], 11) else restN r all l := by
  cases r with
  | nil => simp [closeN]
  | cons k t =>
    rw [List.foldl_cons]
    have hstep : stepN ⟨[], last, false, all, l, 0⟩ k = takeN ⟨[k], last, false, all + 1, l, 0⟩ k := by
      unfold stepN
      simp only [ne_eq, not_true_eq_false, if_false, Bool.false_eq_true]
      rw [if_neg (by omega)]
      rfl
    rw [hstep]
    unfold takeN
    simp only [List.length_cons, List.length_nil, Nat.zero_add, if_true]
    by_cases h0 : k = 0
    · simp only [if_pos h0]
      cases t with
      | nil => simp [closeN]; rfl
      | cons c t =>
        rw [List.foldl_cons, show stepN ⟨[k], last, true, all + 1, l, 0⟩ c = ⟨[k], last, true, all + 1 + 1, l, 11⟩ by simp [stepN], close_err (by simp)]
        simp
    · simp only [if_neg h0]
      by_cases hk : k ≤ last ∨ 9 < k
      · simp only [if_pos hk]
        rw [close_err (s := ⟨[k], last, false, all + 1, l, 11⟩) (by simp)]
      · simp only [if_neg hk]
        have := wait_close (k :: t) last all l h5 t.length 1 (by simp; omega) (by omega) (Or.inl (by
          have : get ((k :: t).take 1) 1 = (0, 0, 10) := by
            rw [get_one (by simp)]
            simp [getAt, scan]
          rw [this]))
        simpa using this
end Go.Proofs.Ytdheppfooapneaa

/- Plain lists: sections there and back. -/
namespace Go.Proofs.Ytdheppfooapneaa
open Go.RowKit

theorem check_sealed (bs : List Nat) : checkN (sealN bs) = (bs, 0) := by
  have e : (sealN bs).take ((sealN bs).length - 4) = bs := by rw [sealN_len, Nat.add_sub_cancel]; simp [sealN]
  rw [checkN_ok (by rw [sealN_len]; omega) (by rw [e]), e]
/-- The head, byte by byte. -/
theorem head_step (bs : List Nat) {i : Nat} (hi : i < 5) : closeN ((bs.drop i).foldl stepN ⟨[], 0, false, i, [], 0⟩) =
    if bs.length ≤ i then ([], 10) else if bs.getD i 0 ≠ headN.getD i 0 then ([], 11) else closeN ((bs.drop (i + 1)).foldl stepN ⟨[], 0, false, i + 1, [], 0⟩) := by
  by_cases hl : bs.length ≤ i
  · rw [if_pos hl, List.drop_eq_nil_of_le hl]; simp [closeN]
  · rw [if_neg hl, List.drop_eq_getElem_cons (by omega), List.foldl_cons]
    have hg : bs.getD i 0 = bs[i]'(by omega) := by simp [List.getD, List.getElem?_eq_getElem (show i < bs.length by omega)]
    rw [hg]
    unfold stepN
    simp only [ne_eq, not_true_eq_false, if_false, Bool.false_eq_true, if_pos hi]
    by_cases hc : bs[i]'(by omega) = headN.getD i 0
    · rw [if_neg (by simpa using hc), if_neg (by simpa using hc)]
    · rw [if_pos (by simpa using hc), if_pos (by simpa using hc)]
      exact close_err (s := ⟨[], 0, false, i + 1, [], 11⟩) (by simp) _
theorem dec_head (r : List Nat) : decN (headN ++ r) = closeN (r.foldl stepN ⟨[], 0, false, 5, [], 0⟩) := by
  unfold decN
  rw [List.foldl_append]
  rfl

/-- Sections that may be written, from a kind on. -/
def Good (last : Nat) : List Sec → Prop
  | [] => True
  | s :: l => (last : Int) < s.1 ∧ s.1 ≤ 9 ∧ s.2.length ≤ 1048576 ∧ Good s.1.toNat l
theorem good_ones {last : Nat} {l : List Sec} (h : Good last l) : (onesN l).2 = 0 := by
  induction l generalizing last with
  | nil => rfl
  | cons s l ih =>
    obtain ⟨h1, h2, h3, h4⟩ := h
    have e := oneN_ok (s := s) (by omega) (by omega)
    simp only [onesN, e, ih h4]; simp
theorem ones_cons {last : Nat} {s : Sec} {l : List Sec} (h : Good last (s :: l)) : (onesN (s :: l)).1 = sealN (oneBody s) ++ (onesN l).1 := by
  obtain ⟨h1, h2, h3, h4⟩ := h
  have e := oneN_ok (s := s) (by omega) (by omega)
  simp only [onesN, e, good_ones h4]; simp
/-- One section is read. -/
theorem one_read {s : Sec} {last all : Nat} {l0 : List Sec} (rest : List Nat) (h1 : (last : Int) < s.1) (h2 : s.1 ≤ 9) (h3 : s.2.length ≤ 1048576) (h5 : 5 ≤ all) :
    closeN ((sealN (oneBody s) ++ rest).foldl stepN ⟨[], last, false, all, l0, 0⟩) = closeN (rest.foldl stepN ⟨[], s.1.toNat, false, all + (sealN (oneBody s)).length, l0 ++ [s], 0⟩) := by
  obtain ⟨k, bs⟩ := s
  simp only at h1 h2 h3
  obtain ⟨K, rfl⟩ := Int.eq_ofNat_of_zero_le (show 0 ≤ k by omega)
  have hr : sealN (oneBody ((K : Int), bs)) ++ rest = [K] ++ (putN bs.length ++ (bs ++ fixedN (crcOf (oneBody ((K : Int), bs))) 4 ++ rest)) := by simp [sealN, oneBody]
  have hg : get (sealN (oneBody ((K : Int), bs)) ++ rest) 1 = (bs.length, 1 + (putN bs.length).length, 0) := by
    rw [hr]
    have := get_put bs.length [K] (bs ++ fixedN (crcOf (oneBody ((K : Int), bs))) 4 ++ rest) (by omega)
    simpa using this
  have hE : (sealN (oneBody ((K : Int), bs))).length = 1 + (putN bs.length).length + bs.length + 4 := by rw [sealN_len]; simp [oneBody]; omega
  rw [sec_close _ _ _ _ h5]
  have hrest : restN (sealN (oneBody ((K : Int), bs)) ++ rest) all l0 = closeN (rest.foldl stepN ⟨[], K, false, all + (sealN (oneBody ((K : Int), bs))).length, l0 ++ [((K : Int), bs)], 0⟩) := by
    unfold restN
    rw [hg]
    simp only [ne_eq, not_true_eq_false, if_false]
    rw [← hE, if_neg (by omega), if_neg (by rw [List.length_append]; omega), List.take_left, List.drop_left, check_sealed]
    simp only [not_true_eq_false, if_false]
    have hd : (oneBody ((K : Int), bs)).drop (1 + (putN bs.length).length) = bs := by
      have : oneBody ((K : Int), bs) = ([K] ++ putN bs.length) ++ bs := by simp [oneBody]
      rw [this]
      have hl : ([K] ++ putN bs.length).length = 1 + (putN bs.length).length := by simp; omega
      rw [← hl, List.drop_left]
    have hh : (sealN (oneBody ((K : Int), bs)) ++ rest).headD 0 = K := by simp [sealN, oneBody]
    rw [hd, hh]
  refine Eq.trans ?_ hrest
  have hc : sealN (oneBody ((K : Int), bs)) ++ rest = K :: (putN bs.length ++ (bs ++ fixedN (crcOf (oneBody ((K : Int), bs))) 4 ++ rest)) := by rw [hr]; rfl
  generalize sealN (oneBody ((K : Int), bs)) ++ rest = r at *
  subst hc
  simp only
  rw [if_neg (by omega), if_neg (by omega)]
theorem all_read (l : List Sec) (rest : List Nat) : ∀ (last all : Nat) (l0 : List Sec), Good last l → 5 ≤ all →
    ∃ last', closeN (((onesN l).1 ++ rest).foldl stepN ⟨[], last, false, all, l0, 0⟩) = closeN (rest.foldl stepN ⟨[], last', false, all + (onesN l).1.length, l0 ++ l, 0⟩) := by
  induction l with
  | nil => intro last all l0 _ _; exact ⟨last, by simp [onesN]⟩
  | cons s l ih =>
    intro last all l0 h h5
    rw [ones_cons h, List.append_assoc]
    obtain ⟨h1, h2, h3, h4⟩ := h
    rw [one_read _ h1 h2 h3 h5]
    obtain ⟨last', e⟩ := ih s.1.toNat (all + (sealN (oneBody s)).length) (l0 ++ [s]) h4 (by omega)
    refine ⟨last', e.trans ?_⟩
    rw [List.length_append, Nat.add_assoc, List.append_assoc]; rfl
/-- What is written is good. -/
theorem enc_good {l : List Sec} (h : (encN l).2 = 0) : Good 0 l ∧ (encN l).1 = headN ++ (onesN l).1 ++ [0] ∧ (headN ++ (onesN l).1 ++ [0]).length ≤ 1048576 := by
  unfold encN at h ⊢
  by_cases h1 : (onesN l).2 = 0
  · rw [if_neg (by simp [h1])] at h ⊢
    by_cases h2 : risesB l = false
    · rw [if_pos h2] at h; simp at h
    · rw [if_neg h2] at h ⊢
      by_cases h3 : 1048576 < (headN ++ (onesN l).1 ++ [0]).length
      · rw [if_pos h3] at h; simp at h
      · rw [if_neg h3]
        refine ⟨?_, rfl, by omega⟩
        have hr := (risesB_iff l).1 (by simpa using h2)
        clear h h2 h3
        have key : ∀ (l : List Sec) (last : Nat), (onesN l).2 = 0 → (∀ i (h : i + 1 < l.length), l[i].1 < l[i + 1].1) → (∀ s, l.head? = some s → (last : Int) < s.1) → Good last l := by
          intro l
          induction l with
          | nil => intros; trivial
          | cons s l ih =>
            intro last h1 hr hl
            have hone : (oneN s).2 = 0 := by
              rcases Nat.eq_zero_or_pos (oneN s).2 with q | q
              · exact q
              · simp only [onesN] at h1; rw [if_pos (by omega)] at h1; exact h1
            have hrest : (onesN l).2 = 0 := by
              rcases Nat.eq_zero_or_pos (onesN l).2 with q | q
              · exact q
              · simp only [onesN] at h1; rw [if_neg (by simp [hone]), if_pos (by omega)] at h1; exact h1
            have hk : ¬ (s.1 < 1 ∨ 9 < s.1) := fun q => by rw [oneN_arg q] at hone; simp at hone
            have hb : ¬ 1048576 < s.2.length := fun q => by rw [oneN_long hk q] at hone; simp at hone
            refine ⟨hl s rfl, by omega, by omega, ih _ hrest (fun i hi => ?_) (fun t ht => ?_)⟩
            · have := hr (i + 1) (by simpa using hi)
              simpa using this
            · cases l with
              | nil => simp at ht
              | cons u l =>
                simp at ht
                subst ht
                have := hr 0 (by simp)
                simp at this
                omega
        refine key l 0 h1 hr (fun s hs => ?_)
        cases l with
        | nil => simp at hs
        | cons u l =>
          simp at hs
          subst hs
          have hone : (oneN u).2 = 0 := by
            rcases Nat.eq_zero_or_pos (oneN u).2 with q | q
            · exact q
            · simp only [onesN] at h1; rw [if_pos (by omega)] at h1; exact h1
          rcases Int.lt_or_le u.1 1 with q | q
          · rw [oneN_arg (Or.inl q)] at hone; simp at hone
          · omega
  · rw [if_pos h1] at h; exact absurd h h1
/-- Sections are read as they were. -/
theorem dec_enc {l : List Sec} (h : (encN l).2 = 0) : decN (encN l).1 = (l, 0) := by
  obtain ⟨hg, he, hl⟩ := enc_good h
  rw [he, List.append_assoc, dec_head]
  obtain ⟨last', e⟩ := all_read l [0] 0 5 [] hg (by omega)
  rw [e, sec_close _ _ _ _ (by omega)]
  simp only [List.nil_append, if_true, ne_eq, not_true_eq_false, if_false]
  rw [if_neg]
  simp only [List.length_append, headN, List.length_cons, List.length_nil] at hl
  omega
/-- With any behind they are none. -/
theorem dec_more {l : List Sec} (h : (encN l).2 = 0) (m : Nat) : decN ((encN l).1 ++ [m]) = ([], 11) := by
  obtain ⟨hg, he, _⟩ := enc_good h
  rw [he, List.append_assoc, List.append_assoc, dec_head]
  obtain ⟨last', e⟩ := all_read l ([0] ++ [m]) 0 5 [] hg (by omega)
  rw [e, sec_close _ _ _ _ (by omega)]
  simp
end Go.Proofs.Ytdheppfooapneaa

/- Plain lists: sections cut short are missing some; bytes that are some are their bytes. -/
namespace Go.Proofs.Ytdheppfooapneaa
open Go.RowKit

/-- A section cut short. -/
theorem one_cut {s : Sec} {last all : Nat} {l0 : List Sec} {q : Nat} (h1 : (last : Int) < s.1) (h2 : s.1 ≤ 9) (h3 : s.2.length ≤ 1048576) (h5 : 5 ≤ all) (hq : q < (sealN (oneBody s)).length) :
    closeN (((sealN (oneBody s)).take q).foldl stepN ⟨[], last, false, all, l0, 0⟩) = ([], 10) := by
  obtain ⟨k, bs⟩ := s
  simp only at h1 h2 h3
  obtain ⟨K, rfl⟩ := Int.eq_ofNat_of_zero_le (show 0 ≤ k by omega)
  rw [sec_close _ _ _ _ h5]
  have hr : sealN (oneBody ((K : Int), bs)) = [K] ++ (putN bs.length ++ (bs ++ fixedN (crcOf (oneBody ((K : Int), bs))) 4)) := by simp [sealN, oneBody]
  have hg : get (sealN (oneBody ((K : Int), bs))) 1 = (bs.length, 1 + (putN bs.length).length, 0) := by
    rw [hr]
    have := get_put bs.length [K] (bs ++ fixedN (crcOf (oneBody ((K : Int), bs))) 4) (by omega)
    simpa using this
  have hE : (sealN (oneBody ((K : Int), bs))).length = 1 + (putN bs.length).length + bs.length + 4 := by rw [sealN_len]; simp [oneBody]; omega
  have hl : ((sealN (oneBody ((K : Int), bs))).take q).length = q := by rw [List.length_take]; omega
  cases q with
  | zero => simp
  | succ q =>
    have hrest : restN ((sealN (oneBody ((K : Int), bs))).take (q + 1)) all l0 = ([], 10) := by
      unfold restN
      rcases get_take (r := sealN (oneBody ((K : Int), bs))) (j := q + 1) (by omega) (by omega) with e | e
      · rw [e]; simp
      · rw [e, hg]
        simp only [ne_eq, not_true_eq_false, if_false]
        rw [if_neg (by omega), if_pos (by rw [hl]; omega)]
    have hc : ∃ t, (sealN (oneBody ((K : Int), bs))).take (q + 1) = K :: t := by rw [hr]; exact ⟨_, rfl⟩
    obtain ⟨t, hc⟩ := hc
    rw [hc] at hrest ⊢
    simp only
    rw [if_neg (by omega), if_neg (by omega)]
    exact hrest
theorem all_cut (l : List Sec) : ∀ (last all : Nat) (l0 : List Sec) (q : Nat), Good last l → 5 ≤ all → q ≤ (onesN l).1.length →
    closeN ((((onesN l).1 ++ [0]).take q).foldl stepN ⟨[], last, false, all, l0, 0⟩) = ([], 10) := by
  induction l with
  | nil =>
    intro last all l0 q _ h5 hq
    simp [onesN] at hq
    subst hq
    simp [closeN]
  | cons s l ih =>
    intro last all l0 q h h5 hq
    rw [ones_cons h] at hq ⊢
    obtain ⟨h1, h2, h3, h4⟩ := h
    rw [List.append_assoc]
    by_cases hs : q < (sealN (oneBody s)).length
    · rw [List.take_append_of_le_length (by omega)]
      exact one_cut h1 h2 h3 h5 hs
    · rw [List.take_append, List.take_of_length_le (by omega), one_read _ h1 h2 h3 h5]
      refine ih _ _ _ _ h4 (by omega) ?_
      rw [List.length_append] at hq
      omega
/-- Cut short they are missing some. -/
theorem dec_cut {l : List Sec} (h : (encN l).2 = 0) {q : Nat} (hq : q < (encN l).1.length) : decN ((encN l).1.take q) = ([], 10) := by
  obtain ⟨hg, he, _⟩ := enc_good h
  rw [he] at hq ⊢
  rw [List.append_assoc] at hq ⊢
  have hl : (headN ++ ((onesN l).1 ++ [0])).length = 5 + (onesN l).1.length + 1 := by simp [headN]; omega
  by_cases h5 : q < 5
  · rw [List.take_append_of_le_length (by simp [headN]; omega)]
    have : q = 0 ∨ q = 1 ∨ q = 2 ∨ q = 3 ∨ q = 4 := by omega
    rcases this with rfl | rfl | rfl | rfl | rfl <;> rfl
  · rw [List.take_append, List.take_of_length_le (by simp [headN]; omega), dec_head]
    refine all_cut l 0 5 [] _ hg (by omega) ?_
    have : headN.length = 5 := rfl
    omega

theorem get_shift {r : List Nat} (h : 1 ≤ r.length) (h0 : (get r 1).2.2 = 0) : (get (r.drop 1) 0).2.2 = 0 ∧ (get (r.drop 1) 0).1 = (get r 1).1 ∧ (get (r.drop 1) 0).2.1 + 1 = (get r 1).2.1 := by
  rw [get_one h] at h0 ⊢
  have e : get (r.drop 1) 0 = getAt (r.drop 1) 0 := by
    unfold get
    rw [if_neg (by omega)]
    rfl
  rw [e]
  unfold getAt at h0 ⊢
  simp only [List.drop_zero] at h0 ⊢
  have hs : (scan 0 0 (r.drop 1)).2.2 = 0 := by
    rcases Nat.eq_zero_or_pos (scan 0 0 (r.drop 1)).2.2 with q | q
    · exact q
    · rw [if_neg (by omega)] at h0; exact h0
  rw [if_pos hs, if_pos hs]
  simp only
  refine ⟨trivial, trivial, by omega⟩
theorem checkN_back {bs : List Nat} (h : (checkN bs).2 = 0) : sealN (checkN bs).1 = bs ∧ (checkN bs).1 = bs.take (bs.length - 4) ∧ 4 ≤ bs.length := by
  unfold checkN at h ⊢
  by_cases h1 : bs.length < 4
  · rw [if_pos h1] at h; simp at h
  · rw [if_neg h1] at h ⊢
    by_cases h2 : sealN (bs.take (bs.length - 4)) = bs
    · rw [if_pos h2]; exact ⟨h2, rfl, by omega⟩
    · rw [if_neg h2] at h; simp at h
/-- Bytes that are sections are their bytes. -/
theorem all_back : ∀ (f : Nat) (r : List Nat) (last all : Nat) (l0 res : List Sec), r.length ≤ f → (∀ x ∈ r, x < 256) → 5 ≤ all → closeN (r.foldl stepN ⟨[], last, false, all, l0, 0⟩) = (res, 0) →
    ∃ l, res = l0 ++ l ∧ Good last l ∧ r = (onesN l).1 ++ [0] ∧ all + r.length ≤ 1048576 ∧ ∀ s ∈ l, ∀ x ∈ s.2, x < 256 := by
  intro f
  induction f with
  | zero =>
    intro r last all l0 res hf _ h5 h
    have hr := List.eq_nil_of_length_eq_zero (show r.length = 0 by omega)
    subst hr
    simp [closeN] at h
  | succ f ih =>
    intro r last all l0 res hf hb h5 h
    rw [sec_close _ _ _ _ h5] at h
    cases r with
    | nil => simp at h
    | cons k t =>
      simp only at h
      by_cases hk0 : k = 0
      · rw [if_pos hk0] at h
        by_cases ht : t = []
        · subst ht hk0
          simp only [ne_eq, not_true_eq_false, if_false] at h
          by_cases hm : 1048576 < all + 1
          · rw [if_pos hm] at h; simp at h
          · rw [if_neg hm] at h
            simp at h
            subst h
            exact ⟨[], by simp, trivial, by simp [onesN], by simp; omega, by simp⟩
        · rw [if_pos ht] at h; simp at h
      · rw [if_neg hk0] at h
        by_cases hkk : k ≤ last ∨ 9 < k
        · rw [if_pos hkk] at h; simp at h
        · rw [if_neg hkk] at h
          unfold restN at h
          by_cases h0 : (get (k :: t) 1).2.2 = 0
          · rw [if_neg (by simp [h0])] at h
            by_cases hbig : 1048576 < (get (k :: t) 1).1
            · rw [if_pos hbig] at h; simp at h
            · rw [if_neg hbig] at h
              by_cases hE : (k :: t).length < (get (k :: t) 1).2.1 + (get (k :: t) 1).1 + 4
              · rw [if_pos hE] at h; simp at h
              · rw [if_neg hE] at h
                obtain ⟨s0, s1, s2⟩ := get_shift (r := k :: t) (by simp) h0
                have hput := get_back ((k :: t).drop 1) (fun x hx => hb x (List.mem_of_mem_drop hx)) s0
                have hmv := get_moves (bs := k :: t) (k := 1) h0
                rw [s1] at hput
                generalize get (k :: t) 1 = g at *
                obtain ⟨n, to, ge⟩ := g
                simp only at *
                by_cases hck : (checkN ((k :: t).take (to + n + 4))).2 = 0
                · rw [if_neg (fun q => q hck)] at h
                  obtain ⟨c1, c2, c3⟩ := checkN_back hck
                  have htl : ((k :: t).take (to + n + 4)).length = to + n + 4 := by rw [List.length_take]; omega
                  rw [htl, show to + n + 4 - 4 = to + n by omega, List.take_take, show min (to + n) (to + n + 4) = to + n by omega] at c2
                  rw [c2] at h c1
                  have hbody : (k :: t).take (to + n) = oneBody ((k : Int), ((k :: t).take (to + n)).drop to) := by
                    have hdl : (((k :: t).take (to + n)).drop to).length = n := by rw [List.length_drop, List.length_take]; omega
                    unfold oneBody
                    simp only [hdl, Int.toNat_natCast]
                    rw [hput]
                    have e1 : (k :: t).take (to + n) = ((k :: t).take (to + n)).take to ++ ((k :: t).take (to + n)).drop to := (List.take_append_drop _ _).symm
                    rw [List.take_take, show min to (to + n) = to by omega] at e1
                    have e2 : (k :: t).take to = k :: (((k :: t).drop 1).take (get ((k :: t).drop 1) 0).2.1) := by
                      rw [← s2, List.take_succ_cons]; rfl
                    rw [e2] at e1
                    exact e1
                  have hlen : ((k :: t).take (to + n)).drop to = ((k :: t).take (to + n)).drop to := rfl
                  have hdl : (((k :: t).take (to + n)).drop to).length = n := by rw [List.length_drop, List.length_take]; omega
                  have hby2 : ∀ x ∈ ((k :: t).take (to + n)).drop to, x < 256 := fun x hx => hb x (List.mem_of_mem_take (List.mem_of_mem_drop hx))
                  generalize hbs : ((k :: t).take (to + n)).drop to = bs at *
                  obtain ⟨l, r1, r2, r3, r4, r5⟩ := ih ((k :: t).drop (to + n + 4)) k (all + (to + n + 4)) (l0 ++ [((k : Int), bs)]) res (by rw [List.length_drop]; omega) (fun x hx => hb x (List.mem_of_mem_drop hx)) (by omega) h
                  have hgood : Good last (((k : Int), bs) :: l) := ⟨by simp; omega, by simp; omega, by simp; omega, by simpa using r2⟩
                  refine ⟨((k : Int), bs) :: l, by rw [r1]; simp, hgood, ?_, ?_, ?_⟩
                  · rw [ones_cons hgood, ← hbody, c1, List.append_assoc, ← r3, List.take_append_drop]
                  · rw [List.length_drop] at r4; omega
                  · intro s hs
                    rcases List.mem_cons.1 hs with rfl | hs
                    · exact hby2
                    · exact r5 s hs
                · rw [if_pos hck] at h
                  simp only [Prod.mk.injEq] at h
                  exact absurd h.2 hck
          · rw [if_pos h0] at h
            simp only [Prod.mk.injEq] at h
            exact absurd h.2 h0
theorem good_rises {last : Nat} {l : List Sec} (h : Good last l) : ∀ i (hi : i + 1 < l.length), l[i].1 < l[i + 1].1 := by
  induction l generalizing last with
  | nil => intro i hi; simp at hi
  | cons s l ih =>
    obtain ⟨h1, h2, h3, h4⟩ := h
    intro i hi
    cases i with
    | zero =>
      cases l with
      | nil => simp at hi
      | cons u l =>
        obtain ⟨g1, _⟩ := h4
        simp
        omega
    | succ i =>
      have := ih h4 i (by simpa using hi)
      simpa using this
theorem head_same {bs : List Nat} {res : List Sec} (h : decN bs = (res, 0)) : ∃ r, bs = headN ++ r := by
  unfold decN st0 at h
  have h0 := head_step bs (i := 0) (by omega)
  have h1 := head_step bs (i := 1) (by omega)
  have h2 := head_step bs (i := 2) (by omega)
  have h3 := head_step bs (i := 3) (by omega)
  have h4 := head_step bs (i := 4) (by omega)
  rw [List.drop_zero] at h0
  rw [h0] at h
  simp only [headN] at *
  match bs with
  | [] => simp at h
  | [a] => simp at h h1; split at h <;> simp_all
  | [a, b] => simp at h h1 h2; split at h <;> simp_all; split at h <;> simp_all
  | [a, b, c] => simp at h h1 h2 h3; split at h <;> simp_all; split at h <;> simp_all; split at h <;> simp_all
  | [a, b, c, d] => simp at h h1 h2 h3 h4; split at h <;> simp_all; split at h <;> simp_all; split at h <;> simp_all; split at h <;> simp_all
  | a :: b :: c :: d :: e :: r =>
    simp at h h1 h2 h3 h4
    by_cases q0 : a = 76
    · by_cases q1 : b = 80
      · by_cases q2 : c = 68
        · by_cases q3 : d = 89
          · by_cases q4 : e = 1
            · exact ⟨r, by rw [q0, q1, q2, q3, q4]; rfl⟩
            · simp_all
          · simp_all
        · simp_all
      · simp_all
    · simp_all
theorem dec_back {bs : List Nat} {res : List Sec} (hb : ∀ x ∈ bs, x < 256) (h : decN bs = (res, 0)) : encN res = (bs, 0) ∧ ∀ s ∈ res, ∀ x ∈ s.2, x < 256 := by
  obtain ⟨r, rfl⟩ := head_same h
  rw [dec_head] at h
  obtain ⟨l, e1, e2, e3, e4, e5⟩ := all_back r.length r 0 5 [] res (Nat.le_refl _) (fun x hx => hb x (List.mem_append_right _ hx)) (by omega) h
  simp only [List.nil_append] at e1
  subst e1
  refine ⟨?_, e5⟩
  unfold encN
  have hr : risesB res = true := (risesB_iff res).2 (good_rises e2)
  rw [if_neg (by simp [good_ones e2]), if_neg (by rw [hr]; simp), List.append_assoc, ← e3, if_neg (by simp [headN]; omega)]
theorem dec_none {bs : List Nat} (h : (decN bs).2 ≠ 0) : (decN bs).1 = [] := by
  unfold decN closeN at h ⊢
  split
  · rfl
  · split
    · rfl
    · split
      · rfl
      · rename_i h1 h2 h3; rw [if_neg h1, if_neg h2, if_neg h3] at h; exact absurd rfl h
end Go.Proofs.Ytdheppfooapneaa
