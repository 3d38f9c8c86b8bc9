/- Words for memory: a slice value that holds a list of cells; how that is kept. -/
import Derived.Test.YtbmdgoljjffjdaaRows
import Derived.WalkKit
import Derived.Laws.BytesArg
import Derived.Laws.AppendOwnNone
import Derived.Lib.Hide
namespace Go.Proofs.Ytbmdgoljjffjdaa
open Go.RowKit

theorem ret_int {k : IntKind} {a b : Int} (h : a = b) : Ending.returned (.int k a) = .returned (.int k b) := by rw [h]
theorem ret_bool {a b : Bool} (h : a = b) : Ending.returned (.bool a) = .returned (.bool b) := by rw [h]

/-- New memory alone: nothing that was there has turned. -/
theorem new_alloc {w w1 : World} (h : Below w.heap.size w w1) (o : Obj) : Below w.heap.size w (w1.alloc o) := h.alloc h.size o
theorem new_call {w w1 w2 : World} (h : Below w.heap.size w w1) (h2 : Below w1.heap.size w1 w2) : Below w.heap.size w w2 := h.trans (h2.mono h.size)

/-- Bytes, and unsigned words, as the cells of a slice. -/
def u8s (l : List Nat) : List Value := l.map fun (x : Nat) => Value.int .u8 (x : Int)
def u64s (l : List Nat) : List Value := l.map fun (x : Nat) => Value.int .u64 (x : Int)
theorem u8s_len (l : List Nat) : (u8s l).length = l.length := by simp [u8s]
theorem u64s_len (l : List Nat) : (u64s l).length = l.length := by simp [u64s]
theorem u8s_at {l : List Nat} {j : Nat} (h : j < l.length) : (u8s l)[j]? = some (.int .u8 (l[j] : Int)) := by simp [u8s, h]
theorem u64s_at {l : List Nat} {j : Nat} (h : j < l.length) : (u64s l)[j]? = some (.int .u64 (l[j] : Int)) := by simp [u64s, h]
theorem u8s_app (l r : List Nat) : u8s (l ++ r) = u8s l ++ u8s r := by simp [u8s]
theorem u64s_app (l r : List Nat) : u64s (l ++ r) = u64s l ++ u64s r := by simp [u64s]

/-- The slice (A, n, c) holds the cells xs in w. -/
structure Has (w : World) (A : Option Addr) (n c : Nat) (xs : List Value) : Prop where
  len : xs.length = n
  cap : n ≤ c
  bare : A = Option.none → c = 0
  spot : 0 < n → ∃ b off, A = some ⟨b, off, none⟩ ∧ b < w.heap.size ∧ ∀ j u, xs[j]? = some u → w.cell? ⟨b, off + j, none⟩ = some u

theorem Has.none (w : World) (A : Option Addr) (c : Nat) (h : A = Option.none → c = 0) : Has w A 0 c [] := ⟨rfl, Nat.zero_le _, h, fun h => absurd h (by omega)⟩
theorem Has.zero {w : World} {A : Option Addr} {n c : Nat} {xs : List Value} (h : Has w A n c xs) (hn : n = 0) : xs = [] :=
  List.eq_nil_of_length_eq_zero (by have := h.len; omega)
theorem Has.kept {w w' : World} {A : Option Addr} {n c : Nat} {xs : List Value} (h : Has w A n c xs) (hb : Below w.heap.size w w') : Has w' A n c xs :=
  ⟨h.len, h.cap, h.bare, fun hn => by
    obtain ⟨b, off, hA, hlt, hc⟩ := h.spot hn
    exact ⟨b, off, hA, Nat.lt_of_lt_of_le hlt hb.size, fun j u hu => (hb.cell (p := ⟨b, off + j, Option.none⟩) hlt).trans (hc j u hu)⟩⟩
theorem Has.drew {w : World} {A : Option Addr} {n c : Nat} {xs : List Value} (h : Has w A n c xs) : Has w.drew A n c xs := h.kept (Below.refl _ _).drew
theorem Has.alloc {w : World} {A : Option Addr} {n c : Nat} {xs : List Value} (h : Has w A n c xs) (o : Obj) : Has (w.alloc o) A n c xs := h.kept ((Below.refl _ _).alloc (Nat.le_refl _) o)
/-- A part of it, from k on up to m. -/
theorem Has.part {w : World} {A : Option Addr} {n c : Nat} {xs : List Value} (h : Has w A n c xs) {k m : Nat} (hkm : k ≤ m) (hm : m ≤ n) :
    Has w (if c = k then A else A.map (·.add k)) (m - k) (c - k) ((xs.drop k).take (m - k)) := by
  refine ⟨by rw [List.length_take, List.length_drop, h.len]; omega, by have := h.cap; omega, fun hA => ?_, fun hn => ?_⟩
  · have hA' : A = Option.none := by
      cases A with
      | none => rfl
      | some a => split at hA <;> cases hA
    have := h.bare hA'; omega
  obtain ⟨b, off, rfl, hlt, hc⟩ := h.spot (by omega)
  rw [if_neg (by have := h.cap; omega)]
  refine ⟨b, off + k, ?_, hlt, fun j u hu => ?_⟩
  · simp only [Option.map_some, Addr.add]
    by_cases hk : k = 0
    · subst hk; simp
    · simp [hk]
  · rw [List.getElem?_take] at hu
    split at hu
    · rw [List.getElem?_drop] at hu
      rw [Nat.add_assoc]
      exact hc _ u hu
    · cases hu
/-- The first m of it. -/
theorem Has.head {w : World} {A : Option Addr} {n c : Nat} {xs : List Value} (h : Has w A n c xs) {m : Nat} (hm : m ≤ n) : Has w A m c (xs.take m) := by
  refine ⟨by rw [List.length_take, h.len]; omega, by have := h.cap; omega, h.bare, fun h0 => ?_⟩
  obtain ⟨b, off, hA, hlt, hc⟩ := h.spot (by omega)
  refine ⟨b, off, hA, hlt, fun j u hu => hc j u ?_⟩
  rw [List.getElem?_take] at hu
  split at hu
  · exact hu
  · cases hu
theorem Has.row {w : World} {base : Nat} {e : TypeId} {v : Value} {n : Nat} {xs : List Value} (h : w.ownsRow base e 1 v n xs) : ∃ A c, v = .slice A n c ∧ Has w A n c xs := by
  have h0 := h
  obtain ⟨hl, hcase⟩ := h
  rcases hcase with ⟨rfl, rfl⟩ | ⟨g, cap, cur, rfl, hg, hh, hn, hcap, hsz, htake⟩
  · exact ⟨Option.none, 0, rfl, by have hx := List.eq_nil_of_length_eq_zero (show xs.length = 0 by omega); subst hx; exact Has.none _ _ _ fun _ => rfl⟩
  · refine ⟨_, _, rfl, by omega, hn, (fun h => by cases h), fun _ => ⟨g, 0, rfl, ?_, fun j u hu => ?_⟩⟩
    · rcases Nat.lt_or_ge g w.heap.size with hlt | hge
      · exact hlt
      · rw [Array.getElem?_eq_none hge] at hh; cases hh
    · have := h0.cells (g := g) rfl j u hu
      rw [Nat.zero_add]
      have e : (⟨g, 0, Option.none⟩ : Addr).add j = ⟨g, j, Option.none⟩ := by
        unfold Addr.add
        by_cases hj : j = 0
        · subst hj; simp
        · simp [hj]
      rw [← e]; exact this
/-- Of a new block. -/
theorem Has.new (w : World) (cs : Array Value) (e : TypeId) : Has (w.alloc (.cells cs e)) (some ⟨w.heap.size, 0, Option.none⟩) cs.size cs.size cs.toList := by
  refine ⟨by simp, Nat.le_refl _, (fun h => by cases h), fun _ => ⟨w.heap.size, 0, rfl, by simp, fun j v hv => ?_⟩⟩
  rw [World.cell?_alloc_at _ _ _ _ rfl]
  simpa using hv
theorem Has.new_at (w : World) (cs : Array Value) (e : TypeId) (g : Nat) (hg : g = w.heap.size) : Has (w.alloc (.cells cs e)) (some ⟨g, 0, Option.none⟩) cs.size cs.size cs.toList := by
  subst hg; exact Has.new w cs e
/-- Of one new block. -/
theorem Has.one (w : World) (u : Value) (e : TypeId) : Has (w.alloc (.cells #[u] e)) (some ⟨w.heap.size, 0, Option.none⟩) 1 1 [u] := by
  refine ⟨rfl, Nat.le_refl _, (fun h => by cases h), fun _ => ⟨w.heap.size, 0, rfl, by simp, fun j v hv => ?_⟩⟩
  match j, hv with
  | 0, hv =>
    simp at hv; subst hv
    rw [World.cell?_alloc_at _ _ _ _ rfl]; rfl

/-- Slices of one cell an element: type t, of elements e, so many bytes each. -/
structure Elem (P : Program) (t e : TypeId) (bytes : Nat) : Prop where
  under : P.underlying t = some (.slice e)
  info : ∃ i z, P.info? e = some i ∧ i.zero = some z ∧ i.size = 1 ∧ i.bytes = bytes ∧ z.cells.size = 1
theorem elem8 : Elem Try.prog 25 5 1 := by
  have h : (Try.prog.info? 5).map (fun i => (i.zero, i.size, i.bytes)) = some (some (.int .u8 0), 1, 1) := by kernel_rfl
  obtain ⟨i, h1, h2, h3, h4⟩ := info_parts h
  exact ⟨Try.underlying25, i, _, h1, h2, h3, h4, rfl⟩
theorem elem64 : Elem Try.prog 71 52 8 := by
  have h : (Try.prog.info? 52).map (fun i => (i.zero, i.size, i.bytes)) = some (some (.int .u64 0), 1, 8) := by kernel_rfl
  obtain ⟨i, h1, h2, h3, h4⟩ := info_parts h
  exact ⟨Try.underlying71, i, _, h1, h2, h3, h4, rfl⟩

/-- The slice value v is the call's own (in a block from base on) and holds xs. -/
def Own (w : World) (base : Nat) (e : TypeId) (v : Value) (xs : List Value) : Prop := w.ownsRow base e 1 v xs.length xs
theorem Own.nil (w : World) (base : Nat) (e : TypeId) : Own w base e (.slice Option.none 0 0) [] := World.ownsRow_nil _ _ _ _
theorem Own.has {w : World} {base : Nat} {e : TypeId} {v : Value} {xs : List Value} (h : Own w base e v xs) : ∃ A c, v = .slice A xs.length c ∧ Has w A xs.length c xs := Has.row h
theorem Own.keep {w w' : World} {base : Nat} {e : TypeId} {v : Value} {xs : List Value} (h : Own w base e v xs) (hb : Below w.heap.size w w') : Own w' base e v xs :=
  World.ownsRow.kept (row := Option.none) h ⟨hb.os, hb.tape, hb.output, hb.size, fun k hk _ => hb.block k hk⟩ (by
    cases v with
    | slice a _ _ => cases a <;> simp [Value.ownBlock]
    | _ => simp [Value.ownBlock])
theorem Own.alloc {w : World} {base : Nat} {e : TypeId} {v : Value} {xs : List Value} (h : Own w base e v xs) (o : Obj) : Own (w.alloc o) base e v xs := World.ownsRow.alloc h o
theorem Own.less {w : World} {base base' : Nat} {e : TypeId} {v : Value} {xs : List Value} (h : Own w base e v xs) (hb : base' ≤ base) : Own w base' e v xs := by
  refine ⟨h.1, ?_⟩
  rcases h.2 with h | ⟨g, cap, cur, h1, h2, h3⟩
  · exact Or.inl h
  · exact Or.inr ⟨g, cap, cur, h1, by omega, h3⟩
theorem below_grown {w w' : World} {base : Nat} {e : TypeId} {v : Value} {xs : List Value} (h : Own w base e v xs) (hg : w.grownBy w' v.ownBlock) (hb : base ≤ w.heap.size) : Below base w w' :=
  (Below.refl _ _).grown hg hb (fun k hk => (World.ownsRow.lt h k hk).1)

/-- append(own, other...): whatever holds the other cells. -/
theorem wpList_join {P : Program} {w : World} {ops : Array Oper} {rest : List Oper} {o : Oper} {a : Act} {Q : Exit → Act → World → Prop} (hgd : o.guard = Option.none) (s x : Operand) (t : TypeId)
    (ho : o.op = .call { callee := .builtin .append, args := #[s, x], argTypes := #[t, t] }) {e : TypeId} {bytes : Nat} (E : Elem P t e bytes)
    (base : Nat) (v : Value) (xs : List Value) (hs : a.eval s = v) (hown : Own w base e v xs) (A : Option Addr) (m c : Nat) (news : List Value) (hx : a.eval x = .slice A m c) (hh : Has w A m c news)
    (h1 : ∀ u ∈ news, u.oneCell' = true) (hsz : xs.length + m ≤ 1099511627776) (hby : bytes ≤ 64) (hbase : base ≤ w.heap.size)
    (h : ∀ v' w', Own w' base e v' (xs ++ news) → Below base w w' → wpList P ops Q rest (a.put o.dst v') w') : wpList P ops Q (o :: rest) a w := by
  obtain ⟨i, z, hi, hz, hsize, hbytes, hzs⟩ := E.info
  have hl := hh.len
  have hmul : (xs.length + m) * bytes ≤ 1099511627776 * 64 := Nat.mul_le_mul hsz hby
  cases A with
  | none =>
    have hm : m = 0 := by
      rcases Nat.eq_zero_or_pos m with h0 | h0
      · exact h0
      · obtain ⟨b, off, hA, _⟩ := hh.spot h0; cases hA
    have hn : news = [] := List.eq_nil_of_length_eq_zero (by omega)
    have hc := hh.bare rfl
    subst hm hn hc
    refine wpList_append_own_none hgd s x t ho base e i 1 E.under hi v xs.length xs hs hown hx ?_
    exact h v w (by rw [List.append_nil]; exact hown) (Below.refl _ _)
  | some ad =>
    refine wpList_append_own w hgd s x t ho base e i z 1 bytes E.under hi hz hsize hbytes hzs (by decide) v xs.length xs hs hown ad m c news hx (by omega) (fun j u hu => ?_) h1 (by unfold maxLen; omega) (by omega) hbase ?_
    · have hj : j < news.length := by
        rcases Nat.lt_or_ge j news.length with hj | hj
        · exact hj
        · rw [List.getElem?_eq_none hj] at hu; cases hu
      obtain ⟨b, off, hA, _, hc⟩ := hh.spot (by omega)
      cases hA
      have e : (⟨b, off, Option.none⟩ : Addr).add j = ⟨b, off + j, Option.none⟩ := by
        unfold Addr.add
        by_cases hj : j = 0
        · subst hj; simp
        · simp [hj]
      rw [e]; exact hc j u hu
    · intro v' w' ho' hg' _
      refine h v' w' ?_ (below_grown hown hg' hbase)
      unfold Own
      rw [List.length_append, hl]
      exact ho'
/-- make([]T, n): noughts of the call's own. -/
theorem wpList_made {P : Program} {w : World} {ops : Array Oper} {rest : List Oper} {o : Oper} {a : Act} {Q : Exit → Act → World → Prop} (hgd : o.guard = Option.none) (l c : Operand) (t : TypeId)
    (hop : o.op = Op.makeSlice t l c) {e : TypeId} {bytes : Nat} (E : Elem P t e bytes) (z : Value) (hz : (P.info? e).bind (·.zero) = some z) (hz1 : z.cells = #[z])
    (base : Nat) (kl kc : IntKind) (L C : Int) (n : Nat) (hl : a.eval l = .int kl L) (hc : a.eval c = .int kc C) (hL : L = (n : Int)) (hC : C = (n : Int)) (hn : n ≤ 1099511627776) (hby : bytes ≤ 64) (hbase : base ≤ w.heap.size)
    (hK : ∀ w', Own w' base e (.slice (some ⟨w.heap.size, 0, Option.none⟩) n n) (List.replicate n z) → Below base w w' → wpList P ops Q rest (a.put o.dst (.slice (some ⟨w.heap.size, 0, Option.none⟩) n n)) w') :
    wpList P ops Q (o :: rest) a w := by
  obtain ⟨i, z', hi, hz', hsize, hbytes, hzs⟩ := E.info
  have hzz : z' = z := by rw [hi] at hz; simp [hz'] at hz; exact hz
  subst hzz
  have hmul : bytes * n ≤ 64 * 1099511627776 := Nat.mul_le_mul hby hn
  refine wpList_make_full w hgd l c t hop base e i z' 1 E.under hi hz' hsize kl kc L C n hl hc hL hC (by rw [hbytes]; omega) (by unfold maxLen; omega) hbase ?_
  intro w' h1 h2
  refine hK w' ?_ ((Below.refl _ _).grown h2 hbase (fun k hk => by cases hk))
  have e : (madeCells z'.cells (n * 1)).toList = List.replicate n z' := by
    rw [hz1, Nat.mul_one]
    simp only [madeCells]
    apply List.ext_getElem
    · simp
    · intro j h1 h2; simp [Nat.mod_one]
  rw [e] at h1
  unfold Own
  rw [List.length_replicate]
  exact h1
/-- A store into it. -/
theorem Own.stored {w : World} {base g cap : Nat} {e : TypeId} {n : Nat} {xs : List Value} (h : Own w base e (.slice (some ⟨g, 0, Option.none⟩) n cap) xs) (hn : xs.length = n) (j : Nat) (u : Value) :
    Own (w.setCell ⟨g, j, Option.none⟩ u) base e (.slice (some ⟨g, 0, Option.none⟩) n cap) (xs.set j u) ∧ Below base w (w.setCell ⟨g, j, Option.none⟩ u) := by
  unfold Own at *
  rw [hn] at h
  have h2 := World.ownsRow.stored h j u
  refine ⟨by rw [List.length_set, hn]; exact h2.1, (Below.refl _ _).setCell (World.ownsRow.lt h g rfl).1 u⟩
theorem Own.cellAt {w : World} {base g cap : Nat} {e : TypeId} {n : Nat} {xs : List Value} (h : Own w base e (.slice (some ⟨g, 0, Option.none⟩) n cap) xs) (hn : xs.length = n) (j : Nat) (hj : j < n) :
    w.cell? ⟨g, j, Option.none⟩ = xs[j]? ∧ w.frozen? ⟨g, j, Option.none⟩ = false := by
  unfold Own at h
  rw [hn] at h
  exact ⟨World.ownsRow.cellAt h j (by omega), World.ownsRow.frozenAt h j⟩
theorem Own.form {w : World} {base : Nat} {e : TypeId} {v : Value} {xs : List Value} (h : Own w base e v xs) (hn : 0 < xs.length) : ∃ g cap, v = .slice (some ⟨g, 0, Option.none⟩) xs.length cap ∧ base ≤ g ∧ g < w.heap.size := by
  have h0 := h
  rcases h.2 with ⟨_, h2⟩ | ⟨g, cap, cur, rfl, hg, _⟩
  · omega
  · exact ⟨g, cap, rfl, hg, (World.ownsRow.lt h0 g rfl).2⟩
/-- A slice literal is the call's own. -/
theorem Own.fresh (w : World) (base : Nat) (cs : Array Value) (e : TypeId) (hb : base ≤ w.heap.size) (hm : cs.size ≤ 1000000) : Own (w.alloc (.cells cs e)) base e (.slice (some ⟨w.heap.size, 0, Option.none⟩) cs.size cs.size) cs.toList := by
  refine ⟨by simp, Or.inr ⟨w.heap.size, cs.size, cs, by simp, hb, heap_alloc_new w _, by simp, by unfold maxLen; omega, by simp, by rw [List.take_of_length_le (by simp)]⟩⟩
theorem u8s_one (l : List Nat) : ∀ u ∈ u8s l, u.oneCell' = true := by
  intro u hu
  obtain ⟨x, _, rfl⟩ := List.mem_map.1 hu
  rfl
theorem u64s_one (l : List Nat) : ∀ u ∈ u64s l, u.oneCell' = true := by
  intro u hu
  obtain ⟨x, _, rfl⟩ := List.mem_map.1 hu
  rfl
/-- A call's answer: a new slice that holds the bytes. -/
def Wrote (w : World) (bs : List Nat) (e : Ending) (w' : World) : Prop :=
  ∃ A c, e = .returned (.slice A bs.length c) ∧ Has w' A bs.length c (u8s bs) ∧ Own w' w.heap.size 5 (.slice A bs.length c) (u8s bs) ∧ Below w.heap.size w w'
theorem Wrote.of {w w' : World} {bs : List Nat} {v : Value} (ho : Own w' w.heap.size 5 v (u8s bs)) (hb : Below w.heap.size w w') : Wrote w bs (.returned v) w' := by
  obtain ⟨A, c, rfl, hh⟩ := ho.has
  rw [u8s_len] at hh ho
  exact ⟨A, c, by rw [u8s_len], hh, ho, hb⟩
end Go.Proofs.Ytbmdgoljjffjdaa
