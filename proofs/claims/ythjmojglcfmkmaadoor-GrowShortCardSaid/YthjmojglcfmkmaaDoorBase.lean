import Derived.Test.YthjmojglcfmkmaaDoorRows
import Derived.WalkKit
import Derived.Laws.BytesArg
import Derived.Laws.AppendOwnNone
import Derived.Lib.Hide
import Derived.Lib.Zigzag
/- Words for memory: a slice value that holds a list of cells; how that is kept. -/
namespace Go.Proofs.YthjmojglcfmkmaaDoor
open Go.RowKit

theorem ret_int {k : IntKind} {a b : Int} (h : a = b) : Ending.returned (.int k a) = .returned (.int k b) := by rw [h]
theorem ret_bool {a b : Bool} (h : a = b) : Ending.returned (.bool a) = .returned (.bool b) := by rw [h]

/-- New memory alone: nothing that was there has turned. -/
theorem new_alloc {w w1 : World} (h : Below w.heap.size w w1) (o : Obj) : Below w.heap.size w (w1.alloc o) := h.alloc h.size o
theorem new_call {w w1 w2 : World} (h : Below w.heap.size w w1) (h2 : Below w1.heap.size w1 w2) : Below w.heap.size w w2 := h.trans (h2.mono h.size)

/-- Bytes, and unsigned words, as the cells of a slice. -/
def u8s (l : List Nat) : List Value := l.map fun (x : Nat) => Value.int .u8 (x : Int)
def u64s (l : List Nat) : List Value := l.map fun (x : Nat) => Value.int .u64 (x : Int)
def u16s (l : List Nat) : List Value := l.map fun (x : Nat) => Value.int .u16 (x : Int)
theorem u16s_len (l : List Nat) : (u16s l).length = l.length := by simp [u16s]
theorem u16s_at {l : List Nat} {j : Nat} (h : j < l.length) : (u16s l)[j]? = some (.int .u16 (l[j] : Int)) := by simp [u16s, h]
theorem u8s_len (l : List Nat) : (u8s l).length = l.length := by simp [u8s]
theorem u64s_len (l : List Nat) : (u64s l).length = l.length := by simp [u64s]
theorem u8s_at {l : List Nat} {j : Nat} (h : j < l.length) : (u8s l)[j]? = some (.int .u8 (l[j] : Int)) := by simp [u8s, h]
theorem u64s_at {l : List Nat} {j : Nat} (h : j < l.length) : (u64s l)[j]? = some (.int .u64 (l[j] : Int)) := by simp [u64s, h]
theorem u8s_app (l r : List Nat) : u8s (l ++ r) = u8s l ++ u8s r := by simp [u8s]
theorem u64s_app (l r : List Nat) : u64s (l ++ r) = u64s l ++ u64s r := by simp [u64s]

/-- The slice (A, n, c) holds the cells xs in w. -/
structure Has (w : World) (A : Option Addr) (n c : Nat) (xs : List Value) : Prop where
  len : xs.length = n
  cap : n ≤ c
  bare : A = Option.none → c = 0
  spot : 0 < n → ∃ b off, A = some ⟨b, off, none⟩ ∧ b < w.heap.size ∧ ∀ j u, xs[j]? = some u → w.cell? ⟨b, off + j, none⟩ = some u

theorem Has.none (w : World) (A : Option Addr) (c : Nat) (h : A = Option.none → c = 0) : Has w A 0 c [] := ⟨rfl, Nat.zero_le _, h, fun h => absurd h (by omega)⟩
theorem Has.zero {w : World} {A : Option Addr} {n c : Nat} {xs : List Value} (h : Has w A n c xs) (hn : n = 0) : xs = [] :=
  List.eq_nil_of_length_eq_zero (by have := h.len; omega)
theorem Has.kept {w w' : World} {A : Option Addr} {n c : Nat} {xs : List Value} (h : Has w A n c xs) (hb : Below w.heap.size w w') : Has w' A n c xs :=
  ⟨h.len, h.cap, h.bare, fun hn => by
    obtain ⟨b, off, hA, hlt, hc⟩ := h.spot hn
    exact ⟨b, off, hA, Nat.lt_of_lt_of_le hlt hb.size, fun j u hu => (hb.cell (p := ⟨b, off + j, Option.none⟩) hlt).trans (hc j u hu)⟩⟩
theorem Has.drew {w : World} {A : Option Addr} {n c : Nat} {xs : List Value} (h : Has w A n c xs) : Has w.drew A n c xs := h.kept (Below.refl _ _).drew
theorem Has.alloc {w : World} {A : Option Addr} {n c : Nat} {xs : List Value} (h : Has w A n c xs) (o : Obj) : Has (w.alloc o) A n c xs := h.kept ((Below.refl _ _).alloc (Nat.le_refl _) o)
/-- A part of it, from k on up to m. -/
theorem Has.part {w : World} {A : Option Addr} {n c : Nat} {xs : List Value} (h : Has w A n c xs) {k m : Nat} (hkm : k ≤ m) (hm : m ≤ n) :
    Has w (if c = k then A else A.map (·.add k)) (m - k) (c - k) ((xs.drop k).take (m - k)) := by
  refine ⟨by rw [List.length_take, List.length_drop, h.len]; omega, by have := h.cap; omega, fun hA => ?_, fun hn => ?_⟩
  · have hA' : A = Option.none := by
      cases A with
      | none => rfl
      | some a => split at hA <;> cases hA
    have := h.bare hA'; omega
  obtain ⟨b, off, rfl, hlt, hc⟩ := h.spot (by omega)
  rw [if_neg (by have := h.cap; omega)]
  refine ⟨b, off + k, ?_, hlt, fun j u hu => ?_⟩
  · simp only [Option.map_some, Addr.add]
    by_cases hk : k = 0
    · subst hk; simp
    · simp [hk]
  · rw [List.getElem?_take] at hu
    split at hu
    · rw [List.getElem?_drop] at hu
      rw [Nat.add_assoc]
      exact hc _ u hu
    · cases hu
/-- The first m of it. -/
theorem Has.head {w : World} {A : Option Addr} {n c : Nat} {xs : List Value} (h : Has w A n c xs) {m : Nat} (hm : m ≤ n) : Has w A m c (xs.take m) := by
  refine ⟨by rw [List.length_take, h.len]; omega, by have := h.cap; omega, h.bare, fun h0 => ?_⟩
  obtain ⟨b, off, hA, hlt, hc⟩ := h.spot (by omega)
  refine ⟨b, off, hA, hlt, fun j u hu => hc j u ?_⟩
  rw [List.getElem?_take] at hu
  split at hu
  · exact hu
  · cases hu
theorem Has.row {w : World} {base : Nat} {e : TypeId} {v : Value} {n : Nat} {xs : List Value} (h : w.ownsRow base e 1 v n xs) : ∃ A c, v = .slice A n c ∧ Has w A n c xs := by
  have h0 := h
  obtain ⟨hl, hcase⟩ := h
  rcases hcase with ⟨rfl, rfl⟩ | ⟨g, cap, cur, rfl, hg, hh, hn, hcap, hsz, htake⟩
  · exact ⟨Option.none, 0, rfl, by have hx := List.eq_nil_of_length_eq_zero (show xs.length = 0 by omega); subst hx; exact Has.none _ _ _ fun _ => rfl⟩
  · refine ⟨_, _, rfl, by omega, hn, (fun h => by cases h), fun _ => ⟨g, 0, rfl, ?_, fun j u hu => ?_⟩⟩
    · rcases Nat.lt_or_ge g w.heap.size with hlt | hge
      · exact hlt
      · rw [Array.getElem?_eq_none hge] at hh; cases hh
    · have := h0.cells (g := g) rfl j u hu
      rw [Nat.zero_add]
      have e : (⟨g, 0, Option.none⟩ : Addr).add j = ⟨g, j, Option.none⟩ := by
        unfold Addr.add
        by_cases hj : j = 0
        · subst hj; simp
        · simp [hj]
      rw [← e]; exact this
/-- Of a new block. -/
theorem Has.new (w : World) (cs : Array Value) (e : TypeId) : Has (w.alloc (.cells cs e)) (some ⟨w.heap.size, 0, Option.none⟩) cs.size cs.size cs.toList := by
  refine ⟨by simp, Nat.le_refl _, (fun h => by cases h), fun _ => ⟨w.heap.size, 0, rfl, by simp, fun j v hv => ?_⟩⟩
  rw [World.cell?_alloc_at _ _ _ _ rfl]
  simpa using hv
theorem Has.new_at (w : World) (cs : Array Value) (e : TypeId) (g : Nat) (hg : g = w.heap.size) : Has (w.alloc (.cells cs e)) (some ⟨g, 0, Option.none⟩) cs.size cs.size cs.toList := by
  subst hg; exact Has.new w cs e
/-- Of one new block. -/
theorem Has.one (w : World) (u : Value) (e : TypeId) : Has (w.alloc (.cells #[u] e)) (some ⟨w.heap.size, 0, Option.none⟩) 1 1 [u] := by
  refine ⟨rfl, Nat.le_refl _, (fun h => by cases h), fun _ => ⟨w.heap.size, 0, rfl, by simp, fun j v hv => ?_⟩⟩
  match j, hv with
  | 0, hv =>
    simp at hv; subst hv
    rw [World.cell?_alloc_at _ _ _ _ rfl]; rfl

/-- Slices of one cell an element: type t, of elements e, so many bytes each. -/
structure Elem (P : Program) (t e : TypeId) (bytes : Nat) : Prop where
  under : P.underlying t = some (.slice e)
  info : ∃ i z, P.info? e = some i ∧ i.zero = some z ∧ i.size = 1 ∧ i.bytes = bytes ∧ z.cells.size = 1

/-- The slice value v is the call's own (in a block from base on) and holds xs. -/
def Own (w : World) (base : Nat) (e : TypeId) (v : Value) (xs : List Value) : Prop := w.ownsRow base e 1 v xs.length xs
theorem Own.nil (w : World) (base : Nat) (e : TypeId) : Own w base e (.slice Option.none 0 0) [] := World.ownsRow_nil _ _ _ _
theorem Own.has {w : World} {base : Nat} {e : TypeId} {v : Value} {xs : List Value} (h : Own w base e v xs) : ∃ A c, v = .slice A xs.length c ∧ Has w A xs.length c xs := Has.row h
theorem Own.keep {w w' : World} {base : Nat} {e : TypeId} {v : Value} {xs : List Value} (h : Own w base e v xs) (hb : Below w.heap.size w w') : Own w' base e v xs :=
  World.ownsRow.kept (row := Option.none) h ⟨hb.os, hb.tape, hb.output, hb.size, fun k hk _ => hb.block k hk⟩ (by
    cases v with
    | slice a _ _ => cases a <;> simp [Value.ownBlock]
    | _ => simp [Value.ownBlock])
theorem Own.alloc {w : World} {base : Nat} {e : TypeId} {v : Value} {xs : List Value} (h : Own w base e v xs) (o : Obj) : Own (w.alloc o) base e v xs := World.ownsRow.alloc h o
theorem Own.less {w : World} {base base' : Nat} {e : TypeId} {v : Value} {xs : List Value} (h : Own w base e v xs) (hb : base' ≤ base) : Own w base' e v xs := by
  refine ⟨h.1, ?_⟩
  rcases h.2 with h | ⟨g, cap, cur, h1, h2, h3⟩
  · exact Or.inl h
  · exact Or.inr ⟨g, cap, cur, h1, by omega, h3⟩
theorem below_grown {w w' : World} {base : Nat} {e : TypeId} {v : Value} {xs : List Value} (h : Own w base e v xs) (hg : w.grownBy w' v.ownBlock) (hb : base ≤ w.heap.size) : Below base w w' :=
  (Below.refl _ _).grown hg hb (fun k hk => (World.ownsRow.lt h k hk).1)

/-- append(own, other...): whatever holds the other cells. -/
theorem wpList_join {P : Program} {w : World} {ops : Array Oper} {rest : List Oper} {o : Oper} {a : Act} {Q : Exit → Act → World → Prop} (hgd : o.guard = Option.none) (s x : Operand) (t : TypeId)
    (ho : o.op = .call { callee := .builtin .append, args := #[s, x], argTypes := #[t, t] }) {e : TypeId} {bytes : Nat} (E : Elem P t e bytes)
    (base : Nat) (v : Value) (xs : List Value) (hs : a.eval s = v) (hown : Own w base e v xs) (A : Option Addr) (m c : Nat) (news : List Value) (hx : a.eval x = .slice A m c) (hh : Has w A m c news)
    (h1 : ∀ u ∈ news, u.oneCell' = true) (hsz : xs.length + m ≤ 1099511627776) (hby : bytes ≤ 64) (hbase : base ≤ w.heap.size)
    (h : ∀ v' w', Own w' base e v' (xs ++ news) → Below base w w' → wpList P ops Q rest (a.put o.dst v') w') : wpList P ops Q (o :: rest) a w := by
  obtain ⟨i, z, hi, hz, hsize, hbytes, hzs⟩ := E.info
  have hl := hh.len
  have hmul : (xs.length + m) * bytes ≤ 1099511627776 * 64 := Nat.mul_le_mul hsz hby
  cases A with
  | none =>
    have hm : m = 0 := by
      rcases Nat.eq_zero_or_pos m with h0 | h0
      · exact h0
      · obtain ⟨b, off, hA, _⟩ := hh.spot h0; cases hA
    have hn : news = [] := List.eq_nil_of_length_eq_zero (by omega)
    have hc := hh.bare rfl
    subst hm hn hc
    refine wpList_append_own_none hgd s x t ho base e i 1 E.under hi v xs.length xs hs hown hx ?_
    exact h v w (by rw [List.append_nil]; exact hown) (Below.refl _ _)
  | some ad =>
    refine wpList_append_own w hgd s x t ho base e i z 1 bytes E.under hi hz hsize hbytes hzs (by decide) v xs.length xs hs hown ad m c news hx (by omega) (fun j u hu => ?_) h1 (by unfold maxLen; omega) (by omega) hbase ?_
    · have hj : j < news.length := by
        rcases Nat.lt_or_ge j news.length with hj | hj
        · exact hj
        · rw [List.getElem?_eq_none hj] at hu; cases hu
      obtain ⟨b, off, hA, _, hc⟩ := hh.spot (by omega)
      cases hA
      have e : (⟨b, off, Option.none⟩ : Addr).add j = ⟨b, off + j, Option.none⟩ := by
        unfold Addr.add
        by_cases hj : j = 0
        · subst hj; simp
        · simp [hj]
      rw [e]; exact hc j u hu
    · intro v' w' ho' hg' _
      refine h v' w' ?_ (below_grown hown hg' hbase)
      unfold Own
      rw [List.length_append, hl]
      exact ho'
/-- make([]T, n): noughts of the call's own. -/
theorem wpList_made {P : Program} {w : World} {ops : Array Oper} {rest : List Oper} {o : Oper} {a : Act} {Q : Exit → Act → World → Prop} (hgd : o.guard = Option.none) (l c : Operand) (t : TypeId)
    (hop : o.op = Op.makeSlice t l c) {e : TypeId} {bytes : Nat} (E : Elem P t e bytes) (z : Value) (hz : (P.info? e).bind (·.zero) = some z) (hz1 : z.cells = #[z])
    (base : Nat) (kl kc : IntKind) (L C : Int) (n : Nat) (hl : a.eval l = .int kl L) (hc : a.eval c = .int kc C) (hL : L = (n : Int)) (hC : C = (n : Int)) (hn : n ≤ 1099511627776) (hby : bytes ≤ 64) (hbase : base ≤ w.heap.size)
    (hK : ∀ w', Own w' base e (.slice (some ⟨w.heap.size, 0, Option.none⟩) n n) (List.replicate n z) → Below base w w' → wpList P ops Q rest (a.put o.dst (.slice (some ⟨w.heap.size, 0, Option.none⟩) n n)) w') :
    wpList P ops Q (o :: rest) a w := by
  obtain ⟨i, z', hi, hz', hsize, hbytes, hzs⟩ := E.info
  have hzz : z' = z := by rw [hi] at hz; simp [hz'] at hz; exact hz
  subst hzz
  have hmul : bytes * n ≤ 64 * 1099511627776 := Nat.mul_le_mul hby hn
  refine wpList_make_full w hgd l c t hop base e i z' 1 E.under hi hz' hsize kl kc L C n hl hc hL hC (by rw [hbytes]; omega) (by unfold maxLen; omega) hbase ?_
  intro w' h1 h2
  refine hK w' ?_ ((Below.refl _ _).grown h2 hbase (fun k hk => by cases hk))
  have e : (madeCells z'.cells (n * 1)).toList = List.replicate n z' := by
    rw [hz1, Nat.mul_one]
    simp only [madeCells]
    apply List.ext_getElem
    · simp
    · intro j h1 h2; simp [Nat.mod_one]
  rw [e] at h1
  unfold Own
  rw [List.length_replicate]
  exact h1
/-- A store into it. -/
theorem Own.stored {w : World} {base g cap : Nat} {e : TypeId} {n : Nat} {xs : List Value} (h : Own w base e (.slice (some ⟨g, 0, Option.none⟩) n cap) xs) (hn : xs.length = n) (j : Nat) (u : Value) :
    Own (w.setCell ⟨g, j, Option.none⟩ u) base e (.slice (some ⟨g, 0, Option.none⟩) n cap) (xs.set j u) ∧ Below base w (w.setCell ⟨g, j, Option.none⟩ u) := by
  unfold Own at *
  rw [hn] at h
  have h2 := World.ownsRow.stored h j u
  refine ⟨by rw [List.length_set, hn]; exact h2.1, (Below.refl _ _).setCell (World.ownsRow.lt h g rfl).1 u⟩
theorem Own.cellAt {w : World} {base g cap : Nat} {e : TypeId} {n : Nat} {xs : List Value} (h : Own w base e (.slice (some ⟨g, 0, Option.none⟩) n cap) xs) (hn : xs.length = n) (j : Nat) (hj : j < n) :
    w.cell? ⟨g, j, Option.none⟩ = xs[j]? ∧ w.frozen? ⟨g, j, Option.none⟩ = false := by
  unfold Own at h
  rw [hn] at h
  exact ⟨World.ownsRow.cellAt h j (by omega), World.ownsRow.frozenAt h j⟩
theorem Own.form {w : World} {base : Nat} {e : TypeId} {v : Value} {xs : List Value} (h : Own w base e v xs) (hn : 0 < xs.length) : ∃ g cap, v = .slice (some ⟨g, 0, Option.none⟩) xs.length cap ∧ base ≤ g ∧ g < w.heap.size := by
  have h0 := h
  rcases h.2 with ⟨_, h2⟩ | ⟨g, cap, cur, rfl, hg, _⟩
  · omega
  · exact ⟨g, cap, rfl, hg, (World.ownsRow.lt h0 g rfl).2⟩
/-- A slice literal is the call's own. -/
theorem Own.fresh (w : World) (base : Nat) (cs : Array Value) (e : TypeId) (hb : base ≤ w.heap.size) (hm : cs.size ≤ 1000000) : Own (w.alloc (.cells cs e)) base e (.slice (some ⟨w.heap.size, 0, Option.none⟩) cs.size cs.size) cs.toList := by
  refine ⟨by simp, Or.inr ⟨w.heap.size, cs.size, cs, by simp, hb, heap_alloc_new w _, by simp, by unfold maxLen; omega, by simp, by rw [List.take_of_length_le (by simp)]⟩⟩
theorem u8s_one (l : List Nat) : ∀ u ∈ u8s l, u.oneCell' = true := by
  intro u hu
  obtain ⟨x, _, rfl⟩ := List.mem_map.1 hu
  rfl
theorem u64s_one (l : List Nat) : ∀ u ∈ u64s l, u.oneCell' = true := by
  intro u hu
  obtain ⟨x, _, rfl⟩ := List.mem_map.1 hu
  rfl
/-- A call's answer: a new slice that holds the bytes. -/
def Wrote (w : World) (bs : List Nat) (e : Ending) (w' : World) : Prop :=
  ∃ A c, e = .returned (.slice A bs.length c) ∧ Has w' A bs.length c (u8s bs) ∧ Own w' w.heap.size 5 (.slice A bs.length c) (u8s bs) ∧ Below w.heap.size w w'
theorem Wrote.of {w w' : World} {bs : List Nat} {v : Value} (ho : Own w' w.heap.size 5 v (u8s bs)) (hb : Below w.heap.size w w') : Wrote w bs (.returned v) w' := by
  obtain ⟨A, c, rfl, hh⟩ := ho.has
  rw [u8s_len] at hh ho
  exact ⟨A, c, by rw [u8s_len], hh, ho, hb⟩
end Go.Proofs.YthjmojglcfmkmaaDoor

/- lapidaryref00.Same: the same bytes? The world stays as it is. -/
namespace Go.Proofs.YthjmojglcfmkmaaDoor
open Go.RowKit

/-- Bytes as a string's letters. -/
def strOf (l : List Nat) : ByteArray := strOfNums (l.map fun (x : Nat) => (x : Int))

theorem conv_any {P : Program} (w : World) (src e dst : TypeId) (hs : P.underlying src = some (.slice e)) (he : P.underlying e = some (.int .u8)) (hd : P.underlying dst = some .string)
    (A : Option Addr) (n c : Nat) (l : List Nat) (h : Has w A n c (u8s l)) : (convert src dst (.slice A n c)).run P w = .ok (.string (strOf l)) w := by
  have hlen : l.length = n := by have := h.len; rw [u8s_len] at this; exact this
  by_cases hn : n = 0
  · have hl := List.eq_nil_of_length_eq_zero (show l.length = 0 by omega)
    subst hl; subst hn
    cases A with
    | none =>
      rw [run_convert_bytes_nil w src e hs he 0 c dst hd]
      rfl
    | some a =>
      rw [run_convert_bytes_string w src dst e _ 0 c hs he hd, run_bytesToString w a 0 c [] (by simpa using run_loadCells_list (P := P) w a [] (fun j v hj => by simp at hj))]
      rfl
  · obtain ⟨b, off, rfl, _, hc⟩ := h.spot (by omega)
    refine run_convert_bytes_arg w src e hs he b off n c _ (by simp [hlen]) (fun i hi => ?_) dst hd
    rw [hc i _ (u8s_at (by omega))]
    simp [show i < l.length by omega]

theorem strOf_list (l : List Nat) : (strOf l).toList = l.map UInt8.ofNat := by
  have h : (strOf l).toList = (strOf l).data.toList := ByteArray.toList_eq _
  rw [h]
  simp [strOf, strOfNums]
theorem strOf_inj {l r : List Nat} (hl : ∀ x ∈ l, x < 256) (hr : ∀ x ∈ r, x < 256) (h : (strOf l).toList = (strOf r).toList) : l = r := by
  rw [strOf_list, strOf_list] at h
  have hm : ∀ {x : List Nat}, (∀ y ∈ x, y < 256) → (x.map UInt8.ofNat).map UInt8.toNat = x := by
    intro x hx
    induction x with
    | nil => rfl
    | cons y x ih =>
      simp only [List.map_cons]
      rw [ih fun z hz => hx z (List.mem_cons_of_mem _ hz), UInt8.toNat_ofNat_of_lt' (by have := hx y (List.mem_cons_self ..); simpa using this)]
  rw [← hm hl, ← hm hr, h]

end Go.Proofs.YthjmojglcfmkmaaDoor

/- Words for memory: slices whose elements take k cells. -/
namespace Go.Proofs.YthjmojglcfmkmaaDoor
open Go.RowKit

/-- The slice (A, n, c), of elements of k cells, holds the cells xs in w. -/
structure HasK (k : Nat) (w : World) (A : Option Addr) (n c : Nat) (xs : List Value) : Prop where
  len : xs.length = n * k
  cap : n ≤ c
  bare : A = Option.none → c = 0
  spot : 0 < n → ∃ b off, A = some ⟨b, off, none⟩ ∧ b < w.heap.size ∧ ∀ j u, xs[j]? = some u → w.cell? ⟨b, off + j, none⟩ = some u
theorem HasK.none (k : Nat) (w : World) (A : Option Addr) (c : Nat) (h : A = Option.none → c = 0) : HasK k w A 0 c [] := ⟨by simp, Nat.zero_le _, h, fun h => absurd h (by omega)⟩
theorem HasK.kept {k : Nat} {w w' : World} {A : Option Addr} {n c : Nat} {xs : List Value} (h : HasK k w A n c xs) (hb : Below w.heap.size w w') : HasK k w' A n c xs :=
  ⟨h.len, h.cap, h.bare, fun hn => by
    obtain ⟨b, off, hA, hlt, hc⟩ := h.spot hn
    exact ⟨b, off, hA, Nat.lt_of_lt_of_le hlt hb.size, fun j u hu => (hb.cell (p := ⟨b, off + j, Option.none⟩) hlt).trans (hc j u hu)⟩⟩
theorem HasK.alloc {k : Nat} {w : World} {A : Option Addr} {n c : Nat} {xs : List Value} (h : HasK k w A n c xs) (o : Obj) : HasK k (w.alloc o) A n c xs := h.kept ((Below.refl _ _).alloc (Nat.le_refl _) o)
theorem HasK.new_at (k : Nat) (w : World) (cs : Array Value) (e : TypeId) (g n : Nat) (hg : g = w.heap.size) (hn : cs.size = n * k) : HasK k (w.alloc (.cells cs e)) (some ⟨g, 0, Option.none⟩) n n cs.toList := by
  subst hg
  refine ⟨by simpa using hn, Nat.le_refl _, (fun h => by cases h), fun _ => ⟨w.heap.size, 0, rfl, by simp, fun j v hv => ?_⟩⟩
  rw [World.cell?_alloc_at _ _ _ _ rfl]
  simpa using hv
theorem HasK.at_ {k : Nat} {w : World} {A : Option Addr} {n c : Nat} {xs : List Value} (h : HasK k w A n c xs) (hn : 0 < n) : ∃ b off, A = some ⟨b, off, Option.none⟩ ∧ b < w.heap.size ∧ ∀ j u, xs[j]? = some u → w.cell? ⟨b, off + j, Option.none⟩ = some u := h.spot hn

/-- Slices of type t, of elements e of k cells and so many bytes. -/
structure ElemK (P : Program) (t e : TypeId) (k bytes : Nat) : Prop where
  under : P.underlying t = some (.slice e)
  info : ∃ i z, P.info? e = some i ∧ i.zero = some z ∧ i.size = k ∧ i.bytes = bytes ∧ z.cells.size = k

/-- The slice value v is the call's own and holds n elements, the cells xs. -/
def OwnK (k : Nat) (w : World) (base : Nat) (e : TypeId) (v : Value) (n : Nat) (xs : List Value) : Prop := w.ownsRow base e k v n xs
theorem OwnK.nil (k : Nat) (w : World) (base : Nat) (e : TypeId) : OwnK k w base e (.slice Option.none 0 0) 0 [] := World.ownsRow_nil _ _ _ _
theorem OwnK.has {k : Nat} {w : World} {base : Nat} {e : TypeId} {v : Value} {n : Nat} {xs : List Value} (h : OwnK k w base e v n xs) : ∃ A c, v = .slice A n c ∧ HasK k w A n c xs := by
  have h0 := h
  obtain ⟨hl, hcase⟩ := h
  rcases hcase with ⟨rfl, rfl⟩ | ⟨g, cap, cur, rfl, hg, hh, hn, hcap, hsz, htake⟩
  · exact ⟨Option.none, 0, rfl, by have hx := List.eq_nil_of_length_eq_zero (show xs.length = 0 by omega); subst hx; exact HasK.none _ _ _ _ fun _ => rfl⟩
  · refine ⟨_, _, rfl, hl, hn, (fun h => by cases h), fun _ => ⟨g, 0, rfl, ?_, fun j u hu => ?_⟩⟩
    · rcases Nat.lt_or_ge g w.heap.size with hlt | hge
      · exact hlt
      · rw [Array.getElem?_eq_none hge] at hh; cases hh
    · have := World.ownsRow.cells h0 (g := g) rfl j u hu
      rw [Nat.zero_add]
      have e : (⟨g, 0, Option.none⟩ : Addr).add j = ⟨g, j, Option.none⟩ := by
        unfold Addr.add
        by_cases hj : j = 0
        · subst hj; simp
        · simp [hj]
      rw [← e]; exact this
theorem OwnK.keep {k : Nat} {w w' : World} {base : Nat} {e : TypeId} {v : Value} {n : Nat} {xs : List Value} (h : OwnK k w base e v n xs) (hb : Below w.heap.size w w') : OwnK k w' base e v n xs :=
  World.ownsRow.kept (row := Option.none) h ⟨hb.os, hb.tape, hb.output, hb.size, fun k hk _ => hb.block k hk⟩ (by
    cases v with
    | slice a _ _ => cases a <;> simp [Value.ownBlock]
    | _ => simp [Value.ownBlock])
theorem OwnK.alloc {k : Nat} {w : World} {base : Nat} {e : TypeId} {v : Value} {n : Nat} {xs : List Value} (h : OwnK k w base e v n xs) (o : Obj) : OwnK k (w.alloc o) base e v n xs := World.ownsRow.alloc h o
theorem OwnK.less {k : Nat} {w : World} {base base' : Nat} {e : TypeId} {v : Value} {n : Nat} {xs : List Value} (h : OwnK k w base e v n xs) (hb : base' ≤ base) : OwnK k w base' e v n xs := by
  refine ⟨h.1, ?_⟩
  rcases h.2 with h | ⟨g, cap, cur, h1, h2, h3⟩
  · exact Or.inl h
  · exact Or.inr ⟨g, cap, cur, h1, by omega, h3⟩
theorem OwnK.drew {k : Nat} {w : World} {base : Nat} {e : TypeId} {v : Value} {n : Nat} {xs : List Value} (h : OwnK k w base e v n xs) : OwnK k w.drew base e v n xs := h

theorem Own.grown {w w' : World} {base : Nat} {e : TypeId} {v : Value} {xs : List Value} {row : Option Nat} (h : Own w base e v xs) (hg : w.grownBy w' row) (hb : ∀ k, row = some k → k < base) : Own w' base e v xs :=
  World.ownsRow.kept (row := row) h hg (by
    rcases h.2 with ⟨rfl, _⟩ | ⟨g', cap, cur, rfl, hg', _⟩
    · left; simp [Value.ownBlock]
    · right
      intro e
      have := hb g' (by rw [← e]; rfl)
      omega)
/-- append(own, other...), of elements of k cells: whatever holds the other cells. -/
theorem wpList_joinK {k : Nat} {P : Program} {w : World} {ops : Array Oper} {rest : List Oper} {o : Oper} {a : Act} {Q : Exit → Act → World → Prop} (hgd : o.guard = Option.none) (s x : Operand) (t : TypeId)
    (ho : o.op = .call { callee := .builtin .append, args := #[s, x], argTypes := #[t, t] }) {e : TypeId} {bytes : Nat} (E : ElemK P t e k bytes) (hk : 0 < k)
    (base : Nat) (v : Value) (n : Nat) (xs : List Value) (hs : a.eval s = v) (hown : OwnK k w base e v n xs) (A : Option Addr) (m c : Nat) (news : List Value) (hx : a.eval x = .slice A m c) (hh : HasK k w A m c news)
    (h1 : ∀ u ∈ news, u.oneCell' = true) (hsz : n + m ≤ 1099511627776) (hby : bytes ≤ 64) (hbase : base ≤ w.heap.size)
    (h : ∀ v' w', OwnK k w' base e v' (n + m) (xs ++ news) → Below base w w' → w.grownBy w' v.ownBlock → wpList P ops Q rest (a.put o.dst v') w') : wpList P ops Q (o :: rest) a w := by
  obtain ⟨i, z, hi, hz, hsize, hbytes, hzs⟩ := E.info
  have hl := hh.len
  have hmul : (n + m) * bytes ≤ 1099511627776 * 64 := Nat.mul_le_mul hsz hby
  cases A with
  | none =>
    have hm : m = 0 := by
      rcases Nat.eq_zero_or_pos m with h0 | h0
      · exact h0
      · obtain ⟨b, off, hA, _⟩ := hh.spot h0; cases hA
    subst hm
    have hn : news = [] := List.eq_nil_of_length_eq_zero (by omega)
    have hc := hh.bare rfl
    subst hn hc
    refine wpList_append_own_none hgd s x t ho base e i k E.under hi v n xs hs hown hx ?_
    exact h v w (by rw [List.append_nil]; exact hown) (Below.refl _ _) (World.grownBy.refl w _)
  | some ad =>
    refine wpList_append_own w hgd s x t ho base e i z k bytes E.under hi hz hsize hbytes hzs hk v n xs hs hown ad m c news hx hl (fun j u hu => ?_) h1 (by unfold maxLen; omega) (by omega) hbase ?_
    · have hj : j < news.length := by
        rcases Nat.lt_or_ge j news.length with hj | hj
        · exact hj
        · rw [List.getElem?_eq_none hj] at hu; cases hu
      obtain ⟨b, off, hA, _, hc⟩ := hh.spot (by
        rcases Nat.eq_zero_or_pos m with h0 | h0
        · subst h0; omega
        · exact h0)
      cases hA
      have e : (⟨b, off, Option.none⟩ : Addr).add j = ⟨b, off + j, Option.none⟩ := by
        unfold Addr.add
        by_cases hj : j = 0
        · subst hj; simp
        · simp [hj]
      rw [e]; exact hc j u hu
    · intro v' w' ho' hg' _
      exact h v' w' ho' ((Below.refl _ _).grown hg' hbase (fun k hk => (World.ownsRow.lt hown k hk).1)) hg'
/-- The run itself; and as a step of a region that draws its order. -/
theorem run_joinK {k : Nat} {P : Program} (w : World) (t ty : TypeId) {e : TypeId} {bytes : Nat} (E : ElemK P t e k bytes) (hk : 0 < k)
    (base : Nat) (v : Value) (n : Nat) (xs : List Value) (hown : OwnK k w base e v n xs) (A : Option Addr) (m c : Nat) (news : List Value) (hh : HasK k w A m c news)
    (h1 : ∀ u ∈ news, u.oneCell' = true) (hsz : n + m ≤ 1099511627776) (hby : bytes ≤ 64) (hbase : base ≤ w.heap.size) :
    ∃ v' w', (Builtin.append_ #[t, t] ty #[v, .slice A m c]).run P w = .ok v' w' ∧ OwnK k w' base e v' (n + m) (xs ++ news) ∧ Below base w w' ∧ w.grownBy w' v.ownBlock := by
  obtain ⟨i, z, hi, hz, hsize, hbytes, hzs⟩ := E.info
  have hl := hh.len
  have hmul : (n + m) * bytes ≤ 1099511627776 * 64 := Nat.mul_le_mul hsz hby
  cases A with
  | none =>
    have hm : m = 0 := by
      rcases Nat.eq_zero_or_pos m with h0 | h0
      · exact h0
      · obtain ⟨b, off, hA, _⟩ := hh.spot h0; cases hA
    subst hm
    have hn : news = [] := List.eq_nil_of_length_eq_zero (by omega)
    have hc := hh.bare rfl
    subst hn hc
    exact ⟨v, w, run_append_owned_none (P := P) (w := w) base t ty e i k E.under hi v n xs hown, by rw [List.append_nil]; exact hown, Below.refl _ _, World.grownBy.refl w _⟩
  | some ad =>
    obtain ⟨v', w', h2, h3, h4, _⟩ := run_append_own (P := P) w base t ty e i z k bytes E.under hi hz hsize hbytes hzs hk v n xs hown ad m c news hl (fun j u hu => by
      have hj : j < news.length := by
        rcases Nat.lt_or_ge j news.length with hj | hj
        · exact hj
        · rw [List.getElem?_eq_none hj] at hu; cases hu
      obtain ⟨b, off, hA, _, hc⟩ := hh.spot (by
        rcases Nat.eq_zero_or_pos m with h0 | h0
        · subst h0; omega
        · exact h0)
      cases hA
      have e : (⟨b, off, Option.none⟩ : Addr).add j = ⟨b, off + j, Option.none⟩ := by
        unfold Addr.add
        by_cases hj : j = 0
        · subst hj; simp
        · simp [hj]
      rw [e]; exact hc j u hu) h1 (by unfold maxLen; omega) (by omega) hbase
    exact ⟨v', w', h2, h3, (Below.refl _ _).grown h4 hbase (fun k hk => (World.ownsRow.lt hown k hk).1), h4⟩
theorem step_joinK {k : Nat} {P : Program} {w : World} {ops : Array Oper} {o : Oper} {a : Act} {K : Act → World → Prop} {Q : Exit → Act → World → Prop} {E' : Prop} (hgd : o.guard = Option.none) (s x : Operand) (t : TypeId)
    (ho : o.op = .call { callee := .builtin .append, args := #[s, x], argTypes := #[t, t] }) {e : TypeId} {bytes : Nat} (E : ElemK P t e k bytes) (hk : 0 < k)
    (base : Nat) (v : Value) (n : Nat) (xs : List Value) (hs : a.eval s = v) (hown : OwnK k w base e v n xs) (A : Option Addr) (m c : Nat) (news : List Value) (hx : a.eval x = .slice A m c) (hh : HasK k w A m c news)
    (h1 : ∀ u ∈ news, u.oneCell' = true) (hsz : n + m ≤ 1099511627776) (hby : bytes ≤ 64) (hbase : base ≤ w.heap.size)
    (h : ∀ v' w', OwnK k w' base e v' (n + m) (xs ++ news) → Below base w w' → w.grownBy w' v.ownBlock → K (a.put o.dst v') w') : if Region.wanted o (yielded ops a.tmps) = true then Oper.wp P o a w K Q else E' := by
  have hw : Region.wanted o (yielded ops a.tmps) = true := by simp [Region.wanted, hgd]
  rw [if_pos hw]
  obtain ⟨v', w', hrun, h2, h3, h4⟩ := run_joinK w t o.type E hk base v n xs hown A m c news hh h1 hsz hby hbase
  unfold Oper.wp execOp
  simp only [ho, resolve, invoke, builtin, Sem.run_bind, Sem.run_pure, Result.andThen_ok, List.map_toArray, List.map_cons, List.map_nil, hs, hx, hrun]
  exact h v' w' h2 h3 h4
end Go.Proofs.YthjmojglcfmkmaaDoor

/- Sections in memory: a kind and bytes, two cells each; a slice of them. -/
namespace Go.Proofs.YthjmojglcfmkmaaDoor
open Go.RowKit

abbrev Sec := Int × List Nat
def secCells (vs : List (Int × Value)) : List Value := vs.flatMap fun p => [.int .i64 p.1, p.2]
theorem secCells_len (vs : List (Int × Value)) : (secCells vs).length = vs.length * 2 := by
  induction vs with
  | nil => rfl
  | cons p vs ih => simp only [secCells, List.flatMap_cons, List.length_append, List.length_cons, List.length_nil] at *; omega
theorem secCells_app (vs us : List (Int × Value)) : secCells (vs ++ us) = secCells vs ++ secCells us := by simp [secCells]
theorem secCells_at {vs : List (Int × Value)} {i : Nat} {p : Int × Value} (h : vs[i]? = some p) : (secCells vs)[i * 2]? = some (.int .i64 p.1) ∧ (secCells vs)[i * 2 + 1]? = some p.2 := by
  induction vs generalizing i with
  | nil => simp at h
  | cons q vs ih =>
    have e : secCells (q :: vs) = .int .i64 q.1 :: q.2 :: secCells vs := by simp [secCells]
    cases i with
    | zero => simp at h; subst h; rw [e]; simp
    | succ i =>
      have := ih (i := i) (by simpa using h)
      rw [e, show (i + 1) * 2 = i * 2 + 1 + 1 by omega]
      simpa using this
/-- The values are these sections. -/
def SecVs (w : World) (vs : List (Int × Value)) (l : List Sec) : Prop := vs.length = l.length ∧ ∀ i (h : i < l.length), ∃ A n c, vs[i]? = some (l[i].1, .slice A n c) ∧ Has w A n c (u8s l[i].2)
/-- The slice (A, n, c) holds the sections l. -/
def Secs (w : World) (A : Option Addr) (n c : Nat) (l : List Sec) : Prop := ∃ vs, HasK 2 w A n c (secCells vs) ∧ SecVs w vs l
theorem SecVs.kept {w w' : World} {vs : List (Int × Value)} {l : List Sec} (h : SecVs w vs l) (hb : Below w.heap.size w w') : SecVs w' vs l :=
  ⟨h.1, fun i hi => by obtain ⟨A, n, c, h1, h2⟩ := h.2 i hi; exact ⟨A, n, c, h1, h2.kept hb⟩⟩
theorem SecVs.one {vs : List (Int × Value)} {l : List Sec} {w : World} (h : SecVs w vs l) : ∀ u ∈ secCells vs, u.oneCell' = true := by
  intro u hu
  obtain ⟨p, hp, hu⟩ := List.mem_flatMap.1 hu
  obtain ⟨i, hi, rfl⟩ := List.getElem_of_mem hp
  obtain ⟨A, n, c, h1, _⟩ := h.2 i (by rw [← h.1]; exact hi)
  rw [List.getElem?_eq_getElem hi] at h1
  simp only [Option.some.injEq] at h1
  rw [h1] at hu
  simp at hu
  rcases hu with rfl | rfl <;> rfl
theorem SecVs.app {w : World} {vs us : List (Int × Value)} {l r : List Sec} (h : SecVs w vs l) (h2 : SecVs w us r) : SecVs w (vs ++ us) (l ++ r) := by
  refine ⟨by rw [List.length_append, List.length_append, h.1, h2.1], fun i hi => ?_⟩
  by_cases hl : i < l.length
  · obtain ⟨A, n, c, e1, e2⟩ := h.2 i hl
    refine ⟨A, n, c, ?_, ?_⟩
    · rw [List.getElem?_append_left (by rw [h.1]; exact hl), e1, List.getElem_append_left hl]
    · rw [List.getElem_append_left hl]; exact e2
  · obtain ⟨A, n, c, e1, e2⟩ := h2.2 (i - l.length) (by rw [List.length_append] at hi; omega)
    refine ⟨A, n, c, ?_, ?_⟩
    · rw [List.getElem?_append_right (by rw [h.1]; omega), h.1, e1, List.getElem_append_right (by omega)]
    · rw [List.getElem_append_right (by omega)]; exact e2
theorem SecVs.single {w : World} {A : Option Addr} {n c : Nat} {k : Int} {bs : List Nat} (h : Has w A n c (u8s bs)) : SecVs w [(k, .slice A n c)] [(k, bs)] :=
  ⟨rfl, fun i hi => match i, hi with | 0, _ => ⟨A, n, c, rfl, h⟩⟩
theorem Secs.kept {w w' : World} {A : Option Addr} {n c : Nat} {l : List Sec} (h : Secs w A n c l) (hb : Below w.heap.size w w') : Secs w' A n c l := by
  obtain ⟨vs, h1, h2⟩ := h
  exact ⟨vs, h1.kept hb, h2.kept hb⟩
theorem Secs.len {w : World} {A : Option Addr} {n c : Nat} {l : List Sec} (h : Secs w A n c l) : l.length = n := by
  obtain ⟨vs, h1, h2⟩ := h
  have := h1.len
  rw [secCells_len] at this
  rw [← h2.1]; omega
theorem Secs.none (w : World) : Secs w Option.none 0 0 [] := ⟨[], HasK.none _ _ _ _ fun _ => rfl, rfl, fun i hi => absurd hi (by simp)⟩
theorem Secs.at_ {w : World} {A : Option Addr} {n c : Nat} {l : List Sec} (h : Secs w A n c l) {i : Nat} (hi : i < l.length) :
    ∃ b off A' n' c', A = some ⟨b, off, Option.none⟩ ∧ b < w.heap.size ∧ l[i].2.length = n' ∧ ∀ W, Below w.heap.size w W → W.cell? ⟨b, off + i * 2, Option.none⟩ = some (.int .i64 l[i].1) ∧ W.cell? ⟨b, off + i * 2 + 1, Option.none⟩ = some (.slice A' n' c') ∧ Has W A' n' c' (u8s l[i].2) := by
  have hl := h.len
  obtain ⟨vs, h1, h2⟩ := h
  obtain ⟨b, off, hA, hlt, hc⟩ := h1.spot (by omega)
  obtain ⟨A', n', c', h3, h4⟩ := h2.2 i hi
  obtain ⟨e1, e2⟩ := secCells_at h3
  have hl4 := h4.len
  rw [u8s_len] at hl4
  refine ⟨b, off, A', n', c', hA, hlt, hl4, fun W hW => ⟨?_, ?_, h4.kept hW⟩⟩
  · exact (hW.cell (p := ⟨b, off + i * 2, Option.none⟩) hlt).trans (hc _ _ e1)
  · have := (hW.cell (p := ⟨b, off + (i * 2 + 1), Option.none⟩) hlt).trans (hc _ _ e2)
    rw [← Nat.add_assoc] at this
    exact this

end Go.Proofs.YthjmojglcfmkmaaDoor

/- Layer 1 in plain numbers and lists: what the bytes of a number are, what bytes are read as. -/
namespace Go.Proofs.YthjmojglcfmkmaaDoor
open Go.RowKit

/-- Reading a number: i bytes are behind, acc is what they gave. (the number, how many bytes, the error) -/
def scan (i acc : Nat) : List Nat → Nat × Nat × Nat
  | [] => (0, 0, 10)
  | c :: cs =>
    if i = 9 ∧ 1 < c then (0, 0, 11)
    else if 0 < i ∧ c = 0 then (0, 0, 11)
    else if c < 128 then (acc + c * 128 ^ i, i + 1, 0)
    else scan (i + 1) (acc + c % 128 * 128 ^ i) cs
/-- Get, from a place within on. -/
def getAt (bs : List Nat) (k : Nat) : Nat × Nat × Nat :=
  let r := scan 0 0 (bs.drop k)
  if r.2.2 = 0 then (r.1, k + r.2.1, 0) else r
/-- Get. -/
def get (bs : List Nat) (p : Int) : Nat × Nat × Nat := if p < 0 ∨ (bs.length : Int) < p then (0, 0, 2) else getAt bs p.toNat

theorem u8_low7 {c : Int} (h0 : 0 ≤ c) (h1 : c ≤ 255) : bits .andNot .u8 c 128 = c % 128 := by
  obtain ⟨a, rfl⟩ := Int.eq_ofNat_of_zero_le h0
  have h := u8_andNot_nat a 128 (by omega) (by omega)
  have e : ((128 : Nat) : Int) = 128 := rfl
  rw [e] at h
  rw [h]
  have : (255 - 128 : Nat) = 127 := rfl
  rw [this, nat_mask7]
  omega

theorem ret3 {k1 k2 k3 : IntKind} {a b c a' b' c' : Int} (h1 : a = a') (h2 : b = b') (h3 : c = c') :
    Ending.returned (.tuple #[.int k1 a, .int k2 b, .int k3 c]) = .returned (.tuple #[.int k1 a', .int k2 b', .int k3 c']) := by rw [h1, h2, h3]
theorem pow7 (i : Nat) : 2 ^ (7 * i) = 128 ^ i := by rw [Nat.pow_mul]
/-- The next seven bits lie above those that are there: joined they are a sum. -/
theorem or_up {i acc y : Nat} (h : acc < 128 ^ i) (hy : acc + y * 128 ^ i < 18446744073709551616) :
    bits .or .u64 (acc : Int) (IntKind.u64.wrap ((y : Int) * 2 ^ (7 * i))) = ((acc + y * 128 ^ i : Nat) : Int) := by
  have e : (y : Int) * 2 ^ (7 * i) = ((y * 128 ^ i : Nat) : Int) := by rw [← pow7]; simp
  have p : ((2 : Int) ^ (7 * i)) = ((128 ^ i : Nat) : Int) := by rw [← pow7]; simp
  rw [e, wraps_u64 _ (by omega) (by omega)]
  rw [bits_join_low .u64 64 (by decide) wraps_u64 (7 * i) (acc : Int) ((y * 128 ^ i : Nat) : Int) (by omega) (by rw [p]; omega) (by omega) (by omega) (by rw [p, ← Int.natCast_emod, Nat.mul_mod_left]; rfl) (by omega)]
  omega
theorem pow128_le {i : Nat} (h : i ≤ 8) : 128 ^ (i + 1) ≤ 9223372036854775808 := by
  have := Nat.pow_le_pow_right (n := 128) (by decide) (show i + 1 ≤ 9 by omega)
  have e : 128 ^ 9 = 9223372036854775808 := by decide
  omega
/-- Seven bits more, ahead of the tenth byte. -/
theorem acc_up {i acc x : Nat} (h : acc < 128 ^ i) : acc + x % 128 * 128 ^ i < 128 ^ (i + 1) := by
  have h2 : x % 128 * 128 ^ i ≤ 127 * 128 ^ i := Nat.mul_le_mul_right _ (by omega)
  rw [Nat.pow_succ]
  omega
theorem or_next {i acc x : Nat} (hi : i ≤ 8) (h : acc < 128 ^ i) :
    bits .or .u64 (acc : Int) (IntKind.u64.wrap ((x : Int) % 128 * 2 ^ (7 * i))) = ((acc + x % 128 * 128 ^ i : Nat) : Int) := by
  have e : ((x : Int) % 128) = ((x % 128 : Nat) : Int) := by omega
  have := acc_up (x := x) h
  have := pow128_le hi
  rw [e, or_up h (by omega)]
theorem or_last {acc x : Nat} (h : acc < 128 ^ 9) (hx : x ≤ 1) :
    bits .or .u64 (acc : Int) ((x : Int) % 128 * 9223372036854775808) = ((acc + x * 128 ^ 9 : Nat) : Int) := by
  have e : ((x : Int) % 128) = (x : Int) := by omega
  have e2 : (9223372036854775808 : Int) = 2 ^ (7 * 9) := by decide
  have e3 : 128 ^ 9 = 9223372036854775808 := by decide
  have := or_up (y := x) h (by rw [e3] at h ⊢; omega)
  rw [← e2, wraps_u64 _ (by omega) (by omega)] at this
  rw [e, this]
theorem getAt_err {bs : List Nat} {k e : Nat} (h : scan 0 0 (bs.drop k) = (0, 0, e)) (he : e ≠ 0) : getAt bs k = (0, 0, e) := by
  simp [getAt, h, he]
theorem getAt_ok {bs : List Nat} {k v s : Nat} (h : scan 0 0 (bs.drop k) = (v, s, 0)) : getAt bs k = (v, k + s, 0) := by
  simp [getAt, h]
/-- The bytes of a number. -/
def putN (n : Nat) : List Nat := (Lib.uvarint n).map UInt8.toNat
theorem putN_small {n : Nat} (h : n < 128) : putN n = [n] := by
  unfold putN
  rw [Lib.uvarint_small h]
  simp; omega
theorem putN_big {n : Nat} (h : 128 ≤ n) : putN n = (n % 128 + 128) :: putN (n / 128) := by
  unfold putN
  rw [Lib.uvarint_big h]
  simp; omega
theorem putN_len {n : Nat} (h : n < 18446744073709551616) : (putN n).length ≤ 10 := by
  unfold putN; rw [List.length_map]; exact Lib.uvarint_length64 h
theorem putN_pos (n : Nat) : 1 ≤ (putN n).length := by
  unfold putN; rw [List.length_map]; exact Lib.uvarint_pos n
theorem putN_byte (n : Nat) : ∀ x ∈ putN n, x < 256 := by
  unfold putN
  intro x hx
  obtain ⟨u, _, rfl⟩ := List.mem_map.1 hx
  exact u.toNat_lt
/-- Of several numbers. -/
def putAll (l : List Nat) : List Nat := l.flatMap putN
theorem putAll_nil : putAll [] = [] := rfl
theorem putAll_one (n : Nat) : putAll [n] = putN n := by simp [putAll]
theorem putAll_take {l : List Nat} {k : Nat} (h : k < l.length) : putAll (l.take (k + 1)) = putAll (l.take k) ++ putN l[k] := by
  unfold putAll
  rw [List.take_succ_eq_append_getElem h, List.flatMap_append]
  simp
theorem putAll_len {l : List Nat} (h : ∀ x ∈ l, x < 18446744073709551616) : (putAll l).length ≤ 10 * l.length := by
  induction l with
  | nil => simp [putAll]
  | cons x l ih =>
    have h1 := putN_len (h x (List.mem_cons_self ..))
    have h2 := ih fun y hy => h y (List.mem_cons_of_mem _ hy)
    have : putAll (x :: l) = putN x ++ putAll l := by simp [putAll]
    rw [this, List.length_append, List.length_cons]
    omega
theorem putAll_byte (l : List Nat) : ∀ x ∈ putAll l, x < 256 := by
  intro x hx
  obtain ⟨n, _, hn⟩ := List.mem_flatMap.1 hx
  exact putN_byte n x hn
theorem byte_more {m : Nat} : bits .or .u8 ((m : Int) % 256) 128 = ((m % 128 + 128 : Nat) : Int) := by
  rw [Lib.u8_or128_any _ (by omega) (by omega)]
  omega
theorem byte_last {m : Nat} (h : m < 128) : IntKind.u8.wrap (m : Int) = (m : Int) := by
  rw [IntKind.wrap_u8]; omega
/-- The i-th byte of a number, and so many of them. -/
def dig (n i : Nat) : Nat := n / 256 ^ i % 256
def fixedN (n width : Nat) : List Nat := (List.range width).map (dig n)
theorem fixedN_len (n width : Nat) : (fixedN n width).length = width := by simp [fixedN]
theorem fixedN_byte (n width : Nat) : ∀ x ∈ fixedN n width, x < 256 := by
  intro x hx
  obtain ⟨i, _, rfl⟩ := List.mem_map.1 hx
  unfold dig; omega
theorem pow8 (i : Nat) : 2 ^ (8 * i) = 256 ^ i := by rw [Nat.pow_mul]
theorem shr8 (n i : Nat) : (n : Int) / 2 ^ (8 * i) = ((n / 256 ^ i : Nat) : Int) := by
  rw [← pow8, Int.natCast_ediv]; simp
theorem shr8_dig (n i : Nat) : (n : Int) / 2 ^ (8 * i) % 256 = ((dig n i : Nat) : Int) := by
  rw [shr8]; unfold dig; omega
/-- What Fixed answers: bytes, and the error. -/
def fixed (n : Nat) (width : Int) : List Nat × Nat := if width < 1 ∨ 8 < width ∨ 256 ^ width.toNat ≤ n then ([], 2) else (fixedN n width.toNat, 0)
theorem fixed_fits {n W : Nat} (h1 : 1 ≤ W) (h2 : W ≤ 8) (h : ¬ 256 ^ W ≤ n) : fixed n W = (fixedN n W, 0) := by
  unfold fixed; rw [if_neg (by rintro (h' | h' | h') <;> first | omega | exact h (by simpa using h'))]; simp
theorem fixed_big {n W : Nat} (h : 256 ^ W ≤ n) : fixed n W = ([], 2) := by
  unfold fixed; rw [if_pos (by right; right; simpa using h)]
theorem fixed_wide {n : Nat} {width : Int} (h : ¬ (1 ≤ width ∧ width ≤ 8)) : fixed n width = ([], 2) := by
  unfold fixed; rw [if_pos (by omega)]
theorem fill_step (n width i : Nat) (h : i < width) :
    (u8s ((List.range i).map (dig n)) ++ List.replicate (width - i) (Value.int .u8 0)).set i (.int .u8 ((dig n i : Nat) : Int)) = u8s ((List.range (i + 1)).map (dig n)) ++ List.replicate (width - (i + 1)) (Value.int .u8 0) := by
  have e : List.replicate (width - i) (Value.int .u8 0) = Value.int .u8 0 :: List.replicate (width - (i + 1)) (Value.int .u8 0) := by
    rw [← List.replicate_succ]; congr 1; omega
  rw [e, List.set_append]
  simp [u8s, List.range_succ]
/-- Seven bits of each byte, the lowest first. -/
def val : List Nat → Nat
  | [] => 0
  | c :: cs => c % 128 + 128 * val cs
theorem val_snoc (l : List Nat) (c : Nat) : val (l ++ [c]) = val l + c % 128 * 128 ^ l.length := by
  induction l with
  | nil => simp [val]
  | cons x l ih =>
    simp only [List.cons_append, val, ih, List.length_cons, Nat.pow_succ]
    rw [Nat.mul_add, ← Nat.add_assoc]
    congr 1
    rw [Nat.mul_left_comm, Nat.mul_comm 128]
theorem val_lt (l : List Nat) : val l < 128 ^ l.length := by
  induction l with
  | nil => simp [val]
  | cons x l ih =>
    simp only [val, List.length_cons, Nat.pow_succ]
    omega
theorem val_tail_le (l : List Nat) (t : Nat) : val (l.drop t) ≤ val l := by
  induction l generalizing t with
  | nil => simp
  | cons x l ih =>
    cases t with
    | zero => simp
    | succ t =>
      simp only [List.drop_succ_cons, val]
      have := ih t
      omega
theorem val_step {l : List Nat} {t : Nat} (h : t < l.length) : val (l.drop t) = l[t] % 128 + 128 * val (l.drop (t + 1)) := by
  rw [List.drop_eq_getElem_cons h]; rfl
theorem take_snoc {l : List Nat} {j : Nat} (h : j < l.length) : l.take (j + 1) = l.take j ++ [l[j]] := List.take_succ_eq_append_getElem h
/-- What is read is below 2^64, ahead of the tenth byte, and at the tenth if that is 0 or 1. -/
theorem val_fits {l : List Nat} (h : l.length ≤ 9) : val l < 9223372036854775808 := by
  have h1 := val_lt l
  have h2 := Nat.pow_le_pow_right (n := 128) (by decide) h
  have e : 128 ^ 9 = 9223372036854775808 := by decide
  omega
theorem val_fits10 {l : List Nat} {x : Nat} (h : l.length = 9) (hx : x ≤ 1) : val (l ++ [x]) < 18446744073709551616 := by
  have h1 := val_fits (l := l) (by omega)
  have e : 128 ^ 9 = 9223372036854775808 := by decide
  rw [val_snoc, h, e]
  omega
theorem putN_len_is : ∀ (k n : Nat), n < 128 ^ (k + 1) → (k = 0 ∨ 128 ^ k ≤ n) → (putN n).length = k + 1
  | 0, n, h, _ => by rw [putN_small (by simpa using h)]; rfl
  | k + 1, n, h, h2 => by
    have h3 : 128 ^ (k + 1) ≤ n := by omega
    have h4 : 128 ≤ n := Nat.le_trans (by rw [Nat.pow_succ]; exact Nat.le_mul_of_pos_left _ (Nat.pow_pos (by decide))) h3
    rw [putN_big h4, List.length_cons, putN_len_is k (n / 128)]
    · rw [Nat.pow_succ] at h
      exact Nat.div_lt_of_lt_mul (by omega)
    · right
      rw [Nat.pow_succ] at h3
      exact (Nat.le_div_iff_mul_le (by decide)).2 h3
theorem putN_len_mono : ∀ (f n m : Nat), n ≤ f → n ≤ m → (putN n).length ≤ (putN m).length
  | 0, n, m, h, _ => by rw [putN_small (n := n) (by omega)]; exact putN_pos m
  | f + 1, n, m, h, h2 => by
    by_cases hn : n < 128
    · rw [putN_small hn]; exact putN_pos m
    · rw [putN_big (n := n) (by omega), putN_big (n := m) (by omega), List.length_cons, List.length_cons]
      have := putN_len_mono f (n / 128) (m / 128) (by omega) (Nat.div_le_div_right h2)
      omega
theorem shr7 (n i : Nat) : (n : Int) / 2 ^ (7 * i) = ((n / 128 ^ i : Nat) : Int) := by
  rw [← pow7, Int.natCast_ediv]; simp

/-- A block that is known whole. -/
def Blk (w : World) (g : Nat) (t : TypeId) (cs : Array Value) : Prop := w.heap[g]? = some (.cells cs t (0, 0))
section
variable {w w' : World} {g : Nat} {t : TypeId} {cs : Array Value}
theorem Blk.lt (h : Blk w g t cs) : g < w.heap.size := by
  rcases Nat.lt_or_ge g w.heap.size with hlt | hge
  · exact hlt
  · unfold Blk at h; rw [Array.getElem?_eq_none hge] at h; cases h
theorem Blk.cell (h : Blk w g t cs) (i : Nat) : w.cell? ⟨g, i, none⟩ = cs[i]? := cell_of_row w g i cs t (0, 0) h
theorem Blk.frozen (h : Blk w g t cs) (i : Nat) : w.frozen? ⟨g, i, none⟩ = false := by
  unfold Blk at h
  simp [World.frozen?, h]
theorem Blk.new (w : World) (t : TypeId) (cs : Array Value) : Blk (w.alloc (.cells cs t)) w.heap.size t cs := heap_alloc_new w _
theorem Blk.alloc (h : Blk w g t cs) (o : Obj) : Blk (w.alloc o) g t cs := (Below.heap_alloc w o g h.lt).trans h
theorem Blk.set_ (h : Blk w g t cs) (i : Nat) (u : Value) : Blk (w.setCell ⟨g, i, none⟩ u) g t (cs.setIfInBounds i u) := by
  unfold Blk at h ⊢
  simp [World.setCell, Array.getElem?_modify, h]
theorem Blk.far (h : Blk w g t cs) {p : Addr} (hp : g ≠ p.block) (u : Value) : Blk (w.setCell p u) g t cs := (Below.heap_setCell w p u g hp).trans h
theorem Blk.below {B : Nat} (h : Blk w g t cs) (hb : Below B w w') (hg : g < B) : Blk w' g t cs := (hb.block g hg).trans h
end
end Go.Proofs.YthjmojglcfmkmaaDoor
