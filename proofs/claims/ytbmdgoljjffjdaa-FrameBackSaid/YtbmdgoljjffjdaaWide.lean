/- Words for memory: slices whose elements take k cells. -/
import Derived.Test.YtbmdgoljjffjdaaMem
namespace Go.Proofs.Ytbmdgoljjffjdaa
open Go.RowKit

/-- The slice (A, n, c), of elements of k cells, holds the cells xs in w. -/
structure HasK (k : Nat) (w : World) (A : Option Addr) (n c : Nat) (xs : List Value) : Prop where
  len : xs.length = n * k
  cap : n ≤ c
  bare : A = Option.none → c = 0
  spot : 0 < n → ∃ b off, A = some ⟨b, off, none⟩ ∧ b < w.heap.size ∧ ∀ j u, xs[j]? = some u → w.cell? ⟨b, off + j, none⟩ = some u
theorem HasK.none (k : Nat) (w : World) (A : Option Addr) (c : Nat) (h : A = Option.none → c = 0) : HasK k w A 0 c [] := ⟨by simp, Nat.zero_le _, h, fun h => absurd h (by omega)⟩
theorem HasK.kept {k : Nat} {w w' : World} {A : Option Addr} {n c : Nat} {xs : List Value} (h : HasK k w A n c xs) (hb : Below w.heap.size w w') : HasK k w' A n c xs :=
  ⟨h.len, h.cap, h.bare, fun hn => by
    obtain ⟨b, off, hA, hlt, hc⟩ := h.spot hn
    exact ⟨b, off, hA, Nat.lt_of_lt_of_le hlt hb.size, fun j u hu => (hb.cell (p := ⟨b, off + j, Option.none⟩) hlt).trans (hc j u hu)⟩⟩
theorem HasK.alloc {k : Nat} {w : World} {A : Option Addr} {n c : Nat} {xs : List Value} (h : HasK k w A n c xs) (o : Obj) : HasK k (w.alloc o) A n c xs := h.kept ((Below.refl _ _).alloc (Nat.le_refl _) o)
theorem HasK.new_at (k : Nat) (w : World) (cs : Array Value) (e : TypeId) (g n : Nat) (hg : g = w.heap.size) (hn : cs.size = n * k) : HasK k (w.alloc (.cells cs e)) (some ⟨g, 0, Option.none⟩) n n cs.toList := by
  subst hg
  refine ⟨by simpa using hn, Nat.le_refl _, (fun h => by cases h), fun _ => ⟨w.heap.size, 0, rfl, by simp, fun j v hv => ?_⟩⟩
  rw [World.cell?_alloc_at _ _ _ _ rfl]
  simpa using hv
theorem HasK.at_ {k : Nat} {w : World} {A : Option Addr} {n c : Nat} {xs : List Value} (h : HasK k w A n c xs) (hn : 0 < n) : ∃ b off, A = some ⟨b, off, Option.none⟩ ∧ b < w.heap.size ∧ ∀ j u, xs[j]? = some u → w.cell? ⟨b, off + j, Option.none⟩ = some u := h.spot hn

/-- Slices of type t, of elements e of k cells and so many bytes. -/
structure ElemK (P : Program) (t e : TypeId) (k bytes : Nat) : Prop where
  under : P.underlying t = some (.slice e)
  info : ∃ i z, P.info? e = some i ∧ i.zero = some z ∧ i.size = k ∧ i.bytes = bytes ∧ z.cells.size = k

/-- The slice value v is the call's own and holds n elements, the cells xs. -/
def OwnK (k : Nat) (w : World) (base : Nat) (e : TypeId) (v : Value) (n : Nat) (xs : List Value) : Prop := w.ownsRow base e k v n xs
theorem OwnK.nil (k : Nat) (w : World) (base : Nat) (e : TypeId) : OwnK k w base e (.slice Option.none 0 0) 0 [] := World.ownsRow_nil _ _ _ _
theorem OwnK.has {k : Nat} {w : World} {base : Nat} {e : TypeId} {v : Value} {n : Nat} {xs : List Value} (h : OwnK k w base e v n xs) : ∃ A c, v = .slice A n c ∧ HasK k w A n c xs := by
  have h0 := h
  obtain ⟨hl, hcase⟩ := h
  rcases hcase with ⟨rfl, rfl⟩ | ⟨g, cap, cur, rfl, hg, hh, hn, hcap, hsz, htake⟩
  · exact ⟨Option.none, 0, rfl, by have hx := List.eq_nil_of_length_eq_zero (show xs.length = 0 by omega); subst hx; exact HasK.none _ _ _ _ fun _ => rfl⟩
  · refine ⟨_, _, rfl, hl, hn, (fun h => by cases h), fun _ => ⟨g, 0, rfl, ?_, fun j u hu => ?_⟩⟩
    · rcases Nat.lt_or_ge g w.heap.size with hlt | hge
      · exact hlt
      · rw [Array.getElem?_eq_none hge] at hh; cases hh
    · have := World.ownsRow.cells h0 (g := g) rfl j u hu
      rw [Nat.zero_add]
      have e : (⟨g, 0, Option.none⟩ : Addr).add j = ⟨g, j, Option.none⟩ := by
        unfold Addr.add
        by_cases hj : j = 0
        · subst hj; simp
        · simp [hj]
      rw [← e]; exact this
theorem OwnK.keep {k : Nat} {w w' : World} {base : Nat} {e : TypeId} {v : Value} {n : Nat} {xs : List Value} (h : OwnK k w base e v n xs) (hb : Below w.heap.size w w') : OwnK k w' base e v n xs :=
  World.ownsRow.kept (row := Option.none) h ⟨hb.os, hb.tape, hb.output, hb.size, fun k hk _ => hb.block k hk⟩ (by
    cases v with
    | slice a _ _ => cases a <;> simp [Value.ownBlock]
    | _ => simp [Value.ownBlock])
theorem OwnK.alloc {k : Nat} {w : World} {base : Nat} {e : TypeId} {v : Value} {n : Nat} {xs : List Value} (h : OwnK k w base e v n xs) (o : Obj) : OwnK k (w.alloc o) base e v n xs := World.ownsRow.alloc h o
theorem OwnK.less {k : Nat} {w : World} {base base' : Nat} {e : TypeId} {v : Value} {n : Nat} {xs : List Value} (h : OwnK k w base e v n xs) (hb : base' ≤ base) : OwnK k w base' e v n xs := by
  refine ⟨h.1, ?_⟩
  rcases h.2 with h | ⟨g, cap, cur, h1, h2, h3⟩
  · exact Or.inl h
  · exact Or.inr ⟨g, cap, cur, h1, by omega, h3⟩
theorem OwnK.drew {k : Nat} {w : World} {base : Nat} {e : TypeId} {v : Value} {n : Nat} {xs : List Value} (h : OwnK k w base e v n xs) : OwnK k w.drew base e v n xs := h

theorem Own.grown {w w' : World} {base : Nat} {e : TypeId} {v : Value} {xs : List Value} {row : Option Nat} (h : Own w base e v xs) (hg : w.grownBy w' row) (hb : ∀ k, row = some k → k < base) : Own w' base e v xs :=
  World.ownsRow.kept (row := row) h hg (by
    rcases h.2 with ⟨rfl, _⟩ | ⟨g', cap, cur, rfl, hg', _⟩
    · left; simp [Value.ownBlock]
    · right
      intro e
      have := hb g' (by rw [← e]; rfl)
      omega)
/-- append(own, other...), of elements of k cells: whatever holds the other cells. -/
theorem wpList_joinK {k : Nat} {P : Program} {w : World} {ops : Array Oper} {rest : List Oper} {o : Oper} {a : Act} {Q : Exit → Act → World → Prop} (hgd : o.guard = Option.none) (s x : Operand) (t : TypeId)
    (ho : o.op = .call { callee := .builtin .append, args := #[s, x], argTypes := #[t, t] }) {e : TypeId} {bytes : Nat} (E : ElemK P t e k bytes) (hk : 0 < k)
    (base : Nat) (v : Value) (n : Nat) (xs : List Value) (hs : a.eval s = v) (hown : OwnK k w base e v n xs) (A : Option Addr) (m c : Nat) (news : List Value) (hx : a.eval x = .slice A m c) (hh : HasK k w A m c news)
    (h1 : ∀ u ∈ news, u.oneCell' = true) (hsz : n + m ≤ 1099511627776) (hby : bytes ≤ 64) (hbase : base ≤ w.heap.size)
    (h : ∀ v' w', OwnK k w' base e v' (n + m) (xs ++ news) → Below base w w' → w.grownBy w' v.ownBlock → wpList P ops Q rest (a.put o.dst v') w') : wpList P ops Q (o :: rest) a w := by
  obtain ⟨i, z, hi, hz, hsize, hbytes, hzs⟩ := E.info
  have hl := hh.len
  have hmul : (n + m) * bytes ≤ 1099511627776 * 64 := Nat.mul_le_mul hsz hby
  cases A with
  | none =>
    have hm : m = 0 := by
      rcases Nat.eq_zero_or_pos m with h0 | h0
      · exact h0
      · obtain ⟨b, off, hA, _⟩ := hh.spot h0; cases hA
    subst hm
    have hn : news = [] := List.eq_nil_of_length_eq_zero (by omega)
    have hc := hh.bare rfl
    subst hn hc
    refine wpList_append_own_none hgd s x t ho base e i k E.under hi v n xs hs hown hx ?_
    exact h v w (by rw [List.append_nil]; exact hown) (Below.refl _ _) (World.grownBy.refl w _)
  | some ad =>
    refine wpList_append_own w hgd s x t ho base e i z k bytes E.under hi hz hsize hbytes hzs hk v n xs hs hown ad m c news hx hl (fun j u hu => ?_) h1 (by unfold maxLen; omega) (by omega) hbase ?_
    · have hj : j < news.length := by
        rcases Nat.lt_or_ge j news.length with hj | hj
        · exact hj
        · rw [List.getElem?_eq_none hj] at hu; cases hu
      obtain ⟨b, off, hA, _, hc⟩ := hh.spot (by
        rcases Nat.eq_zero_or_pos m with h0 | h0
        · subst h0; omega
        · exact h0)
      cases hA
      have e : (⟨b, off, Option.none⟩ : Addr).add j = ⟨b, off + j, Option.none⟩ := by
        unfold Addr.add
        by_cases hj : j = 0
        · subst hj; simp
        · simp [hj]
      rw [e]; exact hc j u hu
    · intro v' w' ho' hg' _
      exact h v' w' ho' ((Below.refl _ _).grown hg' hbase (fun k hk => (World.ownsRow.lt hown k hk).1)) hg'
/-- The run itself; and as a step of a region that draws its order. -/
theorem run_joinK {k : Nat} {P : Program} (w : World) (t ty : TypeId) {e : TypeId} {bytes : Nat} (E : ElemK P t e k bytes) (hk : 0 < k)
    (base : Nat) (v : Value) (n : Nat) (xs : List Value) (hown : OwnK k w base e v n xs) (A : Option Addr) (m c : Nat) (news : List Value) (hh : HasK k w A m c news)
    (h1 : ∀ u ∈ news, u.oneCell' = true) (hsz : n + m ≤ 1099511627776) (hby : bytes ≤ 64) (hbase : base ≤ w.heap.size) :
    ∃ v' w', (Builtin.append_ #[t, t] ty #[v, .slice A m c]).run P w = .ok v' w' ∧ OwnK k w' base e v' (n + m) (xs ++ news) ∧ Below base w w' ∧ w.grownBy w' v.ownBlock := by
  obtain ⟨i, z, hi, hz, hsize, hbytes, hzs⟩ := E.info
  have hl := hh.len
  have hmul : (n + m) * bytes ≤ 1099511627776 * 64 := Nat.mul_le_mul hsz hby
  cases A with
  | none =>
    have hm : m = 0 := by
      rcases Nat.eq_zero_or_pos m with h0 | h0
      · exact h0
      · obtain ⟨b, off, hA, _⟩ := hh.spot h0; cases hA
    subst hm
    have hn : news = [] := List.eq_nil_of_length_eq_zero (by omega)
    have hc := hh.bare rfl
    subst hn hc
    exact ⟨v, w, run_append_owned_none (P := P) (w := w) base t ty e i k E.under hi v n xs hown, by rw [List.append_nil]; exact hown, Below.refl _ _, World.grownBy.refl w _⟩
  | some ad =>
    obtain ⟨v', w', h2, h3, h4, _⟩ := run_append_own (P := P) w base t ty e i z k bytes E.under hi hz hsize hbytes hzs hk v n xs hown ad m c news hl (fun j u hu => by
      have hj : j < news.length := by
        rcases Nat.lt_or_ge j news.length with hj | hj
        · exact hj
        · rw [List.getElem?_eq_none hj] at hu; cases hu
      obtain ⟨b, off, hA, _, hc⟩ := hh.spot (by
        rcases Nat.eq_zero_or_pos m with h0 | h0
        · subst h0; omega
        · exact h0)
      cases hA
      have e : (⟨b, off, Option.none⟩ : Addr).add j = ⟨b, off + j, Option.none⟩ := by
        unfold Addr.add
        by_cases hj : j = 0
        · subst hj; simp
        · simp [hj]
      rw [e]; exact hc j u hu) h1 (by unfold maxLen; omega) (by omega) hbase
    exact ⟨v', w', h2, h3, (Below.refl _ _).grown h4 hbase (fun k hk => (World.ownsRow.lt hown k hk).1), h4⟩
theorem step_joinK {k : Nat} {P : Program} {w : World} {ops : Array Oper} {o : Oper} {a : Act} {K : Act → World → Prop} {Q : Exit → Act → World → Prop} {E' : Prop} (hgd : o.guard = Option.none) (s x : Operand) (t : TypeId)
    (ho : o.op = .call { callee := .builtin .append, args := #[s, x], argTypes := #[t, t] }) {e : TypeId} {bytes : Nat} (E : ElemK P t e k bytes) (hk : 0 < k)
    (base : Nat) (v : Value) (n : Nat) (xs : List Value) (hs : a.eval s = v) (hown : OwnK k w base e v n xs) (A : Option Addr) (m c : Nat) (news : List Value) (hx : a.eval x = .slice A m c) (hh : HasK k w A m c news)
    (h1 : ∀ u ∈ news, u.oneCell' = true) (hsz : n + m ≤ 1099511627776) (hby : bytes ≤ 64) (hbase : base ≤ w.heap.size)
    (h : ∀ v' w', OwnK k w' base e v' (n + m) (xs ++ news) → Below base w w' → w.grownBy w' v.ownBlock → K (a.put o.dst v') w') : if Region.wanted o (yielded ops a.tmps) = true then Oper.wp P o a w K Q else E' := by
  have hw : Region.wanted o (yielded ops a.tmps) = true := by simp [Region.wanted, hgd]
  rw [if_pos hw]
  obtain ⟨v', w', hrun, h2, h3, h4⟩ := run_joinK w t o.type E hk base v n xs hown A m c news hh h1 hsz hby hbase
  unfold Oper.wp execOp
  simp only [ho, resolve, invoke, builtin, Sem.run_bind, Sem.run_pure, Result.andThen_ok, List.map_toArray, List.map_cons, List.map_nil, hs, hx, hrun]
  exact h v' w' h2 h3 h4
end Go.Proofs.Ytbmdgoljjffjdaa
