/- What is kept, whatever becomes of some blocks. -/
import Derived.Test.YthjmojglcfmkmaaDoorBase
import Derived.Deep.RegionLaw
namespace Go.Proofs.YthjmojglcfmkmaaDoor
open Go.RowKit

/-- Nothing but block G has turned. -/
structure Far1 (G : Nat) (W W' : World) : Prop where
  os : W'.os = W.os
  tape : W'.tape = W.tape
  output : W'.output = W.output
  size : W'.heap.size = W.heap.size
  block : ∀ k, k ≠ G → W'.heap[k]? = W.heap[k]?
theorem Far1.refl (G : Nat) (W : World) : Far1 G W W := ⟨rfl, rfl, rfl, rfl, fun _ _ => rfl⟩
theorem Far1.trans {G : Nat} {a b c : World} (h : Far1 G a b) (h2 : Far1 G b c) : Far1 G a c :=
  ⟨h2.os.trans h.os, h2.tape.trans h.tape, h2.output.trans h.output, h2.size.trans h.size, fun k hk => (h2.block k hk).trans (h.block k hk)⟩
theorem Far1.set {G : Nat} {W W' : World} (h : Far1 G W W') (o : Nat) (u : Value) : Far1 G W (W'.setCell ⟨G, o, none⟩ u) :=
  ⟨h.os, h.tape, h.output, by rw [← h.size]; simp [World.setCell], fun k hk => (Below.heap_setCell W' ⟨G, o, none⟩ u k hk).trans (h.block k hk)⟩
/-- These blocks lie below n. -/
def Sit (D : Nat → Prop) (n : Nat) : Prop := ∀ k, D k → k < n
theorem Sit.le {D : Nat → Prop} {n m : Nat} (h : Sit D n) (hm : n ≤ m) : Sit D m := fun k hk => Nat.lt_of_lt_of_le (h k hk) hm
/-- Nothing but the blocks of D has turned. -/
structure FarD (D : Nat → Prop) (W W' : World) : Prop where
  os : W'.os = W.os
  tape : W'.tape = W.tape
  output : W'.output = W.output
  size : W'.heap.size = W.heap.size
  block : ∀ k, ¬ D k → W'.heap[k]? = W.heap[k]?
theorem FarD.refl (D : Nat → Prop) (W : World) : FarD D W W := ⟨rfl, rfl, rfl, rfl, fun _ _ => rfl⟩
theorem FarD.trans {D : Nat → Prop} {a b c : World} (h : FarD D a b) (h2 : FarD D b c) : FarD D a c :=
  ⟨h2.os.trans h.os, h2.tape.trans h.tape, h2.output.trans h.output, h2.size.trans h.size, fun k hk => (h2.block k hk).trans (h.block k hk)⟩
theorem Far1.farD {G : Nat} {D : Nat → Prop} {W W' : World} (h : Far1 G W W') (hG : D G) : FarD D W W' :=
  ⟨h.os, h.tape, h.output, h.size, fun k hk => h.block k fun e => hk (e ▸ hG)⟩
/-- Nothing but the blocks of D has turned; there may be new ones. -/
structure Chg (D : Nat → Prop) (w w' : World) : Prop where
  os : w'.os = w.os
  tape : w'.tape = w.tape
  output : w'.output = w.output
  size : w.heap.size ≤ w'.heap.size
  block : ∀ k, k < w.heap.size → ¬ D k → w'.heap[k]? = w.heap[k]?
theorem Chg.of_below {D : Nat → Prop} {w w' : World} (h : Below w.heap.size w w') : Chg D w w' := ⟨h.os, h.tape, h.output, h.size, fun k hk _ => h.block k hk⟩
theorem Chg.of_far {D : Nat → Prop} {w w' : World} (h : FarD D w w') : Chg D w w' := ⟨h.os, h.tape, h.output, Nat.le_of_eq h.size.symm, fun k _ hd => h.block k hd⟩
theorem Chg.refl (D : Nat → Prop) (w : World) : Chg D w w := ⟨rfl, rfl, rfl, Nat.le_refl _, fun _ _ _ => rfl⟩
theorem Chg.then_ {D D' : Nat → Prop} {a b c : World} (h : Chg D a b) (h2 : Chg D' b c) (hd : ∀ k, k < a.heap.size → D' k → D k) : Chg D a c :=
  ⟨h2.os.trans h.os, h2.tape.trans h.tape, h2.output.trans h.output, Nat.le_trans h.size h2.size, fun k hk hn => (h2.block k (Nat.lt_of_lt_of_le hk h.size) fun h' => hn (hd k hk h')).trans (h.block k hk hn)⟩
theorem Chg.wide {D D' : Nat → Prop} {w w' : World} (h : Chg D w w') (hd : ∀ k, k < w.heap.size → D k → D' k) : Chg D' w w' := ⟨h.os, h.tape, h.output, h.size, fun k hk hn => h.block k hk fun h' => hn (hd k hk h')⟩
theorem Chg.below {D : Nat → Prop} {w w' : World} {B : Nat} (h : Chg D w w') (hd : ∀ k, D k → B ≤ k) (hB : B ≤ w.heap.size) : Below B w w' :=
  ⟨h.os, h.tape, h.output, h.size, fun k hk => h.block k (by omega) fun h' => by have := hd k h'; omega⟩
open Classical in
/-- The blocks of D as they are in W, all else as it was. -/
noncomputable def mix (D : Nat → Prop) (w W : World) (h : w.heap.size ≤ W.heap.size) : World := { w with heap := Array.ofFn fun k : Fin w.heap.size => if D k.1 then W.heap[k.1]'(by have := k.2; omega) else w.heap[k.1] }
theorem mix_far (D : Nat → Prop) (w W : World) (h : w.heap.size ≤ W.heap.size) : FarD D w (mix D w W h) := by
  refine ⟨rfl, rfl, rfl, by simp [mix], fun k hk => ?_⟩
  by_cases hl : k < w.heap.size
  · simp [mix, hl, hk]
  · simp [mix, hl]
theorem mix_below {D : Nat → Prop} {w W : World} (h : Chg D w W) : Below w.heap.size (mix D w W h.size) W := by
  refine ⟨h.os, h.tape, h.output, by simp [mix]; exact h.size, fun k hk => ?_⟩
  have hW : k < W.heap.size := Nat.lt_of_lt_of_le hk h.size
  by_cases hd : D k
  · simp [mix, hk, hd, hW]
  · simp only [mix, Array.getElem?_ofFn, hk, dite_true, hd, if_false]
    rw [h.block k hk hd, Array.getElem?_eq_getElem hk]
/-- What holds whatever becomes of the blocks of G. -/
def Rob (G : Nat → Prop) (w : World) (F : World → Prop) : Prop := ∀ W', FarD G w W' → F W'
theorem Rob.here {G : Nat → Prop} {w : World} {F : World → Prop} (h : Rob G w F) : F w := h w (FarD.refl _ _)
theorem Rob.far {G : Nat → Prop} {w w' : World} {F : World → Prop} (h : Rob G w F) (hf : FarD G w w') : Rob G w' F := fun W' hW => h W' (hf.trans hW)
/-- What does not change with new memory stays, whatever becomes of G's blocks and of new ones. -/
theorem Rob.chg {G G' : Nat → Prop} {w w' : World} {F : World → Prop} (hst : ∀ W W', Below W.heap.size W W' → F W → F W') (h : Rob G w F) (hc : Chg G w w') (hg : ∀ k, k < w.heap.size → G' k → G k) : Rob G' w' F := by
  intro W hW
  have hc2 : Chg G w W := hc.then_ (Chg.of_far hW) hg
  have hb := mix_below hc2
  have hz := (mix_far G w W hc2.size).size
  rw [← hz] at hb
  exact hst _ W hb (h _ (mix_far G w W hc2.size))
theorem Rob.kept {G : Nat → Prop} {w w' : World} {F : World → Prop} (hst : ∀ W W', Below W.heap.size W W' → F W → F W') (h : Rob G w F) (_ : Sit G w.heap.size) (hb : Below w.heap.size w w') : Rob G w' F :=
  Rob.chg hst h (Chg.of_below hb) fun _ _ h => h
theorem Rob.has {G : Nat → Prop} {w w' : World} {A : Option Addr} {n c : Nat} {xs : List Value} (h : Rob G w fun W => Has W A n c xs) (hG : Sit G w.heap.size) (hb : Below w.heap.size w w') : Rob G w' fun W => Has W A n c xs :=
  Rob.kept (fun _ _ hb h => h.kept hb) h hG hb
theorem Rob.nil {G : Nat → Prop} {w : World} : Rob G w fun W => Has W none 0 0 (u8s []) := fun _ _ => Has.none _ _ _ fun _ => rfl
theorem Rob.own {G : Nat → Prop} {w : World} {base : Nat} {e : TypeId} {A : Option Addr} {c : Nat} {l : List Nat} (h : Own w base e (.slice A l.length c) (u8s l)) (hG : Sit G base) : Rob G w fun W => Has W A l.length c (u8s l) := by
  intro W' hW
  have h' : Own W' base e (.slice A l.length c) (u8s l) := by
    refine ⟨h.1, ?_⟩
    rcases h.2 with h1 | ⟨g', cap, cur, h1, h2, h3, h4⟩
    · exact Or.inl h1
    · exact Or.inr ⟨g', cap, cur, h1, h2, (hW.block g' fun hk => by have := hG g' hk; omega).trans h3, h4⟩
  obtain ⟨A', c', hv, hh⟩ := h'.has
  rw [u8s_len] at hv hh
  cases hv
  exact hh
theorem Rob.ownK {G : Nat → Prop} {k : Nat} {w : World} {base : Nat} {e : TypeId} {A : Option Addr} {c n : Nat} {xs : List Value} (h : OwnK k w base e (.slice A n c) n xs) (hG : Sit G base) : Rob G w fun W => HasK k W A n c xs := by
  intro W' hW
  have h' : OwnK k W' base e (.slice A n c) n xs := by
    refine ⟨h.1, ?_⟩
    rcases h.2 with h1 | ⟨g', cap, cur, h1, h2, h3, h4⟩
    · exact Or.inl h1
    · exact Or.inr ⟨g', cap, cur, h1, h2, (hW.block g' fun hk => by have := hG g' hk; omega).trans h3, h4⟩
  obtain ⟨A', c', hv, hh⟩ := h'.has
  cases hv
  exact hh
theorem Rob.less {D D' : Nat → Prop} {w : World} {F : World → Prop} (h : Rob D' w F) (hd : ∀ k, D k → D' k) : Rob D w F := fun W hW => h W ⟨hW.os, hW.tape, hW.output, hW.size, fun k hk => hW.block k fun h' => hk (hd k h')⟩
/-- D's blocks are among those that turn, or new. -/
theorem Rob.more {D D' : Nat → Prop} {w w' : World} {F : World → Prop} (hst : ∀ W W', Below W.heap.size W W' → F W → F W') (h : Rob D w F) (hb : Below w.heap.size w w') (hd : ∀ k, D' k → D k ∨ w.heap.size ≤ k) : Rob D' w' F :=
  Rob.chg hst h (Chg.of_below hb) fun k hk h' => by
    rcases hd k h' with h' | h'
    · exact h'
    · omega
theorem Far1.belowAt {G B : Nat} {w W W' : World} (h : Far1 G W W') (hG : B ≤ G) (hb : Below B w W) : Below B w W' :=
  ⟨h.os.trans hb.os, h.tape.trans hb.tape, h.output.trans hb.output, by rw [h.size]; exact hb.size, fun k hk => (h.block k (by omega)).trans (hb.block k hk)⟩
theorem Rob.map {D : Nat → Prop} {w : World} {F G : World → Prop} (h : Rob D w F) (hm : ∀ W, F W → G W) : Rob D w G := fun W hW => hm W (h W hW)
theorem Rob.both {D : Nat → Prop} {w : World} {F G : World → Prop} (h : Rob D w F) (h2 : Rob D w G) : Rob D w fun W => F W ∧ G W := fun W hW => ⟨h W hW, h2 W hW⟩
theorem Rob.row {D : Nat → Prop} {w : World} {base : Nat} {e : TypeId} {v : Value} {xs : List Value} (h : Own w base e v xs) (hD : Sit D base) : Rob D w fun W => Own W base e v xs := by
  intro W hW
  refine ⟨h.1, ?_⟩
  rcases h.2 with h1 | ⟨g', cap, cur, h1, h2, h3, h4⟩
  · exact Or.inl h1
  · exact Or.inr ⟨g', cap, cur, h1, h2, (hW.block g' fun hk => by have := hD g' hk; omega).trans h3, h4⟩
theorem cell_stays {a : Addr} {v : Value} (W W' : World) (hb : Below W.heap.size W W') (h : W.cell? a = some v) : W'.cell? a = some v := (hb.cell (World.block_lt_of_cell? W a h)).trans h
theorem Has.stays : ∀ {A : Option Addr} {n c : Nat} {xs : List Value} (W W' : World), Below W.heap.size W W' → Has W A n c xs → Has W' A n c xs := fun _ _ hb h => h.kept hb
/-- What lay there ahead of all blocks of D. -/
theorem Rob.old {D : Nat → Prop} {w w' : World} {F : World → Prop} (hst : ∀ W W', Below W.heap.size W W' → F W → F W') (h : F w) (hb : Below w.heap.size w w') (hd : ∀ k, D k → w.heap.size ≤ k) : Rob D w' F := fun W hW => by
  refine hst w W ⟨hW.os.trans hb.os, hW.tape.trans hb.tape, hW.output.trans hb.output, by rw [hW.size]; exact hb.size, fun k hk => (hW.block k fun h' => ?_).trans (hb.block k hk)⟩ h
  have := hd k h'
  omega
/-- New memory, whatever becomes of older blocks. -/
theorem Rob.alloc {D : Nat → Prop} {w : World} {F : World → Prop} {o : Obj} (h : Rob D w fun W => F (W.alloc o)) (hD : Sit D w.heap.size) : Rob D (w.alloc o) F := by
  intro W hW
  have hz : W.heap.size = w.heap.size + 1 := by rw [hW.size]; simp
  have hlast : W.heap[w.heap.size]? = some o := by
    rw [hW.block w.heap.size fun h' => by have := hD _ h'; omega]
    exact heap_alloc_new w o
  have e : W = ({ W with heap := W.heap.pop } : World).alloc o := by
    have he : W.heap = W.heap.pop.push o := by
      apply Array.ext (by simp [hz])
      intro i h1 h2
      by_cases hi : i < w.heap.size
      · rw [Array.getElem_push_lt (by simp; omega), Array.getElem_pop]
      · obtain rfl : i = w.heap.size := by omega
        rw [Array.getElem_push, dif_neg (by simp [hz])]
        rw [Array.getElem?_eq_getElem h1] at hlast
        exact Option.some.inj hlast
    show W = { W with heap := W.heap.pop.push o }
    rw [← he]
  rw [e]
  refine h _ ⟨hW.os, hW.tape, hW.output, by simp [hz], fun k hk => ?_⟩
  by_cases hl : k < w.heap.size
  · have h1 := hW.block k hk
    show W.heap.pop[k]? = _
    rw [Array.getElem?_eq_getElem (by simp; omega), Array.getElem_pop, ← Array.getElem?_eq_getElem (show k < W.heap.size by omega), h1]
    show (w.heap.push o)[k]? = _
    rw [Array.getElem?_push_lt hl, Array.getElem?_eq_getElem hl]
  · show W.heap.pop[k]? = _
    rw [Array.getElem?_eq_none (by simp; omega), Array.getElem?_eq_none (by omega)]
theorem Chg.of_grown {w w' : World} {row : Option Nat} (h : w.grownBy w' row) : Chg (fun k => row = some k) w w' := ⟨h.os, h.tape, h.output, h.size, fun k hk hn => h.block k hk fun e => hn e.symm⟩
/-- Where the row lies behind an append: where it lay, or in a new block. -/
theorem run_where {k : Nat} {P : Program} (w : World) (t ty : TypeId) {e : TypeId} {bytes : Nat} (E : ElemK P t e k bytes) (hk : 0 < k)
    (base : Nat) (v : Value) (n : Nat) (xs : List Value) (hown : OwnK k w base e v n xs) (A : Option Addr) (m c : Nat) (news : List Value) (hh : HasK k w A m c news)
    (h1 : ∀ u ∈ news, u.oneCell' = true) (hsz : n + m ≤ 1099511627776) (hby : bytes ≤ 64) (hbase : base ≤ w.heap.size) {v' : Value} {w' : World} (hr : (Builtin.append_ #[t, t] ty #[v, .slice A m c]).run P w = .ok v' w') :
    ∀ g, v'.ownBlock = some g → v.ownBlock = some g ∨ w.heap.size ≤ g := by
  intro g hg
  obtain ⟨i, z, hi, hz, hsize, hbytes, hzs⟩ := E.info
  have hl := hh.len
  have hmul : (n + m) * bytes ≤ 1099511627776 * 64 := Nat.mul_le_mul hsz hby
  cases A with
  | none =>
    have hm : m = 0 := by
      rcases Nat.eq_zero_or_pos m with h0 | h0
      · exact h0
      · obtain ⟨b, off, hA, _⟩ := hh.spot h0; cases hA
    subst hm
    have hc := hh.bare rfl
    subst hc
    have h2 := run_append_owned_none (P := P) (w := w) base t ty e i k E.under hi v n xs hown
    rw [h2] at hr
    cases hr
    exact Or.inl hg
  | some ad =>
    have hnews : ∀ j u, news[j]? = some u → w.cell? (ad.add j) = some u := fun j u hu => by
      have hj : j < news.length := by
        rcases Nat.lt_or_ge j news.length with hj | hj
        · exact hj
        · rw [List.getElem?_eq_none hj] at hu; cases hu
      obtain ⟨b, off, hA, _, hc⟩ := hh.spot (by
        rcases Nat.eq_zero_or_pos m with h0 | h0
        · subst h0; omega
        · exact h0)
      cases hA
      have e : (⟨b, off, Option.none⟩ : Addr).add j = ⟨b, off + j, Option.none⟩ := by
        unfold Addr.add
        by_cases hj : j = 0
        · subst hj; simp
        · simp [hj]
      rw [e]; exact hc j u hu
    subst hsize
    subst hbytes
    obtain ⟨v2, w2, hr2, _, _, h4⟩ := run_append_own (P := P) w base t ty e i z i.size i.bytes E.under hi hz rfl rfl hzs hk v n xs hown ad m c news hl hnews h1 (by unfold maxLen; omega) (by omega) hbase
    rcases hown.2 with ⟨rfl, rfl⟩ | ⟨g0, cap, cur, rfl, hbg, hg0, hnc, hcm, hcs, htake⟩
    · by_cases hm : m = 0
      · rw [hr] at hr2
        cases hr2
        rw [h4.2 ⟨rfl, hm⟩] at hg
        cases hg
      · have h3 := run_append_nil (P := P) w t ty e i z E.under hi hz ad m c news hl hnews (by omega) (by omega) (by have hb := hmul; simp only [Nat.zero_add] at hb; omega)
        rw [hr] at h3
        cases h3
        cases hg
        exact Or.inr (Nat.le_refl _)
    · by_cases hroom : n + m ≤ cap
      · have hfit : n * i.size + news.length ≤ cur.size := by rw [hl, hcs, ← Nat.add_mul]; exact Nat.mul_le_mul_right _ hroom
        have h3 := run_append_room (P := P) w t ty e i E.under hi g0 n cap cur hg0 ad m c news hl hnews h1 hroom hfit
        rw [hr] at h3
        cases h3
        exact Or.inl hg
      · have holds : ∀ j u, xs[j]? = some u → w.cell? ((⟨g0, 0, Option.none⟩ : Addr).add j) = some u := World.ownsRow.cells hown (g := g0) rfl
        have h3 := run_append_grow (P := P) w t ty e i z E.under hi hz ⟨g0, 0, Option.none⟩ n cap xs hown.1 holds ad m c news hl hnews (by omega) (by omega) (growslice_fits (by omega) (by omega))
        rw [hr] at h3
        cases h3
        cases hg
        exact Or.inr (Nat.le_refl _)
theorem Elem.toK {P : Program} {t e : TypeId} {bytes : Nat} (E : Elem P t e bytes) : ElemK P t e 1 bytes := ⟨E.under, E.info⟩
theorem Has.toK {w : World} {A : Option Addr} {n c : Nat} {xs : List Value} (h : Has w A n c xs) : HasK 1 w A n c xs := ⟨by rw [h.len, Nat.mul_one], h.cap, h.bare, h.spot⟩
/-- append(own, other...), with all that is known of it. -/
theorem wpList_joinG {P : Program} {w : World} {ops : Array Oper} {rest : List Oper} {o : Oper} {a : Act} {Q : Exit → Act → World → Prop} (hgd : o.guard = Option.none) (s x : Operand) (t : TypeId)
    (ho : o.op = .call { callee := .builtin .append, args := #[s, x], argTypes := #[t, t] }) {e : TypeId} {bytes : Nat} (E : Elem P t e bytes)
    (base : Nat) (v : Value) (xs : List Value) (hs : a.eval s = v) (hown : Own w base e v xs) (A : Option Addr) (m c : Nat) (news : List Value) (hx : a.eval x = .slice A m c) (hh : Has w A m c news)
    (h1 : ∀ u ∈ news, u.oneCell' = true) (hsz : xs.length + m ≤ 1099511627776) (hby : bytes ≤ 64) (hbase : base ≤ w.heap.size)
    (h : ∀ v' w', Own w' base e v' (xs ++ news) → Below base w w' → w.grownBy w' v.ownBlock → (∀ g, v'.ownBlock = some g → v.ownBlock = some g ∨ w.heap.size ≤ g) → wpList P ops Q rest (a.put o.dst v') w') : wpList P ops Q (o :: rest) a w := by
  refine wpList_plain hgd fun K hK => ?_
  obtain ⟨v', w', hrun, h2, h3, h4⟩ := run_joinK (P := P) w t o.type E.toK (by decide) base v xs.length xs hown A m c news hh.toK h1 hsz hby hbase
  have h5 := run_where (P := P) w t o.type E.toK (by decide) base v xs.length xs hown A m c news hh.toK h1 hsz hby hbase hrun
  unfold Oper.wp execOp
  simp only [ho, resolve, invoke, builtin, Sem.run_bind, Sem.run_pure, Result.andThen_ok, List.map_toArray, List.map_cons, List.map_nil, hs, hx, hrun]
  refine hK _ _ (h v' w' ?_ h3 h4 h5)
  have e2 : xs.length + m = (xs ++ news).length := by rw [List.length_append, hh.len]
  rw [e2] at h2
  exact h2
theorem Blk.chg {D : Nat → Prop} {w w' : World} {g : Nat} {t : TypeId} {cs : Array Value} (h : Blk w g t cs) (hc : Chg D w w') (hd : ¬ D g) : Blk w' g t cs := (hc.block g h.lt hd).trans h
theorem step_joinGK {k : Nat} {P : Program} {w : World} {ops : Array Oper} {o : Oper} {a : Act} {K : Act → World → Prop} {Q : Exit → Act → World → Prop} {E' : Prop} (hgd : o.guard = Option.none) (s x : Operand) (t : TypeId)
    (ho : o.op = .call { callee := .builtin .append, args := #[s, x], argTypes := #[t, t] }) {e : TypeId} {bytes : Nat} (E : ElemK P t e k bytes) (hk : 0 < k)
    (base : Nat) (v : Value) (n : Nat) (xs : List Value) (hs : a.eval s = v) (hown : OwnK k w base e v n xs) (A : Option Addr) (m c : Nat) (news : List Value) (hx : a.eval x = .slice A m c) (hh : HasK k w A m c news)
    (h1 : ∀ u ∈ news, u.oneCell' = true) (hsz : n + m ≤ 1099511627776) (hby : bytes ≤ 64) (hbase : base ≤ w.heap.size)
    (h : ∀ v' w', OwnK k w' base e v' (n + m) (xs ++ news) → w.grownBy w' v.ownBlock → (∀ g, v'.ownBlock = some g → v.ownBlock = some g ∨ w.heap.size ≤ g) → K (a.put o.dst v') w') : if Region.wanted o (yielded ops a.tmps) = true then Oper.wp P o a w K Q else E' := by
  have hw : Region.wanted o (yielded ops a.tmps) = true := by simp [Region.wanted, hgd]
  rw [if_pos hw]
  obtain ⟨v', w', hrun, h2, h3, h4⟩ := run_joinK (P := P) w t o.type E hk base v n xs hown A m c news hh h1 hsz hby hbase
  have h5 := run_where (P := P) w t o.type E hk base v n xs hown A m c news hh h1 hsz hby hbase hrun
  unfold Oper.wp execOp
  simp only [ho, resolve, invoke, builtin, Sem.run_bind, Sem.run_pure, Result.andThen_ok, List.map_toArray, List.map_cons, List.map_nil, hs, hx, hrun]
  exact h v' w' h2 h4 h5
end Go.Proofs.YthjmojglcfmkmaaDoor
