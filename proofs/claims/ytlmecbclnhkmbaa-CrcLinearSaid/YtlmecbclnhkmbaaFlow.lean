/- A region that draws its order, whose operations only make new memory: each operation's own fact is enough, whatever the order. -/
import Derived.Test.YtlmecbclnhkmbaaMem
import Derived.Orders
namespace Go.Proofs.Ytlmecbclnhkmbaa
open Go.RowKit

/-- Each operation writes a slot of its own, and waits for earlier ones alone. -/
def flowOk (ops : Array Oper) (n : Nat) : Bool := (List.range ops.size).all fun i =>
  match ops[i]? with
  | none => true
  | some o => (match o.dst with
      | some t => decide (t < n) && (List.range ops.size).all fun j => j == i || (ops[j]?).bind (·.dst) != some t
      | none => false) && o.after.all fun e => decide (e.on < i)
theorem flowOk_spec {ops : Array Oper} {n : Nat} (h : flowOk ops n = true) {i : Nat} {o : Oper} (ho : ops[i]? = some o) :
    ∃ t, o.dst = some t ∧ t < n ∧ (∀ j o', ops[j]? = some o' → o'.dst = some t → j = i) ∧ ∀ e ∈ o.after, e.on < i := by
  have hi : i < ops.size := (Array.getElem?_eq_some_iff.1 ho).1
  have h1 := List.all_eq_true.1 h i (List.mem_range.2 hi)
  rw [ho] at h1
  simp only [Bool.and_eq_true] at h1
  obtain ⟨h1, h2⟩ := h1
  cases hd : o.dst with
  | none => rw [hd] at h1; cases h1
  | some t =>
    rw [hd] at h1
    simp only [Bool.and_eq_true, decide_eq_true_eq] at h1
    refine ⟨t, rfl, h1.1, fun j o' hj hd' => ?_, fun e he => ?_⟩
    · have h3 := List.all_eq_true.1 h1.2 j (List.mem_range.2 (Array.getElem?_eq_some_iff.1 hj).1)
      rw [hj] at h3
      simp [hd'] at h3
      exact h3
    · have := Array.all_eq_true_iff_forall_mem.1 h2 e he
      simpa using this

structure Flow (ops : Array Oper) (a0 : Act) (w0 : World) (fact : Nat → Value → World → Prop) (listed : Array Bool) (a : Act) (w : World) : Prop where
  size : a.tmps.size = a0.tmps.size
  defers : a.defers = a0.defers
  lsz : listed.size = ops.size
  old : ∀ t : Nat, (∀ (i : Nat) (o : Oper), ops[i]? = some o → o.dst ≠ some t) → a.tmps.getD t undef = a0.tmps.getD t undef
  got : ∀ (i : Nat) (o : Oper) (t : Nat), ops[i]? = some o → o.dst = some t → listed.getD i false = true → fact i (a.tmps.getD t undef) w
  bel : Below w0.heap.size w0 w

section
variable {P : Program} {ops : Array Oper} {Q : Exit → Act → World → Prop} {a0 : Act} {w0 : World} {fact : Nat → Value → World → Prop}

theorem put_getD (a : Act) (t t' : Nat) (v : Value) (ht : t < a.tmps.size) : (a.put (some t) v).tmps.getD t' undef = if t' = t then v else a.tmps.getD t' undef := by
  simp only [Act.put]
  by_cases h : t' = t
  · subst h; simp [ht]
  · rw [if_neg h]
    simp [Array.getElem?_setIfInBounds_ne (fun e => h e.symm)]

theorem Flow.put (hok : flowOk ops a0.tmps.size = true) (hst : ∀ i v w w', Below w.heap.size w w' → fact i v w → fact i v w') {listed : Array Bool} {a : Act} {w w' : World} (h : Flow ops a0 w0 fact listed a w)
    {i : Nat} {o : Oper} (ho : ops[i]? = some o) {v : Value} (hf : fact i v w') (hb : Below w.heap.size w w') : Flow ops a0 w0 fact (listed.setIfInBounds i true) (a.put o.dst v) w' := by
  obtain ⟨t, hd, ht, hinj, _⟩ := flowOk_spec hok ho
  rw [hd]
  have ht' : t < a.tmps.size := by rw [h.size]; exact ht
  refine ⟨by simp [Act.put, h.size], h.defers, by simp [h.lsz], fun t' hn => ?_, fun j o' t' hj hd' hl => ?_, new_call h.bel hb⟩
  · rw [put_getD _ _ _ _ ht', if_neg (fun e => hn i o ho (by rw [hd, e]))]
    exact h.old t' hn
  · rw [put_getD _ _ _ _ ht']
    by_cases e : t' = t
    · subst e
      have hji := hinj j o' hj hd'
      subst hji
      rw [if_pos rfl]; exact hf
    · rw [if_neg e]
      refine hst _ _ _ _ hb (h.got j o' t' hj hd' ?_)
      have hji : i ≠ j := by
        rintro rfl
        rw [ho] at hj
        cases hj
        rw [hd] at hd'
        cases hd'
        exact e rfl
      simpa [Array.getElem?_setIfInBounds_ne hji] using hl

theorem flow_any (hok : flowOk ops a0.tmps.size = true) (hst : ∀ i v w w', Below w.heap.size w w' → fact i v w → fact i v w')
    (step : ∀ (i : Nat) (o : Oper) (listed : Array Bool) (a : Act) (w : World), ops[i]? = some o → Flow ops a0 w0 fact listed a w → (∀ e ∈ o.after, Region.binds .any e = true → listed.getD e.on false = true) →
      wpOp P ops Q i (fun a' w' => ∃ v, a' = a.put o.dst v ∧ fact i v w' ∧ Below w.heap.size w w') a w)
    (fin : ∀ listed a w, Flow ops a0 w0 fact listed a w → (∀ i, i < ops.size → listed.getD i false = true) → Q .normal a w) :
    ∀ fuel listed a w, Flow ops a0 w0 fact listed a w → listed.toList.countP (! ·) ≤ fuel → wpAny P .any ops Q fuel listed a w := by
  have hall : ∀ listed a w, Flow ops a0 w0 fact listed a w → Region.ready .any ops listed = [] → ∀ i, i < ops.size → listed.getD i false = true := by
    intro listed a w hF hr i
    induction i using Nat.strongRecOn with
    | _ i ih =>
      intro hi
      have ho : ops[i]? = some ops[i] := Array.getElem?_eq_getElem hi
      obtain ⟨t, hd, ht, hinj, hlow⟩ := flowOk_spec hok ho
      cases hl : listed.getD i false with
      | true => rfl
      | false =>
        exfalso
        have hil : i < listed.size := by rw [hF.lsz]; exact hi
        have : i ∈ Region.ready .any ops listed := mem_ready.2 ⟨by simp [hil] at hl ⊢; exact hl, _, ho, fun e he _ => ih e.on (hlow e he) (Nat.lt_trans (hlow e he) hi)⟩
        rw [hr] at this
        cases this
  intro fuel
  induction fuel with
  | zero =>
    intro listed a w hF hc
    have hr : Region.ready .any ops listed = [] := by
      apply List.eq_nil_iff_forall_not_mem.2
      intro j hj
      obtain ⟨h1, o, ho, _⟩ := mem_ready.1 hj
      have hjs : j < listed.size := by rw [hF.lsz]; exact (Array.getElem?_eq_some_iff.1 ho).1
      have h0 : listed.toList.countP (! ·) = 0 := by omega
      rw [List.countP_eq_zero] at h0
      have := h0 listed[j] (by simp)
      simp [hjs] at h1
      simp [h1] at this
    exact ⟨hr, fin _ _ _ hF (hall _ _ _ hF hr)⟩
  | succ fuel ih =>
    intro listed a w hF hc
    refine ⟨fun hr => fin _ _ _ hF (hall _ _ _ hF hr), fun i hi => ?_⟩
    obtain ⟨h1, o, ho, h2⟩ := mem_ready.1 hi
    refine wpOp_mono ?_ (step i o listed a w ho hF h2)
    rintro a' w' ⟨v, rfl, hf, hb⟩
    refine ih _ _ _ (hF.put hok hst ho hf hb) ?_
    have his : i < listed.size := by rw [hF.lsz]; exact (Array.getElem?_eq_some_iff.1 ho).1
    simp [his] at h1
    have hp : 0 < listed.toList.countP (! ·) := by
      rw [List.countP_pos_iff]
      exact ⟨listed[i], by simp, by simp [h1]⟩
    have hs : i < listed.toList.length := by simpa using his
    have e1 : listed.toList[i] = false := by simpa using h1
    rw [Array.toList_setIfInBounds, List.countP_set hs, e1]
    simp only [Bool.not_false, Bool.not_true, if_true, Bool.false_eq_true, if_false]
    omega

/-- **The region, whatever its order.** -/
theorem flow_region {id : Nat} (hm : P.follows .mixedOrders = true) (hok : flowOk ops a0.tmps.size = true) (hst : ∀ i v w w', Below w.heap.size w w' → fact i v w → fact i v w')
    (step : ∀ (i : Nat) (o : Oper) (listed : Array Bool) (a : Act) (w : World), ops[i]? = some o → Flow ops a0 w0 fact listed a w → (∀ e ∈ o.after, Region.binds .any e = true → listed.getD e.on false = true) →
      wpOp P ops Q i (fun a' w' => ∃ v, a' = a.put o.dst v ∧ fact i v w' ∧ Below w.heap.size w w') a w)
    (fin : ∀ listed a w, Flow ops a0 w0 fact listed a w → (∀ i, i < ops.size → listed.getD i false = true) → Q .normal a w) :
    (Code.region id ops true).wp P Q a0 w0 := by
  refine wp_region_any hm (flow_any hok hst step fin _ _ _ _ ⟨rfl, rfl, by simp, fun _ _ => rfl, fun i o t ho _ hl => ?_, (Below.refl _ _).drew⟩ ?_)
  · by_cases hi : i < ops.size <;> simp [hi] at hl
  · have := List.countP_le_length (p := (! ·)) (l := (Array.replicate ops.size false).toList)
    simpa using this

/-- An operation that yields. -/
theorem op_value {i : Nat} {o : Oper} (ho : ops[i]? = some o) (hg : o.guard = none) {a : Act} {w w' : World} {v : Value} {K : Act → World → Prop} (hrun : (execOp a.eval o).run P w = .ok (.value v) w')
    (h : K (a.put o.dst v) w') : wpOp P ops Q i K a w := by
  unfold wpOp
  rw [ho]
  simp only [Region.wanted, hg, if_true]
  left
  unfold Oper.wp
  rw [hrun]
  exact h
/-- A call of a Go function. -/
theorem op_call {i : Nat} {o : Oper} (ho : ops[i]? = some o) {a : Act} {w : World} {f : FuncId} {args : Array Value} {K : Act → World → Prop}
    (hg : Region.wanted o (yielded ops a.tmps) = true) (hrun : (execOp a.eval o).run P w = .ok (.enter f args) w)
    (h : Calls P f args w fun e w' => ∃ v, e = .returned v ∧ K (a.put o.dst v) w') : wpOp P ops Q i K a w := by
  unfold wpOp
  rw [ho]
  simp only [hg, if_true]
  left
  unfold Oper.wp
  rw [hrun]
  refine h.mono ?_
  rintro e w' ⟨v, rfl, hK⟩
  exact hK
theorem not_dst {t : Nat} (h : ops.all (fun o => o.dst != some t) = true) : ∀ (i : Nat) (o : Oper), ops[i]? = some o → o.dst ≠ some t := fun i o ho => by
  have := Array.all_eq_true_iff_forall_mem.1 h o (Array.mem_of_getElem? ho)
  simpa using this
/-- A guard that is met. -/
theorem wanted_true {o oj : Oper} {j t : Nat} {b : Bool} (hg : o.guard = some (j, b)) (hj : ops[j]? = some oj) (hd : oj.dst = some t) {a : Act} (h : a.tmps.getD t undef = .bool b) : Region.wanted o (yielded ops a.tmps) = true := by
  have ht : a.tmps[t]? = some (.bool b) := by
    cases hx : a.tmps[t]? with
    | none => simp [hx, undef] at h
    | some u => simp [hx] at h; rw [h]
  simp [Region.wanted, hg, yielded, hj, hd, ht]
theorem get_opt {a : Act} {t : Nat} {v : Value} (h : a.tmps.getD t undef = v) : a.tmps[t]?.getD undef = v := by rw [← h]; simp
end
end Go.Proofs.Ytlmecbclnhkmbaa
