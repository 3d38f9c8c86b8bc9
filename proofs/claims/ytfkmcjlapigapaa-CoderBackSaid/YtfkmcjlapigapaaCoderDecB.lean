/- lapidaryref06: Decode. -/
import Derived.Test.YtfkmcjlapigapaaCoderDec
namespace Go.Proofs.Ytfkmcjlapigapaa
open Go.RowKit

theorem cnts_pos {c : List Nat} (h : Cnts c) : 0 < c.sum := by
  have h4 := h.some_
  have h5 := h.pos (c[0]'h4) (List.getElem_mem h4)
  have h6 := sum_snoc5 (i := 0) h4
  have h7 := sum_take5 c (0 + 1)
  omega
theorem whole_pos {C : List (List Nat)} (hC : ∀ c ∈ C, Cnts c) (k : Int) : 0 < wholeC C k ↔ -16 ≤ k ∧ k < (C.length : Int) := by
  unfold wholeC
  by_cases h1 : -16 ≤ k ∧ k < 0
  · rw [if_pos h1]
    have := Nat.two_pow_pos (-k).toNat
    constructor
    · intro _; omega
    · intro _; exact this
  · rw [if_neg h1]
    by_cases h2 : 0 ≤ k ∧ k < (C.length : Int)
    · rw [if_pos h2]
      have hl : k.toNat < C.length := by omega
      have hc := cnts_pos (hC _ (List.getElem_mem hl))
      rw [List.getD_eq_getElem?_getD, List.getElem?_eq_getElem hl]
      constructor
      · intro _; omega
      · intro _; exact hc
    · rw [if_neg h2]
      constructor
      · intro h; omega
      · intro h; omega
theorem find_some {c : List Nat} {v : Nat} (hv : v < c.sum) : ∃ s, s < c.length ∧ findN c (v : Int) = (s, 0) := by
  have key : ∀ n, n ≤ c.length → v < (c.take n).sum → ∃ s, s < n ∧ (c.take s).sum ≤ v ∧ v < (c.take (s + 1)).sum := by
    intro n
    induction n with
    | zero => intro _ h; simp at h
    | succ n ih =>
      intro hn h
      by_cases h2 : v < (c.take n).sum
      · obtain ⟨s, h3, h4⟩ := ih (by omega) h2
        exact ⟨s, by omega, h4⟩
      · exact ⟨n, by omega, by omega, h⟩
  obtain ⟨s, h1, h2, h3⟩ := key c.length (Nat.le_refl _) (by rw [List.take_of_length_le (Nat.le_refl _)]; exact hv)
  exact ⟨s, h1, find_is h1 (by omega) (by omega)⟩
/-- What is found is a symbol. -/
theorem sym_valid {t : Cdr} (ht : COk t) {k : Int} (hk : 0 < wholeC t.C k) (d : Nat) : ∃ u, stepC t (symC t k d) = some u := by
  have hn : (shareC t.C (symC t k d)).2 ≠ 0 := by
    obtain ⟨h1, h2⟩ := (whole_pos ht.cnt k).1 hk
    by_cases h0 : k < 0
    · obtain ⟨n, rfl⟩ : ∃ n : Nat, k = -(n : Int) := ⟨(-k).toNat, by omega⟩
      have hw := whole_neg (C := t.C) (n := n) (by omega) (by omega)
      unfold symC
      rw [if_pos h0, share_plain (by omega) (by omega), if_pos]
      · simp
      · rw [hw] at hk ⊢
        have h5 := Nat.min_le_right (d / (t.R / 2 ^ n)) (2 ^ n - 1)
        generalize min (d / (t.R / 2 ^ n)) (2 ^ n - 1) = mm at *
        generalize 2 ^ n = pp at *
        constructor
        · exact Int.natCast_nonneg _
        · omega
    · obtain ⟨n, rfl⟩ := Int.eq_ofNat_of_zero_le (show 0 ≤ k by omega)
      have hl : n < t.C.length := by omega
      have hw := whole_at hl
      have hc := ht.cnt _ (List.getElem_mem hl)
      unfold symC
      rw [if_neg h0, Int.toNat_natCast, List.getD_eq_getElem?_getD, List.getElem?_eq_getElem hl, Option.getD_some]
      obtain ⟨s, h3, h4⟩ := find_some (c := t.C[n]) (v := min (d / (t.R / wholeC t.C (n : Int))) (wholeC t.C (n : Int) - 1)) (by rw [hw] at hk ⊢; have := Nat.min_le_right (d / (t.R / t.C[n].sum)) (t.C[n].sum - 1); omega)
      rw [h4, share_at hl]
      simp only
      rw [share_in h3, if_pos rfl]
      have := hc.pos _ (List.getElem_mem h3)
      simp only
      omega
  unfold stepC
  rw [if_neg hn]
  exact ⟨_, rfl⟩
theorem min_same {R W D y : Nat} (hW : 0 < W) (hR : W ≤ R) (h : y = D ∨ R ≤ D ∧ y = R) : min (y / (R / W)) (W - 1) = min (D / (R / W)) (W - 1) := by
  rcases h with rfl | ⟨h1, rfl⟩
  · rfl
  · have hq : 0 < y / W := Nat.div_pos hR hW
    have h2 : W ≤ y / (y / W) := by
      rw [Nat.le_div_iff_mul_le hq, Nat.mul_comm]
      exact Nat.div_mul_le_self y W
    have h3 : y / (y / W) ≤ D / (y / W) := Nat.div_le_div_right h1
    omega
/-- What Decode tells. -/
def decAll (sizes ks : List Int) (bs : List Nat) : List Cod × Nat := if okS sizes = true ∧ ∀ k ∈ ks, -16 ≤ k ∧ k < (sizes.length : Int) then (if 65536 < ks.length then ([], 3) else decodeC (beginC sizes) ks bs) else ([], 2)
def Deced (w : World) (r : List Cod × Nat) (e : Ending) (w' : World) : Prop := ∃ A c, e = .returned (.tuple #[.slice A r.1.length c, .int .i64 (r.2 : Int)]) ∧ HasK 2 w' A r.1.length c (codCells r.1) ∧ Below w.heap.size w w'
theorem rdec_go {bs : List Nat} {t u : Cdr} {k : Int} {ks : List Int} (h1 : t.D ≤ bs.length) (h2 : t.N ≤ valC (bs.take t.D)) (hu : stepC t (symC t k (valC (bs.take t.D) - t.N)) = some u) : rdecC bs t (k :: ks) = (rdecC bs u ks).map fun r => (symC t k (valC (bs.take t.D) - t.N) :: r.1, r.2) := by
  rw [rdecC, if_neg (by omega), hu]; rfl
theorem rdec_stop {bs : List Nat} {t : Cdr} {k : Int} {ks : List Int} (h : bs.length < t.D ∨ valC (bs.take t.D) < t.N) : rdecC bs t (k :: ks) = none := by
  rw [rdecC, if_pos h]
/-- A text's bytes. -/
def strB (bs : List Nat) : ByteArray := (bs.map fun (x : Nat) => (x : Int)).foldl (fun r n => r.push (UInt8.ofNat n.toNat)) ByteArray.empty
theorem strB_list (bs : List Nat) : ∀ r : ByteArray, ((bs.map fun (x : Nat) => (x : Int)).foldl (fun r n => r.push (UInt8.ofNat n.toNat)) r).data.toList = r.data.toList ++ bs.map UInt8.ofNat := by
  induction bs with
  | nil => intro r; simp
  | cons x bs ih => intro r; rw [List.map_cons, List.foldl_cons, ih]; simp
theorem strB_same {a b : List Nat} (ha : ∀ x ∈ a, x < 256) (hb : ∀ x ∈ b, x < 256) (h : strB a = strB b) : a = b := by
  have h1 := strB_list a ByteArray.empty
  have h2 := strB_list b ByteArray.empty
  have h3 : (strB a).data.toList = (strB b).data.toList := by rw [h]
  unfold strB at h3
  rw [h1, h2] at h3
  have h4 : a.map UInt8.ofNat = b.map UInt8.ofNat := List.append_cancel_left h3
  have key : ∀ (a b : List Nat), (∀ x ∈ a, x < 256) → (∀ x ∈ b, x < 256) → a.map UInt8.ofNat = b.map UInt8.ofNat → a = b := by
    intro a
    induction a with
    | nil => intro b _ _ h; cases b with | nil => rfl | cons y b => simp at h
    | cons x a ih =>
      intro b ha hb h
      cases b with
      | nil => simp at h
      | cons y b =>
        simp only [List.map_cons, List.cons.injEq] at h
        have h1 := ha x (List.mem_cons_self ..)
        have h2 := hb y (List.mem_cons_self ..)
        have h3 : x = y := by
          have := congrArg UInt8.toNat h.1
          simp only [UInt8.toNat_ofNat'] at this
          omega
        rw [h3, ih b (fun z hz => ha z (List.mem_cons_of_mem _ hz)) (fun z hz => hb z (List.mem_cons_of_mem _ hz)) h.2]
  exact key a b ha hb h4
theorem str_any {W : World} {A : Option Addr} {n c : Nat} {bs : List Nat} (h : Has W A n c (u8s bs)) : (convert 25 9 (.slice A n c)).run Try.prog W = .ok (.string (strB bs)) W := by
  have hl := h.len
  rw [run_convert_bytes_string W _ _ _ A n c Try.underlying25 Try.underlying5 Try.underlying9]
  cases A with
  | none =>
    have hn : n = 0 := by
      rcases Nat.eq_zero_or_pos n with h0 | h0
      · exact h0
      · obtain ⟨b, off, hA, _⟩ := h.spot h0; cases hA
    subst hn
    have hb : bs = [] := List.eq_nil_of_length_eq_zero (by rw [u8s_len] at hl; exact hl)
    subst hb
    rfl
  | some a =>
    refine run_bytesToString W a n c (bs.map fun (x : Nat) => (x : Int)) ?_
    have h1 := run_loadCells_list (P := Try.prog) W a (u8s bs) (fun j v hv => by
      have hj : j < (u8s bs).length := by
        rcases Nat.lt_or_ge j (u8s bs).length with hj | hj
        · exact hj
        · rw [List.getElem?_eq_none hj] at hv; cases hv
      obtain ⟨b, off, hA, _, hc⟩ := h.spot (by omega)
      cases hA
      have e : (⟨b, off, Option.none⟩ : Addr).add j = ⟨b, off + j, Option.none⟩ := by
        unfold Addr.add
        by_cases hj : j = 0
        · subst hj; simp
        · simp [hj]
      rw [e]; exact hc j v hv)
    rw [hl] at h1
    rw [h1]
    simp [u8s]

set_option maxRecDepth 100000 in
set_option maxHeartbeats 1000000 in
theorem ref6Dec_bad (A : Option Addr) (n c : Nat) (sizes : List Int) (M : Option Addr) (m d : Nat) (B : Option Addr) (nb cb : Nat) (w : World) (h : Has w A n c (intVs sizes)) (hn : n ≤ 1000) (hm : m ≤ 10000) (ho : okS sizes = false) :
    Calls Try.prog 16 #[.slice A n c, .slice M m d, .slice B nb cb] w (Deced w ([], 2)) := by
  have HB := Lib.hid (ref6Begun_any A n c sizes w h hn)
  rw [ho] at HB
  clear ho h
  go_enter Try.func16, Try.ntmps16
  go_wp2_with fail
  refine HB.out.mono ?_
  rintro e w1 ⟨v, t', rfl, htr, _, hb1⟩
  have HB1 := Lib.hid hb1
  obtain ⟨AC, cC, AN, cN, vs, rfl, _⟩ := htr
  clear hb1 HB
  go_wp2
  go_loopg [9, 10] m (fun g s9 s10 wx => ∃ i : Nat, i + g = m ∧ s10 = .int .i64 i ∧ s9 = .bool false ∧ Hid (Below w.heap.size w wx))
  case atStart => exact ⟨0, by omega, rfl, rfl, new_alloc HB1.out _⟩
  case round =>
    obtain ⟨i, hig, rfl, rfl, HBe⟩ := hrel
    by_cases hi : i < m
    · have ti : decide ((i : Int) < (m : Int)) = true := by simp; omega
      go_wp2
      go_quiet (fail)
      go_wp2
      go_roundg (gk - 1)
      case measure => omega
      case rel => exact ⟨i + 1, by omega, by go_num, rfl, new_call HBe.out (quiet_below _ _)⟩
    · have ti : decide ((i : Int) < (m : Int)) = false := by simp; omega
      go_wp2
      go_ret2
      exact ⟨none, 0, rfl, HasK.none _ _ _ _ fun _ => rfl, HBe.out⟩
/-- append(own, other...) of structs, with all that is known of it. -/
theorem wpList_joinGK {k : Nat} {P : Program} {w : World} {ops : Array Oper} {rest : List Oper} {o : Oper} {a : Act} {Q : Exit → Act → World → Prop} (hgd : o.guard = Option.none) (s x : Operand) (t : TypeId)
    (ho : o.op = .call { callee := .builtin .append, args := #[s, x], argTypes := #[t, t] }) {e : TypeId} {bytes : Nat} (E : ElemK P t e k bytes) (hk : 0 < k)
    (base : Nat) (v : Value) (n : Nat) (xs : List Value) (hs : a.eval s = v) (hown : OwnK k w base e v n xs) (A : Option Addr) (m c : Nat) (news : List Value) (hx : a.eval x = .slice A m c) (hh : HasK k w A m c news)
    (h1 : ∀ u ∈ news, u.oneCell' = true) (hsz : n + m ≤ 1099511627776) (hby : bytes ≤ 64) (hbase : base ≤ w.heap.size)
    (h : ∀ v' w', OwnK k w' base e v' (n + m) (xs ++ news) → w.grownBy w' v.ownBlock → (∀ g, v'.ownBlock = some g → v.ownBlock = some g ∨ w.heap.size ≤ g) → wpList P ops Q rest (a.put o.dst v') w') : wpList P ops Q (o :: rest) a w := by
  refine wpList_plain hgd fun K hK => ?_
  obtain ⟨v', w', hrun, h2, h3, h4⟩ := run_joinK (P := P) w t o.type E hk base v n xs hown A m c news hh h1 hsz hby hbase
  have h5 := run_where (P := P) w t o.type E hk base v n xs hown A m c news hh h1 hsz hby hbase hrun
  unfold Oper.wp execOp
  simp only [ho, resolve, invoke, builtin, Sem.run_bind, Sem.run_pure, Result.andThen_ok, List.map_toArray, List.map_cons, List.map_nil, hs, hx, hrun]
  exact hK _ _ (h v' w' h2 h4 h5)
end Go.Proofs.Ytfkmcjlapigapaa
