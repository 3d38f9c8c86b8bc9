/- Layer 6 in plain lists: what the laws ask. -/
import Derived.Test.YtfkmcjlapigapaaCoderDecC
namespace Go.Proofs.Ytfkmcjlapigapaa
open Go.RowKit

theorem enc_is {sizes : List Int} {l : List Cod} (ho : okS sizes = true) (hl : l.length ≤ 65536) : encC sizes l = match bytesC (beginC sizes) l with | some b => (b, 0) | none => ([], 2) := by
  unfold encC bytesC
  rw [if_neg (by rw [ho]; decide)]
  cases runC (beginC sizes) l with
  | none => rfl
  | some u => simp only [Option.map_some]; rw [if_neg (by omega)]
theorem enc_ok {sizes : List Int} {l : List Cod} {b : List Nat} (h : encC sizes l = (b, 0)) : okS sizes = true ∧ l.length ≤ 65536 ∧ bytesC (beginC sizes) l = some b := by
  cases ho : okS sizes with
  | false => unfold encC at h; rw [if_pos ho] at h; simp at h
  | true =>
    unfold encC at h
    rw [if_neg (by rw [ho]; decide)] at h
    unfold bytesC
    cases hr : runC (beginC sizes) l with
    | none => rw [hr] at h; simp at h
    | some u =>
      rw [hr] at h
      simp only at h
      by_cases hl : 65536 < l.length
      · rw [if_pos hl] at h; simp at h
      · rw [if_neg hl] at h
        simp only [Prod.mk.injEq, and_true] at h
        exact ⟨rfl, by omega, by simp [h]⟩
theorem begin_is {sizes : List Int} (ho : okS sizes = true) : COk (beginC sizes) := begin_ok (of_decide_eq_true ho).1
theorem run_models (l : List Cod) : ∀ {t u : Cdr}, COk t → runC t l = some u → ∀ x ∈ l, -16 ≤ x.1 ∧ x.1 < (t.C.length : Int) := by
  induction l with
  | nil => intro t u _ _ x hx; cases hx
  | cons y l ih =>
    intro t u ht h x hx
    cases hs : stepC t y with
    | none => rw [runC, hs] at h; cases h
    | some v =>
      rw [runC, hs] at h
      have h : runC v l = some u := h
      rcases List.mem_cons.1 hx with rfl | hx
      · have hn : (shareC t.C x).2 ≠ 0 := fun h0 => by unfold stepC at hs; rw [if_pos h0] at hs; cases hs
        have hw : 0 < wholeC t.C x.1 := by
          rcases Nat.eq_zero_or_pos (wholeC t.C x.1) with h0 | h0
          · rw [share_none ht.cnt h0] at hn; exact absurd rfl hn
          · exact h0
        exact (whole_pos ht.cnt x.1).1 hw
      · have := ih (stepC_ok ht hs) h x hx
        rw [(step_shape ht hs).2] at this
        exact this
theorem dec_is {sizes : List Int} {l : List Cod} {b : List Nat} (h : encC sizes l = (b, 0)) (d : List Nat) : decAll sizes (l.map (·.1)) d = decodeC (beginC sizes) (l.map (·.1)) d := by
  obtain ⟨ho, hl, hb⟩ := enc_ok h
  unfold decAll
  rw [if_pos, if_neg (by simp; omega)]
  refine ⟨ho, fun k hk => ?_⟩
  obtain ⟨x, hx, rfl⟩ := List.mem_map.1 hk
  unfold bytesC at hb
  cases hr : runC (beginC sizes) l with
  | none => rw [hr] at hb; cases hb
  | some u =>
    have := run_models l (begin_is ho) hr x hx
    simpa [beginC] using this
theorem dec_hit6 {sizes : List Int} {l : List Cod} {b : List Nat} (h : encC sizes l = (b, 0)) : decAll sizes (l.map (·.1)) b = (l, 0) := by
  rw [dec_is h, decode_hit (begin_is (enc_ok h).1) (enc_ok h).2.2]
theorem dec_cut6 {sizes : List Int} {l : List Cod} {b : List Nat} (h : encC sizes l = (b, 0)) {p : Nat} (hp : p < b.length) : decAll sizes (l.map (·.1)) (b.take p) = ([], 11) := by
  rw [dec_is h, decode_cut (begin_is (enc_ok h).1) (enc_ok h).2.2 hp]
theorem dec_more6 {sizes : List Int} {l : List Cod} {b : List Nat} (h : encC sizes l = (b, 0)) {y : Nat} (hy : y < 256) : decAll sizes (l.map (·.1)) (b ++ [y]) = ([], 11) := by
  rw [dec_is h, decode_more (begin_is (enc_ok h).1) (enc_ok h).2.2 hy]
theorem dec_other6 {sizes : List Int} {l : List Cod} {b d : List Nat} (h : encC sizes l = (b, 0)) (hd : d ≠ b) : decAll sizes (l.map (·.1)) d ≠ (l, 0) := by
  rw [dec_is h]; exact decode_other (enc_ok h).2.2 hd
theorem enc_one {sizes : List Int} {l r : List Cod} {b : List Nat} (h1 : encC sizes l = (b, 0)) (h2 : encC sizes r = (b, 0)) (hm : l.map (·.1) = r.map (·.1)) : l = r :=
  one_row (begin_is (enc_ok h1).1) (enc_ok h1).2.2 (enc_ok h2).2.2 hm
theorem enc_long {sizes : List Int} {l : List Cod} {b : List Nat} (h : encC sizes l = (b, 0)) : 5 ≤ b.length ∧ b.length ≤ 5 + 3 * l.length ∧ b.headD 0 = 0 := by
  obtain ⟨ho, hl, hb⟩ := enc_ok h
  unfold bytesC at hb
  cases hr : runC (beginC sizes) l with
  | none => rw [hr] at hb; cases hb
  | some u =>
    rw [hr] at hb
    simp only [Option.map_some, Option.some.injEq] at hb
    have hk := (run_lies l (begin_is ho) hr).1
    have h5 := hk.dig
    have hz := head_zero hk
    rw [← hb, digC_len]
    refine ⟨h5, ?_, hz⟩
    have key : ∀ (l : List Cod) (t u : Cdr), COk t → runC t l = some u → u.D ≤ t.D + 3 * l.length := by
      intro l
      induction l with
      | nil => intro t u _ h; cases h; simp
      | cons y l ih =>
        intro t u ht h
        cases hs : stepC t y with
        | none => rw [runC, hs] at h; cases h
        | some v =>
          rw [runC, hs] at h
          have := ih v u (stepC_ok ht hs) h
          have := (step_shape ht hs).1
          simp only [List.length_cons]
          omega
    have := key l _ _ (begin_is ho) hr
    simp only [beginC] at this
    omega
/-- Plain symbols are always some. -/
theorem run_plain {k : Nat} (h1 : 1 ≤ k) (h2 : k ≤ 16) (l : List Cod) : ∀ {t : Cdr}, COk t → (∀ x ∈ l, x.1 = -(k : Int) ∧ 0 ≤ x.2 ∧ x.2 < ((2 ^ k : Nat) : Int)) → ∃ u, runC t l = some u := by
  induction l with
  | nil => intro t _ _; exact ⟨t, rfl⟩
  | cons y l ih =>
    intro t ht hl
    obtain ⟨y1, y2, y3⟩ := hl y (List.mem_cons_self ..)
    obtain ⟨a, b⟩ := y
    simp only at y1 y2 y3
    subst y1
    have hn : (shareC t.C (-(k : Int), b)).2 ≠ 0 := by rw [share_plain h1 h2, if_pos ⟨y2, y3⟩]; simp
    have hs : ∃ v, stepC t (-(k : Int), b) = some v := by unfold stepC; rw [if_neg hn]; exact ⟨_, rfl⟩
    obtain ⟨v, hv⟩ := hs
    obtain ⟨u, hu⟩ := ih (stepC_ok ht hv) fun x hx => hl x (List.mem_cons_of_mem _ hx)
    exact ⟨u, by rw [runC, hv]; exact hu⟩
theorem enc_plain {k : Nat} (h1 : 1 ≤ k) (h2 : k ≤ 16) {l : List Cod} (hl : l.length ≤ 65536) (h : ∀ x ∈ l, x.1 = -(k : Int) ∧ 0 ≤ x.2 ∧ x.2 < ((2 ^ k : Nat) : Int)) : ∃ b, encC [] l = (b, 0) := by
  have ho : okS [] = true := by decide
  obtain ⟨u, hu⟩ := run_plain h1 h2 l (begin_is ho) h
  rw [enc_is ho hl]
  unfold bytesC
  rw [hu]
  exact ⟨_, rfl⟩
/-- Bytes are always symbols of 256. -/
theorem run_codes (bs : List Nat) : ∀ {t : Cdr}, COk t → (∃ c, t.C = [c] ∧ c.length = 256) → (∀ x ∈ bs, x < 256) → ∃ u, runC t (codesC bs) = some u := by
  induction bs with
  | nil => intro t _ _ _; exact ⟨t, rfl⟩
  | cons y bs ih =>
    intro t ht hC hb
    obtain ⟨c, hc, hcl⟩ := hC
    have hy := hb y (List.mem_cons_self ..)
    have hcn := ht.cnt c (by rw [hc]; exact List.mem_singleton.2 rfl)
    have hl : 0 < t.C.length := by rw [hc]; simp
    have he : t.C[0] = c := by simp [hc]
    have hn : (shareC t.C ((0 : Int), (y : Int))).2 ≠ 0 := by
      have := share_at (C := t.C) (k := 0) (y := (y : Int)) hl
      rw [he] at this
      rw [show ((0 : Int), (y : Int)) = (((0 : Nat) : Int), (y : Int)) from rfl, this, share_in (by omega), if_pos rfl]
      have := hcn.pos _ (List.getElem_mem (show y < c.length by omega))
      simp only
      omega
    have hs : ∃ v, stepC t ((0 : Int), (y : Int)) = some v := by unfold stepC; rw [if_neg hn]; exact ⟨_, rfl⟩
    obtain ⟨v, hv⟩ := hs
    have hvC : ∃ c', v.C = [c'] ∧ c'.length = 256 := by
      unfold stepC at hv
      rw [if_neg hn] at hv
      cases hv
      exact ⟨countN c y, by simp [seenC, hc], by rw [countN_len]; exact hcl⟩
    obtain ⟨u, hu⟩ := ih (stepC_ok ht hv) hvC fun x hx => hb x (List.mem_cons_of_mem _ hx)
    exact ⟨u, by rw [codesC, List.map_cons, runC, hv]; exact hu⟩
theorem enc_codes {bs : List Nat} (hl : bs.length ≤ 65536) (h : ∀ x ∈ bs, x < 256) : ∃ b, encC [256] (codesC bs) = (b, 0) := by
  have ho : okS [256] = true := by decide
  obtain ⟨u, hu⟩ := run_codes bs (begin_is ho) ⟨List.replicate 256 1, rfl, List.length_replicate⟩ h
  rw [enc_is ho (by simp [codesC]; exact hl)]
  unfold bytesC
  rw [hu]
  exact ⟨_, rfl⟩
theorem codes_models (bs : List Nat) : (codesC bs).map (·.1) = List.replicate bs.length 0 := by
  induction bs with
  | nil => rfl
  | cons y bs ih => simp only [codesC, List.map_cons, List.length_cons, List.replicate_succ] at ih ⊢; rw [ih]
theorem codes_same {a b : List Nat} (h : codesC a = codesC b) : a = b := by
  have := congrArg (List.map fun x : Cod => x.2.toNat) h
  simpa [codesC, Function.comp_def] using this
/-- What is packed is unpacked. -/
theorem unp_hit {bs b : List Nat} (h : encC [256] (codesC bs) = (b, 0)) : unpC (bs.length : Int) b = (bs, 0) := by
  have hl := (enc_ok h).2.1
  have hd := dec_hit6 h
  rw [codes_models] at hd
  unfold unpC
  rw [if_neg (by omega), if_neg (by simp [codesC] at hl; omega), Int.toNat_natCast, hd]
  simp [codesC, Function.comp_def]
set_option maxRecDepth 100000 in
theorem sure_big {R X K : Nat} (h : 16777216 + 8192 * (K + 1) ≤ R) (hx : R < X + 8192) : 16777216 ≤ X := by omega
set_option maxRecDepth 100000 in
theorem sure_rest {R X K : Nat} (h : 16777216 + 8192 * (K + 1) ≤ R) (hx : R < X + 8192) : 16777216 + 8192 * K ≤ X := by omega
set_option maxRecDepth 100000 in
/-- The only symbol of its model takes next to nothing. -/
theorem run_sure (K : Nat) : ∀ {t : Cdr}, COk t → (∃ c, t.C = [c] ∧ c.length = 1) → 16777216 + 8192 * K ≤ t.R → ∃ u, runC t (List.replicate K ((0 : Int), (0 : Int))) = some u ∧ u.D = t.D := by
  induction K with
  | zero => intro t _ _ _; exact ⟨t, rfl, rfl⟩
  | succ K ih =>
    intro t ht hC hR
    obtain ⟨c, hc, hcl⟩ := hC
    have hcn := ht.cnt c (by rw [hc]; exact List.mem_singleton.2 rfl)
    have hl : 0 < t.C.length := by rw [hc]; simp
    have he : t.C[0] = c := by simp [hc]
    have hcs := hcn.sum
    have hcp := cnts_pos hcn
    have hsh : shareC t.C ((0 : Int), (0 : Int)) = (0, c.sum) := by
      have := share_at (C := t.C) (k := 0) (y := ((0 : Nat) : Int)) hl
      rw [he] at this
      rw [show ((0 : Int), (0 : Int)) = (((0 : Nat) : Int), ((0 : Nat) : Int)) from rfl, this, share_in (by omega), if_pos rfl]
      match c, hcl with
      | [x], _ => simp
    have hwh : wholeC t.C (0 : Int) = c.sum := by
      have := whole_at (C := t.C) (k := 0) hl
      rw [he] at this
      exact this
    obtain ⟨v, hv⟩ : ∃ v, stepC t ((0 : Int), (0 : Int)) = some v := by unfold stepC; rw [if_neg (by rw [hsh]; simp only; omega)]; exact ⟨_, rfl⟩
    have hv2 := hv
    unfold stepC at hv2
    rw [if_neg (by rw [hsh]; simp only; omega), hsh] at hv2
    simp only [hwh] at hv2
    have hbig : t.R < t.R / c.sum * c.sum + 8192 := by
      have := Nat.lt_mul_div_succ t.R hcp
      rw [Nat.mul_add, Nat.mul_one, Nat.mul_comm] at this
      omega
    have hge : 16777216 ≤ t.R / c.sum * c.sum := sure_big hR hbig
    have hnd : norm 3 { C := t.C, N := t.N + t.R / c.sum * 0, D := t.D, R := t.R / c.sum * c.sum } = { C := t.C, N := t.N + t.R / c.sum * 0, D := t.D, R := t.R / c.sum * c.sum } := norm_done hge
    rw [hnd] at hv2
    simp only [Option.some.injEq] at hv2
    have hvD : v.D = t.D := (congrArg Cdr.D hv2).symm
    have hvR : v.R = t.R / c.sum * c.sum := (congrArg Cdr.R hv2).symm
    have hvC : ∃ c', v.C = [c'] ∧ c'.length = 1 := ⟨countN c 0, (congrArg Cdr.C hv2).symm.trans (by simp [seenC, hc]), by rw [countN_len]; exact hcl⟩
    obtain ⟨u, hu, hD⟩ := ih (stepC_ok ht hv) hvC (by rw [hvR]; exact sure_rest hR hbig)
    exact ⟨u, by rw [List.replicate_succ, runC, hv]; exact hu, by rw [hD, hvD]⟩
set_option maxRecDepth 100000 in
theorem enc_sure {K : Nat} (h : K ≤ 499) : ∃ b, encC [1] (List.replicate K ((0 : Int), (0 : Int))) = (b, 0) ∧ b.length = 5 := by
  have ho : okS [1] = true := by decide
  obtain ⟨u, hu, hD⟩ := run_sure K (begin_is ho) ⟨[1], rfl, rfl⟩ (by simp only [beginC]; omega)
  rw [enc_is ho (by simp; omega)]
  unfold bytesC
  rw [hu]
  exact ⟨_, rfl, by rw [digC_len, hD]; rfl⟩
theorem rdec_len6 (bs : List Nat) (ks : List Int) {t : Cdr} {r : List Cod × Cdr} (h : rdecC bs t ks = some r) : r.1.length = ks.length := by
  have := (rdec_sound bs ks (l := r.1) (u := r.2) h).2
  rw [← this, List.length_map]
theorem dec_len6 (sizes ks : List Int) (bs : List Nat) : (decAll sizes ks bs).1.length ≤ ks.length := by
  unfold decAll
  split
  · split
    · simp
    · unfold decodeC
      cases h : rdecC bs (beginC sizes) ks with
      | none => simp
      | some r =>
        simp only
        split
        · exact Nat.le_of_eq (rdec_len6 bs ks h)
        · simp
  · simp
theorem run_syms (l : List Cod) : ∀ {t u : Cdr}, COk t → (∃ c, t.C = [c] ∧ c.length = 256) → runC t l = some u → ∀ x ∈ l, x.1 = 0 → 0 ≤ x.2 ∧ x.2 < 256 := by
  induction l with
  | nil => intro t u _ _ _ x hx; cases hx
  | cons y l ih =>
    intro t u ht hC h x hx h0
    obtain ⟨c, hc, hcl⟩ := hC
    cases hs : stepC t y with
    | none => rw [runC, hs] at h; cases h
    | some v =>
      rw [runC, hs] at h
      have h : runC v l = some u := h
      have hn : (shareC t.C y).2 ≠ 0 := fun e => by unfold stepC at hs; rw [if_pos e] at hs; cases hs
      rcases List.mem_cons.1 hx with rfl | hx
      · rcases share_model hn with ⟨_, h1, _⟩ | ⟨hm, h1, h2, h3, _⟩
        · omega
        · refine ⟨h2, ?_⟩
          have e : t.C[x.1.toNat] = c := by simp [h0, hc]
          rw [e, hcl] at h3
          omega
      · have hvC : ∃ c', v.C = [c'] ∧ c'.length = 256 := by
          unfold stepC at hs
          rw [if_neg hn] at hs
          cases hs
          by_cases hy : 0 ≤ y.1
          · rcases share_model hn with ⟨_, h1, _⟩ | ⟨hm, _, _, _, _⟩
            · omega
            · have hy0 : y.1.toNat = 0 := by rw [hc] at hm; simpa using hm
              exact ⟨countN c y.2.toNat, by simp [seenC, hy, hy0, hc], by rw [countN_len]; exact hcl⟩
          · exact ⟨c, by simp [seenC, hy, hc], hcl⟩
        exact ih (stepC_ok ht hs) hvC h x hx h0
/-- What is unpacked, as symbols and as bytes. -/
theorem unp_is {n : Nat} (hn : n ≤ 65536) (b : List Nat) : codesC (unpC (n : Int) b).1 = (decAll [256] (List.replicate n 0) b).1 ∧ (unpC (n : Int) b).2 = (decAll [256] (List.replicate n 0) b).2 ∧ (∀ x ∈ (unpC (n : Int) b).1, x < 256) ∧ (unpC (n : Int) b).1.length ≤ n := by
  have hu : unpC (n : Int) b = ((decAll [256] (List.replicate n 0) b).1.map (fun x => x.2.toNat), (decAll [256] (List.replicate n 0) b).2) := by
    unfold unpC
    rw [if_neg (by omega), if_neg (by omega), Int.toNat_natCast]
  have key : ∀ x ∈ (decAll [256] (List.replicate n 0) b).1, x.1 = 0 ∧ 0 ≤ x.2 ∧ x.2 < 256 := by
    have ho : okS [256] = true := by decide
    have hd : decAll [256] (List.replicate n 0) b = decodeC (beginC [256]) (List.replicate n 0) b := by
      unfold decAll
      rw [if_pos ⟨ho, fun k hk => by rw [List.eq_of_mem_replicate hk]; simp⟩, if_neg (by simp; omega)]
    rw [hd]
    intro x hx
    have h0 : decodeC (beginC [256]) (List.replicate n 0) b = ((decodeC (beginC [256]) (List.replicate n 0) b).1, 0) := by
      unfold decodeC at hx ⊢
      cases hr : rdecC b (beginC [256]) (List.replicate n 0) with
      | none => rw [hr] at hx; simp at hx
      | some r =>
        rw [hr] at hx
        simp only at hx ⊢
        by_cases e : digC r.2.D r.2.N = b
        · rw [if_pos e]
        · rw [if_neg e] at hx; simp at hx
    obtain ⟨h1, h2⟩ := decode_back h0
    unfold bytesC at h1
    cases hr : runC (beginC [256]) (decodeC (beginC [256]) (List.replicate n 0) b).1 with
    | none => rw [hr] at h1; cases h1
    | some u =>
      have hx1 : x.1 = 0 := by
        have : x.1 ∈ (decodeC (beginC [256]) (List.replicate n 0) b).1.map (·.1) := List.mem_map.2 ⟨x, hx, rfl⟩
        rw [h2] at this
        exact List.eq_of_mem_replicate this
      exact ⟨hx1, run_syms _ (begin_is ho) ⟨List.replicate 256 1, rfl, List.length_replicate⟩ hr x hx hx1⟩
  have hlen := dec_len6 [256] (List.replicate n 0) b
  rw [List.length_replicate] at hlen
  rw [hu]
  generalize decAll [256] (List.replicate n 0) b = r at *
  refine ⟨?_, rfl, ?_, by simpa using hlen⟩
  · unfold codesC
    rw [List.map_map]
    conv => rhs; rw [← List.map_id r.1]
    refine List.map_congr_left fun x hx => ?_
    obtain ⟨h1, h2, h3⟩ := key x hx
    obtain ⟨x1, x2⟩ := x
    simp only at h1 h2 h3
    subst h1
    simp only [Function.comp, id]
    rw [Int.toNat_of_nonneg h2]
  · intro y hy
    obtain ⟨x, hx, rfl⟩ := List.mem_map.1 hy
    have := key x hx
    omega
end Go.Proofs.Ytfkmcjlapigapaa
