import Derived.Test.YthjmojglcfmkmaaDoorGrowCodeI
import Derived.WalkMore
import Derived.Test.YthjmojglcfmkmaaDoorMeshCodeH
import Derived.Test.YthjmojglcfmkmaaDoorMakePts
/- The landed grower: a triangle begun, an end, a triangle behind the last gate. -/
namespace Go.Proofs.YthjmojglcfmkmaaDoor
open Go.RowKit

theorem chg3 {F : Nat → Prop} {w w1 w2 : World} (h1 : Chg F w w1) (h2 : Chg F w1 w2) : Chg F w w2 := h1.then_ (D' := F) h2 (fun _ _ e => e)
theorem chg_b {F : Nat → Prop} {w w1 : World} (hb : Below w.heap.size w w1) : Chg F w w1 := Chg.of_below hb
theorem fresh_b {F : Nat → Prop} {w w' : World} (hF : ∀ k, w.heap.size ≤ k → F k) (hb : Below w.heap.size w w') : ∀ k, w'.heap.size ≤ k → F k := fun k hk => hF k (Nat.le_trans hb.size hk)
set_option maxRecDepth 100000 in
set_option maxHeartbeats 1000000 in
theorem growBegin_any (F : Nat → Prop) (g : Nat) (N E : Int) (T : List P3) (P U : List D2) (w : World) (hF : ∀ k, w.heap.size ≤ k → F k) (h : GR w F g N E T P U) (hN : 0 ≤ N ∧ N ≤ 90000) (hT : T.length ≤ 100000000) (hP : P.length ≤ 100000000) (hU : U.length ≤ 100000000) :
    Calls Tryd.prog 29 #[.pointer (some ⟨g, 0, none⟩)] w (GDone F g (N + 1 + 1 + 1) E (T ++ [(N, N + 1, N + 1 + 1)]) (P ++ [(N, N + 1), (N + 1, N + 1 + 1), (N + 1 + 1, N)]) (U ++ [(N, N + 1), (N + 1, N + 1 + 1), (N + 1 + 1, N)]) w) := by
  have HFr := Lib.hid hF
  have HG0 := Lib.hid h
  have HN := Lib.hid hN
  have HT := Lib.hid hT
  have HP := Lib.hid hP
  have HU := Lib.hid hU
  have HI : Hid (AllU [(N, N + 1), (N + 1, N + 1 + 1), (N + 1 + 1, N)]) := fun d hd => by
    simp only [List.mem_cons, List.not_mem_nil, or_false] at hd
    rcases hd with rfl | rfl | rfl
    all_goals exact ⟨wf64 (by simp only; omega) (by simp only; omega), wf64 (by simp only; omega) (by simp only; omega)⟩
  clear hF h hN hT hP hU
  go_enter Tryd.func29, Tryd.ntmps29
  go_wp2_with fail
  refine (growFresh_any F g N E T P U w HG0.out (by have := HN.out; omega)).mono ?_
  rintro e w1 ⟨rfl, hg1, hc1⟩
  have HG1 := Lib.hid hg1
  have HC1 := Lib.hid hc1
  clear hg1 hc1 HG0
  go_wp2_with fail
  refine (growFresh_any F g (N + 1) E T P U w1 HG1.out (by have := HN.out; omega)).mono ?_
  rintro e w2 ⟨rfl, hg2, hc2⟩
  have HG2 := Lib.hid hg2
  have HC2 := Lib.hid (chg3 HC1.out hc2)
  clear hg2 hc2 HG1 HC1
  go_wp2_with fail
  refine (growFresh_any F g (N + 1 + 1) E T P U w2 HG2.out (by have := HN.out; omega)).mono ?_
  rintro e w3 ⟨rfl, hg3, hc3⟩
  have HG3 := Lib.hid hg3
  have HC3 := Lib.hid (chg3 HC2.out hc3)
  clear hg3 hc3 HG2 HC2
  go_wp2_with fail
  refine (growAdd_any F g (N + 1 + 1 + 1) E T P U N (N + 1) (N + 1 + 1) w3 (fresh_chg HFr.out HC3.out) HG3.out HI.out HT.out HU.out).mono ?_
  rintro e w4 ⟨rfl, hg4, hc4⟩
  have HC4 := Lib.hid (chg3 HC3.out hc4)
  have HGe := Lib.hid (hg4.next (new_alloc (Below.refl _ w4) (.cells #[.int .i64 N, .int .i64 (N + 1), .int .i64 (N + 1), .int .i64 (N + 1 + 1), .int .i64 (N + 1 + 1), .int .i64 N] 71)))
  have HNe : Hid (HasK 2 (w4.alloc (.cells #[.int .i64 N, .int .i64 (N + 1), .int .i64 (N + 1), .int .i64 (N + 1 + 1), .int .i64 (N + 1 + 1), .int .i64 N] 71)) (some ⟨w4.heap.size, 0, none⟩) 3 3 (e2Cells [(N, N + 1), (N + 1, N + 1 + 1), (N + 1 + 1, N)])) := HasK.new_at 2 _ #[.int .i64 N, .int .i64 (N + 1), .int .i64 (N + 1), .int .i64 (N + 1 + 1), .int .i64 (N + 1 + 1), .int .i64 N] 71 _ 3 rfl rfl
  have HCe : Hid (Chg F w (w4.alloc (.cells #[.int .i64 N, .int .i64 (N + 1), .int .i64 (N + 1), .int .i64 (N + 1 + 1), .int .i64 (N + 1 + 1), .int .i64 N] 71))) := chg3 HC4.out (chg_b (new_alloc (Below.refl _ w4) _))
  have HLy := Lib.hid (growLay_any F g (N + 1 + 1 + 1) E (T ++ [(N, N + 1, N + 1 + 1)]) P (U ++ [(N, N + 1), (N + 1, N + 1 + 1), (N + 1 + 1, N)]) ⟨w4.heap.size, 0, none⟩ 3 3 _ _ (fresh_chg HFr.out HCe.out) HGe.out HNe.out (by decide) (by decide) HP.out)
  clear hg4 hc4 HG3 HC3
  go_wp2_with fail
  refine HLy.out.mono ?_
  rintro e w5 ⟨rfl, hg5, hc5⟩
  have HG5 := Lib.hid hg5
  have HC5 := Lib.hid (chg3 HCe.out hc5)
  clear hg5 hc5
  go_wp2
  go_end0
  exact ⟨rfl, HG5.out, HC5.out⟩
set_option maxRecDepth 100000 in
set_option maxHeartbeats 1000000 in
theorem growEnd_any (F : Nat → Prop) (g : Nat) (N E : Int) (T : List P3) (l U : List D2) (p q : Int) (w : World) (hF : ∀ k, w.heap.size ≤ k → F k) (h : GR w F g N E T (l ++ [(p, q)]) U) (hd : in64 (p, q)) (hl : l.length ≤ 10000000) (hU : U.length ≤ 100000000) :
    Calls Tryd.prog 30 #[.pointer (some ⟨g, 0, none⟩)] w (GDone F g N E T l (U ++ [(q, p)]) w) := by
  have HFr := Lib.hid hF
  have HG0 := Lib.hid h
  have HU := Lib.hid hU
  have HL := Lib.hid hl
  have HI : Hid (AllU [(q, p)]) := fun d hd2 => by
    rw [List.mem_singleton.1 hd2]
    exact ⟨hd.2, hd.1⟩
  clear hF h hd hl hU
  go_enter Tryd.func30, Tryd.ntmps30
  go_wp2_with fail
  refine (growTake_any F g N E T U l p q w HFr.out HG0.out HL.out).mono ?_
  rintro e w1 ⟨rfl, hg1, hc1⟩
  have HG1 := Lib.hid hg1
  have HC1 := Lib.hid hc1
  clear hg1 hc1 HG0
  go_wp2_with fail
  refine (growBack_any p q w1).mono ?_
  rintro e w2 ⟨rfl, hb2⟩
  have HG2 := Lib.hid (HG1.out.next hb2)
  have HC2 := Lib.hid (chg3 HC1.out (chg_b hb2))
  clear hb2 HG1 HC1
  have HNe : Hid (HasK 2 (w2.alloc (.cells #[.int .i64 q, .int .i64 p] 71)) (some ⟨w2.heap.size, 0, none⟩) 1 1 (e2Cells [(q, p)])) := HasK.new_at 2 _ #[.int .i64 q, .int .i64 p] 71 _ 1 rfl rfl
  have HGe : Hid (GR (w2.alloc (.cells #[.int .i64 q, .int .i64 p] 71)) (cutF F w2.heap.size 1) g N E T l U) := (HG2.out.but 1 (Nat.le_refl _)).next (new_alloc (Below.refl _ _) _)
  have HFe : Hid (∀ k, (w2.alloc (.cells #[.int .i64 q, .int .i64 p] 71)).heap.size ≤ k → cutF F w2.heap.size 1 k) := fun k hk => ⟨fresh_chg HFr.out HC2.out k (by simp at hk; omega), by simp at hk; omega⟩
  have HUs := Lib.hid (growUse_any (cutF F w2.heap.size 1) g N E T l U w2.heap.size 1 1 [(q, p)] _ HFe.out HGe.out HNe.out (fun e => e.2 ⟨Nat.le_refl _, Nat.lt_succ_self _⟩) HI.out (by decide) HU.out)
  clear HG2
  go_wp2_with fail
  refine HUs.out.mono ?_
  rintro e w6 ⟨rfl, hg6, hc6⟩
  have HG6 := Lib.hid (hg6.among (F' := F) fun k _ e => e.1)
  have HC6 : Hid (Chg F w w6) := chg3 (chg3 HC2.out (chg_b (new_alloc (Below.refl _ _) _))) (cutF.wide hc6)
  clear hg6 hc6
  go_wp2
  go_end0
  exact ⟨rfl, HG6.out, HC6.out⟩
set_option maxRecDepth 100000 in
set_option maxHeartbeats 1000000 in
theorem growPass_any (F : Nat → Prop) (g : Nat) (N E : Int) (T : List P3) (l U : List D2) (p q v : Int) (w : World) (hF : ∀ k, w.heap.size ≤ k → F k) (h : GR w F g N E T (l ++ [(p, q)]) U) (hd : in64 (p, q)) (hv : in64 (v, v)) (hl : l.length ≤ 10000000) (hT : T.length ≤ 100000000) (hU : U.length ≤ 100000000) :
    Calls Tryd.prog 31 #[.pointer (some ⟨g, 0, none⟩), .int .i64 v] w (GDone F g N E (T ++ [(q, p, v)]) (l ++ [(p, v), (v, q)]) (U ++ [(q, p), (p, v), (v, q)]) w) := by
  have HFr := Lib.hid hF
  have HG0 := Lib.hid h
  have HU := Lib.hid hU
  have HL := Lib.hid hl
  have HT := Lib.hid hT
  have HI : Hid (AllU [(q, p), (p, v), (v, q)]) := fun d hd2 => by
    simp only [List.mem_cons, List.not_mem_nil, or_false] at hd2
    rcases hd2 with rfl | rfl | rfl
    · exact ⟨hd.2, hd.1⟩
    · exact ⟨hd.1, hv.1⟩
    · exact ⟨hv.1, hd.2⟩
  clear hF h hd hv hl hT hU
  go_enter Tryd.func31, Tryd.ntmps31
  go_wp2_with fail
  refine (growTake_any F g N E T U l p q w HFr.out HG0.out HL.out).mono ?_
  rintro e w1 ⟨rfl, hg1, hc1⟩
  have HG1 := Lib.hid hg1
  have HC1 := Lib.hid hc1
  clear hg1 hc1 HG0
  have HK2 := Lib.hid (Blk.new w1 71 #[.int .i64 p, .int .i64 q])
  have HB2 : Hid (Below w1.heap.size w1 (w1.alloc (.cells #[.int .i64 p, .int .i64 q] 71))) := new_alloc (Below.refl _ w1) _
  have HG2 := Lib.hid (HG1.out.next HB2.out)
  have HC2 := Lib.hid (chg3 HC1.out (chg_b HB2.out))
  have k0 := HK2.out.cell 0
  have k1 := HK2.out.cell 1
  obtain ⟨ez, es⟩ := zero_of_info edgeInfoG
  clear HG1 HC1 HB2 HK2
  go_upto_region 1 with (with_reducible fail)
  generalize (w1.alloc (.cells #[.int .i64 p, .int .i64 q] 71)) = W2 at *
  go_region
  generalize hW : W2.drew = W3
  have HG3 : Hid (GR W3 F g N E T l U) := by show GR _ _ _ _ _ _ _ _; rw [← hW]; exact HG2.out.next (Below.refl _ _).drew
  have HC3 : Hid (Chg F w W3) := by show Chg _ _ _; rw [← hW]; exact chg3 HC2.out (chg_b (Below.refl _ _).drew)
  clear hW HG2 HC2 k0 k1
  go_wp2_with fail
  refine (growAdd_any F g N E T l U q p v W3 (fresh_chg HFr.out HC3.out) HG3.out HI.out HT.out HU.out).mono ?_
  rintro e w4 ⟨rfl, hg4, hc4⟩
  have HC4 := Lib.hid (chg3 HC3.out hc4)
  have HGe := Lib.hid (hg4.next (new_alloc (Below.refl _ w4) (.cells #[.int .i64 p, .int .i64 v, .int .i64 v, .int .i64 q] 71)))
  have HNe : Hid (HasK 2 (w4.alloc (.cells #[.int .i64 p, .int .i64 v, .int .i64 v, .int .i64 q] 71)) (some ⟨w4.heap.size, 0, none⟩) 2 2 (e2Cells [(p, v), (v, q)])) := HasK.new_at 2 _ #[.int .i64 p, .int .i64 v, .int .i64 v, .int .i64 q] 71 _ 2 rfl rfl
  have HCe : Hid (Chg F w (w4.alloc (.cells #[.int .i64 p, .int .i64 v, .int .i64 v, .int .i64 q] 71))) := chg3 HC4.out (chg_b (new_alloc (Below.refl _ w4) _))
  have HLy := Lib.hid (growLay_any F g N E (T ++ [(q, p, v)]) l (U ++ [(q, p), (p, v), (v, q)]) ⟨w4.heap.size, 0, none⟩ 2 2 _ _ (fresh_chg HFr.out HCe.out) HGe.out HNe.out (by decide) (by decide) (by have := HL.out; omega))
  clear hg4 hc4 HG3 HC3
  go_wp2_with fail
  refine HLy.out.mono ?_
  rintro e w5 ⟨rfl, hg5, hc5⟩
  have HG5 := Lib.hid hg5
  have HC5 := Lib.hid (chg3 HCe.out hc5)
  clear hg5 hc5
  go_wp2
  go_end0
  exact ⟨rfl, HG5.out, HC5.out⟩
end Go.Proofs.YthjmojglcfmkmaaDoor

/- The landed grower and the chapter's: what is used is triangles' edges and borders. Mathematics only. -/
namespace Go.Proofs.YthjmojglcfmkmaaDoor

structure Lk (s : GS) (U : List D2) : Prop where
  mem : ∀ d, d ∈ U ↔ d ∈ darts s.T ∨ d ∈ s.B
  len : U.length = 3 * s.T.length + s.B.length
  ok : GOk s
  lenP : s.P.length ≤ 3 * s.T.length
theorem or_mid (a b c : Prop) : ((a ∨ b) ∨ c) ↔ ((a ∨ c) ∨ b) := ⟨fun h => h.elim (fun h => h.elim (fun h => Or.inl (Or.inl h)) Or.inr) (fun h => Or.inl (Or.inr h)), fun h => h.elim (fun h => h.elim (fun h => Or.inl (Or.inl h)) Or.inr) (fun h => Or.inl (Or.inr h))⟩
theorem or_two {a b c d : Prop} : ((a ∨ c) ∨ (b ∨ d)) ↔ (a ∨ b ∨ c ∨ d) :=
  ⟨fun h => h.elim (fun h => h.elim Or.inl (fun h => Or.inr (Or.inr (Or.inl h)))) (fun h => h.elim (fun h => Or.inr (Or.inl h)) (fun h => Or.inr (Or.inr (Or.inr h)))), fun h => h.elim (fun h => Or.inl (Or.inl h)) fun h => h.elim (fun h => Or.inr (Or.inl h)) fun h => h.elim (fun h => Or.inl (Or.inr h)) fun h => Or.inr (Or.inr h)⟩
theorem dropWhile_same {α : Type} {p q : α → Bool} : ∀ {l : List α}, (∀ x ∈ l, p x = q x) → l.dropWhile p = l.dropWhile q := by
  intro l
  induction l with
  | nil => intro _; rfl
  | cons x l ih =>
    intro h
    have hx := h x (List.mem_cons_self ..)
    cases hp : p x with
    | true => rw [List.dropWhile_cons_of_pos hp, List.dropWhile_cons_of_pos (by rw [← hx]; exact hp)]; exact ih fun y hy => h y (List.mem_cons_of_mem _ hy)
    | false => rw [List.dropWhile_cons_of_neg (by rw [hp]; decide), List.dropWhile_cons_of_neg (by rw [← hx, hp]; decide)]
theorem Lk.new : Lk newG [] := by
  refine ⟨fun d => ⟨fun h => (by cases h), fun h => ?_⟩, rfl, newG_ok, Nat.le_refl _⟩
  rcases h with h | h <;> cases h
section
variable {s : GS} {U : List D2}
theorem Lk.shut (h : Lk s U) {d : D2} (hd : d ∈ s.P) : decide ((d.2, d.1) ∈ U) = shutG s.T d := by
  unfold shutG
  apply decide_eq_decide.2
  rw [h.mem]
  exact ⟨fun e => e.elim id fun e => absurd e (h.ok.sep d hd), Or.inl⟩
theorem Lk.pop (h : Lk s U) : popU U s.P = popG s.T s.P := by
  unfold popU popG
  rw [dropWhile_same (q := shutG s.T) fun d hd => h.shut (List.mem_reverse.1 hd)]
theorem Lk.open (h : Lk s U) : openU U s.P = openG s := by
  unfold openU openG
  refine List.countP_congr fun d hd => ?_
  rw [h.shut hd]
theorem Lk.some (h : Lk s U) (hP : s.P ≠ []) : U ≠ [] := by
  intro e
  have := h.len
  rw [e] at this
  have h2 := h.lenP
  have h3 : s.P.length ≠ 0 := fun e => hP (List.length_eq_zero_iff.1 e)
  simp at this
  omega
theorem Lk.range (h : Lk s U) {d : D2} (hd : d ∈ s.P) : (0 ≤ d.1 ∧ d.1 < s.N) ∧ (0 ≤ d.2 ∧ d.2 < s.N) ∧ d.1 ≠ d.2 := darts_in_range h.ok.tri (h.ok.gat d hd)
theorem Lk.in64 (h : Lk s U) {d : D2} (hd : d ∈ s.P) : in64 d := by
  have h1 := h.range hd
  have h2 := h.ok.lenN
  exact ⟨wf64 h1.1.1 (by omega), wf64 h1.2.1.1 (by omega)⟩
theorem Lk.lens (h : Lk s U) : s.T.length ≤ 8000 ∧ s.P.length ≤ 24000 ∧ s.N ≤ 4000 := ⟨h.ok.lenT, by have := h.lenP; have := h.ok.lenT; omega, h.ok.lenN⟩
theorem pop_sub {T : List P3} {l : List (Int × Int)} {d : D2} (hd : d ∈ popG T l) : d ∈ l := (popG_pre T l).subset hd
/-- A step told to be wrong. -/
theorem Lk.bad (h : Lk s U) (e : Int) : Lk ⟨s.T, s.N, popG s.T s.P, s.B, e⟩ U := ⟨h.mem, h.len, h.ok.pile (popG_pre _ _) e, Nat.le_trans (popG_len _ _) h.lenP⟩
theorem Lk.step (h : Lk s U) {x : Int × Int} {U' : List D2} (hm : ∀ d, d ∈ U' ↔ d ∈ darts (stepG s x).T ∨ d ∈ (stepG s x).B) (hl : U'.length = 3 * (stepG s x).T.length + (stepG s x).B.length) : Lk (stepG s x) U' :=
  ⟨hm, hl, stepG_ok h.ok x, (stepG_way s x).lenP h.lenP⟩
theorem ref_cases (h : Lk s U) (h0 : s.E = 0) (k v : Int) :
    (refF s.N s.T (popG s.T s.P) U (k, v) ≠ 0 ∧ stepG s (k, v) = ⟨s.T, s.N, popG s.T s.P, s.B, refF s.N s.T (popG s.T s.P) U (k, v)⟩ ∧ Lk (stepG s (k, v)) U) ∨
    (refF s.N s.T (popG s.T s.P) U (k, v) = 0 ∧ k = 0 ∧ s.N ≤ 3997 ∧ stepG s (k, v) = ⟨s.T ++ [((s.N : Int), (s.N : Int) + 1, (s.N : Int) + 2)], s.N + 3, popG s.T s.P ++ [((s.N : Int), (s.N : Int) + 1), ((s.N : Int) + 1, (s.N : Int) + 2), ((s.N : Int) + 2, (s.N : Int))], s.B, 0⟩ ∧
      Lk (stepG s (k, v)) (U ++ [((s.N : Int), (s.N : Int) + 1), ((s.N : Int) + 1, (s.N : Int) + 2), ((s.N : Int) + 2, (s.N : Int))])) ∨
    (refF s.N s.T (popG s.T s.P) U (k, v) = 0 ∧ k = 1 ∧ ∃ l p q, popG s.T s.P = l ++ [(p, q)] ∧ stepG s (k, v) = ⟨s.T, s.N, l, s.B ++ [(q, p)], 0⟩ ∧ Lk (stepG s (k, v)) (U ++ [(q, p)])) ∨
    (refF s.N s.T (popG s.T s.P) U (k, v) = 0 ∧ k = 2 ∧ ∃ l p q, popG s.T s.P = l ++ [(p, q)] ∧ stepG s (k, v) = ⟨s.T ++ [(q, p, (s.N : Int))], s.N + 1, l ++ [(p, (s.N : Int)), ((s.N : Int), q)], s.B, 0⟩ ∧ Lk (stepG s (k, v)) (U ++ [(q, p), (p, (s.N : Int)), ((s.N : Int), q)])) ∨
    (refF s.N s.T (popG s.T s.P) U (k, v) = 0 ∧ k = 3 ∧ (0 ≤ v ∧ v < s.N) ∧ ∃ l p q, popG s.T s.P = l ++ [(p, q)] ∧ stepG s (k, v) = ⟨s.T ++ [(q, p, v)], s.N, l ++ [(p, v), (v, q)], s.B, 0⟩ ∧ Lk (stepG s (k, v)) (U ++ [(q, p), (p, v), (v, q)])) := by
  by_cases hf : formG (popG s.T s.P) (k, v)
  · have e := ref_form (N := s.N) (T := s.T) (U := U) hf
    have e2 := step_form h0 rfl hf
    exact Or.inl ⟨by rw [e]; decide, by rw [e2, e], by rw [e2]; exact h.bad 11⟩
  · by_cases hl : longG s (k, v)
    · have e := ref_long (N := s.N) (U := U) hf (T := s.T) (by unfold longG at hl; simp only at hl ⊢; omega)
      have e2 := step_long h0 rfl hf hl
      exact Or.inl ⟨by rw [e]; decide, by rw [e2, e], by rw [e2]; exact h.bad 3⟩
    · have hl2 : ¬ (((k, v) : Int × Int).1 ≠ 1 ∧ 8000 ≤ s.T.length ∨ ((k, v) : Int × Int).1 = 0 ∧ (3997 : Int) < s.N ∨ ((k, v) : Int × Int).1 = 2 ∧ (3999 : Int) < s.N) := by unfold longG at hl; simp only at hl ⊢; omega
      by_cases hk0 : k = 0
      · subst hk0
        have e := ref_fine (U := U) hf hl2 (by show (0 : Int) ≠ 3; decide)
        have e2 := step_zero h0 rfl hf hl rfl
        rw [h0] at e2
        refine Or.inr (Or.inl ⟨e, rfl, ?_, e2, h.step ?_ ?_⟩)
        · unfold longG at hl; simp only at hl; omega
        · intro d
          rw [e2]
          show d ∈ U ++ _ ↔ d ∈ darts (s.T ++ [_]) ∨ d ∈ s.B
          rw [darts_app, List.mem_append, List.mem_append, h.mem]
          exact or_mid _ _ _
        · rw [e2]
          show (U ++ _).length = 3 * (s.T ++ [_]).length + s.B.length
          rw [List.length_append, List.length_append, h.len]
          simp only [List.length_cons, List.length_nil]
          omega
      · have hne : popG s.T s.P ≠ [] := by
          intro e
          apply hf
          unfold formG
          rw [e]
          by_cases k0 : k < 0
          · exact Or.inl k0
          · exact Or.inr (Or.inr (Or.inr (Or.inr ⟨by show 0 < k; omega, rfl⟩)))
        obtain ⟨l, ⟨p, q⟩, hq⟩ := last_form hne
        have hm : (p, q) ∈ s.P := pop_sub (T := s.T) (by rw [hq]; exact List.mem_append_right _ (List.mem_singleton.2 rfl))
        have hrg := h.range hm
        simp only at hrg
        rw [hq] at hf
        have hmemT : ∀ (v : Int) (d : D2), (d ∈ U ++ [(q, p), (p, v), (v, q)]) ↔ d ∈ darts (s.T ++ [(q, p, v)]) ∨ d ∈ s.B := fun v d => by
          rw [darts_app, List.mem_append, List.mem_append, h.mem]
          exact or_mid _ _ _
        have hlenT : ∀ (v : Int), (U ++ [(q, p), (p, v), (v, q)]).length = 3 * (s.T ++ [(q, p, v)]).length + s.B.length := fun v => by
          rw [List.length_append, List.length_append, h.len]
          simp only [List.length_cons, List.length_nil]
          omega
        by_cases hk1 : k = 1
        · subst hk1
          have e := ref_fine (U := U) hf hl2 (by show (1 : Int) ≠ 3; decide)
          have e2 := step_one h0 hq hf hl rfl
          rw [h0] at e2
          rw [hq]
          refine Or.inr (Or.inr (Or.inl ⟨e, rfl, l, p, q, rfl, e2, h.step ?_ ?_⟩))
          · intro d
            rw [e2]
            show d ∈ U ++ _ ↔ d ∈ darts s.T ∨ d ∈ s.B ++ _
            rw [List.mem_append, List.mem_append, h.mem]
            exact or_assoc
          · rw [e2]
            show (U ++ _).length = 3 * s.T.length + (s.B ++ [_]).length
            rw [List.length_append, List.length_append, h.len]
            simp only [List.length_cons, List.length_nil]
            omega
        · by_cases hk2 : k = 2
          · subst hk2
            have e := ref_fine (U := U) hf hl2 (by show (2 : Int) ≠ 3; decide)
            have hno : ¬ ((p, (s.N : Int)) ∈ darts s.T ∨ ((s.N : Int), q) ∈ darts s.T ∨ (p, (s.N : Int)) ∈ s.B ∨ ((s.N : Int), q) ∈ s.B) := by
              intro e
              rcases e with e | e | e | e
              · have := darts_in_range h.ok.tri e; simp only at this; omega
              · have := darts_in_range h.ok.tri e; simp only at this; omega
              · have := darts_in_range h.ok.tri (h.ok.bor _ e).2; simp only at this; omega
              · have := darts_in_range h.ok.tri (h.ok.bor _ e).2; simp only at this; omega
            have e2 := (step_two h0 hq hf hl rfl).trans (over_fine hno)
            rw [h0] at e2
            rw [hq]
            refine Or.inr (Or.inr (Or.inr (Or.inl ⟨e, rfl, l, p, q, rfl, e2, h.step ?_ ?_⟩)))
            · intro d; rw [e2]; exact hmemT _ d
            · rw [e2]; exact hlenT _
          · have hk3 : k = 3 := by
              have : ¬ (k < 0) ∧ ¬ (3 < k) := ⟨fun e => hf (Or.inl e), fun e => hf (Or.inr (Or.inl e))⟩
              omega
            subst hk3
            have hT8 : ¬ 8000 ≤ s.T.length := fun e => hl (Or.inl ⟨(by show (3 : Int) ≠ 1; decide), e⟩)
            have e := ref_known (N := s.N) (U := U) hf hT8
            rw [hq]
            by_cases hb : v < 0 ∨ (s.N : Int) ≤ v ∨ v = p ∨ v = q
            · have e2 := step_three_bad h0 hq hf hl rfl hb
              have e3 : refV s.N U p q v = 11 := if_pos hb
              refine Or.inl ⟨by rw [e, e3]; decide, by rw [e2, e, e3], ?_⟩
              rw [e2, ← hq]
              exact h.bad 11
            · have hvr : refV s.N U p q v = if (p, v) ∈ U ∨ (v, q) ∈ U then 80 else 0 := if_neg hb
              by_cases hu : (p, v) ∈ darts s.T ∨ (v, q) ∈ darts s.T ∨ (p, v) ∈ s.B ∨ (v, q) ∈ s.B
              · have e2 := (step_three h0 hq hf hl rfl hb).trans (over_bad hu)
                have e3 : refV s.N U p q v = 80 := by
                  rw [hvr, if_pos]
                  rw [h.mem, h.mem]
                  exact or_two.2 hu
                refine Or.inl ⟨by rw [e, e3]; decide, by rw [e2, e, e3], ?_⟩
                rw [e2, ← hq]
                exact h.bad 80
              · have e2 := (step_three h0 hq hf hl rfl hb).trans (over_fine hu)
                rw [h0] at e2
                have e3 : refV s.N U p q v = 0 := by
                  rw [hvr, if_neg]
                  rw [h.mem, h.mem]
                  exact fun e => hu (or_two.1 e)
                refine Or.inr (Or.inr (Or.inr (Or.inr ⟨by rw [e, e3], rfl, by omega, l, p, q, rfl, e2, h.step ?_ ?_⟩)))
                · intro d; rw [e2]; exact hmemT _ d
                · rw [e2]; exact hlenT _
end
end Go.Proofs.YthjmojglcfmkmaaDoor

/- The landed grower: Step. -/
namespace Go.Proofs.YthjmojglcfmkmaaDoor
open Go.RowKit

/-- A grower in memory tells the chapter's state. -/
def GwAt (w : World) (F : Nat → Prop) (g : Nat) (s : GS) : Prop := ∃ U, GR w F g s.N s.E s.T s.P U ∧ Lk s U
section
variable {w w' : World} {F : Nat → Prop} {g : Nat} {s : GS}
theorem GwAt.next (h : GwAt w F g s) (hb : Below w.heap.size w w') : GwAt w' F g s := by
  obtain ⟨U, h1, h2⟩ := h
  exact ⟨U, h1.next hb, h2⟩
theorem GwAt.chg {D : Nat → Prop} (h : GwAt w F g s) (hc : Chg D w w') (hd : ∀ k, k < w.heap.size → F k → ¬ D k) : GwAt w' F g s := by
  obtain ⟨U, h1, h2⟩ := h
  exact ⟨U, h1.chg hc hd, h2⟩
theorem GwAt.among {F' : Nat → Prop} (h : GwAt w F g s) (hf : ∀ k, k < w.heap.size → F k → F' k) : GwAt w F' g s := by
  obtain ⟨U, h1, h2⟩ := h
  exact ⟨U, h1.among hf, h2⟩
end
theorem fold_told {s s' : GS} {l : List (Int × Int)} {i : Nat} (h : (l.take i).foldl stepG s = s') (hi : i < l.length) : (l.take (i + 1)).foldl stepG s = stepG s' l[i] := by
  rw [List.take_succ_eq_append_getElem hi, List.foldl_append, h]
  rfl
theorem fold_rest {s s' : GS} {l : List (Int × Int)} {i : Nat} (h : (l.take i).foldl stepG s = s') (he : s'.E ≠ 0) : l.foldl stepG s = s' := by
  have e : l.foldl stepG s = (l.drop i).foldl stepG ((l.take i).foldl stepG s) := by rw [← List.foldl_append, List.take_append_drop]
  rw [e, h, grow_told he]
theorem grx_boxE {w : World} {F : Nat → Prop} {g : Nat} {a d mp : Value} {N E : Int} {T : List P3} {P U : List D2} (h : GrX w F g a d mp N E T P U) : w.cell? ⟨g, 4, none⟩ = some (.int .i64 E) := h.box.cell 4
theorem GR.cellE {w : World} {F : Nat → Prop} {g : Nat} {N E : Int} {T : List P3} {P U : List D2} (h : GR w F g N E T P U) : w.cell? ⟨g, 4, none⟩ = some (.int .i64 E) := by
  obtain ⟨a, d, mp, h⟩ := h
  exact grx_boxE h
theorem GR.setE {w : World} {F : Nat → Prop} {g : Nat} {N E : Int} {T : List P3} {P U : List D2} (h : GR w F g N E T P U) (e : Int) : GR (w.setCell ⟨g, 4, none⟩ (.int .i64 e)) F g N e T P U ∧ Chg F w (w.setCell ⟨g, 4, none⟩ (.int .i64 e)) ∧ w.frozen? ⟨g, 4, none⟩ = false := by
  obtain ⟨a, d, mp, h⟩ := h
  exact ⟨⟨a, d, mp, (h.setE e).1⟩, (h.setE e).2, h.box.frozen 4⟩
set_option maxRecDepth 100000 in
set_option maxHeartbeats 4000000 in
theorem growStep_any (F : Nat → Prop) (g : Nat) (s : GS) (A : Option Addr) (n c : Nat) (l : List (Int × Int)) (w : World) (hF : ∀ k, w.heap.size ≤ k → F k) (h : GwAt w F g s) (hl : ∀ W, Chg F w W → HasK 2 W A n c (e2Cells l)) (hi : ∀ d ∈ l, in64 d) (hnw : ∀ W, Chg F w W → NewW W) (hn : n ≤ 1000000) (hB : s.B.length ≤ 1000000) :
    Calls Tryd.prog 11 #[.pointer (some ⟨g, 0, none⟩), .slice A n c] w fun e w' => e = .returned (.int .i64 (l.foldl stepG s).E) ∧ GwAt w' F g (l.foldl stepG s) ∧ Chg F w w' := by
  have HLn : Hid (l.length = n) := by have := (hl w (Chg.refl _ _)).len; rw [e2Cells_len] at this; show _ = _; omega
  have HFr := Lib.hid hF
  have HG0 := Lib.hid h
  have HL := Lib.hid hl
  have HI := Lib.hid hi
  have HNW := Lib.hid hnw
  have HB := Lib.hid hB
  have x4 : w.cell? ⟨g, 4, none⟩ = some (.int .i64 s.E) := by
    obtain ⟨U, hg, _⟩ := h
    exact hg.cellE
  clear hF h hl hi hnw hB
  by_cases hE : s.E = 0
  · have tE : (s.E != 0) = false := by rw [hE]; rfl
    have HE := Lib.hid hE
    clear hE
    go_enter Tryd.func11, Tryd.ntmps11
    go_wp2
    go_step3
    go_wp2
    go_step3
    go_wp2
    clear x4
    go_loopg [22] n (fun k s22 wx => ∃ (i : Nat) (s' : GS), i + k = n ∧ s22 = .int .i64 (i : Int) ∧ Hid ((l.take i).foldl stepG s = s') ∧ Hid (s'.E = 0) ∧ Hid (s'.B.length ≤ 1000000 + i) ∧ Hid (GwAt wx F g s') ∧ Hid (Chg F w wx))
    case atStart => exact ⟨0, s, by omega, rfl, rfl, HE, HB, HG0, Chg.refl _ _⟩
    case round =>
      obtain ⟨i, s', hik, rfl, HFo, HE', HB', HG', HC⟩ := hrel
      clear HG0
      by_cases hi : i < n
      · have ti : decide ((i : Int) < (n : Int)) = true := decide_eq_true (by omega)
        have i2 : (i : Int) < (n : Int) := by omega
        have hil : i < l.length := by rw [HLn.out]; exact hi
        obtain ⟨U, hgr, hlk⟩ := HG'.out
        have HGR := Lib.hid hgr
        have HLk := Lib.hid hlk
        clear hgr hlk
        obtain ⟨b, off, rfl, hlt, hc⟩ := (HL.out wr HC.out).spot (by omega)
        obtain ⟨z0, z1⟩ := e2Cells_at hil
        have c0 := hc _ _ z0
        have c1 := hc _ _ z1
        rw [← Nat.add_assoc] at c1
        have HNx := Lib.hid (fold_told HFo.out hil)
        have HIn := Lib.hid (HI.out _ (List.getElem_mem hil))
        generalize l[i] = e at *
        obtain ⟨k, v⟩ := e
        simp only at c0 c1
        have HK := Lib.hid (Blk.new wr 33 #[.int .i64 k, .int .i64 v])
        have HB1 : Hid (Below wr.heap.size wr (wr.alloc (.cells #[.int .i64 k, .int .i64 v] 33))) := new_alloc (Below.refl _ wr) _
        have HC1 : Hid (Chg F w (wr.alloc (.cells #[.int .i64 k, .int .i64 v] 33))) := chg3 HC.out (chg_b HB1.out)
        have HG1 : Hid (GR (wr.alloc (.cells #[.int .i64 k, .int .i64 v] 33)) (cutF F wr.heap.size 1) g s'.N s'.E s'.T s'.P U) := (HGR.out.but 1 (Nat.le_refl _)).next HB1.out
        have HF1 : Hid (∀ k', (wr.alloc (.cells #[.int .i64 k, .int .i64 v] 33)).heap.size ≤ k' → cutF F wr.heap.size 1 k') := fun k' hk => ⟨fresh_chg HFr.out HC1.out k' hk, by simp at hk; omega⟩
        have HSz := Lib.hid HLk.out.lens
        have HSub : Hid (∀ d ∈ popG s'.T s'.P, d ∈ s'.P) := fun d hd => pop_sub hd
        have HTk := Lib.hid (growTakeShut_any (cutF F wr.heap.size 1) g s'.N s'.E s'.T s'.P U _ HG1.out (fun d hd => HLk.out.in64 hd) HLk.out.some (by have := HSz.out; omega))
        rw [HLk.out.pop] at HTk
        have hnot : ¬ cutF F wr.heap.size 1 wr.heap.size := fun e => e.2 ⟨Nat.le_refl _, Nat.lt_succ_self _⟩
        obtain ⟨sz, ss⟩ := zero_of_info stepInfo
        clear hc z0 z1 hlt HB1
        go_wp2_with fail
        refine HTk.out.mono ?_
        rintro e w2 ⟨rfl, hg2, hc2⟩
        have HG2 := Lib.hid hg2
        have HC2 := Lib.hid (chg3 HC1.out (cutF.wide hc2))
        have HF2 := Lib.hid (fresh_chg HF1.out hc2)
        have HK2 := Lib.hid (HK.out.chg hc2 hnot)
        have HRf := Lib.hid (refusal_any (cutF F wr.heap.size 1) g s'.N s'.E s'.T (popG s'.T s'.P) U k v w2 (HNW.out w2 HC2.out) HG2.out (fun hne => HLk.out.some (fun e => hne (by rw [e]; rfl))) (fun d hd => by have := HLk.out.range (HSub.out d hd); have := HSz.out; omega) (by have := popG_len s'.T s'.P; have := HSz.out; omega) HSz.out.1 (by have := HSz.out; omega))
        have y0 := HK2.out.cell 0
        have y1 := HK2.out.cell 1
        have HW := Lib.hid (ref_cases HLk.out HE'.out k v)
        generalize refF s'.N s'.T (popG s'.T s'.P) U (k, v) = r at *
        clear hg2 hc2 HG1 HC1 HTk c0 c1 HK HF1
        go_wp2_with fail
        refine HRf.out.mono ?_
        rintro e w3 ⟨rfl, hb3⟩
        have HG3 := Lib.hid ((HG2.out.next hb3).setE r)
        have HC3 : Hid (Chg F w (w3.setCell ⟨g, 4, none⟩ (.int .i64 r))) := chg3 (chg3 HC2.out (chg_b hb3)) (cutF.wide HG3.out.2.1)
        have HF3 : Hid (∀ k, (w3.setCell ⟨g, 4, none⟩ (.int .i64 r)).heap.size ≤ k → cutF F wr.heap.size 1 k) := fresh_chg (fresh_b HF2.out hb3) HG3.out.2.1
        have HK3 : Hid (Blk (w3.setCell ⟨g, 4, none⟩ (.int .i64 r)) wr.heap.size 33 #[.int .i64 k, .int .i64 v]) := (HK2.out.below hb3 HK2.out.lt).chg HG3.out.2.1 hnot
        have f4 := HG3.out.2.2
        have x4 := (HG2.out.next hb3).cellE
        have HUl : Hid (U.length ≤ 100000000) := by have h1 := HLk.out.len; have h2 := HSz.out; have h3 := HB'.out; show _ ≤ _; omega
        have HPl : Hid ((popG s'.T s'.P).length ≤ 24000) := by have h1 := popG_len s'.T s'.P; have h2 := HSz.out; show _ ≤ _; omega
        have HBl : Hid ((stepG s' (k, v)).B.length ≤ 1000000 + (i + 1)) := by have h1 := (stepG_way s' (k, v)).lenB; have h3 := HB'.out; show _ ≤ _; omega
        clear hb3 HRf HG2 HC2 HF2 HK2 y0 y1
        go_upto_region 10 with (with_reducible fail)
        have HG4 := Lib.hid HG3.out.1
        clear f4 x4 HG3
        generalize w3.setCell ⟨g, 4, none⟩ (.int .i64 r) = W4 at *
        have y4 := HG4.out.cellE
        have y0 := HK3.out.cell 0
        have y1 := HK3.out.cell 1
        rcases HW.out with ⟨h1, h2, h3⟩ | ⟨rfl, rfl, h3, h4, h5⟩ | ⟨rfl, rfl, l', p, q, h3, h4, h5⟩ | ⟨rfl, rfl, l', p, q, h3, h4, h5⟩ | ⟨rfl, rfl, h2, l', p, q, h3, h4, h5⟩
        all_goals clear HW
        · have tr : (r != 0) = true := bne_iff_ne.2 h1
          rw [h2] at h3
          have HEnd : Hid (GwAt W4 F g (stepG s' (k, v))) := by show GwAt _ _ _ _; rw [h2]; exact ⟨U, HG4.out.among (fun k _ e => e.1), h3⟩
          have HErr : Hid ((stepG s' (k, v)).E = r) := by show _ = _; rw [h2]
          have HAll : Hid (l.foldl stepG s = stepG s' (k, v)) := fold_rest HNx.out (by rw [HErr.out]; exact h1)
          clear h1 h2 h3
          go_wp2
          try rw [Exit.noGoto_ret]
          go_ret
          exact ⟨by rw [HAll.out, HErr.out]; rfl, by rw [HAll.out]; exact HEnd.out, HC3.out⟩
        · have HBg := Lib.hid (growBegin_any (cutF F wr.heap.size 1) g s'.N 0 s'.T (popG s'.T s'.P) U W4 HF3.out HG4.out (by omega) (by have := HSz.out; omega) (by have := HPl.out; omega) HUl.out)
          have e1 : (s'.N : Int) + 1 + 1 = (s'.N : Int) + 2 := by omega
          have e2 : (s'.N : Int) + 2 + 1 = ((s'.N + 3 : Nat) : Int) := by omega
          rw [e1, e2] at HBg
          have HEn : Hid ((stepG s' (0, v)).E = 0) := by show _ = _; rw [h4]
          have HH : Hid (stepG s' (0, v) = _) := h4
          rw [h4] at h5
          have HL5 := Lib.hid h5
          clear h3 h4 h5 e1 e2
          go_wp2_with fail
          refine HBg.out.mono ?_
          rintro e w5 ⟨rfl, hg5, hc5⟩
          have HG5 : Hid (GwAt w5 F g (stepG s' (0, v))) := by show GwAt _ _ _ _; rw [HH.out]; exact ⟨_, hg5.among (fun k _ e => e.1), HL5.out⟩
          have HC5 := Lib.hid (chg3 HC3.out (cutF.wide hc5))
          clear hg5 hc5 HBg
          go_wp2
          go_roundg (n - (i + 1))
          case measure => omega
          case rel => exact ⟨i + 1, stepG s' (0, v), by omega, by go_num, HNx, HEn, HBl, HG5, HC5⟩
        · rw [h3] at HG4 HPl HSub
          have hm := HSub.out (p, q) (List.mem_append_right _ (List.mem_singleton.2 rfl))
          have HBg := Lib.hid (growEnd_any (cutF F wr.heap.size 1) g s'.N 0 s'.T l' U p q W4 HF3.out HG4.out (HLk.out.in64 hm) (by have := HPl.out; rw [List.length_append] at this; omega) HUl.out)
          have HEn : Hid ((stepG s' (1, v)).E = 0) := by show _ = _; rw [h4]
          have HH : Hid (stepG s' (1, v) = _) := h4
          rw [h4] at h5
          have HL5 := Lib.hid h5
          clear h3 h4 h5 hm
          go_wp2_with fail
          refine HBg.out.mono ?_
          rintro e w5 ⟨rfl, hg5, hc5⟩
          have HG5 : Hid (GwAt w5 F g (stepG s' (1, v))) := by show GwAt _ _ _ _; rw [HH.out]; exact ⟨_, hg5.among (fun k _ e => e.1), HL5.out⟩
          have HC5 := Lib.hid (chg3 HC3.out (cutF.wide hc5))
          clear hg5 hc5 HBg
          go_wp2
          go_roundg (n - (i + 1))
          case measure => omega
          case rel => exact ⟨i + 1, stepG s' (1, v), by omega, by go_num, HNx, HEn, HBl, HG5, HC5⟩
        · rw [h3] at HG4 HPl HSub
          have hm := HSub.out (p, q) (List.mem_append_right _ (List.mem_singleton.2 rfl))
          have HFs := Lib.hid (growFresh_any (cutF F wr.heap.size 1) g s'.N 0 s'.T (l' ++ [(p, q)]) U W4 HG4.out (by have := HSz.out; omega))
          have HBg := Lib.hid (fun W5 (hF5 : ∀ k, W5.heap.size ≤ k → cutF F wr.heap.size 1 k) hg5 => growPass_any (cutF F wr.heap.size 1) g ((s'.N : Int) + 1) 0 s'.T l' U p q s'.N W5 hF5 hg5 (HLk.out.in64 hm) ⟨wf64 (by simp only; omega) (by have := HSz.out; simp only; omega), wf64 (by simp only; omega) (by have := HSz.out; simp only; omega)⟩ (by have := HPl.out; rw [List.length_append] at this; omega) (by have := HSz.out; omega) HUl.out)
          have HEn : Hid ((stepG s' (2, v)).E = 0) := by show _ = _; rw [h4]
          have HH : Hid (stepG s' (2, v) = _) := h4
          rw [h4] at h5
          have HL5 := Lib.hid h5
          have HCa : Hid (((s'.N + 1 : Nat) : Int) = (s'.N : Int) + 1) := rfl
          clear h3 h4 h5 hm
          go_wp2_with fail
          refine HFs.out.mono ?_
          rintro e w5 ⟨rfl, hg5, hc5⟩
          have HG5 := Lib.hid hg5
          have HC5 := Lib.hid (chg3 HC3.out (cutF.wide hc5))
          have HF5 := Lib.hid (fresh_chg HF3.out hc5)
          clear hg5 hc5 HFs
          go_wp2_with fail
          refine (HBg.out w5 HF5.out HG5.out).mono ?_
          rintro e w6 ⟨rfl, hg6, hc6⟩
          have HG6 : Hid (GwAt w6 F g (stepG s' (2, v))) := by show GwAt _ _ _ _; rw [HH.out]; exact ⟨_, hg6.among (fun k _ e => e.1), HL5.out⟩
          have HC6 := Lib.hid (chg3 HC5.out (cutF.wide hc6))
          clear hg6 hc6 HBg HG5 HC5
          go_wp2
          go_roundg (n - (i + 1))
          case measure => omega
          case rel => exact ⟨i + 1, stepG s' (2, v), by omega, by go_num, HNx, HEn, HBl, HG6, HC6⟩
        · rw [h3] at HG4 HPl HSub
          have hm := HSub.out (p, q) (List.mem_append_right _ (List.mem_singleton.2 rfl))
          have HBg := Lib.hid (growPass_any (cutF F wr.heap.size 1) g s'.N 0 s'.T l' U p q v W4 HF3.out HG4.out (HLk.out.in64 hm) ⟨HIn.out.2, HIn.out.2⟩ (by have := HPl.out; rw [List.length_append] at this; omega) (by have := HSz.out; omega) HUl.out)
          have HEn : Hid ((stepG s' (3, v)).E = 0) := by show _ = _; rw [h4]
          have HH : Hid (stepG s' (3, v) = _) := h4
          rw [h4] at h5
          have HL5 := Lib.hid h5
          clear h2 h3 h4 h5 hm
          go_wp2_with fail
          refine HBg.out.mono ?_
          rintro e w5 ⟨rfl, hg5, hc5⟩
          have HG5 : Hid (GwAt w5 F g (stepG s' (3, v))) := by show GwAt _ _ _ _; rw [HH.out]; exact ⟨_, hg5.among (fun k _ e => e.1), HL5.out⟩
          have HC5 := Lib.hid (chg3 HC3.out (cutF.wide hc5))
          clear hg5 hc5 HBg
          go_wp2
          go_roundg (n - (i + 1))
          case measure => omega
          case rel => exact ⟨i + 1, stepG s' (3, v), by omega, by go_num, HNx, HEn, HBl, HG5, HC5⟩
      · have ti : decide ((i : Int) < (n : Int)) = false := decide_eq_false (by omega)
        have HAll : Hid (l.foldl stepG s = s') := by show _ = _; rw [← HFo.out, List.take_of_length_le (by rw [HLn.out]; omega)]
        have x4 : wr.cell? ⟨g, 4, none⟩ = some (.int .i64 s'.E) := by
          obtain ⟨U, hg, _⟩ := HG'.out
          exact hg.cellE
        go_wp2
        try rw [Exit.noGoto_ret]
        go_ret
        exact ⟨by rw [HAll.out]; rfl, by rw [HAll.out]; exact HG'.out, HC.out⟩
  · have tE : (s.E != 0) = true := bne_iff_ne.2 hE
    have HAll : Hid (l.foldl stepG s = s) := grow_told hE l
    go_enter Tryd.func11, Tryd.ntmps11
    go_wp2
    go_step3
    go_wp2
    rw [Exit.noGoto_ret]
    go_ret
    exact ⟨by rw [HAll.out]; rfl, by rw [HAll.out]; exact HG0.out, Chg.refl _ _⟩
end Go.Proofs.YthjmojglcfmkmaaDoor

/- The landed grower: New, Close, All. -/
namespace Go.Proofs.YthjmojglcfmkmaaDoor
open Go.RowKit

theorem below_chg {w w' : World} (h : Chg (fun k => w.heap.size ≤ k) w w') : Below w.heap.size w w' := h.below (fun _ e => e) (Nat.le_refl _)
theorem below_more {w w1 W : World} (hb : Below w.heap.size w w1) (hc : Chg (fun k => w.heap.size ≤ k) w1 W) : Below w.heap.size w W :=
  ⟨hc.os.trans hb.os, hc.tape.trans hb.tape, hc.output.trans hb.output, Nat.le_trans hb.size hc.size, fun k hk => (hc.block k (Nat.lt_of_lt_of_le hk hb.size) (by omega)).trans (hb.block k hk)⟩
/-- What is wrong at the end. -/
def CloseIs (s : GS) (r : Int) : Prop := if s.E ≠ 0 then r = s.E else if 0 < openG s then r = 10 else CheckIs (List.replicate s.N (0, 0, 0)) s.T r
theorem close_total (s : GS) : ∃ r, CloseIs s r := by
  unfold CloseIs
  split
  · exact ⟨_, rfl⟩
  · split
    · exact ⟨_, rfl⟩
    · exact check_total _ _
theorem close_one {s : GS} {r q : Int} (h : CloseIs s r) (g : CloseIs s q) : r = q := by
  unfold CloseIs at h g
  split at h
  · rename_i hc
    rw [if_pos hc] at g
    rw [h, g]
  · rename_i hc
    rw [if_neg hc] at g
    split at h
    · rename_i hd
      rw [if_pos hd] at g
      rw [h, g]
    · rename_i hd
      rw [if_neg hd] at g
      exact check_one h g
theorem close_err {s : GS} {r : Int} (h : CloseIs s r) (he : s.E ≠ 0) : r = s.E := by
  unfold CloseIs at h
  rwa [if_pos he] at h
theorem close_open {s : GS} {r : Int} (h : CloseIs s r) (he : s.E = 0) (ho : 0 < openG s) : r = 10 := by
  unfold CloseIs at h
  rwa [if_neg (by rw [he]; decide), if_pos ho] at h
theorem close_check {s : GS} {r : Int} (h : CloseIs s r) (he : s.E = 0) (ho : ¬ 0 < openG s) : CheckIs (List.replicate s.N (0, 0, 0)) s.T r := by
  unfold CloseIs at h
  rwa [if_neg (by rw [he]; decide), if_neg ho] at h
def closeT (s : GS) (r : Int) : List P3 := if r = 0 then s.T else []
def closeN (s : GS) (r : Int) : Int := if r = 0 then (s.N : Int) else 0
theorem closeT_bad {s : GS} {r : Int} (h : r ≠ 0) : closeT s r = [] := if_neg h
theorem closeN_bad {s : GS} {r : Int} (h : r ≠ 0) : closeN s r = 0 := if_neg h
theorem closeT_fine {s : GS} {r : Int} (h : r = 0) : closeT s r = s.T := if_pos h
theorem closeN_fine {s : GS} {r : Int} (h : r = 0) : closeN s r = s.N := if_pos h
set_option maxRecDepth 100000 in
theorem growNew_any (w : World) : Calls Tryd.prog 10 #[] w fun e w' => e = .returned (.pointer (some ⟨w.heap.size, 0, none⟩)) ∧ Below w.heap.size w w' ∧ GwAt w' (fun k => w.heap.size ≤ k) w.heap.size newG := by
  have HB := Lib.hid (new_alloc (Below.refl w.heap.size w) (.cells #[.slice none 0 0, .int .i64 0, .slice none 0 0, .map none, .int .i64 0] 62))
  have HK := Lib.hid (Blk.new w 62 #[.slice none 0 0, .int .i64 0, .slice none 0 0, .map none, .int .i64 0])
  obtain ⟨kz, ks⟩ := zero_of_info growerInfo
  go_enter Tryd.func10, Tryd.ntmps10
  go_wp2
  go_ret
  refine ⟨rfl, HB.out, [], ⟨_, _, _, HK.out, OwnK.nil _ _ _ _, OwnW.nil _ _ _, Or.inl ⟨rfl, rfl⟩, Nat.le_refl _, ?_, ?_, ?_, ?_, ?_, ?_, ?_, ?_, ?_⟩, Lk.new⟩
  all_goals intros
  all_goals first | (intro h; cases h) | (rename_i h; cases h)
theorem GR.cellN {w : World} {F : Nat → Prop} {g : Nat} {N E : Int} {T : List P3} {P U : List D2} (h : GR w F g N E T P U) : w.cell? ⟨g, 1, none⟩ = some (.int .i64 N) := by
  obtain ⟨a, d, mp, h⟩ := h
  exact h.box.cell 1
set_option maxRecDepth 100000 in
set_option maxHeartbeats 1000000 in
theorem growClose_any (F : Nat → Prop) (g : Nat) (s : GS) (r : Int) (w : World) (hbe : BehW w) (h : GwAt w F g s) (hr : CloseIs s r) :
    Calls Tryd.prog 18 #[.pointer (some ⟨g, 0, none⟩)] w fun e w' => ∃ A n c, e = .returned (.tuple #[.slice A n c, .int .i64 r]) ∧ HasK 3 w' A n c (p3Cells (closeT s r)) ∧ Below w.heap.size w w' := by
  obtain ⟨U, hgr, hlk⟩ := h
  have HGR := Lib.hid hgr
  have HLk := Lib.hid hlk
  have HSz := Lib.hid hlk.lens
  have x4 := hgr.cellE
  have HBe := Lib.hid hbe
  have HR := Lib.hid hr
  clear hgr hlk hbe hr
  by_cases hE : s.E = 0
  · have tE : (s.E != 0) = false := by rw [hE]; rfl
    have HE := Lib.hid hE
    have HOp := Lib.hid (growOpen_any F g s.N s.E s.T s.P U w HGR.out (fun d hd => HLk.out.in64 hd) HLk.out.some (by have := HSz.out; omega))
    rw [HLk.out.open] at HOp
    clear hE
    by_cases ho : 0 < openG s
    · have t1 : decide ((0 : Int) < (openG s : Int)) = true := decide_eq_true (by omega)
      have t0 : decide (0 < openG s) = true := decide_eq_true ho
      have HR2 := Lib.hid (close_open HR.out HE.out ho)
      have HT := Lib.hid (closeT_bad (s := s) (r := r) (by rw [HR2.out]; decide))
      generalize openG s = o at *
      go_enter Tryd.func18, Tryd.ntmps18
      go_wp2_with fail
      refine HOp.out.mono ?_
      rintro e w1 ⟨rfl, hb1⟩
      have HB1 := Lib.hid hb1
      clear hb1
      go_wp2
      go_ret2
      exact ⟨none, 0, 0, by rw [HR2.out]; rfl, by rw [HT.out]; exact HasK.none _ _ _ _ (fun _ => rfl), HB1.out⟩
    · have t1 : decide ((0 : Int) < (openG s : Int)) = false := decide_eq_false (by omega)
      have t0 : decide (0 < openG s) = false := decide_eq_false ho
      have HCk := Lib.hid (close_check HR.out HE.out ho)
      clear ho
      generalize openG s = o at *
      go_enter Tryd.func18, Tryd.ntmps18
      go_wp2_with fail
      refine HOp.out.mono ?_
      rintro e w1 ⟨rfl, hb1⟩
      have HB1 := Lib.hid hb1
      have HGR1 := Lib.hid (HGR.out.next hb1)
      clear hb1
      go_wp2_with fail
      refine (growTris_any F g s.N s.E s.T s.P U w1 HGR1.out (by have := HSz.out; omega)).mono ?_
      rintro e w2 ⟨A2, c2, rfl, hh2, hb2⟩
      have HB2 := Lib.hid (new_call HB1.out hb2)
      have HH2 := Lib.hid hh2
      have x1 := (HGR1.out.next hb2).cellN
      have hmk : ∀ W, (Instr.makeSlice 46 (.int .i64 (s.N : Int)) (.int .i64 (s.N : Int))).run Tryd.prog W = .ok (.slice (some ⟨W.heap.size, 0, none⟩) s.N s.N) (W.alloc (.cells (p3Cells (List.replicate s.N (0, 0, 0))).toArray 84)) := fun W => run_makePts s.N (by have := HSz.out; omega) W
      have HB3 := Lib.hid (new_alloc HB2.out (.cells (p3Cells (List.replicate s.N (0, 0, 0))).toArray 84))
      have HCh := Lib.hid (meshCheck_any (some ⟨w2.heap.size, 0, none⟩) s.N s.N (List.replicate s.N (0, 0, 0)) A2 s.T.length c2 s.T r _ (HBe.out.kept HB3.out) (blk_hasK (Blk.new w2 _ _) (List.length_replicate ..)) (HH2.out.kept (new_alloc (Below.refl _ _) _)) (by have := HSz.out; omega) (by have := HSz.out; omega) HCk.out)
      clear hh2 hb2 HGR HGR1 HCk
      go_wp2_with fail
      refine HCh.out.mono ?_
      rintro e w4 ⟨rfl, hb4⟩
      have HB4 := Lib.hid (new_call HB3.out hb4)
      have HH4 := Lib.hid (HH2.out.kept (new_call (new_alloc (Below.refl _ _) _) hb4))
      clear hb4 hmk HCh
      by_cases hr : r = 0
      · have t2 : (r != 0) = false := by rw [hr]; rfl
        have HT := Lib.hid (closeT_fine (s := s) hr)
        subst hr
        go_wp2
        go_ret2
        exact ⟨_, _, _, rfl, by rw [HT.out]; exact HH4.out, HB4.out⟩
      · have t2 : (r != 0) = true := bne_iff_ne.2 hr
        have HT := Lib.hid (closeT_bad (s := s) hr)
        clear hr
        go_wp2
        go_ret2
        exact ⟨none, 0, 0, rfl, by rw [HT.out]; exact HasK.none _ _ _ _ (fun _ => rfl), HB4.out⟩
  · have tE : (s.E != 0) = true := bne_iff_ne.2 hE
    have HRE : Hid (s.E = r) := (close_err HR.out hE).symm
    have HT := Lib.hid (closeT_bad (s := s) hE)
    rw [HRE.out] at HT x4 tE
    go_enter Tryd.func18, Tryd.ntmps18
    go_wp2
    go_region
    all_goals
      go_wp2
      go_ret2
      exact ⟨_, _, _, rfl, by rw [HT.out]; exact HasK.none _ _ _ _ (fun _ => rfl), by first | exact Below.refl _ _ | exact (Below.refl _ _).drew⟩
/-- What All answers. -/
def AllOut (l : List (Int × Int)) (r : Int) (w : World) (e : Ending) (w' : World) : Prop := ∃ A n c, e = .returned (.tuple #[.slice A n c, .int .i64 (closeN (growG l) r), .int .i64 r]) ∧ HasK 3 w' A n c (p3Cells (closeT (growG l) r)) ∧ Below w.heap.size w w'
set_option maxRecDepth 100000 in
set_option maxHeartbeats 1000000 in
theorem growAll_any (A : Option Addr) (n c : Nat) (l : List (Int × Int)) (r : Int) (w : World) (hbe : BehW w) (hnw : NewW w) (hl : HasK 2 w A n c (e2Cells l)) (hi : ∀ d ∈ l, in64 d) (hn : n ≤ 1000000) (hr : CloseIs (growG l) r) :
    Calls Tryd.prog 20 #[.slice A n c] w (AllOut l r w) := by
  have HBe := Lib.hid hbe
  have HNw := Lib.hid hnw
  have HL := Lib.hid hl
  have HI := Lib.hid hi
  have HR := Lib.hid hr
  clear hbe hnw hl hi hr
  go_enter Tryd.func20, Tryd.ntmps20
  go_wp2_with fail
  refine (growNew_any w).mono ?_
  rintro e w1 ⟨rfl, hb1, hg1⟩
  have HB1 := Lib.hid hb1
  have HG1 := Lib.hid hg1
  have HSt := Lib.hid (growStep_any (fun k => w.heap.size ≤ k) w.heap.size newG A n c l w1 (fun k hk => Nat.le_trans hb1.size hk) hg1 (fun W hW => HL.out.kept (below_more hb1 hW)) HI.out (fun W hW => HNw.out.kept (below_more hb1 hW)) hn (Nat.zero_le _))
  clear hb1 hg1
  go_wp2_with fail
  refine HSt.out.mono ?_
  rintro e w2 ⟨rfl, hg2, hc2⟩
  have HB2 := Lib.hid (below_more HB1.out hc2)
  have HCl := Lib.hid (growClose_any (fun k => w.heap.size ≤ k) w.heap.size (growG l) r w2 (HBe.out.kept HB2.out) hg2 HR.out)
  have HG2 : Hid (GwAt w2 (fun k => w.heap.size ≤ k) w.heap.size (growG l)) := hg2
  clear hg2 hc2 HSt
  go_wp2_with fail
  refine HCl.out.mono ?_
  rintro e w3 ⟨A3, n3, c3, rfl, hh3, hb3⟩
  have HB3 := Lib.hid (new_call HB2.out hb3)
  have HH3 := Lib.hid hh3
  have HG3 := Lib.hid (HG2.out.next hb3)
  clear hh3 hb3 HCl HG2
  by_cases hr : r = 0
  · have t2 : (r != 0) = false := by rw [hr]; rfl
    have HN := Lib.hid (closeN_fine (s := growG l) hr)
    obtain ⟨U, hgr, _⟩ := HG3.out
    have HGR := Lib.hid hgr
    clear hgr
    subst hr
    go_wp2_with fail
    refine (growVerts_any _ _ _ _ _ _ _ w3 HGR.out).mono ?_
    rintro e w4 ⟨rfl, rfl⟩
    go_wp2
    go_ret3
    exact ⟨A3, n3, c3, by rw [HN.out]; rfl, HH3.out, HB3.out⟩
  · have t2 : (r != 0) = true := bne_iff_ne.2 hr
    have HN := Lib.hid (closeN_bad (s := growG l) hr)
    have HT := Lib.hid (closeT_bad (s := growG l) hr)
    clear hr
    go_wp2
    go_ret3
    exact ⟨none, 0, 0, by rw [HN.out]; rfl, by rw [HT.out]; exact HasK.none _ _ _ _ (fun _ => rfl), HB3.out⟩
end Go.Proofs.YthjmojglcfmkmaaDoor
