/- Layer 10: a fan gone round edge by edge: plain mathematics. -/
import Derived.Test.YthjmojglcfmkmaaDoorMeshPlain
namespace Go.Proofs.YthjmojglcfmkmaaDoor
open Classical

/-- The next edge from the same vertex, over the triangle that has this one. -/
def nxV (T : List P3) (d : Int × Int) : Int × Int := (d.1, (nextD T d).2)
theorem nx_third {n : Nat} {t : P3} (h : triM n t = true) {d : Int × Int} (hd : d ∈ dirs t) : ((nextIn t d).2, d.1) ∈ dirs t ∧ (nextIn t (nextIn t d)).2 = d.1 := by
  obtain ⟨n1, n2, n3⟩ := next_ways h
  rcases mem_dirs.1 hd with e | e | e
  · subst e
    rw [n1]
    exact ⟨mem_dirs.2 (Or.inr (Or.inr rfl)), by rw [n2]⟩
  · subst e
    rw [n2]
    exact ⟨mem_dirs.2 (Or.inl rfl), by rw [n3]⟩
  · subst e
    rw [n3]
    exact ⟨mem_dirs.2 (Or.inr (Or.inl rfl)), by rw [n1]⟩
/-- The third edge of the triangle leads back from there. -/
theorem nx_back {n : Nat} {T : List P3} (h : T.all (triM n) = true) (hn : (darts T).Nodup) {d : Int × Int} (hd : d ∈ darts T) : swapD (nxV T d) ∈ dirs (triOf T d) := by
  obtain ⟨h1, h2⟩ := triOf_in hn hd
  exact (nx_third (List.all_eq_true.1 h _ h1) h2).1
theorem nx_inj {n : Nat} {T : List P3} (h : T.all (triM n) = true) (hn : (darts T).Nodup) {d e : Int × Int} (hd : d ∈ darts T) (he : e ∈ darts T) (hq : nxV T d = nxV T e) : d = e := by
  have b1 := nx_back h hn hd
  have b2 := nx_back h hn he
  rw [hq] at b1
  obtain ⟨h1, h2⟩ := triOf_in hn hd
  obtain ⟨h3, h4⟩ := triOf_in hn he
  have ht := dart_one hn h1 h3 b1 b2
  rw [← ht] at h4
  have hq1 : (nxV T d).1 = (nxV T e).1 := congrArg Prod.fst hq
  exact out_one (List.all_eq_true.1 h _ h1) h2 h4 hq1
/-- Who has an opposite edge comes next to another one. -/
theorem nx_pred {n : Nat} {T : List P3} (h : T.all (triM n) = true) (hn : (darts T).Nodup) {d : Int × Int} (hd : swapD d ∈ darts T) : ∃ e, e ∈ darts T ∧ e.1 = d.1 ∧ nxV T e = d ∧ triOf T e = triOf T (swapD d) := by
  obtain ⟨h1, h2⟩ := triOf_in hn hd
  have ht := List.all_eq_true.1 h _ h1
  obtain ⟨h3, h4⟩ := next_in ht h2
  have h5 : triOf T (nextIn (triOf T (swapD d)) (swapD d)) = triOf T (swapD d) := triOf_is hn h1 h3
  refine ⟨nextIn (triOf T (swapD d)) (swapD d), mem_darts.2 ⟨_, h1, h3⟩, h4, ?_, h5⟩
  unfold nxV nextD
  rw [h5, (nx_third ht h2).2, h4]
  rfl
/-- As far as one has come. -/
structure Chain (T : List P3) (f : Int × Int) (N : Nat) : Prop where
  mem : ∀ k, k < N → it (nxV T) k f ∈ darts T
  inj : ∀ j k, j < k → k < N → it (nxV T) j f ≠ it (nxV T) k f
theorem it_from (T : List P3) (f : Int × Int) : ∀ k, (it (nxV T) k f).1 = f.1
  | 0 => rfl
  | k + 1 => it_from T f k
theorem Chain.zero (T : List P3) (f : Int × Int) : Chain T f 0 := ⟨fun _ hk => absurd hk (Nat.not_lt_zero _), fun _ _ _ hk => absurd hk (Nat.not_lt_zero _)⟩
theorem Chain.next {n : Nat} {T : List P3} (h : T.all (triM n) = true) (hn : (darts T).Nodup) {f : Int × Int} {N : Nat} (hc : Chain T f N) (hm : it (nxV T) N f ∈ darts T) (hb : ¬ (0 < N ∧ it (nxV T) N f = f)) : Chain T f (N + 1) := by
  refine ⟨fun k hk => ?_, fun j k hj hk e => ?_⟩
  · by_cases e : k = N
    · rw [e]; exact hm
    · exact hc.mem k (by omega)
  · by_cases hkN : k = N
    · subst hkN
      cases j with
      | zero => exact hb ⟨by omega, e.symm⟩
      | succ j =>
        cases k with
        | zero => omega
        | succ k =>
          have h1 := nx_inj h hn (hc.mem j (by omega)) (hc.mem k (by omega)) e
          exact hc.inj j k (by omega) (by omega) h1
    · exact hc.inj j k hj (by omega) e
def chainL (T : List P3) (f : Int × Int) (N : Nat) : List (Int × Int) := (List.range N).map fun k => it (nxV T) k f
theorem Chain.nodup {T : List P3} {f : Int × Int} {N : Nat} (hc : Chain T f N) : (chainL T f N).Nodup := by
  unfold chainL List.Nodup
  rw [List.pairwise_map]
  refine List.Pairwise.imp_of_mem ?_ List.pairwise_lt_range
  intro a b _ hb hab
  exact hc.inj a b hab (List.mem_range.1 hb)
theorem mem_chain {T : List P3} {f : Int × Int} {N : Nat} {d : Int × Int} : d ∈ chainL T f N ↔ ∃ k, k < N ∧ it (nxV T) k f = d := by
  unfold chainL
  rw [List.mem_map]
  constructor
  · rintro ⟨k, hk, e⟩; exact ⟨k, List.mem_range.1 hk, e⟩
  · rintro ⟨k, hk, e⟩; exact ⟨k, List.mem_range.2 hk, e⟩
def outV (T : List P3) (v : Int) : List (Int × Int) := (darts T).filter fun d => decide (d.1 = v)
theorem mem_out {T : List P3} {v : Int} {d : Int × Int} : d ∈ outV T v ↔ d ∈ darts T ∧ d.1 = v := by
  unfold outV
  rw [List.mem_filter, decide_eq_true_eq]
theorem Chain.out {T : List P3} {f : Int × Int} {N : Nat} (hc : Chain T f N) : ∀ d ∈ chainL T f N, d ∈ outV T f.1 := by
  intro d hd
  obtain ⟨k, hk, rfl⟩ := mem_chain.1 hd
  exact mem_out.2 ⟨hc.mem k hk, it_from T f k⟩
theorem Chain.le {T : List P3} {f : Int × Int} {N : Nat} (hc : Chain T f N) : N ≤ (outV T f.1).length := by
  have := nodup_le _ _ hc.nodup hc.out
  unfold chainL at this
  rwa [List.length_map, List.length_range] at this
theorem Chain.room {T : List P3} {f : Int × Int} {N : Nat} (hc : Chain T f N) : N ≤ 3 * T.length := by
  refine Nat.le_trans hc.le ?_
  unfold outV
  rw [← darts_len T]
  exact List.length_filter_le _ _
/-- Where all have a triangle ahead the way ends where it began. -/
theorem round_back {n : Nat} {T : List P3} (h : T.all (triM n) = true) (hn : (darts T).Nodup) {v : Int} (hs : ∀ d ∈ darts T, d.1 = v → swapD d ∈ darts T) {d : Int × Int} (hd : d ∈ darts T) (hv : d.1 = v) : nxV T d ∈ darts T := by
  let p : Int × Int → Int × Int := fun d => if hq : swapD d ∈ darts T then Classical.choose (nx_pred h hn hq) else d
  have hp : ∀ e ∈ outV T v, p e ∈ outV T v ∧ nxV T (p e) = e := by
    intro e he
    obtain ⟨h1, h2⟩ := mem_out.1 he
    have hq := hs e h1 h2
    have hc := Classical.choose_spec (nx_pred h hn hq)
    have e1 : p e = Classical.choose (nx_pred h hn hq) := dif_pos hq
    rw [e1]
    exact ⟨mem_out.2 ⟨hc.1, hc.2.1.trans h2⟩, hc.2.2.1⟩
  have hP : PermOn (outV T v) p := ⟨fun e he => (hp e he).1, fun x hx y hy e => by rw [← (hp x hx).2, e, (hp y hy).2]⟩
  have hdo := mem_out.2 ⟨hd, hv⟩
  obtain ⟨m, hm, e⟩ := it_back hP hdo
  cases m with
  | zero => omega
  | succ m =>
    have h1 := hp _ (it_in hP hdo m)
    have e2 : p (it p m d) = d := e
    rw [e2] at h1
    rw [h1.2]
    exact (mem_out.1 (it_in hP hdo m)).1
/-- All at a vertex are one fan just if one comes to as many as there are. -/
theorem round_fan {n : Nat} {T : List P3} (h : T.all (triM n) = true) (hn : (darts T).Nodup) {v : Int} {f : Int × Int} (hf : f ∈ darts T) (hv : f.1 = v) (hs : swapD f ∉ darts T ∨ ∀ d ∈ darts T, d.1 = v → swapD d ∈ darts T) {N : Nat} (hc : Chain T f N) (he : it (nxV T) N f ∉ darts T ∨ (0 < N ∧ it (nxV T) N f = f)) :
    Fan T v ↔ (outV T v).length ≤ N := by
  subst hv
  have h0 : 0 < N := by
    rcases Nat.eq_zero_or_pos N with e | e
    · subst e
      rcases he with he | ⟨he, _⟩
      · exact absurd hf he
      · exact he
    · exact e
  have hfL : f ∈ chainL T f N := mem_chain.2 ⟨0, h0, rfl⟩
  have closed : ∀ d ∈ chainL T f N, ∀ b ∈ T, joinedV f.1 (triOf T d) b → ∃ e ∈ chainL T f N, triOf T e = b := by
    intro d hd b hb hj
    obtain ⟨k, hk, rfl⟩ := mem_chain.1 hd
    have hdd := hc.mem k hk
    have hdv := it_from T f k
    obtain ⟨h1, h2⟩ := triOf_in hn hdd
    have ht := List.all_eq_true.1 h _ h1
    obtain ⟨p, q, h3, h4, h5⟩ := hj
    rcases h4 with h4 | h4
    · -- the edge itself: the triangle ahead
      have e1 : it (nxV T) k f = (p, q) := out_one ht h2 h3 (hdv.trans h4.symm)
      have hsw : swapD (it (nxV T) k f) ∈ darts T := by rw [e1]; exact mem_darts.2 ⟨b, hb, h5⟩
      have hbt : triOf T (swapD (it (nxV T) k f)) = b := triOf_is hn hb (by rw [e1]; exact h5)
      obtain ⟨g, g1, g2, g3, g4⟩ := nx_pred h hn hsw
      cases k with
      | succ k =>
        have e2 : g = it (nxV T) k f := nx_inj h hn g1 (hc.mem k (by omega)) g3
        exact ⟨g, mem_chain.2 ⟨k, by omega, e2.symm⟩, g4.trans hbt⟩
      | zero =>
        rcases hs with hs | hs
        · exact absurd hsw hs
        · -- it closes
          rcases he with he | he
          · exfalso
            apply he
            have := round_back h hn hs (hc.mem (N - 1) (by omega)) (it_from T f (N - 1))
            have e2 : it (nxV T) N f = nxV T (it (nxV T) (N - 1) f) := by
              obtain ⟨M, rfl⟩ : ∃ M, N = M + 1 := ⟨N - 1, by omega⟩
              rfl
            rw [e2]
            exact this
          · have e2 : nxV T (it (nxV T) (N - 1) f) = f := by
              obtain ⟨M, rfl⟩ : ∃ M, N = M + 1 := ⟨N - 1, by omega⟩
              exact he.2
            have e3 : g = it (nxV T) (N - 1) f := nx_inj h hn g1 (hc.mem (N - 1) (by omega)) (g3.trans e2.symm)
            exact ⟨g, mem_chain.2 ⟨N - 1, by omega, e3.symm⟩, g4.trans hbt⟩
    · -- the third edge: the triangle behind
      have hb3 := nx_back h hn hdd
      have e1 : swapD (nxV T (it (nxV T) k f)) = (p, q) := in_one ht hb3 h3 (by rw [h4]; exact hdv)
      have e2 : nxV T (it (nxV T) k f) = (q, p) := by rw [← show swapD (p, q) = (q, p) from rfl, ← e1]; rfl
      have hin : it (nxV T) (k + 1) f ∈ darts T := by
        show nxV T (it (nxV T) k f) ∈ darts T
        rw [e2]
        exact mem_darts.2 ⟨b, hb, h5⟩
      have hbt : triOf T (it (nxV T) (k + 1) f) = b := triOf_is hn hb (by show nxV T (it (nxV T) k f) ∈ dirs b; rw [e2]; exact h5)
      by_cases hk1 : k + 1 < N
      · exact ⟨_, mem_chain.2 ⟨k + 1, hk1, rfl⟩, hbt⟩
      · have e3 : k + 1 = N := by omega
        rcases he with he | he
        · exact absurd (e3 ▸ hin) he
        · rw [e3, he.2] at hbt
          exact ⟨f, hfL, hbt⟩
  constructor
  · rintro ⟨_, hr⟩
    have hall : ∀ d ∈ outV T f.1, d ∈ chainL T f N := by
      intro d hd
      obtain ⟨h1, h2⟩ := mem_out.1 hd
      obtain ⟨f1, f2⟩ := triOf_in hn hf
      obtain ⟨d1, d2⟩ := triOf_in hn h1
      have hreach := hr _ f1 _ d1 (hasV_out.2 ⟨f.2, f2⟩) (hasV_out.2 ⟨d.2, by rw [← h2]; exact d2⟩)
      have key : ∀ x, Reach (fun a b => b ∈ T ∧ joinedV f.1 a b) (triOf T f) x → ∃ e ∈ chainL T f N, triOf T e = x := by
        intro x hx
        induction hx with
        | refl => exact ⟨f, hfL, rfl⟩
        | step _ s ih =>
          obtain ⟨e, he1, he2⟩ := ih
          exact closed e he1 _ s.1 (by rw [he2]; exact s.2)
      obtain ⟨e, he1, he2⟩ := key _ hreach
      obtain ⟨g1, g2⟩ := mem_out.1 (hc.out e he1)
      have := (triOf_in hn g1).2
      rw [he2] at this
      rw [out_one (List.all_eq_true.1 h _ d1) d2 this (h2.trans g2.symm)]
      exact he1
    have hnd : (outV T f.1).Nodup := hn.filter _
    have := nodup_le _ _ hnd hall
    unfold chainL at this
    rwa [List.length_map, List.length_range] at this
  · intro hle
    have hall : ∀ d ∈ outV T f.1, d ∈ chainL T f N := by
      intro d hd
      apply Classical.byContradiction
      intro hno
      have := nodup_le (d :: chainL T f N) (outV T f.1) (List.nodup_cons.2 ⟨hno, hc.nodup⟩) (fun x hx => by
        rcases List.mem_cons.1 hx with rfl | hx
        · exact hd
        · exact hc.out x hx)
      unfold chainL at this
      rw [List.length_cons, List.length_map, List.length_range] at this
      omega
    have stepJ : ∀ k, k + 1 < N → joinedV f.1 (triOf T (it (nxV T) k f)) (triOf T (it (nxV T) (k + 1) f)) := by
      intro k hk
      have h1 := nx_back h hn (hc.mem k (by omega))
      have h2 := (triOf_in hn (hc.mem (k + 1) hk)).2
      exact ⟨(nxV T (it (nxV T) k f)).2, (nxV T (it (nxV T) k f)).1, h1, Or.inr (it_from T f k), h2⟩
    have hto : ∀ k, k < N → Reach (fun a b => b ∈ T ∧ joinedV f.1 a b) (triOf T f) (triOf T (it (nxV T) k f)) := by
      intro k
      induction k with
      | zero => intro _; exact Reach.refl
      | succ k ih => intro hk; exact (ih (by omega)).step ⟨(triOf_in hn (hc.mem (k + 1) hk)).1, stepJ k hk⟩
    have hfrom : ∀ k, k < N → Reach (fun a b => b ∈ T ∧ joinedV f.1 a b) (triOf T (it (nxV T) k f)) (triOf T f) := by
      intro k
      induction k with
      | zero => intro _; exact Reach.refl
      | succ k ih => intro hk; exact Reach.head ⟨(triOf_in hn (hc.mem k (by omega))).1, joined_symm (stepJ k hk)⟩ (ih (by omega))
    have htri : ∀ t ∈ T, hasV f.1 t → ∃ k, k < N ∧ triOf T (it (nxV T) k f) = t := by
      intro t ht hv
      obtain ⟨q, hq⟩ := hasV_out.1 hv
      obtain ⟨k, hk, e⟩ := mem_chain.1 (hall (f.1, q) (mem_out.2 ⟨mem_darts.2 ⟨t, ht, hq⟩, rfl⟩))
      exact ⟨k, hk, by rw [e]; exact triOf_is hn ht hq⟩
    refine ⟨⟨triOf T f, (triOf_in hn hf).1, hasV_out.2 ⟨f.2, (triOf_in hn hf).2⟩⟩, fun t ht u hu hvt hvu => ?_⟩
    obtain ⟨j, hj, rfl⟩ := htri t ht hvt
    obtain ⟨k, hk, rfl⟩ := htri u hu hvu
    exact (hfrom j hj).trans (hto k hk)
/-- A vertex that no triangle names has none. -/
theorem fan_out {T : List P3} {v : Int} (h : (outV T v).length = 0) : ¬ Fan T v := by
  rintro ⟨⟨t, ht, hv⟩, _⟩
  obtain ⟨q, hq⟩ := hasV_out.1 hv
  have := List.length_pos_of_mem (mem_out.2 ⟨mem_darts.2 ⟨t, ht, hq⟩, rfl⟩ : (v, q) ∈ outV T v)
  omega
end Go.Proofs.YthjmojglcfmkmaaDoor
