/- Layer 10: Euler's number without a border; one turned by itself: plain mathematics. -/
import Derived.Test.YtckjmnbglbegmaaDoorMeshPiece
namespace Go.Proofs.YtckjmnbglbegmaaDoor
open Classical

theorem plain_all {P T : List P3} (h : plainM P T = true) : T.all (triM P.length) = true := by unfold plainM at h; rw [Bool.and_eq_true] at h; exact h.2
def sewn (n : Nat) (T : List P3) : List ((Int × Int) × (Int × Int)) := (edgesF n T false).map fun d => (d, swapD d)
/-- Without a border: to go round a vertex. -/
theorem sewn_at {P T : List P3} (h : plainM P T = true) (_ : (darts T).Nodup) (hb : edgesF P.length T true = []) : (∀ d ∈ darts T, swapD d ∈ darts T) ∧ (sewn P.length T).Pairwise Apart ∧ (∀ e ∈ sewn P.length T, e.1 ∈ darts T ∧ e.2 ∈ darts T ∧ e.1 ≠ e.2) ∧ (∀ d ∈ darts T, (d, swapD d) ∈ sewn P.length T ∨ (swapD d, d) ∈ sewn P.length T) ∧ ∀ e ∈ sewn P.length T, e.2 = swapD e.1 := by
  have hcl : ∀ d ∈ darts T, swapD d ∈ darts T := by
    intro d hd
    apply Classical.byContradiction
    intro hc
    have := (mem_border h).2 ⟨hd, hc⟩
    rw [hb] at this
    cases this
  have hin : ∀ d ∈ edgesF P.length T false, d ∈ darts T ∧ swapD d ∈ darts T ∧ d.1 < d.2 := by
    intro d hd
    obtain ⟨h1, h2 | h2⟩ := (mem_edges h).1 hd
    · exact ⟨h2, hcl d h2, h1⟩
    · exact ⟨hcl _ h2, h2, h1⟩
  refine ⟨hcl, ?_, ?_, ?_, ?_⟩
  · unfold sewn
    rw [List.pairwise_map]
    refine List.Pairwise.imp_of_mem ?_ (edges_nodup P.length T false)
    intro d e hd he hne
    have h1 := (hin d hd).2.2
    have h2 := (hin e he).2.2
    refine ⟨hne, fun heq => ?_, fun heq => ?_, fun heq => hne ?_⟩
    · have a1 := congrArg Prod.fst heq
      have a2 := congrArg Prod.snd heq
      simp only [swapD] at a1 a2
      omega
    · have a1 := congrArg Prod.fst heq
      have a2 := congrArg Prod.snd heq
      simp only [swapD] at a1 a2
      omega
    · have := congrArg swapD heq
      exact this
  · intro e he
    obtain ⟨d, hd, rfl⟩ := List.mem_map.1 he
    obtain ⟨h1, h2, h3⟩ := hin d hd
    refine ⟨h1, h2, fun heq => ?_⟩
    have a1 := congrArg Prod.fst heq
    simp only [swapD] at a1
    omega
  · intro d hd
    have hne := (darts_in h hd).2
    by_cases hlt : d.1 < d.2
    · exact Or.inl (List.mem_map.2 ⟨d, (mem_edges h).2 ⟨hlt, Or.inl hd⟩, rfl⟩)
    · refine Or.inr (List.mem_map.2 ⟨swapD d, (mem_edges h).2 ⟨?_, Or.inr hd⟩, rfl⟩)
      show d.2 < d.1
      omega
  · intro e he
    obtain ⟨d, hd, rfl⟩ := List.mem_map.1 he
    rfl
theorem conn_eqv_in {T : List P3} {t u : P3} (ht : t ∈ T) (h : ConnT T t u) : u ∈ T := by
  cases h with
  | refl => exact ht
  | step _ s => exact s.1
theorem conn_symm {T : List P3} {t u : P3} (ht : t ∈ T) (h : ConnT T t u) : ConnT T u t := by
  unfold ConnT at h
  have key : u ∈ T ∧ ConnT T u t := by
    induction h with
    | refl => exact ⟨ht, Reach.refl⟩
    | step _ s ih =>
      obtain ⟨i1, i2⟩ := ih
      obtain ⟨s1, p, q, s2, s3⟩ := s
      exact ⟨s1, Reach.head ⟨i1, q, p, s3, s2⟩ i2⟩
  exact key.2
theorem conn_trans {T : List P3} {t u w : P3} (h : ConnT T t u) (g : ConnT T u w) : ConnT T t w := Reach.trans h g
/-- How many pieces, by what hangs together. -/
theorem cls_pieces {T : List P3} {p : List Nat} (hn : (darts T).Nodup) (hp : PiecesIs T p) (k : Int × Int → Int × Int → Prop) (hk : ∀ d ∈ darts T, ∀ e ∈ darts T, (k d e ↔ ConnT T (triOf T d) (triOf T e))) : cls k (darts T) = maxNext p := by
  have hidx : ∀ t ∈ T, ∃ h : T.idxOf t < p.length, T[T.idxOf t]'(hp.len ▸ h) = t := fun t ht => by
    have h1 : T.idxOf t < T.length := List.idxOf_lt_length_of_mem ht
    exact ⟨hp.len ▸ h1, List.getElem_idxOf h1⟩
  have hkey : ∀ d ∈ darts T, ∀ e ∈ darts T, (k d e ↔ (p[T.idxOf (triOf T d)]?.getD 0 = p[T.idxOf (triOf T e)]?.getD 0)) := by
    intro d hd e he
    obtain ⟨h1, e1⟩ := hidx _ (triOf_in hn hd).1
    obtain ⟨h2, e2⟩ := hidx _ (triOf_in hn he).1
    rw [hk d hd e he, List.getElem?_eq_getElem h1, List.getElem?_eq_getElem h2]
    have := hp.same _ _ h1 h2
    rw [e1, e2] at this
    exact this.symm
  rw [cls_congr (s := fun d e => p[T.idxOf (triOf T d)]?.getD 0 = p[T.idxOf (triOf T e)]?.getD 0) _ hkey]
  rw [cls_key (fun d => p[T.idxOf (triOf T d)]?.getD 0) _ (List.range (maxNext p)) List.nodup_range ?_ ?_, List.length_range]
  · intro d hd
    obtain ⟨h1, _⟩ := hidx _ (triOf_in hn hd).1
    rw [List.mem_range, List.getElem?_eq_getElem h1]
    exact maxNext_mem (List.getElem_mem h1)
  · intro c hc
    rw [List.mem_range] at hc
    have h1 := rise_all hp.rise p.length (Nat.le_refl _) c (by rw [List.take_length]; exact hc)
    rw [List.take_length] at h1
    obtain ⟨i, hi, e⟩ := List.mem_iff_getElem.1 h1
    have hiT : i < T.length := hp.len ▸ hi
    have hm : (T[i].1, T[i].2.1) ∈ dirs T[i] := mem_dirs.2 (Or.inl rfl)
    refine ⟨(T[i].1, T[i].2.1), mem_darts.2 ⟨_, List.getElem_mem hiT, hm⟩, ?_⟩
    rw [triOf_is hn (List.getElem_mem hiT) hm]
    have : T.idxOf T[i] = i := (darts_nodup hn).idxOf_getElem i hiT
    rw [this, List.getElem?_eq_getElem hi]
    exact e
/-- Without a border: Euler's number is even, and two a piece at the most. -/
theorem closed_euler {P T : List P3} {p : List Nat} (hc : CheckIs P T 0) (hb : edgesF P.length T true = []) (hp : PiecesIs T p) : P.length % 2 = (T.length + (edgesF P.length T false).length) % 2 ∧ P.length + T.length ≤ (edgesF P.length T false).length + 2 * maxNext p := by
  obtain ⟨_, h, hn, hf⟩ := check_zero hc
  have hall := plain_all h
  obtain ⟨hcl, hap, hin, hhas, hsw⟩ := sewn_at h hn hb
  have hlen : (sewn P.length T).length = (edgesF P.length T false).length := List.length_map ..
  have hperm := nextD_perm hall hn
  have heqv := Orb.eqv (darts T) (nextD T)
  have hs : ∀ d ∈ darts T, comps (nextD T) (sewn P.length T) d = nextD T (swapD d) := by
    intro d hd
    rcases hhas d hd with he | he
    · exact (comps_at _ _ hap (fun e he => (hin e he).2.2) _ he).1
    · exact (comps_at _ _ hap (fun e he => (hin e he).2.2) _ he).2
  have hF := orb_tris hall hn
  obtain ⟨b1, b2⟩ := euler_bound (darts T) (sewn P.length T) (nextD T) (Orb (darts T) (nextD T)) hperm heqv (fun _ _ h => h) hin
  -- orbits round vertices
  have hVk : ∀ d ∈ darts T, ∀ e ∈ darts T, (Orb (darts T) (comps (nextD T) (sewn P.length T)) d e ↔ d.1 = e.1) := by
    intro d hd e he
    constructor
    · intro ho
      exact Orb.least (s := fun x y : Int × Int => x.1 = y.1) ⟨fun _ => rfl, fun e => e.symm, fun e f => e.trans f⟩ (fun x hx => by
        rw [hs x hx, (nextD_in hall hn (hcl x hx)).2.1]; rfl) ho
    · intro heq
      obtain ⟨td, dd⟩ := triOf_in hn hd
      obtain ⟨te, de⟩ := triOf_in hn he
      obtain ⟨hdi, _⟩ := darts_in h hd
      rw [mem_pairs] at hdi
      have hfan := hf d.1.toNat (by omega)
      have hcast : ((d.1.toNat : Nat) : Int) = d.1 := by omega
      rw [hcast] at hfan
      have hr := hfan.2 _ td _ te (hasV_out.2 ⟨d.2, dd⟩) (hasV_out.2 ⟨e.2, heq ▸ de⟩)
      have key : ∀ {w}, Reach (fun a b => b ∈ T ∧ joinedV d.1 a b) (triOf T d) w → w ∈ T ∧ ∀ f ∈ dirs w, f.1 = d.1 → Orb (darts T) (comps (nextD T) (sewn P.length T)) d f := by
        intro w hw
        induction hw with
        | refl =>
          refine ⟨td, fun f hf2 h1 => ?_⟩
          rw [out_one (List.all_eq_true.1 hall _ td) hf2 dd h1]
          exact Orb.refl _
        | step _ s ih =>
          rename_i y z _
          obtain ⟨i1, i2⟩ := ih
          obtain ⟨s1, p', q', s2, s3, s4⟩ := s
          have hz := List.all_eq_true.1 hall _ s1
          have hy := List.all_eq_true.1 hall _ i1
          have m1 : (p', q') ∈ darts T := mem_darts.2 ⟨y, i1, s2⟩
          have m2 : (q', p') ∈ darts T := mem_darts.2 ⟨z, s1, s4⟩
          refine ⟨s1, fun f hf2 h1 => ?_⟩
          rcases s3 with h3 | h3
          · have g1 := i2 (p', q') s2 h3
            have g2 := Orb.step (p := comps (nextD T) (sewn P.length T)) (p', q') m1
            rw [hs _ m1] at g2
            unfold nextD at g2
            have e1 : triOf T (swapD (p', q')) = z := triOf_is hn s1 s4
            rw [e1] at g2
            obtain ⟨n1, n2⟩ := next_in hz s4
            have e2 : nextIn z (swapD (p', q')) = f := out_one hz n1 hf2 (n2.trans (h3.trans h1.symm))
            rw [e2] at g2
            exact Orb.trans g1 g2
          · have e0 : (q', p') = f := out_one hz s4 hf2 (h3.trans h1.symm)
            rw [← e0]
            have g2 := Orb.step (p := comps (nextD T) (sewn P.length T)) (q', p') m2
            rw [hs _ m2] at g2
            unfold nextD at g2
            have e1 : triOf T (swapD (q', p')) = y := triOf_is hn i1 s2
            rw [e1] at g2
            obtain ⟨n1, n2⟩ := next_in hy s2
            have g1 := i2 _ n1 (n2.trans h3)
            exact Orb.trans g1 (Orb.symm g2)
      exact (key hr).2 e de heq.symm
  have hV : cls (Orb (darts T) (comps (nextD T) (sewn P.length T))) (darts T) = P.length := by
    rw [cls_congr (s := fun x y : Int × Int => x.1 = y.1) _ hVk]
    rw [cls_key (fun d : Int × Int => d.1) _ ((List.range P.length).map fun v : Nat => (v : Int)) ?_ ?_ ?_, List.length_map, List.length_range]
    · unfold List.Nodup
      rw [List.pairwise_map]
      exact (List.nodup_range (n := P.length)).imp (fun hne e => hne (by omega))
    · intro d hd
      obtain ⟨hdi, _⟩ := darts_in h hd
      rw [mem_pairs] at hdi
      exact List.mem_map.2 ⟨d.1.toNat, List.mem_range.2 (by omega), by omega⟩
    · intro c hc
      obtain ⟨v, hv, rfl⟩ := List.mem_map.1 hc
      obtain ⟨⟨t, ht, hv2⟩, _⟩ := hf v (List.mem_range.1 hv)
      obtain ⟨q, hq⟩ := hasV_out.1 hv2
      exact ⟨((v : Int), q), mem_darts.2 ⟨t, ht, hq⟩, rfl⟩
  have hK : cls (merges (Orb (darts T) (nextD T)) (sewn P.length T)) (darts T) = maxNext p := by
    refine cls_pieces hn hp _ (fun d hd e he => ?_)
    obtain ⟨td, dd⟩ := triOf_in hn hd
    obtain ⟨te, de⟩ := triOf_in hn he
    have hm := merges_eqv (sewn P.length T) heqv
    constructor
    · intro hmr
      have := merges_least (sewn P.length T) (r := Orb (darts T) (nextD T)) (s := fun x y => (triOf T x ∈ T → triOf T y ∈ T ∧ ConnT T (triOf T x) (triOf T y)) ∧ (triOf T y ∈ T → triOf T x ∈ T ∧ ConnT T (triOf T y) (triOf T x)))
        ⟨fun x => ⟨fun hx => ⟨hx, Reach.refl⟩, fun hx => ⟨hx, Reach.refl⟩⟩, fun ⟨a, b⟩ => ⟨b, a⟩, fun ⟨a, b⟩ ⟨a2, b2⟩ => ⟨fun hx => ⟨(a2 (a hx).1).1, (a hx).2.trans (a2 (a hx).1).2⟩, fun hz => ⟨(b (b2 hz).1).1, (b2 hz).2.trans (b (b2 hz).1).2⟩⟩⟩
        (fun x y ho => by
          have e1 : triOf T x = triOf T y := Orb.least (s := fun x y => triOf T x = triOf T y) ⟨fun _ => rfl, fun e => e.symm, fun e f => e.trans f⟩ (fun x hx => (nextD_in hall hn hx).2.2.symm) ho
          rw [e1]
          exact ⟨fun hx => ⟨hx, Reach.refl⟩, fun hx => ⟨hx, Reach.refl⟩⟩)
        (fun f hf2 => by
          obtain ⟨f1, f2, _⟩ := hin f hf2
          have f3 := hsw f hf2
          obtain ⟨t1, d1⟩ := triOf_in hn f1
          obtain ⟨t2, d2⟩ := triOf_in hn f2
          rw [f3] at t2 d2 ⊢
          exact ⟨fun _ => ⟨t2, Reach.refl.step ⟨t2, f.1.1, f.1.2, d1, d2⟩⟩, fun _ => ⟨t1, Reach.refl.step ⟨t1, f.1.2, f.1.1, d2, d1⟩⟩⟩)
        d e hmr
      exact (this.1 td).2
    · intro hcn
      have key : ∀ {w}, Reach (fun a b => b ∈ T ∧ ∃ p q, (p, q) ∈ dirs a ∧ (q, p) ∈ dirs b) (triOf T d) w → w ∈ T ∧ ∀ f ∈ dirs w, merges (Orb (darts T) (nextD T)) (sewn P.length T) d f := by
        intro w hw
        induction hw with
        | refl =>
          refine ⟨td, fun f hf2 => merges_mono _ ((orb_tri hall hn d hd f (mem_darts.2 ⟨_, td, hf2⟩)).2 (triOf_is hn td hf2).symm)⟩
        | step _ s ih =>
          rename_i y z _
          obtain ⟨i1, i2⟩ := ih
          obtain ⟨s1, p', q', s2, s4⟩ := s
          refine ⟨s1, fun f hf2 => ?_⟩
          have m1 : (p', q') ∈ darts T := mem_darts.2 ⟨y, i1, s2⟩
          have m2 : (q', p') ∈ darts T := mem_darts.2 ⟨z, s1, s4⟩
          have g1 := i2 _ s2
          have g2 : merges (Orb (darts T) (nextD T)) (sewn P.length T) (p', q') (q', p') := by
            rcases hhas _ m1 with hx | hx
            · exact merges_mem _ heqv hx
            · exact hm.symm (merges_mem _ heqv hx)
          have g3 : merges (Orb (darts T) (nextD T)) (sewn P.length T) (q', p') f := merges_mono _ ((orb_tri hall hn _ m2 f (mem_darts.2 ⟨_, s1, hf2⟩)).2 ((triOf_is hn s1 s4).trans (triOf_is hn s1 hf2).symm))
          exact hm.trans g1 (hm.trans g2 g3)
      exact (key hcn).2 e de
  rw [hV, hF, hlen] at b1 b2
  rw [hK] at b2
  exact ⟨b1, by omega⟩
/-- One turned by itself: what is beside it has an edge in one direction. -/
theorem nodup_flip_one {T : List P3} (hn : (darts T).Nodup) {k : Nat} (hk : k < T.length) {n : Nat} (h : T.all (triM n) = true) : (darts (T.set k (flipT T[k]))).Nodup ↔ ∀ d ∈ dirs T[k], swapD d ∉ darts T := by
  have hs : T = T.take k ++ T[k] :: T.drop (k + 1) := by rw [← List.drop_eq_getElem_cons hk, List.take_append_drop]
  have hset : T.set k (flipT T[k]) = T.take k ++ flipT T[k] :: T.drop (k + 1) := by rw [List.set_eq_take_append_cons_drop, if_pos hk]
  have hp1 : (darts T).Perm (dirs T[k] ++ darts (T.take k ++ T.drop (k + 1))) := by
    have : T.Perm (T[k] :: (T.take k ++ T.drop (k + 1))) := by
      conv => lhs; rw [hs]
      exact List.perm_middle
    exact darts_perm this
  have hp2 : (darts (T.set k (flipT T[k]))).Perm ((dirs T[k]).map swapD ++ darts (T.take k ++ T.drop (k + 1))) := by
    rw [hset]
    refine (darts_perm List.perm_middle).trans ?_
    show (dirs (flipT T[k]) ++ darts (T.take k ++ T.drop (k + 1))).Perm _
    refine List.Perm.append_right _ ?_
    have := darts_flip [T[k]]
    simpa [darts] using this
  have ht := triM_iff.1 (List.all_eq_true.1 h _ (List.getElem_mem hk))
  rw [hp2.nodup_iff]
  rw [hp1.nodup_iff, List.nodup_append] at hn
  obtain ⟨n1, n2, n3⟩ := hn
  have own : ∀ d ∈ dirs T[k], swapD d ∉ dirs T[k] := by
    intro d hd hd2
    obtain ⟨h1, h2, h3, _⟩ := ht
    rcases mem_dirs.1 hd with rfl | rfl | rfl <;> rcases mem_dirs.1 hd2 with e | e | e <;> simp only [swapD, Prod.mk.injEq] at e <;> grind
  rw [List.nodup_append]
  constructor
  · rintro ⟨_, _, m3⟩ d hd hd2
    rcases List.mem_append.1 (hp1.mem_iff.1 hd2) with h1 | h1
    · exact own d hd h1
    · exact m3 (swapD d) (List.mem_map_of_mem hd) (swapD d) h1 rfl
  · intro hno
    refine ⟨swap_inj n1, n2, ?_⟩
    rintro a ha b hb rfl
    obtain ⟨d, hd, rfl⟩ := List.mem_map.1 ha
    exact hno d hd (hp1.mem_iff.2 (List.mem_append_right _ hb))
theorem check_edge {P T : List P3} {e : Int} (hc : CheckIs P T e) (hl : ¬ longM P T) (h : plainM P T = true) : e = 80 ↔ ¬ (darts T).Nodup := by
  unfold CheckIs at hc
  rcases hc with ⟨x, _⟩ | ⟨_, x, _⟩ | ⟨_, _, x, rfl⟩ | ⟨_, _, x, _, rfl⟩ | ⟨_, _, x, _, rfl⟩
  · exact absurd x hl
  · rw [h] at x; cases x
  · exact ⟨fun _ => x, fun _ => rfl⟩
  · exact ⟨fun e => (by cases e), fun e => absurd x e⟩
  · exact ⟨fun e => (by cases e), fun e => absurd x e⟩
end Go.Proofs.YtckjmnbglbegmaaDoor
