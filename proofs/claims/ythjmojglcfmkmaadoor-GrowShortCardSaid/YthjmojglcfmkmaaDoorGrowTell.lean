import Derived.Test.YthjmojglcfmkmaaDoorGrowPlain
import Derived.Test.YthjmojglcfmkmaaDoorWalkFine
import Derived.Test.YthjmojglcfmkmaaDoorGrowCodeL
import Derived.Test.YthjmojglcfmkmaaDoorWalkRefH
/- Layer 12, laid ahead: a walk and a grower side by side. Mathematics only. -/
namespace Go.Proofs.YthjmojglcfmkmaaDoor

theorem find_inj {V : List Int} {x y : Int} (hx : x ∈ V) (hy : y ∈ V) (h : findW V x = findW V y) : x = y := by
  unfold findW at h
  rw [if_pos hx, if_pos hy] at h
  have e : V.idxOf x = V.idxOf y := by omega
  have h1 : V[V.idxOf x]? = some x := by rw [List.getElem?_eq_getElem (List.idxOf_lt_length_of_mem hx), List.getElem_idxOf]
  have h2 : V[V.idxOf y]? = some y := by rw [List.getElem?_eq_getElem (List.idxOf_lt_length_of_mem hy), List.getElem_idxOf]
  rw [e, h2] at h1
  exact (Option.some.inj h1).symm
/-- What was told has a directed edge, if what was met has. -/
theorem met_dart {T : List P3} {w : WS} (h : WInv T w) {p q : Int} (hp : p ∈ w.V) (hq : q ∈ w.V) : (findW w.V p, findW w.V q) ∈ darts w.N ↔ ∃ i : Nat, i ∈ w.O ∧ ∃ hi : i < T.length, (p, q) ∈ dirs T[i] := by
  rw [mem_darts]
  constructor
  · rintro ⟨t, ht, hd⟩
    obtain ⟨j, hj, rfl⟩ := List.getElem_of_mem ht
    have hjO : j < w.O.length := by rw [← h.ok.len]; exact hj
    have hi := h.ok.lt _ (List.getElem_mem hjO)
    obtain ⟨k, e⟩ := h.tri j w.O[j] (List.getElem?_eq_getElem hjO) hi
    rw [List.getElem?_eq_getElem hj] at e
    rw [Option.some.inj e, dirs_rot_mem, dirs_mapT, List.mem_map] at hd
    obtain ⟨⟨a, b⟩, hab, ed⟩ := hd
    obtain ⟨e1, e2⟩ := Prod.mk.inj ed
    obtain ⟨ha, hb⟩ := dirs_has hab
    have hm := List.getElem_mem hjO
    have ea := find_inj (h.cor _ hm hi a ha) hp e1
    have eb := find_inj (h.cor _ hm hi b hb) hq e2
    subst ea eb
    exact ⟨_, hm, hi, hab⟩
  · rintro ⟨i, hm, hi, hd⟩
    obtain ⟨j, hj, rfl⟩ := List.getElem_of_mem hm
    obtain ⟨k, e⟩ := h.tri j w.O[j] (List.getElem?_eq_getElem hj) hi
    refine ⟨_, List.mem_of_getElem? e, ?_⟩
    rw [dirs_rot_mem, dirs_mapT, List.mem_map]
    exact ⟨(p, q), hd, rfl⟩
/-- How far a walk and a grower are, side by side. -/
structure GrowAt (T : List P3) (w : WS) (g : GS) : Prop where
  err : g.E = 0
  tri : g.T = w.N
  num : g.N = w.V.length
  pile : ∃ more, g.P = w.G.map (mapD (findW w.V)) ++ more ∧ ∀ d ∈ more, shutG g.T d = true
  bor : ∀ d ∈ g.B, ∃ p q, p ∈ w.V ∧ q ∈ w.V ∧ (p, q) ∉ darts T ∧ d = mapD (findW w.V) (p, q)
theorem growAt_new (T : List P3) : GrowAt T ⟨[], [], [], [], []⟩ newG := ⟨rfl, rfl, rfl, ⟨[], rfl, fun _ h => by cases h⟩, fun _ h => by cases h⟩
/-- A gate that was met already: nothing is told. -/
theorem GrowAt.skip {T : List P3} {w : WS} {g : GS} (hi : WInv T w) (h : GrowAt T w g) {p q : Int} (hl : w.G.getLast? = some (p, q)) (hp : p ∈ w.V) (hq : q ∈ w.V) (hm : ∃ i : Nat, i ∈ w.O ∧ ∃ hi : i < T.length, (q, p) ∈ dirs T[i]) : GrowAt T { w with G := w.G.dropLast } g := by
  obtain ⟨more, e, hs⟩ := h.pile
  obtain ⟨ys, hys⟩ := List.getLast?_eq_some_iff.1 hl
  refine ⟨h.err, h.tri, h.num, ⟨(findW w.V p, findW w.V q) :: more, ?_, ?_⟩, h.bor⟩
  · rw [e, hys, List.dropLast_concat, List.map_append, List.append_assoc]
    rfl
  · intro d hd
    rcases List.mem_cons.1 hd with rfl | hd
    · refine decide_eq_true ?_
      rw [h.tri]
      exact (met_dart hi hq hp).2 hm
    · exact hs d hd
/-- A gate that is not met: it is the pile's last one, once shut ones are taken. -/
theorem GrowAt.top {T : List P3} {w : WS} {g : GS} (hi : WInv T w) (h : GrowAt T w g) {p q : Int} (hl : w.G.getLast? = some (p, q)) (hp : p ∈ w.V) (hq : q ∈ w.V) (hm : ¬ ∃ i : Nat, i ∈ w.O ∧ ∃ hi : i < T.length, (q, p) ∈ dirs T[i]) : popG g.T g.P = w.G.map (mapD (findW w.V)) := by
  obtain ⟨more, e, hs⟩ := h.pile
  rw [e, popG_app hs]
  refine popG_self fun d hd => ?_
  rw [List.getLast?_map, hl] at hd
  rw [← Option.some.inj hd]
  refine decide_eq_false fun h2 => hm ?_
  rw [h.tri] at h2
  exact (met_dart hi hq hp).1 h2
theorem gate_verts {T : List P3} {w : WS} (hi : WInv T w) {d : Int × Int} (hd : d ∈ w.G) : d.1 ∈ w.V ∧ d.2 ∈ w.V := by
  obtain ⟨i, hm, hi2, h⟩ := hi.frm d hd
  obtain ⟨a, b⟩ := d
  obtain ⟨h1, h2⟩ := dirs_has h
  exact ⟨hi.cor i hm hi2 a h1, hi.cor i hm hi2 b h2⟩
/-- A border told. -/
theorem GrowAt.border {T : List P3} {w : WS} {g : GS} (hi : WInv T w) (h : GrowAt T w g) {p q : Int} (hl : w.G.getLast? = some (p, q)) (hno : (q, p) ∉ darts T) : GrowAt T { w with G := w.G.dropLast, S := w.S ++ [(1, 0)] } (stepG g (1, 0)) := by
  obtain ⟨hp, hq⟩ := gate_verts hi (List.mem_of_getLast? hl)
  have htop := h.top hi hl hp hq fun ⟨i, _, hi2, hd⟩ => hno (mem_darts.2 ⟨_, List.getElem_mem hi2, hd⟩)
  have hlast : (w.G.map (mapD (findW w.V))).getLast? = some (findW w.V p, findW w.V q) := by rw [List.getLast?_map, hl]; rfl
  have hne : w.G.map (mapD (findW w.V)) ≠ [] := fun e => by rw [e] at hlast; cases hlast
  have e : stepG g (1, 0) = { g with P := (w.G.map (mapD (findW w.V))).dropLast, B := g.B ++ [(findW w.V q, findW w.V p)] } := by
    unfold stepG
    rw [if_neg (by rw [h.err]; decide)]
    simp only [htop]
    rw [if_neg (by unfold formG; simp [hne]), if_neg (by unfold longG; simp), if_neg (by decide), hlast]
    rfl
  rw [e]
  refine ⟨h.err, h.tri, h.num, ⟨[], ?_, fun _ hd => by cases hd⟩, fun d hd => ?_⟩
  · rw [List.append_nil]
    exact (List.map_dropLast ..).symm
  · rcases List.mem_append.1 hd with hd | hd
    · exact h.bor d hd
    · exact ⟨q, p, hq, hp, hno, List.mem_singleton.1 hd⟩
theorem find_range {V : List Int} {x : Int} (h : x ∈ V) : 0 ≤ findW V x ∧ findW V x < V.length := by
  unfold findW
  rw [if_pos h]
  have := List.idxOf_lt_length_of_mem h
  omega
/-- A triangle taken. -/
theorem GrowAt.take {n : Nat} {T : List P3} (hall : T.all (triM n) = true) (hn : (darts T).Nodup) {w : WS} {g : GS} (hi : WInv T w) (hok : GOk g) (h : GrowAt T w g) {p q : Int} (hl : w.G.getLast? = some (p, q)) {i : Nat} (hi2 : i < T.length) (hd : (q, p) ∈ dirs T[i]) (hno : i ∉ w.O) (h8 : w.N.length < 8000) (h4 : thirdV T[i] p q ∉ w.V → w.V.length ≤ 3999) :
    GrowAt T (stepTo T w i p q) (stepG g (if thirdV T[i] p q ∈ w.V then (3, findW w.V (thirdV T[i] p q)) else (2, 0))) := by
  obtain ⟨hp, hq⟩ := gate_verts hi (List.mem_of_getLast? hl)
  have hone : ∀ d, d ∈ dirs T[i] → ¬ ∃ j : Nat, j ∈ w.O ∧ ∃ hj : j < T.length, d ∈ dirs T[j] := fun d h1 ⟨j, hj, hj2, h2⟩ => by
    have e1 := hasF_is hn hi2 (a := d.1) (b := d.2) h1
    have e2 := hasF_is hn hj2 (a := d.1) (b := d.2) h2
    have : i = j := by omega
    exact hno (this ▸ hj)
  have hin : ∀ d, d ∈ dirs T[i] → d ∈ darts T := fun d h1 => mem_darts.2 ⟨_, List.getElem_mem hi2, h1⟩
  have htop := h.top hi hl hp hq (hone _ hd)
  have hlast : (w.G.map (mapD (findW w.V))).getLast? = some (findW w.V p, findW w.V q) := by rw [List.getLast?_map, hl]; rfl
  have hne : w.G.map (mapD (findW w.V)) ≠ [] := fun e => by rw [e] at hlast; cases hlast
  have htr := List.all_eq_true.1 hall _ (List.getElem_mem hi2)
  obtain ⟨d1, d2⟩ := third_is htr hd
  have hpv := (darts_in_range hall (hin _ d1)).2.2
  have hvq := (darts_in_range hall (hin _ d2)).2.2
  have e0 : T[i]?.getD (0, 0, 0) = T[i] := by rw [List.getElem?_eq_getElem hi2, Option.getD_some]
  unfold stepTo
  simp only [e0]
  generalize thirdV T[i] p q = v at *
  simp only at hpv hvq
  have hT8 : ¬ 8000 ≤ g.T.length := by rw [h.tri]; omega
  by_cases hv : v ∈ w.V
  · rw [if_pos hv]
    have eV : meetW w.V v = w.V := by unfold meetW; rw [if_pos hv]
    rw [eV]
    obtain ⟨v0, v1⟩ := find_range hv
    have nvp : findW w.V v ≠ findW w.V p := fun e => hpv (find_inj hv hp e).symm
    have nvq : findW w.V v ≠ findW w.V q := fun e => hvq (find_inj hv hq e)
    have b1 : (findW w.V p, findW w.V v) ∉ darts g.T := fun e => by rw [h.tri] at e; exact hone _ d1 ((met_dart hi hp hv).1 e)
    have b2 : (findW w.V v, findW w.V q) ∉ darts g.T := fun e => by rw [h.tri] at e; exact hone _ d2 ((met_dart hi hv hq).1 e)
    have b3 : (findW w.V p, findW w.V v) ∉ g.B := fun e => by
      obtain ⟨a, b, ha, hb, hab, e2⟩ := h.bor _ e
      obtain ⟨e3, e4⟩ := Prod.mk.inj e2
      have ea := find_inj hp ha e3
      have eb := find_inj hv hb e4
      subst ea eb
      exact hab (hin _ d1)
    have b4 : (findW w.V v, findW w.V q) ∉ g.B := fun e => by
      obtain ⟨a, b, ha, hb, hab, e2⟩ := h.bor _ e
      obtain ⟨e3, e4⟩ := Prod.mk.inj e2
      have ea := find_inj hv ha e3
      have eb := find_inj hq hb e4
      subst ea eb
      exact hab (hin _ d2)
    have e : stepG g (3, findW w.V v) = { g with T := g.T ++ [(findW w.V q, findW w.V p, findW w.V v)], N := g.N, P := (w.G.map (mapD (findW w.V))).dropLast ++ [(findW w.V p, findW w.V v), (findW w.V v, findW w.V q)] } := by
      unfold stepG
      rw [if_neg (by rw [h.err]; decide)]
      simp only [htop]
      rw [if_neg (by unfold formG; simp [hne]), if_neg (by unfold longG; simp only; omega), if_neg (by simp), hlast]
      simp only
      rw [if_neg (by simp), if_neg (by simp), if_neg (by rw [h.num]; omega)]
      unfold overG
      rw [if_neg fun e => e.elim b1 fun e => e.elim b2 fun e => e.elim b3 b4]
    rw [e]
    refine ⟨h.err, ?_, h.num, ⟨[], ?_, fun _ hd => by cases hd⟩, h.bor⟩
    · show g.T ++ _ = _
      rw [h.tri]
    · rw [List.append_nil, List.map_append]
      show _ ++ _ = _
      rw [List.map_dropLast]
      rfl
  · rw [if_neg hv]
    have h39 := h4 hv
    have eV : meetW w.V v = w.V ++ [v] := by unfold meetW; rw [if_neg hv]
    rw [eV]
    have fV : ∀ x, x ∈ w.V → findW (w.V ++ [v]) x = findW w.V x := fun x hx => find_app hx
    have fv : findW (w.V ++ [v]) v = (w.V.length : Int) := by
      unfold findW
      rw [if_pos (List.mem_append_right _ (List.mem_singleton.2 rfl)), List.idxOf_append, if_neg hv]
      simp
    have big : ∀ d : Int × Int, d.1 = (w.V.length : Int) ∨ d.2 = (w.V.length : Int) → d ∉ darts g.T ∧ d ∉ g.B := fun d hd => by
      have k : d ∉ darts g.T := fun e => by
        have := darts_in_range hok.tri e
        rw [h.num] at this
        omega
      refine ⟨k, fun e => ?_⟩
      have := darts_in_range hok.tri (hok.bor d e).2
      rw [h.num] at this
      simp only at this
      omega
    obtain ⟨b1, b3⟩ := big (findW w.V p, (w.V.length : Int)) (Or.inr rfl)
    obtain ⟨b2, b4⟩ := big ((w.V.length : Int), findW w.V q) (Or.inl rfl)
    have e : stepG g (2, 0) = { g with T := g.T ++ [(findW w.V q, findW w.V p, (w.V.length : Int))], N := g.N + 1, P := (w.G.map (mapD (findW w.V))).dropLast ++ [(findW w.V p, (w.V.length : Int)), ((w.V.length : Int), findW w.V q)] } := by
      unfold stepG
      rw [if_neg (by rw [h.err]; decide)]
      simp only [htop]
      rw [if_neg (by unfold formG; simp [hne]), if_neg (by unfold longG; rw [h.num]; simp only; omega), if_neg (by simp), hlast]
      simp only
      rw [if_neg (by simp), if_pos trivial, h.num]
      unfold overG
      rw [if_neg fun e => e.elim b1 fun e => e.elim b2 fun e => e.elim b3 b4]
    rw [e]
    refine ⟨h.err, ?_, ?_, ⟨[], ?_, fun _ hd => by cases hd⟩, fun d hd => ?_⟩
    · show g.T ++ _ = _
      rw [h.tri, fv, fV p hp, fV q hq]
    · show g.N + 1 = (w.V ++ [v]).length
      rw [h.num, List.length_append]
      rfl
    · rw [List.append_nil, List.map_append, List.map_dropLast]
      have hm : w.G.map (mapD (findW (w.V ++ [v]))) = w.G.map (mapD (findW w.V)) := List.map_congr_left fun d hd => by
        obtain ⟨g1, g2⟩ := gate_verts hi hd
        unfold mapD
        rw [fV _ g1, fV _ g2]
      rw [hm]
      show _ ++ _ = _ ++ [(findW (w.V ++ [v]) p, findW (w.V ++ [v]) v), (findW (w.V ++ [v]) v, findW (w.V ++ [v]) q)]
      rw [fv, fV p hp, fV q hq]
    · obtain ⟨a, b, ha, hb, hab, e2⟩ := h.bor d hd
      refine ⟨a, b, List.mem_append_left _ ha, List.mem_append_left _ hb, hab, ?_⟩
      rw [e2]
      unfold mapD
      show (findW w.V a, findW w.V b) = (findW (w.V ++ [v]) a, findW (w.V ++ [v]) b)
      rw [fV a ha, fV b hb]
theorem vert_range {n : Nat} {T : List P3} (hall : T.all (triM n) = true) {w : WS} (hi : WInv T w) {x : Int} (hx : x ∈ w.V) : 0 ≤ x ∧ x < n := by
  obtain ⟨j, _, hl, hv⟩ := hi.vin x hx
  have hr := triM_iff.1 (List.all_eq_true.1 hall _ (List.getElem_mem hl))
  unfold hasV at hv
  rcases hv with rfl | rfl | rfl <;> omega
theorem took_lt {T : List P3} {w : WS} (hi : WInv T w) {i : Nat} (hi2 : i < T.length) (hno : i ∉ w.O) : w.N.length < T.length := by
  have h := nodup_len T.length (i :: w.O) (List.nodup_cons.2 ⟨hno, hi.ok.nd⟩) (fun x hx => by
    rcases List.mem_cons.1 hx with rfl | hx
    · exact hi2
    · exact hi.ok.lt x hx)
  rw [hi.ok.len]
  exact h
theorem gate_grow {n : Nat} {T : List P3} (hall : T.all (triM n) = true) (hn : (darts T).Nodup) (h8 : T.length ≤ 8000) (h4 : n ≤ 4000) {w : WS} (hi : WInv T w) (h : GrowAt T w (growG w.S)) {p q : Int} (hl : w.G.getLast? = some (p, q)) : GrowAt T (gateTo T w p q) (growG (gateTo T w p q).S) := by
  obtain ⟨hp, hq⟩ := gate_verts hi (List.mem_of_getLast? hl)
  unfold gateTo
  rcases hasF_ways T q p with ⟨e, hno⟩ | ⟨i, hi2, e, hd, _⟩
  · rw [if_pos (by omega)]
    show GrowAt T _ (growG (w.S ++ [(1, 0)]))
    rw [growG_next]
    exact h.border hi hl hno
  · rw [if_neg (by omega)]
    have et : (hasF T q p).toNat = i := by omega
    rw [et]
    by_cases hm : i ∈ w.O
    · rw [if_pos hm]
      exact h.skip hi hl hp hq ⟨i, hm, hi2, hd⟩
    · rw [if_neg hm]
      have e0 : T[i]?.getD (0, 0, 0) = T[i] := by rw [List.getElem?_eq_getElem hi2, Option.getD_some]
      have eS : (stepTo T w i p q).S = w.S ++ [if thirdV T[i] p q ∈ w.V then (3, findW w.V (thirdV T[i] p q)) else (2, 0)] := by
        unfold stepTo
        simp only [e0]
      rw [eS, growG_next]
      have hlt := took_lt hi hi2 hm
      refine h.take hall hn hi (growG_ok _) hl hi2 hd hm (by omega) fun hv => ?_
      have htr := List.all_eq_true.1 hall _ (List.getElem_mem hi2)
      obtain ⟨d1, _⟩ := third_is htr hd
      have hr := darts_in_range hall (mem_darts.2 ⟨_, List.getElem_mem hi2, d1⟩)
      have := verts_len (n := n) (V := thirdV T[i] p q :: w.V) (List.nodup_cons.2 ⟨hv, hi.vnd⟩) (fun x hx => by
        rcases List.mem_cons.1 hx with rfl | hx
        · exact hr.2.1
        · exact vert_range hall hi hx)
      simp only [List.length_cons] at this
      omega
theorem drain_grow {n : Nat} {T : List P3} (hall : T.all (triM n) = true) (hn : (darts T).Nodup) (h8 : T.length ≤ 8000) (h4 : n ≤ 4000) : ∀ (k : Nat) (w : WS), WInv T w → GrowAt T w (growG w.S) → GrowAt T (drainW T k w) (growG (drainW T k w).S) := by
  intro k
  induction k with
  | zero => intro w _ h; exact h
  | succ k ih =>
    intro w hi h
    unfold drainW
    by_cases hg : w.G = []
    · rw [if_pos hg]; exact h
    · rw [if_neg hg]
      obtain ⟨p, q, e1, e2⟩ := gateW_last (T := T) hg
      rw [e2]
      exact ih _ (hi.gate hall hn e1) (gate_grow hall hn h8 h4 hi h e1)
/-- A seed. -/
theorem seed_grow {n : Nat} {T : List P3} (hall : T.all (triM n) = true) (h8 : T.length ≤ 8000) (h4 : n ≤ 4000) {w : WS} (hi : WInv T w) (h : GrowAt T w (growG w.S)) {i : Nat} (hi2 : i < T.length) (hm : i ∉ w.O) (hg : w.G = []) (hv : ∀ x, hasV x T[i] → x ∉ w.V) : GrowAt T (seedW T w i) (growG (seedW T w i).S) := by
  have e0 : T[i]?.getD (0, 0, 0) = T[i] := by rw [List.getElem?_eq_getElem hi2, Option.getD_some]
  have hlt := took_lt hi hi2 hm
  have htr := triM_iff.1 (List.all_eq_true.1 hall _ (List.getElem_mem hi2))
  unfold seedW
  simp only [e0]
  generalize T[i] = t at *
  obtain ⟨a, b, c⟩ := t
  obtain ⟨hab, hbc, hca, ra, rb, rc⟩ := htr
  simp only at hab hbc hca ra rb rc ⊢
  have hac : a ≠ c := fun e => hca e.symm
  have hba : b ≠ a := fun e => hab e.symm
  have hcb : c ≠ b := fun e => hbc e.symm
  have ha := hv a (Or.inl rfl)
  have hb := hv b (Or.inr (Or.inl rfl))
  have hc := hv c (Or.inr (Or.inr rfl))
  have hlen := verts_len (n := n) (V := a :: b :: c :: w.V) (List.nodup_cons.2 ⟨by simp [hab, ha, hac], List.nodup_cons.2 ⟨by simp [hbc, hb], List.nodup_cons.2 ⟨hc, hi.vnd⟩⟩⟩) (fun x hx => by
    rcases List.mem_cons.1 hx with rfl | hx
    · exact ra
    · rcases List.mem_cons.1 hx with rfl | hx
      · exact rb
      · rcases List.mem_cons.1 hx with rfl | hx
        · exact rc
        · exact vert_range hall hi hx)
  simp only [List.length_cons] at hlen
  have e1 : meetW w.V a = w.V ++ [a] := by unfold meetW; rw [if_neg ha]
  have e2 : meetW (w.V ++ [a]) b = w.V ++ [a] ++ [b] := by unfold meetW; rw [if_neg (by simp [hb, hba])]
  have e3 : meetW (w.V ++ [a] ++ [b]) c = w.V ++ [a] ++ [b] ++ [c] := by unfold meetW; rw [if_neg (by simp [hc, hca, hcb])]
  rw [e1, e2, e3]
  have fa : findW (w.V ++ [a] ++ [b] ++ [c]) a = (w.V.length : Int) := by
    rw [find_app (by simp), find_app (by simp)]
    unfold findW
    rw [if_pos (by simp), List.idxOf_append, if_neg ha]
    simp
  have fb : findW (w.V ++ [a] ++ [b] ++ [c]) b = (w.V.length : Int) + 1 := by
    rw [find_app (by simp)]
    unfold findW
    rw [if_pos (by simp), List.idxOf_append, if_neg (by simp [hb, hba])]
    simp
  have fc : findW (w.V ++ [a] ++ [b] ++ [c]) c = (w.V.length : Int) + 2 := by
    unfold findW
    rw [if_pos (by simp), List.idxOf_append, if_neg (by simp [hc, hca, hcb])]
    simp
  rw [fa, fb, fc, growG_next]
  have hpop : popG (growG w.S).T (growG w.S).P = [] := by
    obtain ⟨more, e, hs⟩ := h.pile
    rw [hg] at e
    rw [e, List.map_nil, popG_app hs]
    rfl
  have e : stepG (growG w.S) (0, 0) = { growG w.S with T := (growG w.S).T ++ [((w.V.length : Int), (w.V.length : Int) + 1, (w.V.length : Int) + 2)], N := w.V.length + 3, P := [((w.V.length : Int), (w.V.length : Int) + 1), ((w.V.length : Int) + 1, (w.V.length : Int) + 2), ((w.V.length : Int) + 2, (w.V.length : Int))] } := by
    unfold stepG
    rw [if_neg (by rw [h.err]; decide)]
    simp only [hpop]
    rw [if_neg (by unfold formG; simp), if_neg (by unfold longG; rw [h.num, h.tri]; simp only; omega), if_pos trivial, h.num]
    rfl
  rw [e]
  refine ⟨h.err, ?_, ?_, ⟨[], ?_, fun _ hd => by cases hd⟩, fun d hd => ?_⟩
  · show (growG w.S).T ++ _ = _
    rw [h.tri]
  · simp
  · rw [hg]
    simp only [List.nil_append, List.append_nil, List.map_cons, List.map_nil, mapD, fa, fb, fc]
  · obtain ⟨x, y, hx, hy, hxy, e2⟩ := h.bor d hd
    refine ⟨x, y, by simp [hx], by simp [hy], hxy, ?_⟩
    rw [e2]
    unfold mapD
    simp only
    rw [find_app (List.mem_append_left _ (List.mem_append_left _ hx)), find_app (List.mem_append_left _ hx), find_app hx, find_app (List.mem_append_left _ (List.mem_append_left _ hy)), find_app (List.mem_append_left _ hy), find_app hy]
theorem walk_grow {P T : List P3} (hc : CheckIs P T 0) : ∀ i, i ≤ T.length → GrowAt T (walkTo T i) (growG (walkTo T i).S) := by
  obtain ⟨hlg, hp, hn, hf⟩ := check_zero hc
  have hall : T.all (triM P.length) = true := by unfold plainM at hp; rw [Bool.and_eq_true] at hp; exact hp.2
  have h8 : T.length ≤ 8000 := Nat.le_of_not_lt fun e => hlg (Or.inr e)
  have h4 : P.length ≤ 4000 := Nat.le_of_not_lt fun e => hlg (Or.inl e)
  intro i
  induction i with
  | zero => intro _; exact growAt_new T
  | succ i ih =>
    intro hi
    have h := ih (by omega)
    obtain ⟨h1, h2, _⟩ := walk_ok T i (by omega)
    have hw := walk_inv hall hn i (by omega)
    by_cases hm : i ∈ (walkTo T i).O
    · have e : walkTo T (i + 1) = walkTo T i := by
        show (if i ∈ (walkTo T i).O then walkTo T i else _) = _
        rw [if_pos hm]
      rw [e]
      exact h
    · have e : walkTo T (i + 1) = drainW T (3 * T.length + 4) (seedW T (walkTo T i) i) := by
        show (if i ∈ (walkTo T i).O then walkTo T i else _) = _
        rw [if_neg hm]
      rw [e]
      have hil : i < T.length := by omega
      refine drain_grow hall hn h8 h4 _ _ (hw.seed hil hm h2) (seed_grow hall h8 h4 hw h hil hm h2 fun x hx hxV => hm ?_)
      obtain ⟨j, hj, hl, hv⟩ := hw.vin x hxV
      have hr := triM_iff.1 (List.all_eq_true.1 hall _ (List.getElem_mem hil))
      have hx0 : 0 ≤ x ∧ x < P.length := by
        unfold hasV at hx
        rcases hx with rfl | rfl | rfl <;> omega
      have hfx := hf x.toNat (by omega)
      rw [Int.toNat_of_nonneg hx0.1] at hfx
      exact hw.closed (darts_nodup hn) h2 hl hj i hil (fan_conn hfx (List.getElem_mem hl) (List.getElem_mem hil) hv hx)
/-- What a walk tells is grown to the walk's canon. -/
theorem grow_canon {P T : List P3} (hc : CheckIs P T 0) : (growG (walkF T).S).E = 0 ∧ (growG (walkF T).S).T = (walkF T).N ∧ (growG (walkF T).S).N = P.length ∧ openG (growG (walkF T).S) = 0 := by
  obtain ⟨_, hp, hn, _⟩ := check_zero hc
  have hall : T.all (triM P.length) = true := by unfold plainM at hp; rw [Bool.and_eq_true] at hp; exact hp.2
  have h := walk_grow hc T.length (Nat.le_refl _)
  obtain ⟨_, h2, _⟩ := walk_ok T T.length (Nat.le_refl _)
  have hi := walk_inv hall hn T.length (Nat.le_refl _)
  refine ⟨h.err, h.tri, h.num.trans (verts_count hi.vnd (verts_all hc)), ?_⟩
  obtain ⟨more, e, hs⟩ := h.pile
  rw [h2, List.map_nil, List.nil_append] at e
  show openG (growG (walkTo T T.length).S) = 0
  unfold openG
  rw [e]
  exact List.countP_eq_zero.2 fun d hd => by rw [hs d hd]; decide
end Go.Proofs.YthjmojglcfmkmaaDoor

/- Layer 12, laid ahead: what is grown, walked again. Mathematics only. -/
namespace Go.Proofs.YthjmojglcfmkmaaDoor

/-- The first numbers, as whole numbers. -/
def firstV (n : Nat) : List Int := (List.range n).map fun (i : Nat) => (i : Int)
theorem mem_firstV {n : Nat} {x : Int} : x ∈ firstV n ↔ 0 ≤ x ∧ x < n := by
  unfold firstV
  rw [List.mem_map]
  constructor
  · rintro ⟨i, hi, rfl⟩
    have := List.mem_range.1 hi
    omega
  · rintro ⟨h1, h2⟩
    exact ⟨x.toNat, List.mem_range.2 (by omega), by omega⟩
theorem firstV_len (n : Nat) : (firstV n).length = n := by unfold firstV; rw [List.length_map, List.length_range]
theorem firstV_next (n : Nat) : firstV (n + 1) = firstV n ++ [(n : Int)] := by
  unfold firstV
  rw [List.range_succ, List.map_append]
  rfl
theorem find_firstV {n : Nat} {x : Int} (h : 0 ≤ x ∧ x < n) : findW (firstV n) x = x := by
  have hm := mem_firstV.2 h
  have hg : (firstV n)[(firstV n).idxOf x]? = some x := by rw [List.getElem?_eq_getElem (List.idxOf_lt_length_of_mem hm), List.getElem_idxOf]
  have hl := List.idxOf_lt_length_of_mem hm
  rw [firstV_len] at hl
  unfold firstV at hg
  rw [List.getElem?_map, List.getElem?_range (by unfold firstV at hl; exact hl)] at hg
  unfold findW
  rw [if_pos hm]
  exact Option.some.inj hg
/-- Triangles and borders only grow. -/
theorem stepG_pre (g : GS) (s : Int × Int) : g.T <+: (stepG g s).T ∧ g.B <+: (stepG g s).B := by
  have ov : ∀ P p q v N, g.T <+: (overG g P p q v N).T ∧ g.B <+: (overG g P p q v N).B := fun P p q v N => by
    unfold overG
    split
    · exact ⟨List.prefix_refl _, List.prefix_refl _⟩
    · exact ⟨List.prefix_append _ _, List.prefix_refl _⟩
  unfold stepG
  split
  · exact ⟨List.prefix_refl _, List.prefix_refl _⟩
  · simp only
    split
    · exact ⟨List.prefix_refl _, List.prefix_refl _⟩
    · split
      · exact ⟨List.prefix_refl _, List.prefix_refl _⟩
      · split
        · exact ⟨List.prefix_append _ _, List.prefix_refl _⟩
        · split
          · exact ⟨List.prefix_refl _, List.prefix_refl _⟩
          · split
            · exact ⟨List.prefix_refl _, List.prefix_append _ _⟩
            · split
              · exact ov _ _ _ _ _
              · split
                · exact ⟨List.prefix_refl _, List.prefix_refl _⟩
                · exact ov _ _ _ _ _
theorem fold_pre : ∀ (l : List (Int × Int)) (g : GS), g.T <+: (l.foldl stepG g).T ∧ g.B <+: (l.foldl stepG g).B := by
  intro l
  induction l with
  | nil => intro g; exact ⟨List.prefix_refl _, List.prefix_refl _⟩
  | cons s l ih =>
    intro g
    rw [List.foldl_cons]
    obtain ⟨h1, h2⟩ := stepG_pre g s
    obtain ⟨h3, h4⟩ := ih (stepG g s)
    exact ⟨h1.trans h3, h2.trans h4⟩
theorem growG_pre (l : List (Int × Int)) (k : Nat) : (growG (l.take k)).T <+: (growG l).T ∧ (growG (l.take k)).B <+: (growG l).B := by
  have h2 : growG l = (l.drop k).foldl stepG (growG (l.take k)) := by
    unfold growG
    rw [← List.foldl_append, List.take_append_drop]
  rw [h2]
  exact fold_pre _ _
/-- A walk over what was grown, and the grower that far. -/
structure BackAt (w : WS) (g : GS) (S : List (Int × Int)) : Prop where
  V : w.V = firstV g.N
  O : w.O = List.range g.T.length
  N : w.N = g.T
  S : w.S = S
  pile : ∃ more, g.P = w.G ++ more ∧ ∀ d ∈ more, shutG g.T d = true
theorem backAt_new : BackAt ⟨[], [], [], [], []⟩ newG [] := ⟨rfl, rfl, rfl, rfl, [], rfl, fun _ h => by cases h⟩
theorem BackAt.skip {w : WS} {g : GS} {S : List (Int × Int)} (h : BackAt w g S) {d : Int × Int} (hl : w.G.getLast? = some d) (hs : shutG g.T d = true) : BackAt { w with G := w.G.dropLast } g S := by
  obtain ⟨more, e, hm⟩ := h.pile
  obtain ⟨ys, hys⟩ := List.getLast?_eq_some_iff.1 hl
  refine ⟨h.V, h.O, h.N, h.S, d :: more, ?_, ?_⟩
  · rw [e, hys, List.dropLast_concat, List.append_assoc]
    rfl
  · intro x hx
    rcases List.mem_cons.1 hx with rfl | hx
    · exact hs
    · exact hm x hx
theorem BackAt.top {w : WS} {g : GS} {S : List (Int × Int)} (h : BackAt w g S) {d : Int × Int} (hl : w.G.getLast? = some d) (hs : shutG g.T d = false) : popG g.T g.P = w.G := by
  obtain ⟨more, e, hm⟩ := h.pile
  rw [e, popG_app hm]
  refine popG_self fun x hx => ?_
  rw [hl] at hx
  rw [← Option.some.inj hx]
  exact hs
theorem step_fits {g : GS} {s : Int × Int} (h0 : g.E = 0) (he : (stepG g s).E = 0) : ¬ formG (popG g.T g.P) s ∧ ¬ longG g s := by
  refine ⟨fun h => ?_, fun h => ?_⟩
  · unfold stepG at he
    rw [if_neg (by rw [h0]; decide)] at he
    simp only at he
    rw [if_pos h] at he
    cases he
  · unfold stepG at he
    rw [if_neg (by rw [h0]; decide)] at he
    simp only at he
    by_cases hf : formG (popG g.T g.P) s
    · rw [if_pos hf] at he; cases he
    · rw [if_neg hf, if_pos h] at he; cases he
theorem over_fit {g : GS} {P : List (Int × Int)} {p q v : Int} {N : Nat} (he : (overG g P p q v N).E = 0) : overG g P p q v N = { g with T := g.T ++ [(q, p, v)], N := N, P := P.dropLast ++ [(p, v), (v, q)] } := by
  unfold overG at he ⊢
  split at he
  · cases he
  · rename_i h
    rw [if_neg h]
/-- What a step with a gate open does. -/
theorem step_open {g : GS} {s : Int × Int} (h0 : g.E = 0) (he : (stepG g s).E = 0) {d : Int × Int} (hl : (popG g.T g.P).getLast? = some d) :
    (s = (1, 0) ∧ stepG g s = { g with P := (popG g.T g.P).dropLast, B := g.B ++ [(d.2, d.1)] }) ∨
    ∃ (v : Int) (N : Nat), ((s = (2, 0) ∧ v = g.N ∧ N = g.N + 1) ∨ (s = (3, v) ∧ (0 ≤ v ∧ v < g.N) ∧ v ≠ d.1 ∧ v ≠ d.2 ∧ N = g.N)) ∧ stepG g s = { g with T := g.T ++ [(d.2, d.1, v)], N := N, P := (popG g.T g.P).dropLast ++ [(d.1, v), (v, d.2)] } := by
  obtain ⟨hf, hg⟩ := step_fits h0 he
  have hne : popG g.T g.P ≠ [] := fun e => by rw [e] at hl; cases hl
  have e : stepG g s = (if s.1 = 1 then { g with P := (popG g.T g.P).dropLast, B := g.B ++ [(d.2, d.1)] }
    else if s.1 = 2 then overG g (popG g.T g.P) d.1 d.2 g.N (g.N + 1)
    else if s.2 < 0 ∨ (g.N : Int) ≤ s.2 ∨ s.2 = d.1 ∨ s.2 = d.2 then { g with P := popG g.T g.P, E := 11 }
    else overG g (popG g.T g.P) d.1 d.2 s.2 g.N) := by
    unfold stepG
    rw [if_neg (by rw [h0]; decide)]
    simp only
    rw [if_neg hf, if_neg hg, if_neg (fun e => hf (Or.inr (Or.inr (Or.inr (Or.inl ⟨e, hne⟩))))), hl]
  obtain ⟨a, b⟩ := s
  have ha : 0 ≤ a := Int.not_lt.1 fun e => hf (Or.inl e)
  have ha3 : a ≤ 3 := Int.not_lt.1 fun e => hf (Or.inr (Or.inl e))
  have hb : a < 3 → b = 0 := fun e => Decidable.byContradiction fun e2 => hf (Or.inr (Or.inr (Or.inl ⟨e, e2⟩)))
  have ha0 : a ≠ 0 := fun e => hf (Or.inr (Or.inr (Or.inr (Or.inl ⟨e, hne⟩))))
  rw [e] at he ⊢
  simp only at he ⊢
  by_cases h1 : a = 1
  · rw [if_pos h1]
    exact Or.inl ⟨by rw [h1, hb (by omega)], rfl⟩
  · rw [if_neg h1] at he ⊢
    right
    by_cases h2 : a = 2
    · rw [if_pos h2] at he ⊢
      exact ⟨g.N, g.N + 1, Or.inl ⟨by rw [h2, hb (by omega)], rfl, rfl⟩, over_fit he⟩
    · rw [if_neg h2] at he ⊢
      by_cases h3 : b < 0 ∨ (g.N : Int) ≤ b ∨ b = d.1 ∨ b = d.2
      · rw [if_pos h3] at he; cases he
      · rw [if_neg h3] at he ⊢
        exact ⟨b, g.N, Or.inr ⟨by rw [show a = 3 by omega], ⟨by omega, by omega⟩, by omega, by omega, rfl⟩, over_fit he⟩
/-- One gate of the walk, where the grower's next step is told there. -/
theorem BackAt.gate {T : List P3} (hn : (darts T).Nodup) {w : WS} {g : GS} {S : List (Int × Int)} (hok : GOk g) (h : BackAt w g S) (h0 : g.E = 0) {p q : Int} (hl : w.G.getLast? = some (p, q)) (hs : shutG g.T (p, q) = false) {s : Int × Int} (he : (stepG g s).E = 0) (hT : (stepG g s).T <+: T) (hB : ∀ d ∈ (stepG g s).B, d ∉ darts T) : BackAt (gateTo T w p q) (stepG g s) (S ++ [s]) := by
  have htop := h.top hl hs
  have hl2 : (popG g.T g.P).getLast? = some (p, q) := by rw [htop]; exact hl
  have hm : (p, q) ∈ g.P := (popG_pre g.T g.P).subset (List.mem_of_getLast? hl2)
  obtain ⟨rp, rq, hpq⟩ := darts_in_range hok.tri (hok.gat _ hm)
  simp only at rp rq hpq
  rcases step_open h0 he hl2 with ⟨rfl, e⟩ | ⟨v, N, hv, e⟩
  · rw [e] at hB ⊢
    have hno : (q, p) ∉ darts T := hB _ (List.mem_append_right _ (List.mem_singleton.2 rfl))
    unfold gateTo
    rw [hasF_none hno, if_pos (by decide)]
    refine ⟨h.V, h.O, h.N, by show w.S ++ _ = _; rw [h.S], [], ?_, fun _ hd => by cases hd⟩
    rw [List.append_nil]
    show (popG g.T g.P).dropLast = _
    rw [htop]
  · rw [e] at hT ⊢
    simp only at hT
    obtain ⟨R, hR⟩ := hT
    have hj : T[g.T.length]? = some (q, p, v) := by
      rw [← hR, List.append_assoc, List.getElem?_append_right (Nat.le_refl _), Nat.sub_self]
      rfl
    obtain ⟨hjl, hje⟩ := List.getElem?_eq_some_iff.1 hj
    have hF : hasF T q p = (g.T.length : Int) := hasF_is hn hjl (by rw [hje]; exact mem_dirs.2 (Or.inl rfl))
    have hvp : v ≠ p ∧ v ≠ q := by
      rcases hv with ⟨_, h1, _⟩ | ⟨_, _, h1, h2, _⟩
      · omega
      · exact ⟨h1, h2⟩
    have ht3 : thirdV (q, p, v) p q = v := by unfold thirdV; rw [if_pos ⟨hvp.1, hvp.2⟩]
    have hO : g.T.length ∉ w.O := by rw [h.O]; exact fun e => absurd (List.mem_range.1 e) (Nat.lt_irrefl _)
    unfold gateTo
    rw [hF, if_neg (by omega), Int.toNat_natCast, if_neg hO]
    unfold stepTo
    simp only [hj, Option.getD_some, ht3, h.V]
    have hlen : (g.T ++ [(q, p, v)]).length = g.T.length + 1 := by rw [List.length_append]; rfl
    rcases hv with ⟨rfl, h1, h2⟩ | ⟨rfl, h1, _, _, h2⟩
    · have hnv : v ∉ firstV g.N := fun e => by have := mem_firstV.1 e; omega
      have eV : meetW (firstV g.N) v = firstV (g.N + 1) := by unfold meetW; rw [if_neg hnv, firstV_next, h1]
      rw [if_neg hnv, eV, h2]
      refine ⟨rfl, ?_, ?_, ?_, [], ?_, fun _ hd => by cases hd⟩
      · show w.O ++ _ = List.range (g.T ++ [(q, p, v)]).length
        rw [hlen, List.range_succ, h.O]
      · show w.N ++ _ = _
        rw [h.N, find_firstV (x := q) ⟨rq.1, by omega⟩, find_firstV (x := p) ⟨rp.1, by omega⟩, find_firstV (x := v) ⟨by omega, by omega⟩]
      · show w.S ++ _ = _
        rw [h.S]
      · show (popG g.T g.P).dropLast ++ _ = (w.G.dropLast ++ _) ++ []
        rw [List.append_nil, htop]
    · have hmv : v ∈ firstV g.N := mem_firstV.2 h1
      have eV : meetW (firstV g.N) v = firstV g.N := by unfold meetW; rw [if_pos hmv]
      rw [if_pos hmv, eV, h2]
      refine ⟨rfl, ?_, ?_, ?_, [], ?_, fun _ hd => by cases hd⟩
      · show w.O ++ _ = List.range (g.T ++ [(q, p, v)]).length
        rw [hlen, List.range_succ, h.O]
      · show w.N ++ _ = _
        rw [h.N, find_firstV (x := q) rq, find_firstV (x := p) rp, find_firstV (x := v) h1]
      · show w.S ++ _ = _
        rw [h.S, find_firstV h1]
      · show (popG g.T g.P).dropLast ++ _ = (w.G.dropLast ++ _) ++ []
        rw [List.append_nil, htop]
theorem BackAt.none {w : WS} {g : GS} {S : List (Int × Int)} (h : BackAt w g S) (hg : w.G = []) : popG g.T g.P = [] ∧ openG g = 0 := by
  obtain ⟨more, e, hm⟩ := h.pile
  rw [hg, List.nil_append] at e
  refine ⟨?_, ?_⟩
  · have := popG_app (T := g.T) (l := []) (r := more) hm
    rw [List.nil_append] at this
    rw [e, this]
    rfl
  · unfold openG
    rw [e]
    exact List.countP_eq_zero.2 fun d hd => by rw [hm d hd]; decide
/-- A seed walked again. -/
theorem BackAt.seed {T : List P3} {w : WS} {g : GS} {S : List (Int × Int)} (h : BackAt w g S) (h0 : g.E = 0) (hg : w.G = []) {s : Int × Int} (he : (stepG g s).E = 0) (hT : (stepG g s).T <+: T) : BackAt (seedW T w g.T.length) (stepG g s) (S ++ [s]) := by
  obtain ⟨hp, ho⟩ := h.none hg
  obtain ⟨_, hl⟩ := step_fits h0 he
  have hs : s.1 = 0 ∧ s.2 = 0 := Decidable.byContradiction fun e => by rw [more_form h0 ho e] at he; cases he
  have es : s = (0, 0) := Prod.ext hs.1 hs.2
  subst es
  have e : stepG g (0, 0) = { g with T := g.T ++ [((g.N : Int), (g.N : Int) + 1, (g.N : Int) + 2)], N := g.N + 3, P := [((g.N : Int), (g.N : Int) + 1), ((g.N : Int) + 1, (g.N : Int) + 2), ((g.N : Int) + 2, (g.N : Int))] } := by
    unfold stepG
    rw [if_neg (by rw [h0]; decide)]
    simp only [hp]
    rw [if_neg (by unfold formG; simp), if_neg hl, if_pos trivial]
    rfl
  rw [e] at hT ⊢
  simp only at hT
  obtain ⟨R, hR⟩ := hT
  have hj : T[g.T.length]? = some ((g.N : Int), (g.N : Int) + 1, (g.N : Int) + 2) := by
    rw [← hR, List.append_assoc, List.getElem?_append_right (Nat.le_refl _), Nat.sub_self]
    rfl
  have m1 : meetW (firstV g.N) (g.N : Int) = firstV (g.N + 1) := by
    unfold meetW
    rw [if_neg (fun e => by have := mem_firstV.1 e; omega), firstV_next]
  have m2 : meetW (firstV (g.N + 1)) ((g.N : Int) + 1) = firstV (g.N + 2) := by
    unfold meetW
    rw [if_neg (fun e => by have := mem_firstV.1 e; omega), firstV_next (g.N + 1)]
    rfl
  have m3 : meetW (firstV (g.N + 2)) ((g.N : Int) + 2) = firstV (g.N + 3) := by
    unfold meetW
    rw [if_neg (fun e => by have := mem_firstV.1 e; omega), firstV_next (g.N + 2)]
    rfl
  unfold seedW
  simp only [hj, Option.getD_some, h.V, m1, m2, m3]
  rw [find_firstV (n := g.N + 3) (x := (g.N : Int)) ⟨by omega, by omega⟩, find_firstV (n := g.N + 3) (x := (g.N : Int) + 1) ⟨by omega, by omega⟩, find_firstV (n := g.N + 3) (x := (g.N : Int) + 2) ⟨by omega, by omega⟩]
  have hlen : (g.T ++ [((g.N : Int), (g.N : Int) + 1, (g.N : Int) + 2)]).length = g.T.length + 1 := by rw [List.length_append]; rfl
  refine ⟨rfl, ?_, ?_, ?_, [], ?_, fun _ hd => by cases hd⟩
  · show w.O ++ _ = List.range (g.T ++ _).length
    rw [hlen, List.range_succ, h.O]
  · show w.N ++ _ = _
    rw [h.N]
  · show w.S ++ _ = _
    rw [h.S]
  · show _ = (w.G ++ _) ++ []
    rw [hg, List.append_nil]
    rfl
theorem take_next {l : List (Int × Int)} {k : Nat} (hk : k < l.length) : l.take (k + 1) = l.take k ++ [l[k]] ∧ growG (l.take (k + 1)) = stepG (growG (l.take k)) l[k] := by
  have e := List.take_succ_eq_append_getElem hk
  exact ⟨e, by rw [e, growG_next]⟩
theorem drain_back {l : List (Int × Int)} (hE : (growG l).E = 0) (ho : openG (growG l) = 0) : ∀ (f : Nat) (w : WS) (k : Nat), k ≤ l.length → BackAt w (growG (l.take k)) (l.take k) → ∃ k', k' ≤ l.length ∧ BackAt (drainW (growG l).T f w) (growG (l.take k')) (l.take k') := by
  intro f
  induction f with
  | zero => intro w k hk h; exact ⟨k, hk, h⟩
  | succ f ih =>
    intro w k hk h
    unfold drainW
    by_cases hg : w.G = []
    · rw [if_pos hg]; exact ⟨k, hk, h⟩
    · rw [if_neg hg]
      obtain ⟨p, q, e1, e2⟩ := gateW_last (T := (growG l).T) hg
      rw [e2]
      have hpre := growG_pre l k
      by_cases hs : shutG (growG (l.take k)).T (p, q) = true
      · have hd : (q, p) ∈ darts (growG (l.take k)).T := of_decide_eq_true hs
        obtain ⟨t, ht, hdt⟩ := mem_darts.1 hd
        obtain ⟨j, hj, rfl⟩ := List.getElem_of_mem ht
        obtain ⟨R, hR⟩ := hpre.1
        have hjT : (growG l).T[j]? = some (growG (l.take k)).T[j] := by rw [← hR, List.getElem?_append_left hj, List.getElem?_eq_getElem hj]
        obtain ⟨hjl, hje⟩ := List.getElem?_eq_some_iff.1 hjT
        have hF : hasF (growG l).T q p = (j : Int) := hasF_is (growG_ok l).nd hjl (by rw [hje]; exact hdt)
        have eg : gateTo (growG l).T w p q = { w with G := w.G.dropLast } := by
          unfold gateTo
          rw [hF, if_neg (by omega), Int.toNat_natCast, if_pos (by rw [h.O]; exact List.mem_range.2 hj)]
        rw [eg]
        exact ih _ k hk (h.skip e1 hs)
      · have hs2 : shutG (growG (l.take k)).T (p, q) = false := by simpa using hs
        have hkl : k < l.length := by
          refine Nat.lt_of_le_of_ne hk fun e => ?_
          rw [e, List.take_length] at h hs2
          obtain ⟨more, e3, _⟩ := h.pile
          have hm : (p, q) ∈ (growG l).P := by rw [e3]; exact List.mem_append_left _ (List.mem_of_getLast? e1)
          have := List.countP_eq_zero.1 ho (p, q) hm
          rw [hs2] at this
          exact this rfl
        obtain ⟨n1, n2⟩ := take_next hkl
        have hE1 := grow_pre hE (k + 1)
        have hpre1 := growG_pre l (k + 1)
        rw [n2] at hE1 hpre1
        have hb := h.gate (T := (growG l).T) (growG_ok l).nd (growG_ok _) (grow_pre hE k) e1 hs2 hE1 hpre1.1 (fun d hd => ((growG_ok l).bor d (hpre1.2.subset hd)).1)
        rw [← n2, ← n1] at hb
        exact ih _ (k + 1) hkl hb
theorem walk_back {l : List (Int × Int)} (hE : (growG l).E = 0) (ho : openG (growG l) = 0) : ∀ i, i ≤ (growG l).T.length → ∃ k, k ≤ l.length ∧ BackAt (walkTo (growG l).T i) (growG (l.take k)) (l.take k) := by
  intro i
  induction i with
  | zero => intro _; exact ⟨0, Nat.zero_le _, backAt_new⟩
  | succ i ih =>
    intro hi
    obtain ⟨k, hk, h⟩ := ih (by omega)
    obtain ⟨_, h2, h3⟩ := walk_ok (growG l).T i (by omega)
    by_cases hm : i ∈ (walkTo (growG l).T i).O
    · rw [walkTo_skip hm]
      exact ⟨k, hk, h⟩
    · rw [walkTo_take hm]
      have hlen : (growG (l.take k)).T.length = i := by
        rw [h.O] at hm h3
        refine Nat.le_antisymm (Nat.le_of_not_lt fun e => hm (List.mem_range.2 e)) (Nat.le_of_not_lt fun e => ?_)
        exact absurd (List.mem_range.1 (h3 _ e)) (Nat.lt_irrefl _)
      have hkl : k < l.length := by
        refine Nat.lt_of_le_of_ne hk fun e => ?_
        rw [e, List.take_length] at hlen
        omega
      obtain ⟨n1, n2⟩ := take_next hkl
      have hE1 := grow_pre hE (k + 1)
      have hpre1 := growG_pre l (k + 1)
      rw [n2] at hE1 hpre1
      have hb := h.seed (T := (growG l).T) (grow_pre hE k) h2 hE1 hpre1.1
      rw [← n2, ← n1, hlen] at hb
      exact drain_back hE ho _ _ (k + 1) hkl hb
/-- What is grown is told by a walk in the same steps, and is its own canon. -/
theorem grow_walk {l : List (Int × Int)} (hE : (growG l).E = 0) (ho : openG (growG l) = 0) : (walkF (growG l).T).S = l ∧ (walkF (growG l).T).N = (growG l).T ∧ (walkF (growG l).T).V = firstV (growG l).N := by
  obtain ⟨k, hk, h⟩ := walk_back hE ho (growG l).T.length (Nat.le_refl _)
  obtain ⟨_, h2, h3⟩ := walk_ok (growG l).T (growG l).T.length (Nat.le_refl _)
  have hkl : k = l.length := by
    refine Decidable.byContradiction fun e => ?_
    have hk2 : k < l.length := by omega
    obtain ⟨hp, hop⟩ := h.none h2
    obtain ⟨n1, n2⟩ := take_next hk2
    have hE1 := grow_pre hE (k + 1)
    have hs := grow_seed hE hk2 hop
    have hpre1 := (growG_pre l (k + 1)).1.length_le
    have hw := stepG_way (growG (l.take k)) l[k]
    rw [n2] at hE1 hpre1
    have hge : (growG l).T.length ≤ (growG (l.take k)).T.length := by
      refine Nat.le_of_not_lt fun e2 => ?_
      have := h3 _ e2
      rw [h.O] at this
      exact absurd (List.mem_range.1 this) (Nat.lt_irrefl _)
    rcases (hw.fit hE1).2 with ⟨_, _, c⟩ | ⟨a, _, _⟩ | ⟨a, _, _⟩ | ⟨a, _, _⟩
    · omega
    · omega
    · omega
    · omega
  rw [hkl, List.take_length] at h
  exact ⟨h.S, h.N, h.V⟩
end Go.Proofs.YthjmojglcfmkmaaDoor

/- Layer 12, laid ahead: where no gate is open, what is grown so far is a surface itself. Mathematics only. -/
namespace Go.Proofs.YthjmojglcfmkmaaDoor

/-- Each directed edge's other side is there, or a border, or it is a gate. -/
def GCov (g : GS) : Prop := ∀ d ∈ darts g.T, (d.2, d.1) ∈ darts g.T ∨ (d.2, d.1) ∈ g.B ∨ d ∈ g.P
theorem popG_or {T : List P3} {l : List (Int × Int)} {d : Int × Int} (h : d ∈ l) : d ∈ popG T l ∨ (d.2, d.1) ∈ darts T := by
  have h1 : d ∈ l.reverse := List.mem_reverse.2 h
  rw [← List.takeWhile_append_dropWhile (p := shutG T) (l := l.reverse)] at h1
  rcases List.mem_append.1 h1 with h2 | h2
  · have : ∀ (r : List (Int × Int)), d ∈ r.takeWhile (shutG T) → shutG T d = true := fun r => by
      induction r with
      | nil => intro h; cases h
      | cons x r ih =>
        intro h
        by_cases hx : shutG T x = true
        · rw [List.takeWhile_cons_of_pos hx] at h
          rcases List.mem_cons.1 h with rfl | h
          · exact hx
          · exact ih h
        · rw [List.takeWhile_cons_of_neg hx] at h
          cases h
    exact Or.inr (of_decide_eq_true (this _ h2))
  · exact Or.inl (List.mem_reverse.2 h2)
theorem step_seed {g : GS} {s : Int × Int} (h0 : g.E = 0) (he : (stepG g s).E = 0) (hp : popG g.T g.P = []) : stepG g s = { g with T := g.T ++ [((g.N : Int), (g.N : Int) + 1, (g.N : Int) + 2)], N := g.N + 3, P := [((g.N : Int), (g.N : Int) + 1), ((g.N : Int) + 1, (g.N : Int) + 2), ((g.N : Int) + 2, (g.N : Int))] } := by
  obtain ⟨hf, hl⟩ := step_fits h0 he
  rw [hp] at hf
  have h1 : s.1 = 0 := by
    have a := Int.not_lt.1 fun e => hf (Or.inl e)
    have b := Int.not_lt.1 fun e => hf (Or.inr (Or.inr (Or.inr (Or.inr ⟨e, rfl⟩))))
    omega
  unfold stepG
  rw [if_neg (by rw [h0]; decide)]
  simp only [hp]
  rw [if_neg hf, if_neg hl, if_pos h1]
  rfl
theorem stepG_cov {g : GS} {s : Int × Int} (hok : GOk g) (hc : GCov g) (h0 : g.E = 0) (he : (stepG g s).E = 0) : GCov (stepG g s) := by
  cases hl : (popG g.T g.P).getLast? with
  | none =>
    have hp : popG g.T g.P = [] := List.getLast?_eq_none_iff.1 hl
    rw [step_seed h0 he hp]
    intro d hd
    simp only at hd ⊢
    rw [darts_app] at hd ⊢
    rcases List.mem_append.1 hd with hd | hd
    · rcases hc d hd with h | h | h
      · exact Or.inl (List.mem_append_left _ h)
      · exact Or.inr (Or.inl h)
      · rcases popG_or (T := g.T) h with h | h
        · rw [hp] at h; cases h
        · exact Or.inl (List.mem_append_left _ h)
    · exact Or.inr (Or.inr hd)
  | some x =>
    obtain ⟨p, q⟩ := x
    obtain ⟨ys, hys⟩ := List.getLast?_eq_some_iff.1 hl
    have hm : (p, q) ∈ g.P := (popG_pre g.T g.P).subset (List.mem_of_getLast? hl)
    rcases step_open h0 he hl with ⟨_, e⟩ | ⟨v, N, _, e⟩
    · rw [e]
      intro d hd
      simp only at hd ⊢
      rcases hc d hd with h | h | h
      · exact Or.inl h
      · exact Or.inr (Or.inl (List.mem_append_left _ h))
      · rcases popG_or (T := g.T) h with h | h
        · rw [hys] at h ⊢
          rw [List.dropLast_concat]
          rcases List.mem_append.1 h with h | h
          · exact Or.inr (Or.inr h)
          · rw [List.mem_singleton.1 h]
            exact Or.inr (Or.inl (List.mem_append_right _ (List.mem_singleton.2 rfl)))
        · exact Or.inl h
    · rw [e]
      intro d hd
      simp only at hd ⊢
      rw [darts_app] at hd ⊢
      rcases List.mem_append.1 hd with hd | hd
      · rcases hc d hd with h | h | h
        · exact Or.inl (List.mem_append_left _ h)
        · exact Or.inr (Or.inl h)
        · rcases popG_or (T := g.T) h with h | h
          · rw [hys] at h ⊢
            rw [List.dropLast_concat]
            rcases List.mem_append.1 h with h | h
            · exact Or.inr (Or.inr (List.mem_append_left _ h))
            · rw [List.mem_singleton.1 h]
              exact Or.inl (List.mem_append_right _ (mem_dirs.2 (Or.inl rfl)))
          · exact Or.inl (List.mem_append_left _ h)
      · rcases mem_dirs.1 hd with rfl | rfl | rfl
        · exact Or.inl (List.mem_append_left _ (hok.gat _ hm))
        · exact Or.inr (Or.inr (List.mem_append_right _ (List.mem_cons_self ..)))
        · exact Or.inr (Or.inr (List.mem_append_right _ (List.mem_cons_of_mem _ (List.mem_singleton.2 rfl))))
theorem growG_cov {l : List (Int × Int)} (h : (growG l).E = 0) : ∀ k, k ≤ l.length → GCov (growG (l.take k)) := by
  intro k
  induction k with
  | zero => intro _ d hd; cases hd
  | succ k ih =>
    intro hk
    obtain ⟨_, n2⟩ := take_next (l := l) (k := k) (by omega)
    have he := grow_pre h (k + 1)
    rw [n2] at he ⊢
    exact stepG_cov (growG_ok _) (ih (by omega)) (grow_pre h k) he
/-- With no gate open: whole pieces. -/
theorem grow_closed {l : List (Int × Int)} (h : (growG l).E = 0) {k : Nat} (hk : k ≤ l.length) (ho : openG (growG (l.take k)) = 0) {d : Int × Int} (hd : d ∈ darts (growG (l.take k)).T) (hr : (d.2, d.1) ∈ darts (growG l).T) : (d.2, d.1) ∈ darts (growG (l.take k)).T := by
  rcases growG_cov h k hk d hd with h1 | h1 | h1
  · exact h1
  · exact absurd hr ((growG_ok l).bor _ ((growG_pre l k).2.subset h1)).1
  · have := List.countP_eq_zero.1 ho d h1
    have hs : shutG (growG (l.take k)).T d = true := by simpa using this
    exact of_decide_eq_true hs
/-- Each vertex is a corner. -/
def GUse (g : GS) : Prop := ∀ v : Nat, v < g.N → ∃ t ∈ g.T, hasV (v : Int) t
theorem stepG_use {g : GS} {s : Int × Int} (hc : GUse g) (h0 : g.E = 0) (he : (stepG g s).E = 0) : GUse (stepG g s) := by
  cases hl : (popG g.T g.P).getLast? with
  | none =>
    have hp : popG g.T g.P = [] := List.getLast?_eq_none_iff.1 hl
    rw [step_seed h0 he hp]
    intro v hv
    simp only at hv ⊢
    by_cases h : v < g.N
    · obtain ⟨t, ht, hh⟩ := hc v h
      exact ⟨t, List.mem_append_left _ ht, hh⟩
    · refine ⟨_, List.mem_append_right _ (List.mem_singleton.2 rfl), ?_⟩
      unfold hasV
      simp only
      omega
  | some x =>
    obtain ⟨p, q⟩ := x
    rcases step_open h0 he hl with ⟨_, e⟩ | ⟨u, N, hu, e⟩
    · rw [e]
      exact hc
    · rw [e]
      intro v hv
      simp only at hv ⊢
      by_cases h : v < g.N
      · obtain ⟨t, ht, hh⟩ := hc v h
        exact ⟨t, List.mem_append_left _ ht, hh⟩
      · rcases hu with ⟨_, h1, h2⟩ | ⟨_, _, _, _, h2⟩
        · refine ⟨_, List.mem_append_right _ (List.mem_singleton.2 rfl), ?_⟩
          unfold hasV
          simp only
          omega
        · omega
theorem growG_use {l : List (Int × Int)} (h : (growG l).E = 0) : ∀ k, k ≤ l.length → GUse (growG (l.take k)) := by
  intro k
  induction k with
  | zero => intro _ v hv; exact absurd hv (Nat.not_lt_zero _)
  | succ k ih =>
    intro hk
    obtain ⟨_, n2⟩ := take_next (l := l) (k := k) (by omega)
    have he := grow_pre h (k + 1)
    rw [n2] at he ⊢
    exact stepG_use (ih (by omega)) (grow_pre h k) he
theorem dart_tri {T : List P3} (hn : (darts T).Nodup) {t u : P3} (ht : t ∈ T) (hu : u ∈ T) {d : Int × Int} (h1 : d ∈ dirs t) (h2 : d ∈ dirs u) : t = u := by
  obtain ⟨a, ha, rfl⟩ := List.getElem_of_mem ht
  obtain ⟨b, hb, rfl⟩ := List.getElem_of_mem hu
  have e1 := hasF_is hn ha (a := d.1) (b := d.2) h1
  have e2 := hasF_is hn hb (a := d.1) (b := d.2) h2
  have : a = b := by omega
  subst this
  rfl
/-- Where a surface's steps, some of the last ones left out, leave no gate open, they grow a surface. -/
theorem prefix_check {C N : List P3} (hc : CheckIs C N 0) {l : List (Int × Int)} (hE : (growG l).E = 0) (hT : (growG l).T = N) {k : Nat} (hk : k ≤ l.length) (ho : openG (growG (l.take k)) = 0) {Q : List P3} (hQ : Q.length = (growG (l.take k)).N) (hz : Q.all pointM = true) : CheckIs Q (growG (l.take k)).T 0 := by
  obtain ⟨_, hp, hn, hf⟩ := check_zero hc
  have hall : N.all (triM C.length) = true := by unfold plainM at hp; rw [Bool.and_eq_true] at hp; exact hp.2
  have hok := growG_ok (l.take k)
  have hpre := (growG_pre l k).1
  rw [hT] at hpre
  refine Or.inr (Or.inr (Or.inr (Or.inr ⟨?_, ?_, hok.nd, fun v hv => ?_, rfl⟩)))
  · rintro (e | e)
    · have := hok.lenN; omega
    · have := hok.lenT; omega
  · unfold plainM
    rw [hz, hQ, hok.tri]
    rfl
  · rw [hQ] at hv
    obtain ⟨t0, ht0, hv0⟩ := growG_use hE k hk v hv
    have hvC : v < C.length := by
      have hr := triM_iff.1 (List.all_eq_true.1 hall _ (hpre.subset ht0))
      unfold hasV at hv0
      omega
    refine ⟨⟨t0, ht0, hv0⟩, fun t ht u hu hvt hvu => ?_⟩
    have hr := (hf v hvC).2 t (hpre.subset ht) u (hpre.subset hu) hvt hvu
    have key : ∀ u, Reach (fun a b => b ∈ N ∧ joinedV (v : Int) a b) t u → u ∈ (growG (l.take k)).T ∧ Reach (fun a b => b ∈ (growG (l.take k)).T ∧ joinedV (v : Int) a b) t u := fun u hr => by
      induction hr with
      | refl => exact ⟨ht, Reach.refl⟩
      | step h s ih =>
        rename_i y z
        obtain ⟨hy, hry⟩ := ih
        obtain ⟨hzN, p, q, h1, h2, h3⟩ := s
        have hd : (q, p) ∈ darts (growG (l.take k)).T := grow_closed hE hk ho (d := (p, q)) (mem_darts.2 ⟨y, hy, h1⟩) (by rw [hT]; exact mem_darts.2 ⟨z, hzN, h3⟩)
        obtain ⟨z', hz', h4⟩ := mem_darts.1 hd
        have e := dart_tri hn hzN (hpre.subset hz') h3 h4
        subst e
        exact ⟨hz', hry.step ⟨hz', p, q, h1, h2, h3⟩⟩
    exact (key u hr).2
end Go.Proofs.YthjmojglcfmkmaaDoor

/- Walks and growers side by side, in plain words. -/
namespace Go.Proofs.YthjmojglcfmkmaaDoor
open Go.RowKit

theorem close_zero {s : GS} (h : CloseIs s 0) : s.E = 0 ∧ openG s = 0 ∧ CheckIs (List.replicate s.N (0, 0, 0)) s.T 0 := by
  have h0 : s.E = 0 := Decidable.byContradiction fun e => e (close_err h e).symm
  have ho : ¬ 0 < openG s := fun e => by have := close_open h h0 e; omega
  exact ⟨h0, by omega, close_check h h0 ho⟩
theorem pts_zero (n : Nat) : (List.replicate n ((0 : Int), (0 : Int), (0 : Int))).all pointM = true :=
  List.all_eq_true.2 fun x hx => by rw [List.eq_of_mem_replicate hx]; rfl
/-- A surface's steps, some of the last ones left out: where no gate is open, nothing is wrong. -/
theorem close_prefix {P T : List P3} (hc : CheckIs P T 0) {k : Nat} (hk : k ≤ (walkF T).S.length) (ho : openG (growG ((walkF T).S.take k)) = 0) : CloseIs (growG ((walkF T).S.take k)) 0 := by
  obtain ⟨hE, hT, _, _⟩ := grow_canon hc
  have hp := prefix_check (canon_twice hc).1 hE hT hk ho (Q := List.replicate _ (0, 0, 0)) (List.length_replicate ..) (pts_zero _)
  unfold CloseIs
  rw [if_neg (by rw [grow_pre hE k]; decide), if_neg (by omega)]
  exact hp
theorem close_canon {P T : List P3} (hc : CheckIs P T 0) : CloseIs (growG (walkF T).S) 0 := by
  have := close_prefix hc (Nat.le_refl _) (by rw [List.take_length]; exact (grow_canon hc).2.2.2)
  rwa [List.take_length] at this
theorem grow_in64 {l : List (Int × Int)} (h : (growG l).E = 0) : ∀ d ∈ l, in64 d := by
  intro d hd
  obtain ⟨i, hi, rfl⟩ := List.mem_iff_getElem.1 hd
  have h0 := grow_pre h i
  have h1 := grow_pre h (i + 1)
  rw [(take_next hi).2] at h1
  have hN := (growG_ok (l.take i)).lenN
  obtain ⟨hf, _⟩ := step_fits h0 h1
  have key : (0 ≤ l[i].1 ∧ l[i].1 ≤ 3) ∧ 0 ≤ l[i].2 ∧ l[i].2 ≤ 4000 := by
    have ha : 0 ≤ l[i].1 := Int.not_lt.1 fun e => hf (Or.inl e)
    have ha3 : l[i].1 ≤ 3 := Int.not_lt.1 fun e => hf (Or.inr (Or.inl e))
    have hb : l[i].1 < 3 → l[i].2 = 0 := fun e => Decidable.byContradiction fun e2 => hf (Or.inr (Or.inr (Or.inl ⟨e, e2⟩)))
    refine ⟨⟨ha, ha3⟩, ?_⟩
    by_cases h3 : l[i].1 < 3
    · have := hb h3; omega
    · cases hl : (popG (growG (l.take i)).T (growG (l.take i)).P).getLast? with
      | none => exact absurd (Or.inr (Or.inr (Or.inr (Or.inr ⟨by omega, List.getLast?_eq_none_iff.1 hl⟩)))) hf
      | some d =>
        rcases step_open h0 h1 hl with ⟨e, _⟩ | ⟨v, N, hv, _⟩
        · rw [e] at h3; simp at h3
        · rcases hv with ⟨e, _⟩ | ⟨e, hv, _⟩
          · rw [e] at h3; simp at h3
          · rw [e]; simp only; omega
  exact ⟨WalkArith.wf_i64 (by omega), WalkArith.wf_i64 (by omega)⟩
theorem canon_zero (n : Nat) (T : List P3) : canonP (List.replicate n (0, 0, 0)) T = List.replicate (walkF T).V.length (0, 0, 0) := by
  rw [canonP_is]
  refine List.eq_replicate_iff.2 ⟨List.length_map .., fun b hb => ?_⟩
  obtain ⟨x, _, rfl⟩ := List.mem_map.1 hb
  unfold ptF
  rw [List.getElem?_replicate]
  split <;> rfl
/-- What was grown is told in the same steps, and is its own canon. -/
theorem back_is {l : List (Int × Int)} (h : CloseIs (growG l) 0) : (walkF (growG l).T).S = l ∧ (walkF (growG l).T).N = (growG l).T ∧ canonP (List.replicate (growG l).N (0, 0, 0)) (growG l).T = List.replicate (growG l).N (0, 0, 0) := by
  obtain ⟨h0, ho, _⟩ := close_zero h
  obtain ⟨h1, h2, h3⟩ := grow_walk h0 ho
  exact ⟨h1, h2, by rw [canon_zero, h3, firstV_len]⟩
/-- Steps that want some of the last ones: what is wrong. -/
theorem short_is {P T : List P3} (hc : CheckIs P T 0) {k : Nat} (hk : k < (walkF T).S.length) {r : Int} (hr : CloseIs (growG ((walkF T).S.take k)) r) : (r = 10 ∨ r = 0) ∧ (r = 0 → ((walkF T).S[k]).1 = 0) := by
  have hE := (grow_canon hc).1
  by_cases ho : 0 < openG (growG ((walkF T).S.take k))
  · have := close_open hr (grow_pre hE k) ho
    exact ⟨Or.inl this, fun e => by omega⟩
  · have ho : openG (growG ((walkF T).S.take k)) = 0 := by omega
    have := close_one hr (close_prefix hc (Nat.le_of_lt hk) ho)
    exact ⟨Or.inr this, fun _ => (grow_seed hE hk ho).1⟩
/-- Steps with one more. -/
theorem more_is {P T : List P3} (hc : CheckIs P T 0) (hP : P.length ≤ 3997) (hT : T.length < 8000) (x : Int × Int) {r : Int} (hr : CloseIs (growG ((walkF T).S ++ [x])) r) : r = if x.1 = 0 ∧ x.2 = 0 then 10 else 11 := by
  obtain ⟨hE, hTn, hN, hO⟩ := grow_canon hc
  rw [growG_next] at hr
  split
  · rename_i hx
    obtain ⟨a, b⟩ := x
    simp only at hx
    obtain ⟨rfl, rfl⟩ := hx
    have hl := (canon_twice hc).2.2.2.2.2.1
    obtain ⟨h1, h2⟩ := more_seed (growG_ok _) hE hO (by rw [hTn, hl]; exact hT) (by rw [hN]; exact hP)
    exact close_open hr h1 h2
  · rename_i hx
    have := more_form hE hO hx
    rw [close_err hr (by rw [this]; decide), this]
end Go.Proofs.YthjmojglcfmkmaaDoor
