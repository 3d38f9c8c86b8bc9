/- The landed mesh: what is collected out of the map, in whatever order it comes. -/
import Derived.Test.YtjahphfjobnkaaaDoorMeshCodeJ
namespace Go.Proofs.YtjahphfjobnkaaaDoor
open Go.RowKit

theorem ranges_under {w w' : World} {b r n cnt B : Nat} {D : DataW Unit} {left : Lit → Bool} (h : w.ranges Tryd.prog 80 sideR b r n D left cnt) (hb : Below B w w') (h1 : b < B) (h2 : r < B) : w'.ranges Tryd.prog 80 sideR b r n D left cnt := by
  obtain ⟨es, clock, since, seen, c0, hm, F, hs, hD, hr, rest⟩ := h
  exact ⟨es, clock, since, seen, c0, (hb.block b h1).trans hm, F, hs, hD, (hb.block r h2).trans hr, rest⟩
theorem ranges_call {w w' : World} {b r n cnt : Nat} {D : DataW Unit} {left : Lit → Bool} (h : w.ranges Tryd.prog 80 sideR b r n D left cnt) (hb : Below w.heap.size w w') : w'.ranges Tryd.prog 80 sideR b r n D left cnt := ranges_under h hb h.owns.lt h.lt
theorem OwnK.grownR {k : Nat} {w w' : World} {base : Nat} {e : TypeId} {v : Value} {n : Nat} {xs : List Value} {row : Option Nat} (h : OwnK k w base e v n xs) (hg : w.grownBy w' row) (hb : ∀ j, row = some j → j < base) : OwnK k w' base e v n xs :=
  World.ownsRow.kept (row := row) h hg (by
    rcases h.2 with ⟨rfl, _⟩ | ⟨g', cap, cur, rfl, hg', _⟩
    · left; simp [Value.ownBlock]
    · right
      intro e
      have := hb g' (by rw [← e]; rfl)
      omega)
/-- What has been collected of the edges that are no longer to come. -/
structure Coll (T : List P3) (left : Lit → Bool) (f : D2 → D2) (ok : D2 → Prop) (l : List D2) : Prop where
  nodup : l.Nodup
  mem : ∀ q, q ∈ l ↔ ∃ e ∈ darts T, left (keyL e) = false ∧ ok e ∧ q = f e
theorem Coll.start {n : Nat} {T : List P3} (h : T.all (triM n) = true) (hn : n ≤ 100000) (f : D2 → D2) (ok : D2 → Prop) : Coll T (Maps.has (sidesD T)) f ok [] := by
  refine ⟨List.nodup_nil, fun q => ⟨fun hq => (by cases hq), ?_⟩⟩
  rintro ⟨e, he, h1, _⟩
  rw [sides_has h hn (dart_in h hn he), decide_eq_true he] at h1
  cases h1
theorem strike_iff {left : Lit → Bool} {d e : D2} (hd : in64 d) (he : in64 e) : (left (keyL d) && !(keyL d).sameKey (keyL e)) = false ↔ left (keyL d) = false ∨ d = e := by
  by_cases h : d = e
  · subst h
    rw [WideAt.sameKey_self (keyL_key hd)]
    simp
  · have hs : (keyL d).sameKey (keyL e) = false := by
      cases hq : (keyL d).sameKey (keyL e) with
      | false => rfl
      | true => exact absurd (keyL_inj hd he (WideAt.sameKey_eq hq)) h
    rw [hs]
    simp [h]
theorem Coll.take {n : Nat} {T : List P3} (h : T.all (triM n) = true) (hn : n ≤ 100000) {left : Lit → Bool} {f : D2 → D2} {ok : D2 → Prop} {l : List D2} (hc : Coll T left f ok l) (hinj : ∀ e ∈ darts T, ∀ e' ∈ darts T, ok e → ok e' → f e = f e' → e = e') {x : D2} (hx : x ∈ darts T) (hl : left (keyL x) = true) (hok : ok x) :
    Coll T (fun z => left z && !z.sameKey (keyL x)) f ok (l ++ [f x]) := by
  have hxi := dart_in h hn hx
  refine ⟨?_, fun q => ?_⟩
  · rw [List.nodup_append]
    refine ⟨hc.nodup, List.nodup_cons.2 ⟨List.not_mem_nil, List.nodup_nil⟩, fun a ha b hb e => ?_⟩
    rw [List.mem_singleton.1 hb] at e
    obtain ⟨e1, h1, h2, h3, h4⟩ := (hc.mem a).1 ha
    have := hinj e1 h1 x hx h3 hok (h4.symm.trans e)
    rw [this, hl] at h2
    cases h2
  · rw [List.mem_append, hc.mem q, List.mem_singleton]
    constructor
    · rintro (⟨e, h1, h2, h3, h4⟩ | rfl)
      · exact ⟨e, h1, (strike_iff (dart_in h hn h1) hxi).2 (Or.inl h2), h3, h4⟩
      · exact ⟨x, hx, (strike_iff hxi hxi).2 (Or.inr rfl), hok, rfl⟩
    · rintro ⟨e, h1, h2, h3, h4⟩
      rcases (strike_iff (dart_in h hn h1) hxi).1 h2 with h5 | rfl
      · exact Or.inl ⟨e, h1, h5, h3, h4⟩
      · exact Or.inr h4
theorem Coll.skip {n : Nat} {T : List P3} (h : T.all (triM n) = true) (hn : n ≤ 100000) {left : Lit → Bool} {f : D2 → D2} {ok : D2 → Prop} {l : List D2} (hc : Coll T left f ok l) {x : D2} (hx : x ∈ darts T) (hok : ¬ ok x) :
    Coll T (fun z => left z && !z.sameKey (keyL x)) f ok l := by
  have hxi := dart_in h hn hx
  refine ⟨hc.nodup, fun q => ?_⟩
  rw [hc.mem q]
  constructor
  · rintro ⟨e, h1, h2, h3, h4⟩
    exact ⟨e, h1, (strike_iff (dart_in h hn h1) hxi).2 (Or.inl h2), h3, h4⟩
  · rintro ⟨e, h1, h2, h3, h4⟩
    rcases (strike_iff (dart_in h hn h1) hxi).1 h2 with h5 | rfl
    · exact ⟨e, h1, h5, h3, h4⟩
    · exact absurd h3 hok
def riseD (d : D2) : D2 := (if d.1 < d.2 then d.1 else d.2, if d.1 < d.2 then d.2 else d.1)
def keepE (T : List P3) (d : D2) : Prop := d = riseD d ∨ swapD d ∉ darts T
def keepB (T : List P3) (d : D2) : Prop := swapD d ∉ darts T
theorem rise_ways (d : D2) : (d.1 < d.2 ∧ riseD d = d) ∨ (d.2 ≤ d.1 ∧ riseD d = swapD d) := by
  unfold riseD swapD
  by_cases h : d.1 < d.2
  · exact Or.inl ⟨h, by rw [if_pos h, if_pos h]⟩
  · exact Or.inr ⟨by omega, by rw [if_neg h, if_neg h]⟩
theorem swap_swap (d : D2) : swapD (swapD d) = d := rfl
theorem rise_inj (T : List P3) : ∀ e ∈ darts T, ∀ e' ∈ darts T, keepE T e → keepE T e' → riseD e = riseD e' → e = e' := by
  intro e he e' he' k k' h
  rcases rise_ways e with ⟨a, b⟩ | ⟨a, b⟩ <;> rcases rise_ways e' with ⟨a', b'⟩ | ⟨a', b'⟩
  · rw [b, b'] at h; exact h
  · rw [b, b'] at h
    rcases k' with k' | k'
    · rw [b'] at k'; rw [h, ← k']
    · rw [← h] at k'; exact absurd he k'
  · rw [b, b'] at h
    rcases k with k | k
    · rw [b] at k; rw [← h, ← k]
    · rw [h] at k; exact absurd he' k
  · rw [b, b'] at h
    have := congrArg swapD h
    rwa [swap_swap, swap_swap] at this
theorem coll_edges {P T : List P3} (h : plainM P T = true) {left : Lit → Bool} {l : List D2} (hc : Coll T left riseD (keepE T) l) (hl : ∀ kl, left kl = false) : ∀ d, d ∈ l ↔ d ∈ edgesF P.length T false := by
  intro q
  rw [hc.mem q, mem_edges h]
  constructor
  · rintro ⟨e, he, _, _, rfl⟩
    have hne := (darts_in h he).2
    rcases rise_ways e with ⟨a, b⟩ | ⟨a, b⟩
    · rw [b]; exact ⟨a, Or.inl he⟩
    · rw [b]
      refine ⟨?_, Or.inr (by rw [swap_swap]; exact he)⟩
      show e.2 < e.1
      omega
  · rintro ⟨h1, h2⟩
    by_cases h3 : q ∈ darts T
    · have hr : riseD q = q := by
        rcases rise_ways q with ⟨_, b⟩ | ⟨a, _⟩
        · exact b
        · omega
      exact ⟨q, h3, hl _, Or.inl hr.symm, hr.symm⟩
    · have h4 : swapD q ∈ darts T := h2.resolve_left h3
      have hr : riseD (swapD q) = q := by
        rcases rise_ways (swapD q) with ⟨a, _⟩ | ⟨_, b⟩
        · exfalso
          have a2 : q.2 < q.1 := a
          omega
        · exact b
      exact ⟨swapD q, h4, hl _, Or.inr (by rw [swap_swap]; exact h3), hr.symm⟩
theorem coll_border {P T : List P3} (h : plainM P T = true) {left : Lit → Bool} {l : List D2} (hc : Coll T left (fun d => d) (keepB T) l) (hl : ∀ kl, left kl = false) : ∀ d, d ∈ l ↔ d ∈ edgesF P.length T true := by
  intro q
  rw [hc.mem q, mem_border h]
  constructor
  · rintro ⟨e, he, _, h2, rfl⟩
    exact ⟨he, h2⟩
  · rintro ⟨h1, h2⟩
    exact ⟨q, h1, hl _, h2, rfl⟩
/-- They are not many. -/
theorem Coll.room {T : List P3} {left : Lit → Bool} {f : D2 → D2} {ok : D2 → Prop} {l : List D2} (hc : Coll T left f ok l) (m : Nat) (hm : T.length = m) : l.length ≤ 3 * m := by
  have h1 := nodup_le l ((darts T).map f) hc.nodup (fun q hq => by
    obtain ⟨e, he, _, _, rfl⟩ := (hc.mem q).1 hq
    exact List.mem_map_of_mem he)
  rw [List.length_map, darts_len, hm] at h1
  exact h1
theorem e2V_inj {x d : D2} (h : e2V x = e2V d) : x = d := by
  unfold e2V at h
  injection h with h1
  have h2 := congrArg Array.toList h1
  simp only [List.cons.injEq, Value.int.injEq, true_and, and_true] at h2
  exact Prod.ext h2.1 h2.2
theorem entry_dart {n : Nat} {T : List P3} (h : T.all (triM n) = true) (hn : n ≤ 100000) {w : World} {b r k cnt : Nat} {left : Lit → Bool} (hr : w.ranges Tryd.prog 80 sideR b r k (sidesD T) left cnt) {x : D2} {kl : Lit} (hk : keyOf Tryd.prog 80 (e2V x) = some kl) (hl : left kl = true) : x ∈ darts T ∧ in64 x ∧ kl = keyL x := by
  obtain ⟨d, hd, hi, rfl⟩ := keyOf_inv hk
  have hx := e2V_inj hd
  subst hx
  refine ⟨?_, hi, rfl⟩
  obtain ⟨es, clock, since, seen, c0, _, F, _, hD, _, _, _, _, hex, _⟩ := hr
  obtain ⟨y, hy, e⟩ := hex _ hl
  have hh : Maps.has (sidesD T) (keyL x) = true := by
    rw [hD, Maps.has_eq]
    exact List.any_eq_true.2 ⟨_, mem_sorted.2 (List.mem_map.2 ⟨y, hy, rfl⟩), by rw [e]; exact WideAt.sameKey_self (keyL_key hi)⟩
  rw [sides_has h hn hi] at hh
  exact of_decide_eq_true hh
end Go.Proofs.YtjahphfjobnkaaaDoor
