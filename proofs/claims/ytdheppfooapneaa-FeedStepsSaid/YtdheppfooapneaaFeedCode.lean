import Derived.Test.YtdheppfooapneaaFeedD
import Derived.Deep.LoopGhost
import Derived.Deep.QuietTactic
/- The landed feeder: a chunk, all chunks, the end. -/
namespace Go.Proofs.Ytdheppfooapneaa
open Go.RowKit

theorem stepN_up {s : St} (he : s.e = 0) (c : Nat) : (stepN s c).all = s.all + 1 := by
  unfold stepN takeN
  rw [if_neg (by simp [he])]
  repeat' split
  all_goals rfl
/-- What stands behind the last two stores. -/
theorem Took.fdr {w w1 : World} {p : Nat} {S S' : Nat → Prop} {s : St} {tk : Nat} {m : Nat} {hd : Int} {pv : Value} {a b : Nat} {rv : Value} (h1 : FB w1 p m tk hd pv a b rv 0 false) (h2 : s.e = 0 → Live w1 p S' s m hd pv a b rv) (h3 : S' p) (h4 : Sit S' w1.heap.size) (h5 : Chg S w w1) (hS : S p) :
    Fdr ((w1.setCell ⟨p, 7, none⟩ (.int .i64 (s.e : Int))).setCell ⟨p, 1, none⟩ (.int .i64 (s.all : Int))) p S' s false ∧ Chg S w ((w1.setCell ⟨p, 7, none⟩ (.int .i64 (s.e : Int))).setCell ⟨p, 1, none⟩ (.int .i64 (s.all : Int))) := by
  have hc : Chg (fun k => k = p) w1 ((w1.setCell ⟨p, 7, none⟩ (.int .i64 (s.e : Int))).setCell ⟨p, 1, none⟩ (.int .i64 (s.all : Int))) := ((Chg.refl (fun k => k = p) w1).more p 7 _ rfl).more p 1 _ rfl
  exact ⟨⟨h3, h4.le hc.size, m, hd, pv, a, b, rv, (h1.s7 s.e).s1 s.all, fun e1 _ => (h2 e1).chg h4 hc fun k _ hk e => hk e⟩, h5.then_ hc fun k _ e => by rw [e]; exact hS⟩
/-- What one call of take leaves. -/
def Takes (w : World) (p : Nat) (S : Nat → Prop) (s : St) (bs : List Nat) (e : Ending) (w' : World) : Prop :=
  ∃ (m : Nat) (S' : Nat → Prop), 1 ≤ m ∧ m ≤ bs.length ∧ e = .returned (.int .i64 (m : Int)) ∧ Fdr w' p S' ((bs.take m).foldl stepN s) false ∧ Chg S w w' ∧ ∀ k, S' k → S k ∨ w.heap.size ≤ k

set_option maxRecDepth 100000 in
set_option maxHeartbeats 1000000 in
theorem take_one (p : Nat) (S : Nat → Prop) (s : St) (A : Option Addr) (n c : Nat) (bs : List Nat) (m : Nat) (hd : Int) (pv : Value) (a b : Nat) (rv : Value) (w : World) (hB : FB w p m s.all hd pv a b rv 0 false) (hL : Live w p S s m hd pv a b rv) (he : s.e = 0) (h : Has w A n c (u8s bs)) (hb : ∀ x ∈ bs, x < 256) (hS : S p) (hs : Sit S w.heap.size) (hn : 1 ≤ n) (hal : s.all + n ≤ 90000) (hm : m = 0 ∨ m = 1 ∨ m = 2 ∨ m = 4) :
    Calls Try.prog 20 #[.pointer (some ⟨p, 0, none⟩), .slice A n c] w (Takes w p S s bs) := by
  have hl : bs.length = n := by have := h.len; rw [u8s_len] at this; exact this
  obtain ⟨x, l, rfl⟩ : ∃ x l, bs = x :: l := by
    cases bs with
    | nil => simp at hl; omega
    | cons x l => exact ⟨x, l, rfl⟩
  have hx := hb x (List.mem_cons_self ..)
  obtain ⟨b1, off, rfl, hlt, hc⟩ := h.spot hn
  have hcell := hc 0 (.int .u8 (x : Int)) (by simp [u8s])
  simp only [Nat.add_zero] at hcell
  have hcap := h.cap
  have x0 := hB.c0
  have HF : Hid ((([x] : List Nat)).foldl stepN s = stepN s x) := rfl
  have HL := Lib.hid hl
  have hup := stepN_up he x
  have HUp := Lib.hid hup
  clear hc h hb hl hup
  rcases hm with rfl | rfl | rfl | rfl
  · have HT := Lib.hid (takeHead_any p S s x hd pv a b rv w hB hL he hx hS hs)
    clear hB hL he hs
    go_enter Try.func20, Try.ntmps20
    go_wp2_with fail
    refine HT.out.mono ?_
    rintro e w1 ⟨m1, hd1, pv1, a1, b2, rv1, S1, rfl, k1, k2, k3, k4, k5, k6⟩
    have HK := Lib.hid (Took.fdr k1 k2 k3 k4 k5 hS)
    have y7 := k1.c7
    have y1 := k1.c1
    have f7 := k1.fz 7
    have f1 := k1.fz 1
    have k7 := k1.s7 (stepN s x).e
    have z1 := k7.c1
    have g1 := k7.fz 1
    have HK6 := Lib.hid k6
    clear k1 k2 k3 k4 k5 k6 k7 HT
    rw [HUp.out, Int.natCast_add] at HK
    generalize (stepN s x).e = E at *
    go_wp2
    go_ret
    exact ⟨1, S1, by omega, by rw [HL.out]; exact hn, rfl, HK.out.1, HK.out.2, HK6.out⟩
  · have HT := Lib.hid (takeKind_any p S s x hd pv a b rv w hB hL he hx hS hs (by omega))
    clear hB hL he hs
    go_enter Try.func20, Try.ntmps20
    go_wp2_with fail
    refine HT.out.mono ?_
    rintro e w1 ⟨m1, hd1, pv1, a1, b2, rv1, S1, rfl, k1, k2, k3, k4, k5, k6⟩
    have HK := Lib.hid (Took.fdr k1 k2 k3 k4 k5 hS)
    have y7 := k1.c7
    have y1 := k1.c1
    have f7 := k1.fz 7
    have f1 := k1.fz 1
    have k7 := k1.s7 (stepN s x).e
    have z1 := k7.c1
    have g1 := k7.fz 1
    have HK6 := Lib.hid k6
    clear k1 k2 k3 k4 k5 k6 k7 HT
    rw [HUp.out, Int.natCast_add] at HK
    generalize (stepN s x).e = E at *
    go_wp2
    go_ret
    exact ⟨1, S1, by omega, by rw [HL.out]; exact hn, rfl, HK.out.1, HK.out.2, HK6.out⟩
  · have HT := Lib.hid (takeSize_any p S s x hd pv a b rv w hB hL he hx hS hs (by omega))
    clear hB hL he hs
    go_enter Try.func20, Try.ntmps20
    go_wp2_with fail
    refine HT.out.mono ?_
    rintro e w1 ⟨m1, hd1, pv1, a1, b2, rv1, S1, rfl, k1, k2, k3, k4, k5, k6⟩
    have HK := Lib.hid (Took.fdr k1 k2 k3 k4 k5 hS)
    have y7 := k1.c7
    have y1 := k1.c1
    have f7 := k1.fz 7
    have f1 := k1.fz 1
    have k7 := k1.s7 (stepN s x).e
    have z1 := k7.c1
    have g1 := k7.fz 1
    have HK6 := Lib.hid k6
    clear k1 k2 k3 k4 k5 k6 k7 HT
    rw [HUp.out, Int.natCast_add] at HK
    generalize (stepN s x).e = E at *
    go_wp2
    go_ret
    exact ⟨1, S1, by omega, by rw [HL.out]; exact hn, rfl, HK.out.1, HK.out.2, HK6.out⟩
  · have hst := at_fin (c := x) hL.at_ he
    have HK := Lib.hid (Took.fdr (s := stepN s x) hB (fun h => absurd h (by rw [hst]; simp)) hS hs (Chg.refl S w) hS)
    have HSt := Lib.hid hst
    have y7 := hB.c7
    have y1 := hB.c1
    have f7 := hB.fz 7
    have f1 := hB.fz 1
    have k7 := hB.s7 11
    have z1 := k7.c1
    have g1 := k7.fz 1
    rw [HUp.out, Int.natCast_add, show (stepN s x).e = 11 by rw [HSt.out]] at HK
    clear hB hL he hs k7 hst
    go_enter Try.func20, Try.ntmps20
    go_wp2
    go_ret
    exact ⟨1, S, by omega, by rw [HL.out]; exact hn, rfl, HK.out.1, HK.out.2, fun k hk => Or.inl hk⟩

set_option maxRecDepth 100000 in
set_option maxHeartbeats 1000000 in
theorem take_body (p : Nat) (S : Nat → Prop) (s : St) (A : Option Addr) (n c : Nat) (bs : List Nat) (hd : Int) (pv : Value) (a b : Nat) (rv : Value) (w : World) (hB : FB w p (3 : Nat) s.all hd pv a b rv 0 false) (hL : Live w p S s 3 hd pv a b rv) (he : s.e = 0) (h : Has w A n c (u8s bs)) (hb : ∀ x ∈ bs, x < 256) (hS : S p) (hs : Sit S w.heap.size) (hn : 1 ≤ n) (hal : s.all + n ≤ 90000) :
    Calls Try.prog 20 #[.pointer (some ⟨p, 0, none⟩), .slice A n c] w (Takes w p S s bs) := by
  have hl : bs.length = n := by have := h.len; rw [u8s_len] at this; exact this
  obtain ⟨hb3, hb4, hb5, hb6, hb7, hb8, hb9, hb10⟩ := hL.at_.sec rfl
  have hfin := (hL.at_.body (by omega) (by omega)).2
  have hpt : partOf s = s.took := by unfold partOf; rw [hfin]; rfl
  have hho := hL.inv.hold
  have htl : s.took.length ≤ 90000 := by omega
  obtain ⟨vs, R, hm⟩ := hL.mem
  obtain ⟨AP, cP, rfl, hhP⟩ := hm.part.has
  rw [u8s_len, hpt] at hB hL hm hhP
  have hbl : b ≤ 1200000 := by omega
  have hKn : ∀ K, K ≤ n → K ≤ b - s.took.length → Calls Try.prog 34 #[.pointer (some ⟨p, 0, none⟩), .slice A K c] w.drew (Took w.drew p S s.all ((bs.take K).foldl stepN s)) := by
    intro K h1 h2
    have hh : Has w.drew A K c (u8s (bs.take K)) := by
      have := (h.head (m := K) h1).drew
      rw [show (u8s bs).take K = u8s (bs.take K) by simp [u8s]] at this
      exact this
    have hB' : FB w.drew p (3 : Nat) s.all hd (.slice AP s.took.length cP) a b rv 0 false := hB
    have hL' : Live w.drew p S s 3 hd (.slice AP s.took.length cP) a b rv := hL.chg hs (Chg.of_below (D := fun _ => False) (Below.refl _ _).drew) fun _ _ _ h => h
    have hb' : ∀ x ∈ bs.take K, x < 256 := fun x hx => hb x (List.mem_of_mem_take hx)
    by_cases hK : s.took.length + K < b
    · exact takeBody_some p S s A K c (bs.take K) hd _ a b rv w.drew hB' hL' he hh hb' hS hs (by omega) (by omega) hK
    · exact takeBody_all p S s A K c (bs.take K) hd _ a b rv w.drew hB' hL' he hh hb' hS hs (by omega) (by omega) (by omega)
  have hup : ∀ K, K ≤ n → K ≤ b - s.took.length → ((bs.take K).foldl stepN s).all = s.all + K := by
    intro K h1 h2
    have hlK : (bs.take K).length = K := by rw [List.length_take, hl]; omega
    by_cases hK : s.took.length + K < b
    · rw [(at_sec_some (bs.take K) hL.at_ he (by rw [hlK]; exact hK)).1, hlK]
    · rw [at_sec_all hL.at_ he (by rw [hlK]; omega), hlK]
      split <;> rfl
  have hcap := h.cap
  have x0 := hB.c0
  have x3 := hB.c3
  have x5 := hB.c5
  have HKn := Lib.hid hKn
  have HUp := Lib.hid hup
  have HL := Lib.hid hl
  have HK1 := Lib.hid hb8
  generalize s.took.length = t at *
  clear hKn hup hl hm hhP hB hL he hfin hpt hho hb h hs hb3 hb4 hb6 hb7 hb9 hb10
  by_cases hc : n ≤ b - t
  · have HT := Lib.hid (HKn.out n (Nat.le_refl _) hc)
    have HU := Lib.hid (HUp.out n (Nat.le_refl _) hc)
    clear HKn HUp
    go_enter Try.func20, Try.ntmps20
    go_wp2
    go_region
    go_wp2_with fail
    refine HT.out.mono ?_
    rintro e w1 ⟨m1, hd1, pv1, a1, b2, rv1, S1, rfl, k1, k2, k3, k4, k5, k6⟩
    have HK := Lib.hid (Took.fdr k1 k2 k3 k4 k5 hS)
    have y7 := k1.c7
    have y1 := k1.c1
    have f7 := k1.fz 7
    have f1 := k1.fz 1
    have k7 := k1.s7 ((bs.take n).foldl stepN s).e
    have z1 := k7.c1
    have g1 := k7.fz 1
    have HK6 := Lib.hid k6
    clear k1 k2 k3 k4 k5 k6 k7 HT
    rw [HU.out, Int.natCast_add] at HK
    generalize ((bs.take n).foldl stepN s).e = E at *
    go_wp2
    go_ret
    exact ⟨n, S1, by omega, by rw [HL.out]; omega, rfl, HK.out.1, (Chg.of_below (D := S) (Below.refl _ _).drew).then_ HK.out.2 (fun _ _ h => h), HK6.out⟩
  · obtain ⟨K, rfl⟩ : ∃ K, b = t + K := ⟨b - t, by omega⟩
    have hK1 : 1 ≤ K := by have := HK1.out; omega
    have HT := Lib.hid (HKn.out K (by omega) (by omega))
    have HU := Lib.hid (HUp.out K (by omega) (by omega))
    have hKn : K < n := by omega
    clear HKn HUp hc
    go_enter Try.func20, Try.ntmps20
    go_wp2
    go_region
    go_wp2_with fail
    refine HT.out.mono ?_
    rintro e w1 ⟨m1, hd1, pv1, a1, b2, rv1, S1, rfl, k1, k2, k3, k4, k5, k6⟩
    have HK := Lib.hid (Took.fdr k1 k2 k3 k4 k5 hS)
    have y7 := k1.c7
    have y1 := k1.c1
    have f7 := k1.fz 7
    have f1 := k1.fz 1
    have k7 := k1.s7 ((bs.take K).foldl stepN s).e
    have z1 := k7.c1
    have g1 := k7.fz 1
    have HK6 := Lib.hid k6
    clear k1 k2 k3 k4 k5 k6 k7 HT
    rw [HU.out, Int.natCast_add] at HK
    generalize ((bs.take K).foldl stepN s).e = E at *
    go_wp2
    go_ret
    rw [show ((t : Int) + (K : Int) - (t : Int)) = (K : Int) by omega]
    exact ⟨K, S1, by omega, by rw [HL.out]; omega, rfl, HK.out.1, (Chg.of_below (D := S) (Below.refl _ _).drew).then_ HK.out.2 (fun _ _ h => h), HK6.out⟩

theorem take_any (p : Nat) (S : Nat → Prop) (s : St) (A : Option Addr) (n c : Nat) (bs : List Nat) (w : World) (hF : Fdr w p S s false) (he : s.e = 0) (h : Has w A n c (u8s bs)) (hb : ∀ x ∈ bs, x < 256) (hn : 1 ≤ n) (hal : s.all + n ≤ 90000) :
    Calls Try.prog 20 #[.pointer (some ⟨p, 0, none⟩), .slice A n c] w (Takes w p S s bs) := by
  obtain ⟨m, hd, pv, a, b, rv, hB, hL⟩ := hF.blk
  have hL := hL he rfl
  rw [he] at hB
  have hm := hL.at_.le
  by_cases h3 : m = 3
  · subst h3
    exact take_body p S s A n c bs hd pv a b rv w hB hL he h hb hF.own hF.sit hn hal
  · exact take_one p S s A n c bs m hd pv a b rv w hB hL he h hb hF.own hF.sit hn hal (by omega)

/-- What is left behind a call of Feed. -/
def Fed (w : World) (p : Nat) (S : Nat → Prop) (s : St) (e : Ending) (w' : World) : Prop :=
  ∃ S', e = .returned (.int .i64 (s.e : Int)) ∧ Fdr w' p S' s false ∧ Chg S w w' ∧ ∀ k, S' k → S k ∨ w.heap.size ≤ k
theorem Fed.let_go {w w1 w' : World} {p : Nat} {S S' : Nat → Prop} {s : St} {m : Nat} {hd : Int} {a b : Nat} {pv rv : Value} (he : s.e ≠ 0) (h1 : FB w' p m s.all hd pv a b rv s.e false) (h2 : Chg (fun k => k = p) w1 w') (h3 : S' p) (h4 : Sit S' w1.heap.size) (h5 : Chg S w w1) (hS : S p) (h6 : ∀ k, S' k → S k ∨ w.heap.size ≤ k) : Fed w p S s (.returned (.int .i64 (s.e : Int))) w' :=
  ⟨S', rfl, ⟨h3, h4.le h2.size, m, hd, pv, a, b, rv, h1, fun e _ => absurd e he⟩, h5.then_ h2 (fun k _ e => by rw [e]; exact hS), h6⟩
theorem Rob.part {D : Nat → Prop} {w : World} {A : Option Addr} {n c : Nat} {bs : List Nat} {k : Nat} (h : Rob D w fun W => Has W A n c (u8s bs)) (hk : k ≤ n) : Rob D w fun W => Has W (if c = k then A else A.map (·.add k)) (n - k) (c - k) (u8s (bs.drop k)) :=
  h.map fun W hW => by
    have h1 := hW.part (k := k) (m := n) hk (Nat.le_refl _)
    have hl := hW.len
    rw [List.take_of_length_le (by rw [List.length_drop, hl]; exact Nat.le_refl _), show (u8s bs).drop k = u8s (bs.drop k) by simp [u8s]] at h1
    exact h1

/-- The world with one block emptied. -/
def void (w : World) (g : Nat) : World := { w with heap := w.heap.setIfInBounds g (.cells #[] 0) }
theorem void_far (D : Nat → Prop) (w : World) (g : Nat) (hg : D g) : FarD D w (void w g) :=
  ⟨rfl, rfl, rfl, by simp [void], fun k hk => by
    have : g ≠ k := fun e => hk (e ▸ hg)
    simp [void, Array.getElem?_setIfInBounds_ne this]⟩
theorem void_cell (w : World) (g o : Nat) (hg : g < w.heap.size) : (void w g).cell? ⟨g, o, none⟩ = none := by
  unfold World.cell? void
  simp [Array.getElem?_setIfInBounds_self_of_lt hg]
/-- What holds cells, whatever becomes of D's blocks, lies in none of them. -/
theorem rob_has {D : Nat → Prop} {w : World} {b off n c : Nat} {xs : List Value} (hn : 0 < n) (hb : b < w.heap.size) (h : D b → Has (void w b) (some ⟨b, off, none⟩) n c xs) : ¬ D b := fun hd => by
  have h1 := h hd
  obtain ⟨b1, o1, e, _, hc⟩ := h1.spot hn
  cases e
  have hl := h1.len
  have h2 := hc 0 (xs[0]'(by omega)) (List.getElem?_eq_getElem (by omega))
  rw [void_cell w b _ hb] at h2
  cases h2
theorem parts_robust {D : Nat → Prop} {w : World} {A : Option Addr} {n c : Nat} {ls : List (List Nat)} (h : Rob D w fun W => Parts W A n c ls) : PartsR D w A n c ls := by
  obtain ⟨vs, h1, h2⟩ := h.here
  have hlv := h2.1
  have hln := h1.len
  rcases Nat.eq_zero_or_pos n with h0 | h0
  · have hv : vs = [] := List.eq_nil_of_length_eq_zero (by omega)
    have hls : ls = [] := List.eq_nil_of_length_eq_zero (by omega)
    subst hv hls h0
    exact ⟨[], fun W _ => ⟨⟨rfl, h1.cap, h1.bare, fun h => absurd h (by omega)⟩, rfl, fun i hi => absurd hi (by simp)⟩⟩
  · obtain ⟨b, off, rfl, hlt, hc⟩ := h1.spot h0
    have hb : ¬ D b := rob_has (off := off) (n := n) (c := c) (xs := vs) h0 hlt fun hd => by
      obtain ⟨vs', h3, _⟩ := h _ (void_far D w b hd)
      exfalso
      obtain ⟨b1, o1, e, _, hc1⟩ := h3.spot h0
      cases e
      have hl3 := h3.len
      have h4 := hc1 0 (vs'[0]'(by omega)) (List.getElem?_eq_getElem (by omega))
      rw [void_cell w b _ hlt] at h4
      cases h4
    have hrow : ∀ W, FarD D w W → Has W (some ⟨b, off, none⟩) n c vs := fun W hW => h1.on W fun k hk => by
      obtain ⟨a, e, rfl, _⟩ := hk
      cases e
      exact hW.block b hb
    refine ⟨vs, fun W hW => ⟨hrow W hW, hlv, fun i hi => ?_⟩⟩
    obtain ⟨A', n', c', e1, h3⟩ := h2.2 i hi
    refine ⟨A', n', c', e1, h3.on W fun k hk => ?_⟩
    obtain ⟨a, rfl, rfl, hn'⟩ := hk
    obtain ⟨b', off', e, hlt', _⟩ := h3.spot hn'
    cases e
    refine hW.block b' (rob_has (off := off') (n := n') (c := c') (xs := u8s ls[i]) hn' hlt' fun hd => ?_)
    obtain ⟨vs', h4, h5⟩ := h _ (void_far D w b' hd)
    have h6 := hrow _ (void_far D w b' hd)
    have e2 : vs'[i]? = vs[i]? := by
      obtain ⟨b1, o1, e, _, hc1⟩ := h4.spot h0
      obtain ⟨b2, o2, e', _, hc2⟩ := h6.spot h0
      cases e
      cases e'
      have hl4 := h4.len
      have h7 := hc1 i (vs'[i]'(by omega)) (List.getElem?_eq_getElem (by omega))
      have h8 := hc2 i (vs[i]'(by omega)) (List.getElem?_eq_getElem (by omega))
      rw [h7] at h8
      rw [List.getElem?_eq_getElem (by omega), List.getElem?_eq_getElem (by omega)]
      exact h8
    obtain ⟨A2, n2, c2, e3, h7⟩ := h5.2 i hi
    rw [e2, e1] at e3
    cases e3
    exact h7

set_option maxRecDepth 100000 in
set_option maxHeartbeats 2000000 in
theorem feedFeed_any (p : Nat) (S : Nat → Prop) (s : St) (A : Option Addr) (n c : Nat) (ls : List (List Nat)) (w : World) (h : Fdr w p S s false) (hl : Rob S w fun W => Parts W A n c ls) (hb : ∀ l ∈ ls, ∀ x ∈ l, x < 256) (hn : n ≤ 90000) (hs : s.all + ls.flatten.length ≤ 90000) :
    Calls Try.prog 10 #[.pointer (some ⟨p, 0, none⟩), .slice A n c] w fun e w' => ∃ S', e = .returned (.int .i64 ((ls.flatten.foldl stepN s).e : Int)) ∧ Fdr w' p S' (ls.flatten.foldl stepN s) false ∧ Chg S w w' ∧ ∀ k, S' k → S k ∨ w.heap.size ≤ k := by
  show Calls Try.prog _ _ w (Fed w p S (ls.flatten.foldl stepN s))
  have HLn : Hid (ls.length = n) := hl.here.len
  have HP := Lib.hid (parts_robust hl)
  have HBy := Lib.hid hb
  have hS := h.own
  have HF0 := Lib.hid h
  have HS0 := Lib.hid hs
  obtain ⟨m0, x0, pv0, a0, b0, rv0, k0, _⟩ := h.blk
  have c8 := k0.c8
  clear hl hb h hs k0
  go_enter Try.func10, Try.ntmps10
  go_wp2
  go_step3
  go_wp2
  go_step3
  go_wp2
  go_loopg [17] n (fun g s17 wx => ∃ (i : Nat) (sx : St) (S' : Nat → Prop), i + g = n ∧ s17 = .int .i64 (i : Int) ∧ Hid (Fdr wx p S' sx false) ∧ Hid (Chg S w wx) ∧ Hid (∀ k, S' k → S k ∨ w.heap.size ≤ k) ∧ Hid (ls.flatten.foldl stepN s = (ls.drop i).flatten.foldl stepN sx) ∧ Hid (sx.all + (ls.drop i).flatten.length ≤ 90000))
  case atStart => exact ⟨0, s, S, by omega, rfl, HF0, Chg.refl _ _, fun k hk => Or.inl hk, rfl, HS0.out⟩
  case round =>
    obtain ⟨i, sx, S', hig, rfl, HF, HCh, HSu, HTo, HAl⟩ := hrel
    by_cases hi : i < n
    · have ti : decide ((i : Int) < (n : Int)) = true := by simp; omega
      have hil : i < ls.length := by rw [HLn.out]; exact hi
      have HPx : Hid (PartsR S' wr A n c ls) := HP.out.chg HCh.out (fun k hk hk2 => by
        rcases HSu.out k hk2 with h | h
        · exact h
        · omega)
      obtain ⟨b, off, A', n', c', rfl, hcell, hrow⟩ := HPx.out.row hil
      have HRow := Lib.hid hrow
      have HX8 := Lib.hid (HBy.out _ (List.getElem_mem hil))
      have hdr : ls.drop i = ls[i] :: ls.drop (i + 1) := List.drop_eq_getElem_cons hil
      have HT2 : Hid (ls.flatten.foldl stepN s = (ls[i] ++ (ls.drop (i + 1)).flatten).foldl stepN sx) := by show _ = _; rw [HTo.out, hdr]; rfl
      have HA2 : Hid (sx.all + (ls[i] ++ (ls.drop (i + 1)).flatten).length ≤ 90000) := by have := HAl.out; rw [hdr] at this; exact this
      have hn' : n' ≤ 90000 := by
        have h1 := HA2.out
        have h2 := hrow.here.len
        rw [u8s_len] at h2
        rw [List.length_append] at h1
        omega
      generalize ls[i] = x at *
      clear hrow hdr HTo HAl hil
      go_wp2
      go_loopg [6] n' (fun g s6 wy => ∃ (A2 : Option Addr) (c2 : Nat) (rest : List Nat) (sy : St) (Sy : Nat → Prop), s6 = .slice A2 g c2 ∧ g ≤ 90000 ∧ Hid (Rob Sy wy fun W => Has W A2 g c2 (u8s rest)) ∧ Hid (Fdr wy p Sy sy false) ∧ Hid (Chg S w wy) ∧ Hid (∀ k, Sy k → S k ∨ w.heap.size ≤ k) ∧ Hid (ls.flatten.foldl stepN s = (rest ++ (ls.drop (i + 1)).flatten).foldl stepN sy) ∧ Hid (sy.all + (rest ++ (ls.drop (i + 1)).flatten).length ≤ 90000) ∧ Hid (∀ y ∈ rest, y < 256))
      case atStart => exact ⟨A', c', x, sx, S', rfl, hn', HRow, HF, HCh, HSu, HT2, HA2, HX8⟩
      case round =>
        obtain ⟨A2, c2, rest, sy, Sy, rfl, hn2, HRw, HFy, HCy, HSy, HTy, HAy, HXy⟩ := hrel
        have HLr : Hid (rest.length = gk) := by have := HRw.out.here.len; rw [u8s_len] at this; exact this
        by_cases h0 : gk = 0
        · have HR0 : Hid (rest = []) := List.eq_nil_of_length_eq_zero (by rw [HLr.out]; exact h0)
          have HT3 : Hid (ls.flatten.foldl stepN s = (ls.drop (i + 1)).flatten.foldl stepN sy) := by show _ = _; rw [HTy.out, HR0.out]; rfl
          have HA3 : Hid (sy.all + (ls.drop (i + 1)).flatten.length ≤ 90000) := by have := HAy.out; rw [HR0.out] at this; exact this
          rw [h0]
          clear h0
          go_wp2
          go_roundg (n - i - 1)
          case measure => omega
          case rel => exact ⟨i + 1, sy, Sy, by omega, by go_num, HFy, HCy, HSy, HT3, HA3⟩
        · have tn : decide (0 < gk) = true := decide_eq_true (by omega)
          obtain ⟨m1, h1, pv1, a1, b1, rv1, q1, _⟩ := HFy.out.blk
          have y7 := q1.c7
          by_cases he : sy.e = 0
          · rw [he] at y7
            have HTk := Lib.hid (take_any p Sy sy A2 gk c2 rest wr HFy.out he HRw.out.here HXy.out (by omega) (by have := HAy.out; rw [List.length_append, HLr.out] at this; omega))
            have hcap := HRw.out.here.cap
            obtain ⟨b2, o2, rfl, _, _⟩ := HRw.out.here.spot (by omega)
            clear q1 he
            go_wp2_with fail
            refine HTk.out.mono ?_
            rintro e w1 ⟨K, S1, hK1, hK2, rfl, hF1, hC1, hS1⟩
            rw [HLr.out] at hK2
            have hsub : ∀ k, k < wr.heap.size → S1 k → Sy k := fun k hk h => by
              rcases hS1 k h with h | h
              · exact h
              · omega
            have HF1 := Lib.hid hF1
            have HC1 : Hid (Chg S w w1) := HCy.out.then_ hC1 (fun k hk h => by
              rcases HSy.out k h with h | h
              · exact h
              · omega)
            have HS1 : Hid (∀ k, S1 k → S k ∨ w.heap.size ≤ k) := fun k h => by
              rcases hS1 k h with h | h
              · exact HSy.out k h
              · exact Or.inr (Nat.le_trans HCy.out.size h)
            have HR1 := Lib.hid (Rob.chg Has.stays (Rob.part HRw.out hK2) hC1 hsub)
            have HT1 : Hid (ls.flatten.foldl stepN s = (rest.drop K ++ (ls.drop (i + 1)).flatten).foldl stepN ((rest.take K).foldl stepN sy)) := by
              show _ = _
              rw [HTy.out, ← List.foldl_append, ← List.append_assoc, List.take_append_drop]
            have HA1 : Hid (((rest.take K).foldl stepN sy).all + (rest.drop K ++ (ls.drop (i + 1)).flatten).length ≤ 90000) := by
              have h1 := HAy.out
              have h2 := fold_all_le (rest.take K) sy
              have h3 := HLr.out
              rw [List.length_take] at h2
              show _ ≤ _
              rw [List.length_append] at h1 ⊢
              rw [List.length_drop]
              omega
            clear hF1 hC1 hS1 hsub HTk
            rcases Nat.lt_or_ge K c2 with hq | hq
            · have hq1 : ¬ c2 = K := by omega
              have e : (⟨b2, o2, none⟩ : Addr).add K = ⟨b2, o2 + K, none⟩ := Addr.add_mid _ _ _
              have hR2 := HR1.out
              rw [if_neg hq1] at hR2
              simp only [Option.map_some, e] at hR2
              have HR2 := Lib.hid hR2
              clear hR2 e HR1
              go_wp2
              go_roundg (gk - K)
              case measure => omega
              case rel => exact ⟨some ⟨b2, o2 + K, none⟩, c2 - K, rest.drop K, (rest.take K).foldl stepN sy, S1, rfl, by omega, HR2, HF1, HC1, HS1, HT1, HA1, fun y hy => HXy.out y (List.mem_of_mem_drop hy)⟩
            · obtain rfl : gk = K := by omega
              obtain rfl : c2 = gk := by omega
              have hR2 := HR1.out
              rw [if_pos rfl, Nat.sub_self] at hR2
              have HR2 := Lib.hid hR2
              clear hR2 HR1
              go_wp2
              go_roundg 0
              case measure => omega
              case rel => exact ⟨some ⟨b2, o2, none⟩, 0, _, _, S1, rfl, by omega, HR2, HF1, HC1, HS1, HT1, HA1, fun y hy => HXy.out y (List.mem_of_mem_drop hy)⟩
          · have te : ((sy.e : Int) != 0) = true := by rw [bne_iff_ne]; omega
            have HTot : Hid (ls.flatten.foldl stepN s = sy) := by show _ = _; rw [HTy.out, fold_err _ he]
            have HG := Lib.hid (letGo_any p _ _ _ _ _ _ _ _ _ wr q1)
            have HNe := Lib.hid he
            clear q1 he HTy
            go_wp2_with fail
            refine HG.out.mono ?_
            rintro e w1 ⟨rfl, q2, q3⟩
            have z7 := q2.c7
            have HQ2 := Lib.hid q2
            have HQ3 := Lib.hid q3
            clear q2 q3 HG
            go_wp2
            try rw [Exit.noGoto_ret]
            go_ret
            rw [HTot.out]
            exact Fed.let_go HNe.out HQ2.out HQ3.out HFy.out.own HFy.out.sit HCy.out hS HSy.out
    · obtain rfl : i = n := by omega
      have HTot : Hid (ls.flatten.foldl stepN s = sx) := by show _ = _; rw [HTo.out, List.drop_of_length_le (by rw [HLn.out]; exact Nat.le_refl _)]; rfl
      have ti : decide ((i : Int) < (i : Int)) = false := by simp
      clear HTo
      obtain ⟨m1, h1, pv1, a1, b1, rv1, q1, _⟩ := HF.out.blk
      have y7 := q1.c7
      by_cases he : sx.e = 0
      · rw [he] at y7
        have HE := Lib.hid he
        clear q1 he
        go_wp2
        try rw [Exit.noGoto_ret]
        go_ret
        rw [HTot.out]
        exact ⟨S', by rw [HE.out]; rfl, HF.out, HCh.out, HSu.out⟩
      · have te : ((sx.e : Int) != 0) = true := by rw [bne_iff_ne]; omega
        have HG := Lib.hid (letGo_any p _ _ _ _ _ _ _ _ _ wr q1)
        have HNe := Lib.hid he
        clear q1 he
        go_wp2_with fail
        refine HG.out.mono ?_
        rintro e w1 ⟨rfl, q2, q3⟩
        have z7 := q2.c7
        have HQ2 := Lib.hid q2
        have HQ3 := Lib.hid q3
        clear q2 q3 HG
        go_wp2
        try rw [Exit.noGoto_ret]
        go_ret
        rw [HTot.out]
        exact Fed.let_go HNe.out HQ2.out HQ3.out HF.out.own HF.out.sit HCh.out hS HSu.out

/-- What is told at the end. -/
def Shut4 (w : World) (p : Nat) (S : Nat → Prop) (s : St) (e : Ending) (w' : World) : Prop :=
  ∃ (S' R : Nat → Prop) (A : Option Addr) (c : Nat), e = .returned (.tuple #[.slice A (closeN s).1.length c, .int .i64 ((closeN s).2 : Int)]) ∧ (∀ D : Nat → Prop, (∀ k, D k → ¬ R k) → Rob D w' fun W => Secs W A (closeN s).1.length c (closeN s).1) ∧
    (∀ k, R k → S k ∨ w.heap.size ≤ k) ∧ Fdr w' p S' s true ∧ Chg S w w' ∧ ∀ k, S' k → S k ∨ w.heap.size ≤ k
theorem shut_none {w w' : World} {p : Nat} {S : Nat → Prop} {s : St} {E : Nat} {m : Nat} {hd : Int} {pv rv : Value} {a b : Nat} (hc : closeN s = ([], E)) (h1 : FB w' p m s.all hd pv a b rv s.e true) (h2 : Chg (fun k => k = p) w w') (hS : S p) (hs : Sit S w.heap.size) :
    Shut4 w p S s (.returned (.tuple #[.slice none 0 0, .int .i64 (E : Int)])) w' := by
  refine ⟨fun k => k = p, fun _ => False, none, 0, by rw [hc]; rfl, fun D _ W _ => by rw [hc]; exact Secs.none _, fun k hk => hk.elim, ⟨rfl, fun k hk => by rw [hk]; exact Nat.lt_of_lt_of_le (hs p hS) h2.size, m, hd, pv, a, b, rv, h1, fun _ h => by cases h⟩, h2.wide fun k _ e => by rw [e]; exact hS, fun k hk => by rw [hk]; exact Or.inl hS⟩
theorem shut_some {w w' : World} {p : Nat} {S : Nat → Prop} {s : St} {m : Nat} {hd : Int} {pv pv' rv' : Value} {A : Option Addr} {c a b : Nat} {vs : List (Int × Value)} {R : Nat → Prop} (hc : closeN s = (s.l, 0)) (hm : Mem w p S s pv (.slice A s.l.length c) vs R) (h1 : FB w' p m s.all hd pv' a b rv' s.e true) (h2 : Chg (fun k => k = p) w w') (hS : S p) (hs : Sit S w.heap.size) :
    Shut4 w p S s (.returned (.tuple #[.slice A s.l.length c, .int .i64 0])) w' := by
  have hm' := hm.chg hs h2 fun k _ hk e => hk e
  have hrow : On (fun g => (Value.slice A s.l.length c).ownBlock = some g) w' fun W => HasK 2 W A s.l.length c (secCells vs) := (OwnK.on hm'.row).map fun W hW => by
    obtain ⟨A', c', e, h⟩ := OwnK.has hW
    cases e
    exact h
  have hall : On _ w' fun W => Secs W A s.l.length c s.l := (hrow.both hm'.secs).map fun W hW => ⟨vs, hW.1, hW.2⟩
  refine ⟨fun k => k = p, _, A, c, by rw [hc]; rfl, fun D hD => by rw [hc]; exact hall.rob hD, fun k hk => ?_, ⟨rfl, fun k hk => by rw [hk]; exact Nat.lt_of_lt_of_le (hs p hS) h2.size, m, hd, pv', a, b, rv', h1, fun _ h => by cases h⟩, h2.wide fun k _ e => by rw [e]; exact hS, fun k hk => by rw [hk]; exact Or.inl hS⟩
  rcases hk with hk | hk
  · exact Or.inl (hm.rblk k hk).1
  · exact Or.inl (hm.sblk k hk).1

set_option maxRecDepth 100000 in
set_option maxHeartbeats 1000000 in
theorem feedClose_any (p : Nat) (S : Nat → Prop) (s : St) (w : World) (h : Fdr w p S s false) :
    Calls Try.prog 15 #[.pointer (some ⟨p, 0, none⟩)] w fun e w' => ∃ (S' R : Nat → Prop) (A : Option Addr) (c : Nat), e = .returned (.tuple #[.slice A (closeN s).1.length c, .int .i64 ((closeN s).2 : Int)]) ∧ (∀ D : Nat → Prop, (∀ k, D k → ¬ R k) → Rob D w' fun W => Secs W A (closeN s).1.length c (closeN s).1) ∧
      (∀ k, R k → S k ∨ w.heap.size ≤ k) ∧ Fdr w' p S' s true ∧ Chg S w w' ∧ ∀ k, S' k → S k ∨ w.heap.size ≤ k := by
  show Calls Try.prog _ _ w (Shut4 w p S s)
  have hS := h.own
  have HS := Lib.hid h.sit
  obtain ⟨m, hd, pv, a, b, rv, q0, hL⟩ := h.blk
  have q1 := q0.s8 true
  have HOu := Lib.hid (fun (W : World) (hW : FB W p m s.all hd pv a b rv s.e true) => outcome_any p m s.all hd pv a b rv s.e true W hW)
  have hclo : (closeN s).2 = (if s.e ≠ 0 then s.e else if m ≠ 4 then 10 else if 1048576 < s.all then 3 else 0) ∧ ((closeN s).2 ≠ 0 → closeN s = ([], (closeN s).2)) ∧ ((closeN s).2 = 0 → closeN s = (s.l, 0) ∧ s.e = 0) := by
    by_cases he : s.e = 0
    · have hf := (hL he rfl).at_.fin_iff
      have e1 : closeN s = if s.fin = false then ([], 10) else if 1048576 < s.all then ([], 3) else (s.l, 0) := by unfold closeN; rw [if_neg (fun h => h he)]
      rw [if_neg (fun h => h he)]
      by_cases h4 : m = 4
      · have e2 : closeN s = if 1048576 < s.all then ([], 3) else (s.l, 0) := by rw [e1, hf, decide_eq_true h4, if_neg (by simp)]
        rw [if_neg (show ¬ m ≠ 4 from fun h => h h4), e2]
        split
        · exact ⟨rfl, fun _ => rfl, fun h => absurd h (by simp)⟩
        · exact ⟨rfl, fun h => absurd rfl h, fun _ => ⟨rfl, he⟩⟩
      · have e2 : closeN s = ([], 10) := by rw [e1, hf, decide_eq_false h4, if_pos rfl]
        rw [e2, if_pos h4]
        exact ⟨rfl, fun _ => rfl, fun h => absurd h (by simp)⟩
    · have e2 : closeN s = ([], s.e) := by unfold closeN; rw [if_pos he]
      rw [e2, if_pos he]
      exact ⟨rfl, fun _ => rfl, fun h => absurd h he⟩
  rw [← hclo.1] at HOu
  have HCl := Lib.hid hclo.2
  have x8 := q0.c8
  have f8 := q0.fz 8
  have x6 := q1.c6
  have x6' := q0.c6
  have HQ0 := Lib.hid q0
  have HQ1 := Lib.hid q1
  have HLv := Lib.hid hL
  clear hclo q0 q1 hL h
  generalize (closeN s).2 = E at *
  go_enter Try.func15, Try.ntmps15
  go_wp2
  have HC8 := Lib.hid (Chg.set w p 8 (.bool true))
  clear x6' x8 f8
  generalize w.setCell ⟨p, 8, none⟩ (.bool true) = w8 at *
  have HOq : Hid (∀ k, Calls Try.prog 23 #[.pointer (some ⟨p, 0, none⟩)] (w8.drewN k) fun e w' => e = .returned (.int .i64 (E : Int)) ∧ w' = w8.drewN k) := fun k => (HOu.out (w8.drewN k) HQ1.out).mono fun e w' ⟨h1, h2⟩ => ⟨h1, h2.symm⟩
  clear HOu
  go_quiet ((go_at_call 23; exact Calls.quiet_of_same (HOq.out _)))
  clear HOq
  go_wp2_with fail
  refine (letGo_any p m s.all hd pv a b rv s.e true (w8.drewN nq) HQ1.out).mono ?_
  rintro e w9 ⟨rfl, q9, hc9⟩
  have HQ9 := Lib.hid q9
  have HC9 : Hid (Chg (fun k => k = p) w w9) := (HC8.out.then_ (Chg.of_below (D := fun k => k = p) (w' := w8.drewN nq) ⟨rfl, rfl, rfl, Nat.le_refl _, fun _ _ => rfl⟩) (fun _ _ h => h)).then_ hc9 (fun _ _ h => h)
  clear q9 hc9
  by_cases he : E = 0
  · subst he
    obtain ⟨hc, h0⟩ := HCl.out.2 rfl
    obtain ⟨vs, R, hm⟩ := (HLv.out h0 (by trivial)).mem
    obtain ⟨A, c, rfl, _⟩ := hm.row.has
    have HM := Lib.hid hm
    have HCc := Lib.hid hc
    clear hm hc h0
    go_wp2
    go_ret2
    exact shut_some HCc.out HM.out HQ9.out HC9.out hS HS.out
  · have te : ((E : Int) != 0) = true := by rw [bne_iff_ne]; omega
    have HCc := Lib.hid (HCl.out.1 he)
    clear he
    go_wp2
    go_ret2
    exact shut_none HCc.out HQ9.out HC9.out hS HS.out
end Go.Proofs.Ytdheppfooapneaa
