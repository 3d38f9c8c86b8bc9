import Derived.Test.YtdheppfooapneaaFeedC
import Derived.Deep.RegionLaw
/- The landed feeder's bytes: a section's own, and its checksum. -/
namespace Go.Proofs.Ytdheppfooapneaa
open Go.RowKit

/-- The feeder with more bytes of a section. -/
structure Body (w : World) (p : Nat) (S : Nat → Prop) (s : St) (T : List Nat) (a b : Nat) (rv : Value) (vs : List (Int × Value)) (R : Nat → Prop) (w1 : World) (pv : Value) : Prop where
  fb : FB w1 p (3 : Nat) s.all (heldN s + (T.length - s.took.length) : Nat) pv a b rv 0 false
  mem : Mem w1 p (fun k => S k ∨ pv.ownBlock = some k) { s with took := T } pv rv vs R
  sit : Sit (fun k => S k ∨ pv.ownBlock = some k) w1.heap.size
  chg : Chg S w w1
  old : ∀ k, (S k ∨ pv.ownBlock = some k) → S k ∨ w.heap.size ≤ k
theorem Body.of {w w1 : World} {p : Nat} {S : Nat → Prop} {s : St} {bs : List Nat} {a b : Nat} {pv rv : Value} {vs : List (Int × Value)} {R : Nat → Prop} (hf : s.fin = false) (hm : Mem w p S s pv rv vs R) (hS : S p) (hs : Sit S w.heap.size)
    (h : Held w p (3 : Nat) s.all (heldN s + bs.length : Nat) pv a b rv 0 false (s.took ++ bs) w1) : ∃ pv1, Body w p S s (s.took ++ bs) a b rv vs R w1 pv1 := by
  obtain ⟨pv1, k1, ho, hc, hw⟩ := h
  have hpo : partOf { s with took := s.took ++ bs } = s.took ++ bs := by unfold partOf; simp only; rw [hf]; rfl
  refine ⟨pv1, ⟨?_, hm.held hs hS (by rw [hpo]; exact ho) hc hw rfl, sit_more hs hc.size ho, hc.wide ?_, ?_⟩⟩
  · rw [List.length_append, show s.took.length + bs.length - s.took.length = bs.length by omega]; exact k1
  · rintro k _ (rfl | hk)
    · exact hS
    · exact (hm.pblk k hk).1
  · rintro k (hk | hk)
    · exact Or.inl hk
    · rcases hw k hk with h | h
      · exact Or.inl (hm.pblk k h).1
      · exact Or.inr h
theorem Body.below {w w1 w2 : World} {p : Nat} {S : Nat → Prop} {s : St} {T : List Nat} {a b : Nat} {pv rv : Value} {vs : List (Int × Value)} {R : Nat → Prop} (h : Body w p S s T a b rv vs R w1 pv) (hb : Below w1.heap.size w1 w2) : Body w p S s T a b rv vs R w2 pv :=
  ⟨h.fb.chg (Chg.of_below (D := fun _ => False) hb) (fun h => h), h.mem.chg h.sit (Chg.of_below (D := fun _ => False) hb) (fun _ _ _ h => h), h.sit.le hb.size, h.chg.then_ (Chg.of_below (D := fun _ => False) hb) (fun _ _ h => h.elim), h.old⟩
theorem Body.held {w w1 : World} {p : Nat} {S : Nat → Prop} {s : St} {bs : List Nat} {a b : Nat} {pv rv : Value} {vs : List (Int × Value)} {R : Nat → Prop} (_ : Body w p S s (s.took ++ bs) a b rv vs R w1 pv) (hf : s.fin = false) (k : Nat) :
    ((heldN s + ((s.took ++ bs).length - s.took.length) : Nat) : Int) = (heldN { s with all := k, took := s.took ++ bs } : Int) := by
  unfold heldN; simp only; rw [hf]; simp; omega

set_option maxRecDepth 100000 in
set_option maxHeartbeats 1000000 in
theorem takeBody_some (p : Nat) (S : Nat → Prop) (s : St) (A : Option Addr) (n c : Nat) (bs : List Nat) (hd : Int) (pv : Value) (a b : Nat) (rv : Value) (w : World) (hB : FB w p (3 : Nat) s.all hd pv a b rv 0 false) (hL : Live w p S s 3 hd pv a b rv) (he : s.e = 0) (h : Has w A n c (u8s bs)) (hb : ∀ x ∈ bs, x < 256) (hS : S p) (hs : Sit S w.heap.size) (hal : s.all ≤ 90000) (hn : n ≤ 90000)
    (hw : s.took.length + n < b) :
    Calls Try.prog 34 #[.pointer (some ⟨p, 0, none⟩), .slice A n c] w (Took w p S s.all (bs.foldl stepN s)) := by
  have hl : bs.length = n := by have := h.len; rw [u8s_len] at this; exact this
  obtain ⟨hst, hat⟩ := at_sec_some bs hL.at_ he (by rw [hl]; exact hw)
  have hfin := (hL.at_.body (by omega) (by omega)).2
  have hiv := fold_inv bs hL.inv hb
  have hhd := hL.held
  have hho := hL.inv.hold
  have hhe : heldN s = s.took.length + (s.l.map fun x => x.2.length).sum := by unfold heldN; rw [hfin]; rfl
  have hpt : partOf s = s.took := by unfold partOf; rw [hfin]; rfl
  obtain ⟨vs, R, hm⟩ := hL.mem
  subst hhd
  have hbw := (hL.at_.sec rfl)
  have hb2 : b ≤ 1200000 := by omega
  have HHo := Lib.hid (hold_any p _ _ (heldN s) pv _ _ rv _ _ s.took A n c bs w hB (by rw [← hpt]; exact hm.part) hm.apart h (by omega) (by omega) (by omega))
  rw [← hl] at HHo
  rw [hl] at HHo
  have HSt := Lib.hid hst
  have HAt := Lib.hid hat
  have HI := Lib.hid hiv
  have HE := Lib.hid he
  have HOf := Lib.hid (fun w1 h => Body.of (w1 := w1) (bs := bs) (a := a) (b := b) hfin hm hS hs h)
  rw [hl] at HOf
  have hT : (s.took ++ bs).length < b := by rw [List.length_append, hl]; exact hw
  have HHe := Lib.hid hhe
  have HL := Lib.hid hl
  have HFn := Lib.hid hfin
  have t1 : decide ((s.took ++ bs).length < b) = true := decide_eq_true hT
  clear hst hat hiv he hm hfin hhe hpt hL hB h hb hs hbw hho hl hT
  go_enter Try.func34, Try.ntmps34
  go_wp2_with fail
  refine HHo.out.mono ?_
  rintro e w1 ⟨rfl, hh⟩
  obtain ⟨pv1, hbd⟩ := HOf.out w1 hh
  have HBd := Lib.hid hbd
  obtain ⟨A1, c1, rfl, _⟩ := hbd.mem.part.has
  have hp1 : (u8s (partOf { s with took := s.took ++ bs })).length = (s.took ++ bs).length := by rw [u8s_len]; unfold partOf; simp only; rw [HFn.out]; rfl
  rw [hp1] at HBd
  have x3 := HBd.out.fb.c3
  have x5 := HBd.out.fb.c5
  have HHd := Lib.hid (HBd.out.held HFn.out (s.all + bs.length))
  clear hbd hh HHo HOf hp1
  obtain ⟨N, HN⟩ : ∃ N, Hid ((s.took ++ bs).length = N) := ⟨_, Lib.hid rfl⟩
  rw [HN.out] at HBd x3 t1
  go_wp2
  go_region
  go_wp2
  go_ret
  have hI := HI.out
  rw [HSt.out] at hI ⊢
  have hbd := HBd.out.below (Below.refl _ _).drew
  exact ⟨3, _, _, a, b, rv, _, by rw [HE.out]; rfl, hbd.fb, fun _ => ⟨HAt.out, hI, HHd.out, vs, R, hbd.mem.same rfl rfl⟩, Or.inl hS, hbd.sit, hbd.chg, hbd.old⟩

theorem step_joinGK {k : Nat} {P : Program} {w : World} {ops : Array Oper} {o : Oper} {a : Act} {K : Act → World → Prop} {Q : Exit → Act → World → Prop} {E' : Prop} (hgd : o.guard = Option.none) (s x : Operand) (t : TypeId)
    (ho : o.op = .call { callee := .builtin .append, args := #[s, x], argTypes := #[t, t] }) {e : TypeId} {bytes : Nat} (E : ElemK P t e k bytes) (hk : 0 < k)
    (base : Nat) (v : Value) (n : Nat) (xs : List Value) (hs : a.eval s = v) (hown : OwnK k w base e v n xs) (A : Option Addr) (m c : Nat) (news : List Value) (hx : a.eval x = .slice A m c) (hh : HasK k w A m c news)
    (h1 : ∀ u ∈ news, u.oneCell' = true) (hsz : n + m ≤ 1099511627776) (hby : bytes ≤ 64) (hbase : base ≤ w.heap.size)
    (h : ∀ v' w', OwnK k w' base e v' (n + m) (xs ++ news) → w.grownBy w' v.ownBlock → (∀ g, v'.ownBlock = some g → v.ownBlock = some g ∨ w.heap.size ≤ g) → K (a.put o.dst v') w') : if Region.wanted o (yielded ops a.tmps) = true then Oper.wp P o a w K Q else E' := by
  have hw : Region.wanted o (yielded ops a.tmps) = true := by simp [Region.wanted, hgd]
  rw [if_pos hw]
  obtain ⟨v', w', hrun, h2, h3, h4⟩ := run_joinK (P := P) w t o.type E hk base v n xs hown A m c news hh h1 hsz hby hbase
  have h5 := run_where (P := P) w t o.type E hk base v n xs hown A m c news hh h1 hsz hby hbase hrun
  unfold Oper.wp execOp
  simp only [ho, resolve, invoke, builtin, Sem.run_bind, Sem.run_pure, Result.andThen_ok, List.map_toArray, List.map_cons, List.map_nil, hs, hx, hrun]
  exact h v' w' h2 h4 h5
/-- One section more. -/
theorem Mem.more {w w' : World} {p : Nat} {S : Nat → Prop} {s s' : St} {pv rv rv' : Value} {vs : List (Int × Value)} {R : Nat → Prop} {A : Option Addr} {n c g k0 : Nat} {ys : List Nat} (h : Mem w p S s pv rv vs R) (hs : Sit S g) (hg : g < w.heap.size) (hS : S p)
    (hh : On (fun k => k = g) w fun W => Has W A n c (u8s ys)) (hc : Chg (fun k => rv.ownBlock = some k) w w') (ho : OwnK 2 w' 0 48 rv' (s.l.length + 1) (secCells vs ++ secCells [((k0 : Int), .slice A n c)]))
    (hw : ∀ k, rv'.ownBlock = some k → rv.ownBlock = some k ∨ w.heap.size ≤ k) (hl : s'.l = s.l ++ [((k0 : Int), ys)]) (hp : partOf s' = []) :
    Mem w' p (fun k => S k ∨ k = g ∨ rv'.ownBlock = some k) s' (.slice none 0 0) rv' (vs ++ [((k0 : Int), .slice A n c)]) (fun k => R k ∨ k = g) := by
  refine ⟨by rw [hp]; exact Own.nil _ _ _, ?_, ?_, fun k hk => (by cases hk), fun k hk => ⟨Or.inr (Or.inr hk), ?_, ?_⟩, ?_⟩
  · rw [secCells_app, hl, List.length_append]; exact ho
  · rw [hl]
    have h1 : On R w' fun W => SecVs W vs s.l := h.secs.chg hc (fun k hk e => (h.rblk k e).2.2 hk) fun k hk => Nat.lt_trans (hs k (h.sblk k hk).1) hg
    have h2 : On (fun k => k = g) w' fun W => Has W A n c (u8s ys) := hh.chg hc (fun k hk e => by have := hs k (h.rblk k e).1; omega) fun k hk => by omega
    exact (h1.both h2).map fun W hW => SecVs.app hW.1 (SecVs.single hW.2)
  · rcases hw k hk with h' | h'
    · exact (h.rblk k h').2.1
    · rintro rfl; have := hs _ hS; omega
  · rintro (hr | rfl)
    · rcases hw k hk with h' | h'
      · exact (h.rblk k h').2.2 hr
      · have := hs _ (h.sblk k hr).1; omega
    · rcases hw k hk with h' | h'
      · have := hs _ (h.rblk k h').1; omega
      · omega
  · rintro k (hr | rfl)
    · exact ⟨Or.inl (h.sblk k hr).1, (h.sblk k hr).2⟩
    · exact ⟨Or.inr (Or.inl rfl), by rintro rfl; have := hs _ hS; omega⟩

set_option maxRecDepth 100000 in
set_option maxHeartbeats 4000000 in
theorem takeBody_all (p : Nat) (S : Nat → Prop) (s : St) (A : Option Addr) (n c : Nat) (bs : List Nat) (hd : Int) (pv : Value) (a b : Nat) (rv : Value) (w : World) (hB : FB w p (3 : Nat) s.all hd pv a b rv 0 false) (hL : Live w p S s 3 hd pv a b rv) (he : s.e = 0) (h : Has w A n c (u8s bs)) (hb : ∀ x ∈ bs, x < 256) (hS : S p) (hs : Sit S w.heap.size) (hal : s.all ≤ 90000) (hn : n ≤ 90000)
    (hw : s.took.length + n = b) :
    Calls Try.prog 34 #[.pointer (some ⟨p, 0, none⟩), .slice A n c] w (Took w p S s.all (bs.foldl stepN s)) := by
  have hl : bs.length = n := by have := h.len; rw [u8s_len] at this; exact this
  have hst := at_sec_all hL.at_ he (bs := bs) (by rw [hl]; exact hw)
  have hnx := fun l k => at_sec_next hL.at_ bs.length l k
  have hfin := (hL.at_.body (by omega) (by omega)).2
  have hiv := fold_inv bs hL.inv hb
  have hhd := hL.held
  have hho := hL.inv.hold
  have hcn := hL.inv.cnt
  have hby := hL.inv.byte
  have hhe : heldN s = s.took.length + (s.l.map fun x => x.2.length).sum := by unfold heldN; rw [hfin]; rfl
  have hpt : partOf s = s.took := by unfold partOf; rw [hfin]; rfl
  obtain ⟨vs, R, hm⟩ := hL.mem
  subst hhd
  obtain ⟨hb3, hb4, hb5, hb6, hb7, hb8, hb9, hb10⟩ := hL.at_.sec rfl
  have HHo := Lib.hid (hold_any p _ _ (heldN s) pv _ _ rv _ _ s.took A n c bs w hB (by rw [← hpt]; exact hm.part) hm.apart h (by omega) (by omega) (by omega))
  have HSt := Lib.hid hst
  have HNx := Lib.hid hnx
  have HI := Lib.hid hiv
  have HE := Lib.hid he
  have HOf := Lib.hid (fun w1 h => Body.of (w1 := w1) (bs := bs) (a := a) (b := b) hfin hm hS hs h)
  rw [hl] at HOf
  have hT : (s.took ++ bs).length = b := by rw [List.length_append, hl]; exact hw
  have HHe := Lib.hid hhe
  have HL := Lib.hid hl
  have HFn := Lib.hid hfin
  have HBy : Hid (∀ x ∈ s.took ++ bs, x < 256) := by
    intro x hx
    rcases List.mem_append.1 hx with hx | hx
    · exact hby x hx
    · exact hb x hx
  have hk8 : s.took.headD 0 < 256 := by
    cases ht : s.took with
    | nil => simp
    | cons x l => exact hby x (by rw [ht]; exact List.mem_cons_self ..)
  have hk0 : (checkN (s.took ++ bs)).2 = 0 → (checkN (s.took ++ bs)).1[0]? = some (s.took.headD 0) := by
    intro h2
    rw [(checkN_back h2).2.1, List.getElem?_take_of_lt (by rw [hT]; omega), List.getElem?_append_left (by omega)]
    cases ht : s.took with
    | nil => rw [ht] at hb3; simp at hb3
    | cons x l => rfl
  have hcl := check_len (bs := s.took ++ bs)
  rw [hT] at hcl
  have HTT := Lib.hid hT
  have HK0 := Lib.hid hk0
  have hbl : b ≤ 190000 := by omega
  have hab : a + 4 ≤ b := by omega
  have HHl : Hid (s.took.length ≤ heldN s) := by show _ ≤ _; omega
  have HHb : Hid (heldN s ≤ 90000) := by show _ ≤ _; omega
  clear hst hiv he hm hfin hhe hpt hL hB h hb hs hho hl hT hnx hby hk0 hb3 hb4 hb5 hb6 hb7 hb8
  generalize hck : checkN (s.took ++ bs) = ck at *
  obtain ⟨cb, ce⟩ := ck
  have HCk := Lib.hid hck
  simp only at HSt hcl HK0
  clear hck
  go_enter Try.func34, Try.ntmps34
  go_wp2_with fail
  refine HHo.out.mono ?_
  rintro e w1 ⟨rfl, hh⟩
  obtain ⟨pv1, hbd⟩ := HOf.out w1 hh
  have HBd := Lib.hid hbd
  obtain ⟨A1, c1, rfl, _⟩ := hbd.mem.part.has
  have hpp : partOf { s with took := s.took ++ bs } = s.took ++ bs := by unfold partOf; simp only; rw [HFn.out]; rfl
  have hp1 : (u8s (partOf { s with took := s.took ++ bs })).length = b := by rw [u8s_len, hpp, HTT.out]
  rw [hp1] at HBd
  have x3 := HBd.out.fb.c3
  have x5 := HBd.out.fb.c5
  have hhas : Has w1 A1 b c1 (u8s (s.took ++ bs)) := by
    have h1 := HBd.out.mem.part.has
    rw [hpp] at h1
    obtain ⟨A2, c2, e2, hx⟩ := h1
    cases e2
    rw [u8s_len, HTT.out] at hx
    exact hx
  have HCh := Lib.hid (check_any A1 b c1 (s.took ++ bs) w1.drew hhas.drew HBy.out (by omega))
  rw [HCk.out] at HCh
  have HBd1 := Lib.hid (HBd.out.below (Below.refl _ _).drew)
  have y3 := HBd1.out.fb.c3
  clear hbd hh HHo HOf hp1 hpp hhas
  have t1 : decide (b < b) = false := by simp
  go_wp2
  go_region
  go_wp2_with fail
  refine HCh.out.mono ?_
  rintro e w2 ⟨v2, rfl, ho2, hb2⟩
  have HBd2 := Lib.hid (HBd1.out.below hb2)
  have hlt : ∀ k, (S k ∨ (Value.slice A1 b c1).ownBlock = some k) → k < w1.drew.heap.size := HBd1.out.sit
  have HSi := Lib.hid hlt
  have HW0 := HBd1.out.chg.size
  clear HCh HBd HBd1 y3 x3 x5 hlt
  by_cases h0 : ce = 0
  · subst h0
    have HS2 := HSt.out
    rw [if_neg (by simp)] at HS2
    have HS3 := Lib.hid HS2
    have hcb := hcl rfl
    have hce := HK0.out rfl
    obtain ⟨g4, c4, rfl, hg4, hlt4⟩ := ho2.form (by rw [u8s_len]; show 0 < cb.length; omega)
    rw [u8s_len] at ho2
    rw [u8s_len]
    have hh4 : Has w2 (some ⟨g4, 0, none⟩) cb.length c4 (u8s cb) := by
      obtain ⟨A5, c5, e5, h5⟩ := ho2.has
      rw [u8s_len] at e5 h5
      cases e5
      exact h5
    have hcbp : 0 < cb.length := by omega
    have hcell : w2.cell? ⟨g4, 0, none⟩ = some (.int .u8 (s.took.headD 0 : Int)) := by
      obtain ⟨b5, o5, e5, _, h6⟩ := hh4.spot hcbp
      cases e5
      have := h6 0 (.int .u8 (s.took.headD 0 : Int)) (by simp only [u8s, List.getElem?_map, hce, Option.map_some])
      exact this
    have hcap := hh4.cap
    have hpt := own_part (T := a) (cb := cb) ho2 (by omega)
    have HPt := Lib.hid hpt
    obtain ⟨AR, cR, rfl, hhR⟩ := HBd2.out.mem.row.has
    have x6 := HBd2.out.fb.c6
    have x4 := HBd2.out.fb.c4
    have f6 := HBd2.out.fb.fz 6
    have hwr := wrap_small (x := s.took.headD 0) (by omega)
    have HLe := Lib.hid hcb
    have hcbl : a ≤ cb.length := by omega
    have hcl2 : cb.length ≤ 190000 := by omega
    have hM0 : 0 < cb.length := by omega
    clear HS2 HSt hb2 hcl hhR hpt hh4 hce ho2 hcbp
    obtain ⟨H, HHd⟩ : ∃ H : Int, Hid (((heldN s + ((s.took ++ bs).length - s.took.length) : Nat) : Int) = H) := ⟨_, rfl⟩
    have hH0 : 0 ≤ H := by rw [← HHd.out]; omega
    have hH1 : H ≤ 300000 := by rw [← HHd.out, HTT.out]; have := HHb.out; omega
    have HHx : Hid (H - ((a : Int) + 4) = ((s.l.map fun x => x.2.length).sum + (cb.length - a) : Nat)) := by
      show _ = _
      rw [← HHd.out, HTT.out, HHe.out]
      omega
    have HHy : Hid (H - ((a : Int) + 4) = (heldN { s with all := s.all + bs.length, took := [], last := s.took.headD 0, l := s.l ++ [((s.took.headD 0 : Int), cb.drop a)] } : Int)) := by
      show _ = _
      rw [HHx.out]
      unfold heldN
      simp only
      rw [HFn.out]
      simp
    have HW1 : Hid (w.heap.size ≤ w1.drew.heap.size) := HW0
    clear HW0
    generalize s.took.headD 0 = k0 at *
    generalize cb.length = M at *
    rcases Nat.lt_or_ge a c4 with hq | hq
    · have hq1 : ¬ c4 = a := by omega
      have hbl4 : Below w2.heap.size w2 ((w2.alloc (.cells #[.int .i64 (k0 : Int), .slice (some ⟨g4, a, none⟩) (M - a) (c4 - a)] 48)).drew) := (new_alloc (Below.refl _ _) _).drew
      have HBd3 := Lib.hid (HBd2.out.below hbl4)
      have HR3 := Lib.hid HBd3.out.mem.row
      have hpX : Has w2 (some ⟨g4, a, none⟩) (M - a) (c4 - a) (u8s (cb.drop a)) := by
        have h1 := HPt.out
        rw [if_neg hq1] at h1
        have e : (⟨g4, 0, none⟩ : Addr).add a = ⟨g4, 0 + a, none⟩ := Addr.add_mid _ _ _
        simp only [Option.map_some, e, Nat.zero_add] at h1
        exact h1
      have HX3 : Hid (On (fun k => k = g4) ((w2.alloc (.cells #[.int .i64 (k0 : Int), .slice (some ⟨g4, a, none⟩) (M - a) (c4 - a)] 48)).drew) fun W => Has W (some ⟨g4, a, none⟩) (M - a) (c4 - a) (u8s (cb.drop a))) :=
        (hpX.on.wide (fun k hk => by obtain ⟨_, e, hb, _⟩ := hk; cases e; exact hb.symm)).chg (Chg.of_below (D := fun _ => False) hbl4) (fun _ _ h => h) (fun k hk => by omega)
      have HN3 : Hid (HasK 2 ((w2.alloc (.cells #[.int .i64 (k0 : Int), .slice (some ⟨g4, a, none⟩) (M - a) (c4 - a)] 48)).drew) (some ⟨w2.heap.size, 0, none⟩) 1 1 (secCells [((k0 : Int), .slice (some ⟨g4, a, none⟩) (M - a) (c4 - a))])) := (HasK.new_at 2 w2 #[_, _] _ _ 1 rfl rfl).kept (Below.refl _ _).drew
      have x6a := HBd3.out.fb.c6
      have x6b : (w2.alloc (.cells #[.int .i64 (k0 : Int), .slice (some ⟨g4, a, none⟩) (M - a) (c4 - a)] 48)).cell? ⟨p, 6, none⟩ = _ := x6a
      have hz3 := hbl4.size
      clear hbl4 hpX
      go_wp2
      go_region_law (first
        | (
           refine step_joinGK rfl _ _ 26 rfl elemSec (by decide) 0 _ s.l.length (secCells vs) rfl HR3.out _ 1 1 (secCells [((k0 : Int), .slice (some ⟨g4, a, none⟩) (M - a) (c4 - a))]) rfl HN3.out ?_ (by omega) (by decide) (Nat.zero_le _) ?_
           · intro u hu; simp [secCells] at hu; rcases hu with rfl | rfl <;> rfl
           intro v5 w5 hown5 hgr5 hwh5
           have hc5 := Chg.of_grown hgr5
           have k5 := HBd3.out.fb.chg hc5 (fun e => (HBd3.out.mem.rblk p e).2.1 rfl)
           rw [HHd.out] at k5
           obtain ⟨A5, N5, c5, rfl⟩ : ∃ A N c, v5 = .slice A N c := by obtain ⟨A1, c1, hv, _⟩ := hown5.has; exact ⟨_, _, _, hv⟩
           have hm5 := HBd3.out.mem.more (s' := { s with all := s.all + bs.length, took := [], last := k0, l := s.l ++ [((k0 : Int), cb.drop a)] }) (fun k hk => Nat.lt_of_lt_of_le (HSi.out k hk) hg4) (Nat.lt_of_lt_of_le hlt4 hz3) (Or.inl hS) HX3.out hc5 hown5 hwh5 rfl (by unfold partOf; split <;> rfl)
           have HM5 := Lib.hid hm5
           have HC5 : Hid (Chg S w w5) := HBd3.out.chg.then_ hc5 (fun k hk e => by
             rcases HBd3.out.old k (HBd3.out.mem.rblk k e).1 with h | h
             · exact h
             · omega)
           have HK5 := Lib.hid k5
           have HZ5 : Hid (∀ k, (Value.slice A5 N5 c5).ownBlock = some k → k < w5.heap.size) := OwnK.sit hown5
           have y4 := k5.c4
           have ycell : w5.cell? ⟨g4, 0, none⟩ = some (.int .u8 (k0 : Int)) := by
             refine (World.cell?_of_block (a := ⟨g4, 0, none⟩) (hc5.block g4 (Nat.lt_of_lt_of_le hlt4 hz3) (fun e => ?_))).trans (Lib.cell?_alloc_some _ hcell)
             have h1 := HSi.out g4 (HBd3.out.mem.rblk g4 e).1
             omega
           have hne : p ≠ g4 := fun e => by have h1 := HSi.out p (Or.inl hS); omega
           have zcell := (World.cell?_setCell_far w5 ⟨p, 6, none⟩ ⟨g4, 0, none⟩ (.slice A5 N5 c5) hne).trans ycell
           have k6 := k5.s6 (.slice A5 N5 c5)
           have z4 := k6.c4
           have y6 := k5.c6
           have fy6 := k5.fz 6
           have HQ5 : Hid (w2.heap.size ≤ w5.heap.size) := Nat.le_trans hz3 hc5.size
           have HOl : Hid (∀ k, (Value.slice A5 N5 c5).ownBlock = some k → S k ∨ w.heap.size ≤ k) := fun k hk => by
             rcases hwh5 k hk with h | h
             · exact HBd3.out.old k (HBd3.out.mem.rblk k h).1
             · exact Or.inr (Nat.le_trans HBd2.out.chg.size (Nat.le_trans hz3 h))
           clear hown5 hgr5 hwh5 hc5 hm5 k5 k6 hne)
        | fail)
      all_goals
        have k6 := HK5.out.s6 (.slice A5 N5 c5)
        have k7 := k6.s3 (.slice none 0 0)
        have k8 := k7.s2 (H - ((a : Int) + 4))
        have k9 := k8.s0 1
        have K9 := Lib.hid k9
        have e3 := k6.c3
        have g3 := k6.fz 3
        have e2 := k7.c2
        have e4 := k7.c4
        have g2 := k7.fz 2
        have e0 := k8.c0
        have g0 := k8.fz 0
        have d3 := HK5.out.c3
        have d2 := HK5.out.c2
        have d4 := HK5.out.c4
        have d0 := HK5.out.c0
        have j3 := HK5.out.fz 3
        have j2 := HK5.out.fz 2
        have j0 := HK5.out.fz 0
        clear k6 k7 k8 k9 ycell zcell hcell x4 x6 f6 x6a x6b y4 z4 y6 fy6
        go_wp2
        go_region
        go_wp2
        go_ret
        have hI := HI.out
        rw [HS3.out] at hI ⊢
        have hc9 : Chg (fun k => k = p) w5 (((((w5.setCell ⟨p, 6, none⟩ (.slice A5 N5 c5)).setCell ⟨p, 3, none⟩ (.slice none 0 0)).setCell ⟨p, 2, none⟩ (.int .i64 (H - ((a : Int) + 4)))).setCell ⟨p, 0, none⟩ (.int .i64 1)).drew) :=
          (((((Chg.refl (fun k => k = p) w5).more p 6 _ rfl).more p 3 _ rfl).more p 2 _ rfl).more p 0 _ rfl).then_ (Chg.of_below (D := fun _ => False) (Below.refl _ _).drew) (fun _ _ h => h.elim)
        have hs5 : Sit (fun k => (S k ∨ (Value.slice A1 b c1).ownBlock = some k) ∨ k = g4 ∨ (Value.slice A5 N5 c5).ownBlock = some k) w5.heap.size := by
          rintro k (hk | rfl | hk)
          · have h1 := HSi.out k hk; have h2 := HQ5.out; omega
          · have h2 := HQ5.out; omega
          · exact HZ5.out k hk
        refine ⟨1, _, _, a, b, _, (fun k => (S k ∨ (Value.slice A1 b c1).ownBlock = some k) ∨ k = g4 ∨ (Value.slice A5 N5 c5).ownBlock = some k), by rw [HE.out]; rfl, K9.out, fun _ => ⟨HNx.out _ _, hI, HHy.out, _, _, HM5.out.chg hs5 hc9 (fun k _ hk e => hk e)⟩, Or.inl (Or.inl hS), hs5.le hc9.size, HC5.out.then_ hc9 (fun k _ e => by rw [e]; exact hS), ?_⟩
        rintro k (hk | rfl | hk)
        · exact HBd3.out.old k hk
        · exact Or.inr (Nat.le_trans HW1.out hg4)
        · exact HOl.out k hk
    · obtain rfl : M = a := by omega
      obtain rfl : c4 = M := by omega
      have hbl4 : Below w2.heap.size w2 ((w2.alloc (.cells #[.int .i64 (k0 : Int), .slice (some ⟨g4, 0, none⟩) 0 0] 48)).drew) := (new_alloc (Below.refl _ _) _).drew
      have HBd3 := Lib.hid (HBd2.out.below hbl4)
      have HR3 := Lib.hid HBd3.out.mem.row
      have hpX : Has w2 (some ⟨g4, 0, none⟩) 0 0 (u8s (cb.drop c4)) := by
        have h1 := HPt.out
        rw [if_pos rfl, Nat.sub_self] at h1
        exact h1
      have HX3 : Hid (On (fun k => k = g4) ((w2.alloc (.cells #[.int .i64 (k0 : Int), .slice (some ⟨g4, 0, none⟩) 0 0] 48)).drew) fun W => Has W (some ⟨g4, 0, none⟩) 0 0 (u8s (cb.drop c4))) :=
        (hpX.on.wide (fun k hk => by obtain ⟨_, e, hb, _⟩ := hk; cases e; exact hb.symm)).chg (Chg.of_below (D := fun _ => False) hbl4) (fun _ _ h => h) (fun k hk => by omega)
      have HN3 : Hid (HasK 2 ((w2.alloc (.cells #[.int .i64 (k0 : Int), .slice (some ⟨g4, 0, none⟩) 0 0] 48)).drew) (some ⟨w2.heap.size, 0, none⟩) 1 1 (secCells [((k0 : Int), .slice (some ⟨g4, 0, none⟩) 0 0)])) := (HasK.new_at 2 w2 #[_, _] _ _ 1 rfl rfl).kept (Below.refl _ _).drew
      have x6a := HBd3.out.fb.c6
      have x6b : (w2.alloc (.cells #[.int .i64 (k0 : Int), .slice (some ⟨g4, 0, none⟩) 0 0] 48)).cell? ⟨p, 6, none⟩ = _ := x6a
      have hz3 := hbl4.size
      clear hbl4 hpX
      go_wp2
      go_region_law (first
        | (
           refine step_joinGK rfl _ _ 26 rfl elemSec (by decide) 0 _ s.l.length (secCells vs) rfl HR3.out _ 1 1 (secCells [((k0 : Int), .slice (some ⟨g4, 0, none⟩) 0 0)]) rfl HN3.out ?_ (by omega) (by decide) (Nat.zero_le _) ?_
           · intro u hu; simp [secCells] at hu; rcases hu with rfl | rfl <;> rfl
           intro v5 w5 hown5 hgr5 hwh5
           have hc5 := Chg.of_grown hgr5
           have k5 := HBd3.out.fb.chg hc5 (fun e => (HBd3.out.mem.rblk p e).2.1 rfl)
           rw [HHd.out] at k5
           obtain ⟨A5, N5, c5, rfl⟩ : ∃ A N c, v5 = .slice A N c := by obtain ⟨A1, c1, hv, _⟩ := hown5.has; exact ⟨_, _, _, hv⟩
           have hm5 := HBd3.out.mem.more (s' := { s with all := s.all + bs.length, took := [], last := k0, l := s.l ++ [((k0 : Int), cb.drop c4)] }) (fun k hk => Nat.lt_of_lt_of_le (HSi.out k hk) hg4) (Nat.lt_of_lt_of_le hlt4 hz3) (Or.inl hS) HX3.out hc5 hown5 hwh5 rfl (by unfold partOf; split <;> rfl)
           have HM5 := Lib.hid hm5
           have HC5 : Hid (Chg S w w5) := HBd3.out.chg.then_ hc5 (fun k hk e => by
             rcases HBd3.out.old k (HBd3.out.mem.rblk k e).1 with h | h
             · exact h
             · omega)
           have HK5 := Lib.hid k5
           have HZ5 : Hid (∀ k, (Value.slice A5 N5 c5).ownBlock = some k → k < w5.heap.size) := OwnK.sit hown5
           have y4 := k5.c4
           have ycell : w5.cell? ⟨g4, 0, none⟩ = some (.int .u8 (k0 : Int)) := by
             refine (World.cell?_of_block (a := ⟨g4, 0, none⟩) (hc5.block g4 (Nat.lt_of_lt_of_le hlt4 hz3) (fun e => ?_))).trans (Lib.cell?_alloc_some _ hcell)
             have h1 := HSi.out g4 (HBd3.out.mem.rblk g4 e).1
             omega
           have hne : p ≠ g4 := fun e => by have h1 := HSi.out p (Or.inl hS); omega
           have zcell := (World.cell?_setCell_far w5 ⟨p, 6, none⟩ ⟨g4, 0, none⟩ (.slice A5 N5 c5) hne).trans ycell
           have k6 := k5.s6 (.slice A5 N5 c5)
           have z4 := k6.c4
           have y6 := k5.c6
           have fy6 := k5.fz 6
           have HQ5 : Hid (w2.heap.size ≤ w5.heap.size) := Nat.le_trans hz3 hc5.size
           have HOl : Hid (∀ k, (Value.slice A5 N5 c5).ownBlock = some k → S k ∨ w.heap.size ≤ k) := fun k hk => by
             rcases hwh5 k hk with h | h
             · exact HBd3.out.old k (HBd3.out.mem.rblk k h).1
             · exact Or.inr (Nat.le_trans HBd2.out.chg.size (Nat.le_trans hz3 h))
           clear hown5 hgr5 hwh5 hc5 hm5 k5 k6 hne)
        | fail)
      all_goals
        have k6 := HK5.out.s6 (.slice A5 N5 c5)
        have k7 := k6.s3 (.slice none 0 0)
        have k8 := k7.s2 (H - ((c4 : Int) + 4))
        have k9 := k8.s0 1
        have K9 := Lib.hid k9
        have e3 := k6.c3
        have g3 := k6.fz 3
        have e2 := k7.c2
        have e4 := k7.c4
        have g2 := k7.fz 2
        have e0 := k8.c0
        have g0 := k8.fz 0
        have d3 := HK5.out.c3
        have d2 := HK5.out.c2
        have d4 := HK5.out.c4
        have d0 := HK5.out.c0
        have j3 := HK5.out.fz 3
        have j2 := HK5.out.fz 2
        have j0 := HK5.out.fz 0
        clear k6 k7 k8 k9 ycell zcell hcell x4 x6 f6 x6a x6b y4 z4 y6 fy6
        go_wp2
        go_region
        go_wp2
        go_ret
        have hI := HI.out
        rw [HS3.out] at hI ⊢
        have hc9 : Chg (fun k => k = p) w5 (((((w5.setCell ⟨p, 6, none⟩ (.slice A5 N5 c5)).setCell ⟨p, 3, none⟩ (.slice none 0 0)).setCell ⟨p, 2, none⟩ (.int .i64 (H - ((c4 : Int) + 4)))).setCell ⟨p, 0, none⟩ (.int .i64 1)).drew) :=
          (((((Chg.refl (fun k => k = p) w5).more p 6 _ rfl).more p 3 _ rfl).more p 2 _ rfl).more p 0 _ rfl).then_ (Chg.of_below (D := fun _ => False) (Below.refl _ _).drew) (fun _ _ h => h.elim)
        have hs5 : Sit (fun k => (S k ∨ (Value.slice A1 b c1).ownBlock = some k) ∨ k = g4 ∨ (Value.slice A5 N5 c5).ownBlock = some k) w5.heap.size := by
          rintro k (hk | rfl | hk)
          · have h1 := HSi.out k hk; have h2 := HQ5.out; omega
          · have h2 := HQ5.out; omega
          · exact HZ5.out k hk
        refine ⟨1, _, _, c4, b, _, (fun k => (S k ∨ (Value.slice A1 b c1).ownBlock = some k) ∨ k = g4 ∨ (Value.slice A5 N5 c5).ownBlock = some k), by rw [HE.out]; rfl, K9.out, fun _ => ⟨HNx.out _ _, hI, HHy.out, _, _, HM5.out.chg hs5 hc9 (fun k _ hk e => hk e)⟩, Or.inl (Or.inl hS), hs5.le hc9.size, HC5.out.then_ hc9 (fun k _ e => by rw [e]; exact hS), ?_⟩
        rintro k (hk | rfl | hk)
        · exact HBd3.out.old k hk
        · exact Or.inr (Nat.le_trans HW1.out hg4)
        · exact HOl.out k hk
  · have HS2 := HSt.out
    rw [if_pos h0] at HS2
    have HS3 := Lib.hid HS2
    have te : ((ce : Int) != 0) = true := by rw [bne_iff_ne]; omega
    have HN0 := Lib.hid h0
    clear HS2 HSt ho2 hb2 h0 hcl HW0
    go_wp2
    go_ret
    rw [HS3.out]
    exact ⟨3, _, _, a, b, rv, _, rfl, HBd2.out.fb, fun h => absurd h HN0.out, Or.inl hS, HBd2.out.sit, HBd2.out.chg, HBd2.out.old⟩
end Go.Proofs.Ytdheppfooapneaa
