import Derived.Test.YtjahphfjobnkaaaDoorWalkRefC
/- lapidaryref11: gate: what is ahead of it. -/
namespace Go.Proofs.YtjahphfjobnkaaaDoor
open Go.RowKit

theorem own2_form {w : World} {base : Nat} {e : TypeId} {v : Value} {n : Nat} {xs : List Value} (h : OwnK 2 w base e v (n + 1) xs) : ∃ g cap, v = .slice (some ⟨g, 0, none⟩) (n + 1) cap ∧ n + 1 ≤ cap := by
  rcases h.2 with ⟨_, h2⟩ | ⟨g, cap, cur, rfl, _, _, hc, _⟩
  · omega
  · exact ⟨g, cap, rfl, hc⟩
theorem own2_pop {w : World} {base g c n : Nat} {e : TypeId} {xs : List Value} {u v : Value} (h : OwnK 2 w base e (.slice (some ⟨g, 0, none⟩) (n + 1) c) (n + 1) (xs ++ [u, v])) (hn : xs.length = n * 2) : OwnK 2 w base e (.slice (some ⟨g, 0, none⟩) n c) n xs := by
  obtain ⟨hl, hcase⟩ := h
  rcases hcase with ⟨h1, _⟩ | ⟨g', cap, cur, h1, hg, hh, hc, hcap, hsz, ht⟩
  · cases h1
  · obtain ⟨rfl, rfl⟩ : g' = g ∧ cap = c := by
      injection h1 with e1 _ e3
      injection e1 with e1
      injection e1 with e1
      exact ⟨e1.symm, e3.symm⟩
    refine ⟨hn, Or.inr ⟨g', cap, cur, rfl, hg, hh, by omega, hcap, hsz, ?_⟩⟩
    have e := congrArg (List.take xs.length) ht
    rw [List.take_take, List.take_append_of_le_length (Nat.le_refl _), List.take_of_length_le (Nat.le_refl _), hn, show min (n * 2) ((n + 1) * 2) = n * 2 by omega] at e
    exact e
theorem WRows.popG {w : World} {F : Nat → Prop} {eg : TypeId} {a b c f : Value} {s : WS} {g n cd : Nat} {l : List (Int × Int)} {p q : Int} (h : WRows w F eg a b c (.slice (some ⟨g, 0, none⟩) (n + 1) cd) f s) (hG : s.G = l ++ [(p, q)]) (hn : l.length = n) : WRows w F eg a b c (.slice (some ⟨g, 0, none⟩) n cd) f { s with G := l } := by
  have hr := h.rG
  rw [hG, List.length_append, hn, e2Cells_app] at hr
  have hr2 := own2_pop (u := .int .i64 p) (v := .int .i64 q) hr (by rw [e2Cells_len, hn])
  rw [← hn] at hr2 ⊢
  exact ⟨h.rV, h.rO, h.rN, hr2, h.rS, h.fV, h.fO, h.fN, h.fG, h.fS, h.aVO, h.aVN, h.aVG, h.aVS, h.aON, h.aOG, h.aOS, h.aNG, h.aNS, h.aGS⟩
theorem WBox.setG {w : World} {F : Nat → Prop} {K g : Nat} {a b c d d' f : Value} {s s' : WS} {wx : World} (h : WBox w F K g a b c d f s wx) (hr : WRows wx (cutF F w.heap.size K) 79 a b c d' f s') : WBox w F K g a b c d' f s' (wx.setCell ⟨g, 3, none⟩ d') :=
  ⟨h.box.set_ 3 d', hr.away (grown_set wx _ _) (fun k e => by cases e; exact h.no), h.chg.then_ (D' := F) ((Chg.of_grown (grown_set wx ⟨g, 3, none⟩ d')).wide fun k _ e => by cases e; exact h.hF _ h.ge) (fun _ _ e => e), by simpa using h.lt, h.ge, h.le, h.hF⟩
/-- The last gate, where it lies. -/
theorem gate_at {w : World} {e : TypeId} {g n cd : Nat} {G l : List (Int × Int)} {p q : Int} (h : OwnK 2 w 0 e (.slice (some ⟨g, 0, none⟩) (n + 1) cd) G.length (e2Cells G)) (hG : G = l ++ [(p, q)]) (hn : l.length = n) : w.cell? ⟨g, n * 2, none⟩ = some (.int .i64 p) ∧ w.cell? ⟨g, n * 2 + 1, none⟩ = some (.int .i64 q) := by
  have hl : n < G.length := by rw [hG, List.length_append]; simp; omega
  have hx : G[n] = (p, q) := by
    subst hG hn
    simp
  obtain ⟨h1, h2⟩ := e2Cells_at hl
  rw [hx] at h1 h2
  have e1 : G.length = n + 1 := by rw [hG, List.length_append, hn]; rfl
  rw [e1] at h
  have hz : (e2Cells G).length = (n + 1) * 2 := by rw [e2Cells_len, e1]
  exact ⟨(World.ownsRow.cellAt h (n * 2) (by omega)).trans h1, (World.ownsRow.cellAt h (n * 2 + 1) (by omega)).trans h2⟩
def thirdTo (t : P3) (p q : Int) : Nat → Int
  | 0 => 0
  | k + 1 => if at3 t k ≠ p ∧ at3 t k ≠ q then at3 t k else thirdTo t p q k
theorem third_to (t : P3) (p q : Int) : thirdTo t p q 3 = thirdV t p q := by
  unfold thirdTo thirdTo thirdTo thirdTo thirdV at3
  simp
/-- A struct handed back through a cell, out of rows that lie in no box. -/
theorem wout_put {w : World} {F : Nat → Prop} {K q : Nat} {a b c d f : Value} {s : WS} {wx : World} (hr : WRows wx (cutF F w.heap.size K) 79 a b c d f s) (hc : Chg F w wx) (hF : ∀ k, w.heap.size ≤ k → F k) (hq : w.heap.size ≤ q) (hq2 : q < w.heap.size + K) {cs : Array Value} (hz : cs.size = 5) (hb : Blk wx q 37 cs) :
    Blk (((((wx.setCell ⟨q, 0, none⟩ a).setCell ⟨q, 1, none⟩ b).setCell ⟨q, 2, none⟩ c).setCell ⟨q, 3, none⟩ d).setCell ⟨q, 4, none⟩ f) q 37 #[a, b, c, d, f] ∧
    WOut F s w (.returned (.agg #[a, b, c, d, f])) (((((wx.setCell ⟨q, 0, none⟩ a).setCell ⟨q, 1, none⟩ b).setCell ⟨q, 2, none⟩ c).setCell ⟨q, 3, none⟩ d).setCell ⟨q, 4, none⟩ f) := by
  have hno : ¬ cutF F w.heap.size K q := fun e => e.2 ⟨hq, hq2⟩
  have hs : ∀ (V : World) (i : Nat) (u : Value), WRows V (cutF F w.heap.size K) 79 a b c d f s ∧ Chg F w V → WRows (V.setCell ⟨q, i, none⟩ u) (cutF F w.heap.size K) 79 a b c d f s ∧ Chg F w (V.setCell ⟨q, i, none⟩ u) := fun V i u h =>
    ⟨h.1.away (grown_set V ⟨q, i, none⟩ u) (fun k e => by cases e; exact hno), h.2.then_ (D' := F) ((Chg.of_grown (grown_set V ⟨q, i, none⟩ u)).wide fun k _ e => by cases e; exact hF _ hq) (fun _ _ e => e)⟩
  have h5 := hs _ 4 f (hs _ 3 d (hs _ 2 c (hs _ 1 b (hs _ 0 a ⟨hr, hc⟩))))
  refine ⟨?_, a, b, c, d, f, rfl, h5.1.among fun k _ e => e.1, h5.2⟩
  obtain ⟨l⟩ := cs
  match l, hz with
  | [c0, c1, c2, c3, c4], _ => exact ((((hb.set_ 0 a).set_ 1 b).set_ 2 c).set_ 3 d).set_ 4 f
theorem natVs_ints (l : List Nat) : natVs l = intVs (l.map fun (k : Nat) => (k : Int)) := rfl
theorem find_nat (l : List Nat) (i : Nat) : (i ∈ l ∧ ∃ k : Nat, findW (l.map fun (k : Nat) => (k : Int)) (i : Int) = k) ∨ (i ∉ l ∧ findW (l.map fun (k : Nat) => (k : Int)) (i : Int) = -1) := by
  by_cases h : i ∈ l
  · exact Or.inl ⟨h, _, find_yes (List.mem_map.2 ⟨i, h, rfl⟩)⟩
  · refine Or.inr ⟨h, find_no fun hm => ?_⟩
    obtain ⟨j, hj, e⟩ := List.mem_map.1 hm
    exact h (by rw [← Int.ofNat.inj e]; exact hj)
/-- Sizes that a walk over a mesh does not go beyond. -/
structure WSmall (s : WS) (n : Nat) : Prop where
  V : s.V.length ≤ n
  O : s.O.length ≤ n
  N : s.N.length ≤ n
  G : s.G.length ≤ n
  S : s.S.length ≤ n
theorem meet_le (l : List Int) (x : Int) : (meetW l x).length ≤ l.length + 1 := by
  unfold meetW
  split
  · omega
  · simp
end Go.Proofs.YtjahphfjobnkaaaDoor

/- lapidaryref11: gate. -/
namespace Go.Proofs.YtjahphfjobnkaaaDoor
open Go.RowKit

/-- A walk and a mesh in blocks of the call's own, and the result's cell. -/
structure GAt (w : World) (F : Nat → Prop) (x y : Value) (a b c d f : Value) (s : WS) (wx : World) : Prop where
  bx : WBox w F 3 w.heap.size a b c d f s wx
  me : Blk wx (w.heap.size + 1) 25 #[x, y]
  re : Blk wx (w.heap.size + 1 + 1) 37 #[.slice none 0 0, .slice none 0 0, .slice none 0 0, .slice none 0 0, .slice none 0 0]
section
variable {w : World} {F : Nat → Prop} {x y a b c d f : Value} {s : WS} {wx w' : World}
theorem GAt.n1 : ¬ cutF F w.heap.size 3 (w.heap.size + 1) := fun e => e.2 ⟨by omega, by omega⟩
theorem GAt.n2 : ¬ cutF F w.heap.size 3 (w.heap.size + 1 + 1) := fun e => e.2 ⟨by omega, by omega⟩
theorem GAt.next (h : GAt w F x y a b c d f s wx) (hb : Below wx.heap.size wx w') : GAt w F x y a b c d f s w' := ⟨h.bx.next hb, h.me.below hb h.me.lt, h.re.below hb h.re.lt⟩
theorem GAt.putS (h : GAt w F x y a b c d f s wx) {f' : Value} {l : List (Int × Int)} (ho : OwnK 2 w' 0 62 f' l.length (e2Cells l)) (hg : wx.grownBy w' f.ownBlock) (hw : ∀ q, f'.ownBlock = some q → f.ownBlock = some q ∨ wx.heap.size ≤ q) : GAt w F x y a b c d f' { s with S := l } (w'.setCell ⟨w.heap.size, 4, none⟩ f') ∧ Blk w' w.heap.size 37 #[a, b, c, d, f] ∧ Blk w' (w.heap.size + 1 + 1) 37 #[.slice none 0 0, .slice none 0 0, .slice none 0 0, .slice none 0 0, .slice none 0 0] := by
  obtain ⟨h1, h2⟩ := h.bx.putS ho hg hw
  have hc := h.bx.rows.chgS hg
  exact ⟨⟨h1, (h.me.chg hc GAt.n1).far (by show w.heap.size + 1 ≠ w.heap.size; omega) _, (h.re.chg hc GAt.n2).far (by show w.heap.size + 1 + 1 ≠ w.heap.size; omega) _⟩, h2, h.re.chg hc GAt.n2⟩
theorem GAt.setG {d' : Value} {s' : WS} (h : GAt w F x y a b c d f s wx) (hr : WRows wx (cutF F w.heap.size 3) 79 a b c d' f s') : GAt w F x y a b c d' f s' (wx.setCell ⟨w.heap.size, 3, none⟩ d') :=
  ⟨h.bx.setG hr, h.me.far (by show w.heap.size + 1 ≠ w.heap.size; omega) _, h.re.far (by show w.heap.size + 1 + 1 ≠ w.heap.size; omega) _⟩
theorem GAt.set {a' b' c' d' f' : Value} {s' : WS} {w0 : World} (h : GAt w F x y a b c d f s wx) (hr : WRows w' (cutF F w.heap.size 3) 79 a' b' c' d' f' s') (hc : Chg (cutF F w.heap.size 3) wx w')
    (he : w0 = ((((w'.setCell ⟨w.heap.size, 0, none⟩ a').setCell ⟨w.heap.size, 1, none⟩ b').setCell ⟨w.heap.size, 2, none⟩ c').setCell ⟨w.heap.size, 3, none⟩ d').setCell ⟨w.heap.size, 4, none⟩ f') : GAt w F x y a' b' c' d' f' s' w0 ∧ Blk w' w.heap.size 37 #[a, b, c, d, f] := by
  have h1 : w.heap.size + 1 ≠ w.heap.size := by omega
  have h2 : w.heap.size + 1 + 1 ≠ w.heap.size := by omega
  refine ⟨⟨h.bx.set hr hc he, ?_, ?_⟩, h.bx.box.chg hc h.bx.no⟩
  · subst he
    exact (((((h.me.chg hc GAt.n1).far h1 _).far h1 _).far h1 _).far h1 _).far h1 _
  · subst he
    exact (((((h.re.chg hc GAt.n2).far h2 _).far h2 _).far h2 _).far h2 _).far h2 _
/-- The walk handed back: out of rows behind a last call. -/
theorem GAt.fin {a' b' c' d' f' : Value} {s' : WS} (h : GAt w F x y a b c d f s wx) (hr : WRows w' (cutF F w.heap.size 3) 79 a' b' c' d' f' s') (hc : Chg (cutF F w.heap.size 3) wx w') :
    Blk w' (w.heap.size + 1 + 1) 37 #[.slice none 0 0, .slice none 0 0, .slice none 0 0, .slice none 0 0, .slice none 0 0] ∧ Blk (((((w'.setCell ⟨w.heap.size + 1 + 1, 0, none⟩ a').setCell ⟨w.heap.size + 1 + 1, 1, none⟩ b').setCell ⟨w.heap.size + 1 + 1, 2, none⟩ c').setCell ⟨w.heap.size + 1 + 1, 3, none⟩ d').setCell ⟨w.heap.size + 1 + 1, 4, none⟩ f') (w.heap.size + 1 + 1) 37 #[a', b', c', d', f'] ∧
    WOut F s' w (.returned (.agg #[a', b', c', d', f'])) (((((w'.setCell ⟨w.heap.size + 1 + 1, 0, none⟩ a').setCell ⟨w.heap.size + 1 + 1, 1, none⟩ b').setCell ⟨w.heap.size + 1 + 1, 2, none⟩ c').setCell ⟨w.heap.size + 1 + 1, 3, none⟩ d').setCell ⟨w.heap.size + 1 + 1, 4, none⟩ f') := by
  have hb := h.re.chg hc GAt.n2
  exact ⟨hb, wout_put (K := 3) hr (h.bx.chg.then_ hc fun _ _ e => e.1) h.bx.hF (by omega) (by omega) rfl hb⟩
end
theorem gat_new {w : World} {F : Nat → Prop} (hF : ∀ k, w.heap.size ≤ k → F k) {x y a b c d f : Value} {s : WS} (h : WRows w F 79 a b c d f s) : GAt w F x y a b c d f s (((w.alloc (.cells #[a, b, c, d, f] 37)).alloc (.cells #[x, y] 25)).alloc (.cells #[.slice none 0 0, .slice none 0 0, .slice none 0 0, .slice none 0 0, .slice none 0 0] 37)) := by
  refine ⟨wbox_new hF h (by decide) (((Below.refl _ _).alloc (by simp) _).alloc (by simp) _) (by simp), blk_second.alloc _, ?_⟩
  have h2 := Blk.new ((w.alloc (.cells #[a, b, c, d, f] 37)).alloc (.cells #[x, y] 25)) 37 #[.slice none 0 0, .slice none 0 0, .slice none 0 0, .slice none 0 0, .slice none 0 0]
  have e : ((w.alloc (.cells #[a, b, c, d, f] 37)).alloc (.cells #[x, y] 25)).heap.size = w.heap.size + 1 + 1 := by simp
  rw [e] at h2
  exact h2
set_option maxRecDepth 100000 in
set_option maxHeartbeats 4000000 in
theorem ref11gate_any (F : Nat → Prop) (a b c d f : Value) (s : WS) (An : Option Addr) (n cm : Nat) (B : Option Addr) (m dm : Nat) (T : List P3) (w : World) (hF : ∀ k, w.heap.size ≤ k → F k) (h : WRows w F 79 a b c d f s)
    (hT : ∀ W, Chg F w W → HasK 3 W B m dm (p3Cells T)) (hm : m ≤ 100000) (hs : WSmall s 10000000) (hg : s.G ≠ []) :
    Calls Tryd.prog 30 #[.agg #[a, b, c, d, f], .agg #[.slice An n cm, .slice B m dm]] w (WOut F (gateW T s) w) := by
  have HM : Hid (T.length = m) := by have := (hT w (Chg.refl _ _)).len; rw [p3Cells_len] at this; show _ = _; omega
  obtain ⟨p, q, hlast, hgw⟩ := gateW_last (T := T) hg
  obtain ⟨l, hl⟩ := List.getLast?_eq_some_iff.1 hlast
  rw [hgw]
  have hdl : s.G.dropLast = l := by rw [hl, List.dropLast_concat]
  obtain ⟨Ab, cb, rfl, _⟩ := h.rO.has
  obtain ⟨Ac, cc, rfl, _⟩ := h.rN.has
  obtain ⟨Af, cf, rfl, _⟩ := h.rS.has
  obtain ⟨A, ca, rfl, _⟩ := h.rV.has
  obtain ⟨K, hK⟩ : ∃ K, l.length = K := ⟨_, rfl⟩
  have hGl : s.G.length = K + 1 := by rw [hl, List.length_append, hK]; rfl
  have hd0 := h.rG
  rw [hGl] at hd0
  obtain ⟨bg, cd, rfl, hcd⟩ := own2_form hd0
  have HX0 := Lib.hid (gat_new (x := .slice An n cm) (y := .slice B m dm) hF h)
  have HV0 := Lib.hid (gate_at HX0.out.bx.rows.rG hl hK)
  have HP0 := Lib.hid (gat_new (x := .slice An n cm) (y := .slice B m dm) hF (h.popG hl hK))
  have HHs := Lib.hid (fun W (hW : Chg F w W) => ref10Has_any B m dm T q p W (hT W hW) hm)
  have HT := Lib.hid hT
  have HS := Lib.hid hs
  have HDl := Lib.hid hdl
  have HLl : Hid (l.length ≤ 10000000) := by have := hs.G; show _ ≤ _; omega
  obtain ⟨H, hH⟩ : ∃ H, hasF T q p = H := ⟨_, rfl⟩
  rw [hH] at HHs
  have HH := Lib.hid hH
  obtain ⟨kz, ks⟩ := zero_of_info wInfo
  obtain ⟨sz, ss⟩ := zero_of_info stepInfo
  have n4 : IntKind.wrap .i64 (((K + 1 : Nat) : Int) - 1) = (K : Int) := by rw [IntKind.wrap_i64]; have := hs.G; omega
  have n5 : IntKind.wrap .i64 ((K : Int) + 1 - 1) = (K : Int) := by rw [IntKind.wrap_i64]; have := hs.G; omega
  have n6 : IntKind.wrap .i64 (K : Int) = (K : Int) := by rw [IntKind.wrap_i64]; have := hs.G; omega
  have n7 : K ≤ cd := by omega
  have n8 : (K : Int) < ((K + 1 : Nat) : Int) := by omega
  have n9 : (K : Int) < (K : Int) + 1 := by omega
  clear hF h hT hs hg hgw hlast hl hdl hK hGl hd0 hH
  have m0 := HX0.out.bx.box.cell 0
  have m1 := HX0.out.bx.box.cell 1
  have m2 := HX0.out.bx.box.cell 2
  have m3 := HX0.out.bx.box.cell 3
  have m4 := HX0.out.bx.box.cell 4
  have m5 := HX0.out.me.cell 0
  have m6 := HX0.out.me.cell 1
  have m7 := HV0.out.1
  have m8 := HV0.out.2
  have m9 := HX0.out.bx.box.frozen 3
  go_enter Tryd.func30, Tryd.ntmps30
  go_wp2_with fail
  generalize ((w.alloc (.cells #[.slice A s.V.length ca, .slice Ab s.O.length cb, .slice Ac s.N.length cc, .slice (some ⟨bg, 0, none⟩) K cd, .slice Af s.S.length cf] 37)).alloc (.cells #[.slice An n cm, .slice B m dm] 25)).alloc (.cells #[.slice none 0 0, .slice none 0 0, .slice none 0 0, .slice none 0 0, .slice none 0 0] 37) = V at *
  clear m0 m1 m2 m3 m4 m5 m6 m7 m8 m9 HX0 HV0
  refine (HHs.out V HP0.out.bx.chg).mono ?_
  rintro e w1 ⟨rfl, rfl⟩
  have m0 := HP0.out.bx.box.cell 0
  have m1 := HP0.out.bx.box.cell 1
  have m2 := HP0.out.bx.box.cell 2
  have m3 := HP0.out.bx.box.cell 3
  have m4 := HP0.out.bx.box.cell 4
  have m5 := HP0.out.me.cell 0
  have m6 := HP0.out.me.cell 1
  rcases hasF_ways T q p with ⟨h1, _⟩ | ⟨i, hi, h1, _⟩
  · have hq : H = -1 := HH.out.symm.trans h1
    have HE : Hid (gateTo T s p q = { s with G := l, S := s.S ++ [(1, 0)] }) := by
      show _ = _
      unfold gateTo
      rw [h1, if_pos (by decide), HDl.out]
    subst hq
    clear h1 HH HHs HDl
    have HX1 := Lib.hid (HP0.out.next (new_alloc (Below.refl _ V) (.cells #[.int .i64 1, .int .i64 0] 62)))
    have HX2 := Lib.hid (HX1.out.next (new_alloc (Below.refl _ _) (.cells #[.int .i64 1, .int .i64 0] 62)))
    have HN2 : Hid (HasK 2 ((V.alloc (.cells #[.int .i64 1, .int .i64 0] 62)).alloc (.cells #[.int .i64 1, .int .i64 0] 62)) (some ⟨V.heap.size + 1, 0, none⟩) 1 1 (e2Cells [(1, 0)])) := HasK.new_at 2 _ #[.int .i64 1, .int .i64 0] 62 _ 1 (by simp) rfl
    have p4 := HX1.out.bx.box.cell 4
    have q4 := HX2.out.bx.box.cell 4
    have hsz := HS.out.S
    go_wp2_with (at_builtin
                 (refine wpList_joinGK rfl _ _ 28 rfl elemSt (by decide) 0 _ s.S.length (e2Cells s.S) rfl HX2.out.bx.rows.rS _ 1 1 (e2Cells [(1, 0)]) rfl HN2.out (e2Cells_one _) (by omega) (by decide) (Nat.zero_le _) ?_)
                 rintro v5 w5 ho hg hw
                 obtain ⟨A5, c5, rfl, _⟩ := OwnK.has ho
                 obtain ⟨hX, hB, hQ⟩ := HX2.out.putS (l := s.S ++ [(1, 0)]) (by rw [List.length_append, e2Cells_app]; exact ho) hg hw
                 have HX5 := Lib.hid hX
                 have HB5 := Lib.hid hB
                 have HQ5 := Lib.hid hQ
                 have f5 := HB5.out.frozen 4
                 clear hX hB hQ ho hg hw
                 have k0 := HB5.out.cell 0
                 have k1 := HB5.out.cell 1
                 have k2 := HB5.out.cell 2
                 have k3 := HB5.out.cell 3
                 have k4 := HB5.out.cell 4
                 have z0 := HQ5.out.cell 0
                 have z1 := HQ5.out.cell 1
                 have z2 := HQ5.out.cell 2
                 have z3 := HQ5.out.cell 3
                 have z4 := HQ5.out.cell 4
                 have q0 := HQ5.out.frozen 0
                 have q1 := HQ5.out.frozen 1
                 have q2 := HQ5.out.frozen 2
                 have q3 := HQ5.out.frozen 3
                 have q4 := HQ5.out.frozen 4
                 have HEnd := Lib.hid (HX5.out.fin HX5.out.bx.rows (Chg.refl _ _)))
    try rw [Exit.noGoto_ret]
    exact bodyPost_ret (results_cellM Tryd.results30 rfl (w_load _ _ _ _ _ _ _ HEnd.out.2.1)) rfl (by rw [HE.out]; exact HEnd.out.2.2)
  · have hq : H = (i : Int) := HH.out.symm.trans h1
    subst hq
    have hi2 : i < m := by rw [← HM.out]; exact hi
    have t1 : decide ((i : Int) < 0) = false := decide_eq_false (by omega)
    have HF1 := Lib.hid (fun W (hW : Has W Ab s.O.length cb (natVs s.O)) => ref11find_any Ab s.O.length cb (s.O.map fun (k : Nat) => (k : Int)) (i : Int) W hW (by have := HS.out.O; omega))
    have HO1 : Hid (Has V Ab s.O.length cb (natVs s.O)) := own_plain HP0.out.bx.rows.rO
    clear HHs HH
    rcases find_nat s.O i with ⟨hmem, k, hk⟩ | ⟨hmem, hk⟩
    · have HE : Hid (gateTo T s p q = { s with G := l }) := by
        show _ = _
        unfold gateTo
        rw [h1, if_neg (by omega), if_pos (by rw [Int.toNat_natCast]; exact hmem), HDl.out]
      rw [hk] at HF1
      have t2 : decide ((0 : Int) ≤ (k : Int)) = true := decide_eq_true (by omega)
      clear h1 hmem hk HDl
      go_wp2_with fail
      refine (HF1.out _ HO1.out).mono ?_
      rintro e w2 ⟨rfl, rfl⟩
      have HEnd := Lib.hid (HP0.out.fin HP0.out.bx.rows (Chg.refl _ _))
      have z0 := HEnd.out.1.cell 0
      have z1 := HEnd.out.1.cell 1
      have z2 := HEnd.out.1.cell 2
      have z3 := HEnd.out.1.cell 3
      have z4 := HEnd.out.1.cell 4
      have q0 := HEnd.out.1.frozen 0
      have q1 := HEnd.out.1.frozen 1
      have q2 := HEnd.out.1.frozen 2
      have q3 := HEnd.out.1.frozen 3
      have q4 := HEnd.out.1.frozen 4
      go_wp2
      try rw [Exit.noGoto_ret]
      exact bodyPost_ret (results_cellM Tryd.results30 rfl (w_load _ _ _ _ _ _ _ HEnd.out.2.1)) rfl (by rw [HE.out]; exact HEnd.out.2.2)
    · have HE : Hid (gateTo T s p q = stepTo T s i p q) := by
        show _ = _
        unfold gateTo
        rw [h1, if_neg (by omega), if_neg (by rw [Int.toNat_natCast]; exact hmem), Int.toNat_natCast]
      have HE3 := Lib.hid (step_take T s i p q)
      rw [hk] at HF1
      have hTi : T[i]?.getD (0, 0, 0) = T[i] := by rw [List.getElem?_eq_getElem hi]; rfl
      rw [hTi, HDl.out] at HE3
      have hht := HT.out V HP0.out.bx.chg
      obtain ⟨b, off, rfl, hlt, _⟩ := hht.spot (by omega)
      have HC := Lib.hid (fun k (hk : k < 3) => t3_cells hht hi hk)
      have HV := Lib.hid (third_to T[i] p q)
      have i2 : (i : Int) < (m : Int) := by omega
      clear h1 hmem hk hTi hht hlt HDl
      generalize T[i] = t at *
      go_wp2_with fail
      refine (HF1.out _ HO1.out).mono ?_
      rintro e w2 ⟨rfl, rfl⟩
      go_wp2
      go_loopg [9, 10] 3 (fun g s9 s10 wx => ∃ k : Nat, k + g = 3 ∧ s10 = .int .i64 (k : Int) ∧ s9 = .int .i64 (thirdTo t p q k) ∧ V = wx)
      case atStart => exact ⟨0, by omega, rfl, rfl, rfl⟩
      case round =>
        obtain ⟨k, hkg, rfl, rfl, rfl⟩ := hrel
        by_cases hk : k < 3
        · have tk : decide ((k : Int) < 3) = true := by simp; omega
          have k2 : (k : Int) < 3 := by omega
          have c0 := HC.out k hk
          have HNx : Hid (thirdTo t p q (k + 1) = if at3 t k ≠ p ∧ at3 t k ≠ q then at3 t k else thirdTo t p q k) := rfl
          generalize at3 t k = x at *
          by_cases e1 : x = p
          · have u1 : (x != p) = false := by simp [e1]
            have HN2 : Hid (thirdTo t p q (k + 1) = thirdTo t p q k) := by show _ = _; rw [HNx.out, if_neg (fun h => h.1 e1)]
            clear e1 HNx
            go_wp2
            go_roundg (gk - 1)
            case measure => omega
            case rel => exact ⟨k + 1, by omega, by go_num, by rw [HN2.out], rfl⟩
          · have u1 : (x != p) = true := bne_iff_ne.2 e1
            by_cases e2 : x = q
            · have u2 : (x != q) = false := by simp [e2]
              have HN2 : Hid (thirdTo t p q (k + 1) = thirdTo t p q k) := by show _ = _; rw [HNx.out, if_neg (fun h => h.2 e2)]
              clear e1 e2 HNx
              go_wp2
              go_roundg (gk - 1)
              case measure => omega
              case rel => exact ⟨k + 1, by omega, by go_num, by rw [HN2.out], rfl⟩
            · have u2 : (x != q) = true := bne_iff_ne.2 e2
              have HN2 : Hid (thirdTo t p q (k + 1) = x) := by show _ = _; rw [HNx.out, if_pos ⟨e1, e2⟩]
              clear e1 e2 HNx
              go_wp2
              go_roundg (gk - 1)
              case measure => omega
              case rel => exact ⟨k + 1, by omega, by go_num, by rw [HN2.out], rfl⟩
        · have tk : decide ((k : Int) < 3) = false := by simp; omega
          obtain rfl : k = 3 := by omega
          rw [HV.out]
          generalize thirdV t p q = v at *
          have HX1 := Lib.hid (HP0.out.next (new_alloc (Below.refl _ V) (.cells #[.int .i64 2, .int .i64 0] 62)))
          have p0 := HX1.out.bx.box.cell 0
          have HF2 := Lib.hid (fun W (hW : Has W A s.V.length ca (intVs s.V)) => ref11find_any A s.V.length ca s.V v W hW (by have := HS.out.V; omega))
          have HV1 := Lib.hid (own_plain HX1.out.bx.rows.rV)
          have HMe := Lib.hid (meet_le s.V v)
          clear HF1 HO1 HC HV
          by_cases hv : v ∈ s.V
          · have hf := find_yes hv
            rw [if_pos hv] at HE3
            generalize findW s.V v = fv at *
            generalize (s.V.idxOf v) = kv at *
            have t3 : decide ((0 : Int) ≤ fv) = true := decide_eq_true (by omega)
            clear hv hf
            go_wp2_with fail
            refine (HF2.out _ HV1.out).mono ?_
            rintro e w3 ⟨rfl, rfl⟩
            go_wp2_with fail
            refine (HF2.out _ HV1.out).mono ?_
            rintro e w4 ⟨rfl, rfl⟩
            have HX3 := Lib.hid (HP0.out.next (new_alloc (Below.refl _ V) (.cells #[.int .i64 3, .int .i64 fv] 62)))
            have HX4 := Lib.hid (HX3.out.next (new_alloc (Below.refl _ _) (.cells #[.int .i64 3, .int .i64 fv] 62)))
            have HN4 : Hid (HasK 2 ((V.alloc (.cells #[.int .i64 3, .int .i64 fv] 62)).alloc (.cells #[.int .i64 3, .int .i64 fv] 62)) (some ⟨V.heap.size + 1, 0, none⟩) 1 1 (e2Cells [(3, fv)])) := HasK.new_at 2 _ #[.int .i64 3, .int .i64 fv] 62 _ 1 (by simp) rfl
            have p4 := HX3.out.bx.box.cell 4
            have q4 := HX4.out.bx.box.cell 4
            have hsz := HS.out.S
            clear HX1 HV1 p0 HF2
            go_wp2_with (at_builtin
                         (refine wpList_joinGK rfl _ _ 28 rfl elemSt (by decide) 0 _ s.S.length (e2Cells s.S) rfl HX4.out.bx.rows.rS _ 1 1 (e2Cells [(3, fv)]) rfl HN4.out (e2Cells_one _) (by omega) (by decide) (Nat.zero_le _) ?_)
                         rintro v5 w5 ho hg hw
                         obtain ⟨A5, c5, rfl, _⟩ := OwnK.has ho
                         obtain ⟨hX, hB, hQ⟩ := HX4.out.putS (l := s.S ++ [(3, fv)]) (by rw [List.length_append, e2Cells_app]; exact ho) hg hw
                         have HX5 := Lib.hid hX
                         have HB5 := Lib.hid hB
                         have HQ5 := Lib.hid hQ
                         have f5 := HB5.out.frozen 4
                         clear hX hB hQ ho hg hw
                         have k0 := HB5.out.cell 0
                         have k1 := HB5.out.cell 1
                         have k2 := HB5.out.cell 2
                         have k3 := HB5.out.cell 3
                         have k4 := HB5.out.cell 4)
            generalize w5.setCell ⟨w.heap.size, 4, none⟩ (.slice A5 (s.S.length + 1) c5) = V5 at *
            clear k0 k1 k2 k3 k4 m0 m1 m2 m3 m4 m5 m6 p4 q4 HX3 HX4 HN4 HP0 HB5 HQ5 f5
            have k0 := HX5.out.bx.box.cell 0
            have k1 := HX5.out.bx.box.cell 1
            have k2 := HX5.out.bx.box.cell 2
            have k3 := HX5.out.bx.box.cell 3
            have k4 := HX5.out.bx.box.cell 4
            refine (ref11meet_any (cutF F w.heap.size 3) _ _ _ _ _ { s with G := l, S := s.S ++ [(3, fv)] } v V5 (cutF.new HX5.out.bx.hF HX5.out.bx.lt) HX5.out.bx.rows (by have := HS.out.V; show s.V.length ≤ _; omega)).mono ?_
            rintro e w6 ⟨a6, b6, c6, d6, f6, rfl, hr6, hc6⟩
            have HR6 := Lib.hid hr6
            have HC6 := Lib.hid hc6
            clear hc6
            obtain ⟨A6, x6, rfl, _⟩ := hr6.rV.has
            obtain ⟨B6, y6, rfl, _⟩ := hr6.rO.has
            obtain ⟨C6, z6, rfl, _⟩ := hr6.rN.has
            obtain ⟨D6, u6, rfl, _⟩ := hr6.rG.has
            obtain ⟨E6, v6, rfl, _⟩ := hr6.rS.has
            clear hr6
            simp only [List.length_append, List.length_cons, List.length_nil, Nat.zero_add] at HR6 HC6 ⊢
            obtain ⟨hX, hB⟩ := HX5.out.set HR6.out HC6.out rfl
            have HX6 := Lib.hid hX
            have HB6 := Lib.hid hB
            clear hX hB HX5 k0 k1 k2 k3 k4
            have k0 := HB6.out.cell 0
            have k1 := HB6.out.cell 1
            have k2 := HB6.out.cell 2
            have k3 := HB6.out.cell 3
            have k4 := HB6.out.cell 4
            have f0 := HB6.out.frozen 0
            have f1 := HB6.out.frozen 1
            have f2 := HB6.out.frozen 2
            have f3 := HB6.out.frozen 3
            have f4 := HB6.out.frozen 4
            go_wp2_with fail
            generalize ((((w6.setCell ⟨w.heap.size, 0, none⟩ (.slice A6 (meetW s.V v).length x6)).setCell ⟨w.heap.size, 1, none⟩ (.slice B6 s.O.length y6)).setCell ⟨w.heap.size, 2, none⟩ (.slice C6 s.N.length z6)).setCell ⟨w.heap.size, 3, none⟩ (.slice D6 l.length u6)).setCell ⟨w.heap.size, 4, none⟩ (.slice E6 (s.S.length + 1) v6) = V6 at *
            clear k0 k1 k2 k3 k4 f0 f1 f2 f3 f4 HB6 HR6 HC6
            refine (ref11take_any (cutF F w.heap.size 3) _ _ _ _ _ { V := meetW s.V v, O := s.O, N := s.N, G := l, S := s.S ++ [(3, fv)] } i q p v 1 V6 (cutF.new HX6.out.bx.hF HX6.out.bx.lt) HX6.out.bx.rows (by have h1 := HMe.out; have h2 := HS.out.V; show (meetW s.V v).length ≤ _; omega) (by have h2 := HS.out.O; show s.O.length ≤ _; omega) (by have h2 := HS.out.N; show s.N.length ≤ _; omega) (by have h2 := HLl.out; show l.length ≤ _; omega)).mono ?_
            rintro e w7 ⟨a7, b7, c7, d7, f7, rfl, hr7, hc7⟩
            have HR7 := Lib.hid hr7
            have HC7 := Lib.hid hc7
            clear hc7
            obtain ⟨A7, x7, rfl, _⟩ := hr7.rV.has
            obtain ⟨B7, y7, rfl, _⟩ := hr7.rO.has
            obtain ⟨C7, z7, rfl, _⟩ := hr7.rN.has
            obtain ⟨D7, u7, rfl, _⟩ := hr7.rG.has
            obtain ⟨E7, v7, rfl, _⟩ := hr7.rS.has
            clear hr7
            generalize (takeW { V := meetW s.V v, O := s.O, N := s.N, G := l, S := s.S ++ [(3, fv)] } i q p v 1) = s7 at *
            have HEnd := Lib.hid (HX6.out.fin HR7.out HC7.out)
            have z0 := HEnd.out.1.cell 0
            have z1 := HEnd.out.1.cell 1
            have z2 := HEnd.out.1.cell 2
            have z3 := HEnd.out.1.cell 3
            have z4 := HEnd.out.1.cell 4
            have q0 := HEnd.out.1.frozen 0
            have q1 := HEnd.out.1.frozen 1
            have q2 := HEnd.out.1.frozen 2
            have q3 := HEnd.out.1.frozen 3
            have q4 := HEnd.out.1.frozen 4
            go_wp2
            try rw [Exit.noGoto_ret]
            exact bodyPost_ret (results_cellM Tryd.results30 rfl (w_load _ _ _ _ _ _ _ HEnd.out.2.1)) rfl (by rw [HE.out, HE3.out]; exact HEnd.out.2.2)
          · have hf := find_no hv
            rw [if_neg hv] at HE3
            rw [hf] at HF2
            clear hv hf
            go_wp2_with fail
            refine (HF2.out _ HV1.out).mono ?_
            rintro e w3 ⟨rfl, rfl⟩
            have HX3 := Lib.hid (HP0.out.next (new_alloc (Below.refl _ V) (.cells #[.int .i64 2, .int .i64 0] 62)))
            have HX4 := Lib.hid (HX3.out.next (new_alloc (Below.refl _ _) (.cells #[.int .i64 2, .int .i64 0] 62)))
            have HN4 : Hid (HasK 2 ((V.alloc (.cells #[.int .i64 2, .int .i64 0] 62)).alloc (.cells #[.int .i64 2, .int .i64 0] 62)) (some ⟨V.heap.size + 1, 0, none⟩) 1 1 (e2Cells [(2, 0)])) := HasK.new_at 2 _ #[.int .i64 2, .int .i64 0] 62 _ 1 (by simp) rfl
            have p4 := HX3.out.bx.box.cell 4
            have q4 := HX4.out.bx.box.cell 4
            have hsz := HS.out.S
            clear HX1 HV1 p0 HF2
            go_wp2_with (at_builtin
                         (refine wpList_joinGK rfl _ _ 28 rfl elemSt (by decide) 0 _ s.S.length (e2Cells s.S) rfl HX4.out.bx.rows.rS _ 1 1 (e2Cells [(2, 0)]) rfl HN4.out (e2Cells_one _) (by omega) (by decide) (Nat.zero_le _) ?_)
                         rintro v5 w5 ho hg hw
                         obtain ⟨A5, c5, rfl, _⟩ := OwnK.has ho
                         obtain ⟨hX, hB, hQ⟩ := HX4.out.putS (l := s.S ++ [(2, 0)]) (by rw [List.length_append, e2Cells_app]; exact ho) hg hw
                         have HX5 := Lib.hid hX
                         have HB5 := Lib.hid hB
                         have HQ5 := Lib.hid hQ
                         have f5 := HB5.out.frozen 4
                         clear hX hB hQ ho hg hw
                         have k0 := HB5.out.cell 0
                         have k1 := HB5.out.cell 1
                         have k2 := HB5.out.cell 2
                         have k3 := HB5.out.cell 3
                         have k4 := HB5.out.cell 4)
            generalize w5.setCell ⟨w.heap.size, 4, none⟩ (.slice A5 (s.S.length + 1) c5) = V5 at *
            clear k0 k1 k2 k3 k4 m0 m1 m2 m3 m4 m5 m6 p4 q4 HX3 HX4 HN4 HP0 HB5 HQ5 f5
            have k0 := HX5.out.bx.box.cell 0
            have k1 := HX5.out.bx.box.cell 1
            have k2 := HX5.out.bx.box.cell 2
            have k3 := HX5.out.bx.box.cell 3
            have k4 := HX5.out.bx.box.cell 4
            refine (ref11meet_any (cutF F w.heap.size 3) _ _ _ _ _ { s with G := l, S := s.S ++ [(2, 0)] } v V5 (cutF.new HX5.out.bx.hF HX5.out.bx.lt) HX5.out.bx.rows (by have := HS.out.V; show s.V.length ≤ _; omega)).mono ?_
            rintro e w6 ⟨a6, b6, c6, d6, f6, rfl, hr6, hc6⟩
            have HR6 := Lib.hid hr6
            have HC6 := Lib.hid hc6
            clear hc6
            obtain ⟨A6, x6, rfl, _⟩ := hr6.rV.has
            obtain ⟨B6, y6, rfl, _⟩ := hr6.rO.has
            obtain ⟨C6, z6, rfl, _⟩ := hr6.rN.has
            obtain ⟨D6, u6, rfl, _⟩ := hr6.rG.has
            obtain ⟨E6, v6, rfl, _⟩ := hr6.rS.has
            clear hr6
            simp only [List.length_append, List.length_cons, List.length_nil, Nat.zero_add] at HR6 HC6 ⊢
            obtain ⟨hX, hB⟩ := HX5.out.set HR6.out HC6.out rfl
            have HX6 := Lib.hid hX
            have HB6 := Lib.hid hB
            clear hX hB HX5 k0 k1 k2 k3 k4
            have k0 := HB6.out.cell 0
            have k1 := HB6.out.cell 1
            have k2 := HB6.out.cell 2
            have k3 := HB6.out.cell 3
            have k4 := HB6.out.cell 4
            have f0 := HB6.out.frozen 0
            have f1 := HB6.out.frozen 1
            have f2 := HB6.out.frozen 2
            have f3 := HB6.out.frozen 3
            have f4 := HB6.out.frozen 4
            go_wp2_with fail
            generalize ((((w6.setCell ⟨w.heap.size, 0, none⟩ (.slice A6 (meetW s.V v).length x6)).setCell ⟨w.heap.size, 1, none⟩ (.slice B6 s.O.length y6)).setCell ⟨w.heap.size, 2, none⟩ (.slice C6 s.N.length z6)).setCell ⟨w.heap.size, 3, none⟩ (.slice D6 l.length u6)).setCell ⟨w.heap.size, 4, none⟩ (.slice E6 (s.S.length + 1) v6) = V6 at *
            clear k0 k1 k2 k3 k4 f0 f1 f2 f3 f4 HB6 HR6 HC6
            refine (ref11take_any (cutF F w.heap.size 3) _ _ _ _ _ { V := meetW s.V v, O := s.O, N := s.N, G := l, S := s.S ++ [(2, 0)] } i q p v 1 V6 (cutF.new HX6.out.bx.hF HX6.out.bx.lt) HX6.out.bx.rows (by have h1 := HMe.out; have h2 := HS.out.V; show (meetW s.V v).length ≤ _; omega) (by have h2 := HS.out.O; show s.O.length ≤ _; omega) (by have h2 := HS.out.N; show s.N.length ≤ _; omega) (by have h2 := HLl.out; show l.length ≤ _; omega)).mono ?_
            rintro e w7 ⟨a7, b7, c7, d7, f7, rfl, hr7, hc7⟩
            have HR7 := Lib.hid hr7
            have HC7 := Lib.hid hc7
            clear hc7
            obtain ⟨A7, x7, rfl, _⟩ := hr7.rV.has
            obtain ⟨B7, y7, rfl, _⟩ := hr7.rO.has
            obtain ⟨C7, z7, rfl, _⟩ := hr7.rN.has
            obtain ⟨D7, u7, rfl, _⟩ := hr7.rG.has
            obtain ⟨E7, v7, rfl, _⟩ := hr7.rS.has
            clear hr7
            generalize (takeW { V := meetW s.V v, O := s.O, N := s.N, G := l, S := s.S ++ [(2, 0)] } i q p v 1) = s7 at *
            have HEnd := Lib.hid (HX6.out.fin HR7.out HC7.out)
            have z0 := HEnd.out.1.cell 0
            have z1 := HEnd.out.1.cell 1
            have z2 := HEnd.out.1.cell 2
            have z3 := HEnd.out.1.cell 3
            have z4 := HEnd.out.1.cell 4
            have q0 := HEnd.out.1.frozen 0
            have q1 := HEnd.out.1.frozen 1
            have q2 := HEnd.out.1.frozen 2
            have q3 := HEnd.out.1.frozen 3
            have q4 := HEnd.out.1.frozen 4
            go_wp2
            try rw [Exit.noGoto_ret]
            exact bodyPost_ret (results_cellM Tryd.results30 rfl (w_load _ _ _ _ _ _ _ HEnd.out.2.1)) rfl (by rw [HE.out, HE3.out]; exact HEnd.out.2.2)
end Go.Proofs.YtjahphfjobnkaaaDoor
