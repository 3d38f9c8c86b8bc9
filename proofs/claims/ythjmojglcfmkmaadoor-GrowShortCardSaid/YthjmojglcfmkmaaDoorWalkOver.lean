import Derived.Test.YthjmojglcfmkmaaDoorWalkCodeH
import Derived.Test.YthjmojglcfmkmaaDoorWalkPlain
/- The landed walk: what is made ahead of it, in whatever order. -/
namespace Go.Proofs.YthjmojglcfmkmaaDoor
open Go.RowKit

theorem run_makeBool (n : Nat) (hn : n ≤ 100000) (w : World) : (Instr.makeSlice 78 (.int .i64 (n : Int)) (.int .i64 (n : Int))).run Tryd.prog w = .ok (.slice (some ⟨w.heap.size, 0, none⟩) n n) (w.alloc (.cells (rowB (fun _ => false) n) 4)) := by
  have h : (Tryd.prog.info? 4).map (fun i => (i.zero, i.size, i.bytes)) = some (some (.bool false), 1, 1) := by kernel_rfl
  obtain ⟨i, h1, h2, h3, h4⟩ := info_parts h
  have hr := run_make (P := Tryd.prog) w _ _ i _ Tryd.underlying78 h1 h2 .i64 .i64 (n : Int) (n : Int) (by omega) (Int.le_refl _) (by rw [h4]; omega) (by omega)
  rw [Int.toNat_natCast, h3] at hr
  have e : madeCells (Value.bool false).cells (n * 1) = rowB (fun _ => false) n := by
    apply Array.ext
    · simp [madeCells, rowB]
    · intro j h1 h2
      simp [madeCells, rowB, Value.cells, Nat.mod_one]
  rw [e] at hr
  exact hr
theorem rowA_rep (m : Nat) : (repL m m).toArray = rowA (fun _ => -1) m := by
  rw [repL_all]
  apply Array.ext_getElem?
  intro j
  unfold rowA intVs
  rw [List.getElem?_toArray, List.getElem?_map, List.getElem?_replicate]
  simp only [Array.getElem?_ofFn]
  by_cases h : j < m
  · simp [h]
  · simp [h]
/-- What was made so far: the map, the row of what is met, a literal, the row of numbers. -/
structure Mk (v : World) (m n : Nat) (T : List P3) (sb mb lb nb : Option Nat) (wx : World) : Prop where
  bel : Below v.heap.size v wx
  s : ∀ k, sb = some k → v.heap.size ≤ k ∧ SidesK wx k T
  mm : ∀ k, mb = some k → v.heap.size ≤ k ∧ Blk wx k 4 (rowB (fun _ => false) m)
  l : ∀ k, lb = some k → Blk wx k 3 #[.int .i64 (-1)]
  nn : ∀ k, nb = some k → v.heap.size ≤ k ∧ Blk wx k 3 (rowA (fun _ => -1) n)
  d1 : ∀ j k, sb = some j → mb = some k → j ≠ k
  d2 : ∀ j k, sb = some j → nb = some k → j ≠ k
  d3 : ∀ j k, mb = some j → nb = some k → j ≠ k
section
variable {v : World} {m n : Nat} {T : List P3} {sb mb lb nb : Option Nat} {wx w' : World}
theorem Mk.new (v : World) (m n : Nat) (T : List P3) : Mk v m n T none none none none v.drew :=
  ⟨(Below.refl _ _).drew, (fun _ h => by cases h), (fun _ h => by cases h), (fun _ h => by cases h), (fun _ h => by cases h), (fun _ _ h => by cases h), (fun _ _ h => by cases h), (fun _ _ h => by cases h)⟩
theorem Mk.next (h : Mk v m n T sb mb lb nb wx) (hb : Below wx.heap.size wx w') : Mk v m n T sb mb lb nb w' :=
  ⟨h.bel.trans (hb.mono h.bel.size), fun k e => ⟨(h.s k e).1, (h.s k e).2.kept hb⟩, fun k e => ⟨(h.mm k e).1, (h.mm k e).2.below hb (h.mm k e).2.lt⟩, fun k e => (h.l k e).below hb (h.l k e).lt, fun k e => ⟨(h.nn k e).1, (h.nn k e).2.below hb (h.nn k e).2.lt⟩, h.d1, h.d2, h.d3⟩
theorem Mk.addS (h : Mk v m n T none mb lb nb wx) {b : Nat} (hb : Below wx.heap.size wx w') (hge : wx.heap.size ≤ b) (hs : SidesK w' b T) : Mk v m n T (some b) mb lb nb w' := by
  have h2 := h.next hb
  refine ⟨h2.bel, fun k e => ?_, h2.mm, h2.l, h2.nn, fun j k e1 e2 => ?_, fun j k e1 e2 => ?_, h2.d3⟩
  · cases e
    exact ⟨Nat.le_trans h.bel.size hge, hs⟩
  · cases e1
    have := (h.mm k e2).2.lt
    omega
  · cases e1
    have := (h.nn k e2).2.lt
    omega
theorem Mk.addM (h : Mk v m n T sb none lb nb wx) {b : Nat} (hge : b = wx.heap.size) : Mk v m n T sb (some b) lb nb (wx.alloc (.cells (rowB (fun _ => false) m) 4)) := by
  have h2 := h.next (new_alloc (Below.refl _ _) (.cells (rowB (fun _ => false) m) 4))
  subst hge
  refine ⟨h2.bel, h2.s, fun k e => ?_, h2.l, h2.nn, fun j k e1 e2 => ?_, h2.d2, fun j k e1 e2 => ?_⟩
  · cases e
    exact ⟨h.bel.size, Blk.new _ _ _⟩
  · cases e2
    have := (h.s j e1).2.lt
    omega
  · cases e1
    have := (h.nn k e2).2.lt
    omega
theorem Mk.addL (h : Mk v m n T sb mb none nb wx) {b : Nat} (hge : b = wx.heap.size) : Mk v m n T sb mb (some b) nb (wx.alloc (.cells #[.int .i64 (-1)] 3)) := by
  have h2 := h.next (new_alloc (Below.refl _ _) (.cells #[.int .i64 (-1)] 3))
  subst hge
  refine ⟨h2.bel, h2.s, h2.mm, fun k e => ?_, h2.nn, h2.d1, h2.d2, h2.d3⟩
  cases e
  exact Blk.new _ _ _
theorem Mk.addN (h : Mk v m n T sb mb lb none wx) (hb : Below wx.heap.size wx w') (hs : Blk w' wx.heap.size 3 (repL n n).toArray) {b : Nat} (hge : b = wx.heap.size) : Mk v m n T sb mb lb (some b) w' := by
  have h2 := h.next hb
  subst hge
  rw [rowA_rep] at hs
  refine ⟨h2.bel, h2.s, h2.mm, h2.l, fun k e => ?_, h2.d1, fun j k e1 e2 => ?_, fun j k e1 e2 => ?_⟩
  · cases e
    exact ⟨h.bel.size, hs⟩
  · cases e2
    have := (h.s j e1).2.lt
    omega
  · cases e2
    have := (h.mm j e1).2.lt
    omega
/-- The route itself. -/
theorem Mk.fin {b gm gn g : Nat} (h : Mk v m n T (some b) (some gm) lb (some gn) wx) (hge : g = wx.heap.size) (F : Nat → Prop) (hF : ∀ k, v.heap.size ≤ k → F k) :
    RA F g b gm gn m n T ⟨[], [], [], [], []⟩ (wx.alloc (.cells #[.map (some b), .slice (some ⟨gm, 0, none⟩) m m, .slice (some ⟨gn, 0, none⟩) n n, .slice none 0 0, .slice none 0 0, .slice none 0 0, .slice none 0 0, .slice none 0 0] 82)) ∧ Below v.heap.size v (wx.alloc (.cells #[.map (some b), .slice (some ⟨gm, 0, none⟩) m m, .slice (some ⟨gn, 0, none⟩) n n, .slice none 0 0, .slice none 0 0, .slice none 0 0, .slice none 0 0, .slice none 0 0] 82)) := by
  have h2 := h.next (new_alloc (Below.refl _ _) (.cells #[.map (some b), .slice (some ⟨gm, 0, none⟩) m m, .slice (some ⟨gn, 0, none⟩) n n, .slice none 0 0, .slice none 0 0, .slice none 0 0, .slice none 0 0, .slice none 0 0] 82))
  subst hge
  have l1 := (h.s b rfl).2.lt
  have l2 := (h.mm gm rfl).2.lt
  have l3 := (h.nn gn rfl).2.lt
  refine ⟨⟨fun _ => false, fun _ => -1, _, _, _, _, _, ⟨Blk.new _ _ _, (h2.s b rfl).2, (h2.mm gm rfl).2, (h2.nn gn rfl).2, WRows.nil _ _ _, hF _ h.bel.size, hF _ (h.s b rfl).1, hF _ (h.mm gm rfl).1, hF _ (h.nn gn rfl).1, by omega, by omega, by omega, h.d1 _ _ rfl rfl, h.d2 _ _ rfl rfl, h.d3 _ _ rfl rfl⟩, fun i _ => ?_, fun u _ => ?_⟩, h2.bel⟩
  · exact (decide_eq_false (fun hm => by cases hm)).symm
  · exact (find_no (fun hm => by cases hm)).symm
end
theorem WSmall.more {s : WS} {k j : Nat} (h : WSmall s k) (hk : k ≤ j) : WSmall s j := ⟨Nat.le_trans h.V hk, Nat.le_trans h.O hk, Nat.le_trans h.N hk, Nat.le_trans h.G hk, Nat.le_trans h.S hk⟩
/-- A piece of which nothing was met: its vertices are new. -/
theorem walk_new {P T : List P3} (hc : CheckIs P T 0) {i : Nat} (hil : i < T.length) (hm : i ∉ (walkTo T i).O) : ∀ x, hasV x T[i] → x ∉ (walkTo T i).V := by
  obtain ⟨_, hp, hn, hf⟩ := check_zero hc
  have hall : T.all (triM P.length) = true := by unfold plainM at hp; rw [Bool.and_eq_true] at hp; exact hp.2
  obtain ⟨_, h2, _⟩ := walk_ok T i (by omega)
  have hw := walk_inv hall hn i (by omega)
  intro x hx hxV
  obtain ⟨j, hj, hl, hv⟩ := hw.vin x hxV
  have hr := triM_iff.1 (List.all_eq_true.1 hall _ (List.getElem_mem hil))
  have hx0 : 0 ≤ x ∧ x < P.length := by
    unfold hasV at hx
    rcases hx with rfl | rfl | rfl <;> omega
  have hfx := hf x.toNat (by omega)
  rw [Int.toNat_of_nonneg hx0.1] at hfx
  exact hm (hw.closed (darts_nodup hn) h2 hl hj i hil (fan_conn hfx (List.getElem_mem hl) (List.getElem_mem hil) hv hx))
end Go.Proofs.YthjmojglcfmkmaaDoor

/- The landed walk: over the whole of it. -/
namespace Go.Proofs.YthjmojglcfmkmaaDoor
open Go.RowKit

/-- A route's pointer, and an error. -/
def Overd (w : World) (n m : Nat) (T : List P3) (r : Int) (e : Ending) (w' : World) : Prop := ∃ ptr, e = .returned (.tuple #[.pointer ptr, .int .i64 r]) ∧ Below w.heap.size w w' ∧ (r = 0 → ∃ g b gm gn, ptr = some ⟨g, 0, none⟩ ∧ RA (fun k => w.heap.size ≤ k) g b gm gn m n T (walkF T) w')
set_option maxRecDepth 100000 in
set_option maxHeartbeats 8000000 in
theorem walkOver_any (A : Option Addr) (n c : Nat) (P : List P3) (B : Option Addr) (m d' : Nat) (T : List P3) (r : Int) (w : World) (hbe : BehW w) (hp : HasK 3 w A n c (p3Cells P)) (ht : HasK 3 w B m d' (p3Cells T)) (hn : n ≤ 100000) (hm : m ≤ 100000) (hr : CheckIs P T r) :
    Calls Tryd.prog 40 #[.agg #[.slice A n c, .slice B m d']] w (Overd w n m T r) := by
  have HL : Hid (P.length = n) := by have := hp.len; rw [p3Cells_len] at this; show _ = _; omega
  have HM0 : Hid (T.length = m) := by have := ht.len; rw [p3Cells_len] at this; show _ = _; omega
  have HK0 := Lib.hid (MeshAt.new w (.slice A n c) (.slice B m d'))
  have HT := Lib.hid (fun W (hW : Below w.heap.size w W) => ht.kept hW)
  have HCk := Lib.hid (fun W (hW : Below w.heap.size w W) => meshCheck_any A n c P B m d' T r W (hbe.kept hW) (hp.kept hW) (ht.kept hW) hn hm hr)
  have HRr := Lib.hid hr
  have m0 := HK0.out.b0.cell 0
  have m1 := HK0.out.b0.cell 1
  clear hbe hp ht hr
  go_enter Tryd.func40, Tryd.ntmps40
  go_wp2_with fail
  go_step3
  go_wp2_with fail
  refine (HCk.out _ HK0.out.bel).mono ?_
  rintro e V ⟨rfl, hb1⟩
  have HK1 := Lib.hid (HK0.out.next hb1)
  clear hb1 HK0 HCk m0 m1
  by_cases h0 : r = 0
  · subst h0
    obtain ⟨_, hpl, hnd, _⟩ := check_zero HRr.out
    have hall : T.all (triM n) = true := by unfold plainM at hpl; rw [Bool.and_eq_true] at hpl; rw [← HL.out]; exact hpl.2
    have HAll := Lib.hid hall
    have HNd := Lib.hid hnd
    have HSd := Lib.hid (fun W (hW : Below w.heap.size w W) => walkSides_any B m d' T n W (HT.out W hW) hm hn hall)
    have HBl : Hid (∀ W, Below V.heap.size V W → Below w.heap.size w W) := fun W hW => new_call HK1.out.bel hW
    have HBx : Hid (∀ W, Below V.heap.size V W → W.cell? ⟨w.heap.size, 0, none⟩ = some (.slice A n c) ∧ W.cell? ⟨w.heap.size, 1, none⟩ = some (.slice B m d')) := fun W hW => ⟨(HK1.out.next hW).b0.cell 0, (HK1.out.next hW).b0.cell 1⟩
    have HM := Lib.hid (Mk.new V m n T)
    obtain ⟨F0, hF0⟩ : ∃ F : Nat → Prop, F = fun k => w.heap.size + 1 ≤ k := ⟨_, rfl⟩
    have HF0 : Hid (∀ k, V.heap.size ≤ k → F0 k) := fun k hk => by rw [hF0]; exact Nat.le_trans HK1.out.b0.lt hk
    have hmk := fun W => run_makeBool m hm W
    have m0 := HK1.out.b0.cell 0
    have m1 := HK1.out.b0.cell 1
    clear hall hnd hpl
    go_wp2_with fail
    go_cut [5] from 10 (fun s5 wx => ∃ g b gm gn : Nat, s5 = .pointer (some ⟨g, 0, none⟩) ∧ Hid (RA F0 g b gm gn m n T ⟨[], [], [], [], []⟩ wx) ∧ Hid (Below V.heap.size V wx))
    case first =>
      refine wp_region_held_drew (S := fun W => W.cell? ⟨w.heap.size, 0, none⟩ = some (.slice A n c) ∧ W.cell? ⟨w.heap.size, 1, none⟩ = some (.slice B m d')) (by kernel_rfl) (HBx.out _ HM.out.bel) (fun hHeld => ?_)
      refine wpAnyH_take (i := 0) (oi := { dst := some 15, op := Go.Op.fieldAddr 48 (Go.Operand.tmp 1) 1, type := 0, pos := "route.go:40", after := #[], guard := none }) (v := ?uvr4x0) rfl (by kernel_rfl) (by kernel_rfl) (by kernel_rfl) (fun _ _ _ h => h) (Or.inl ⟨by rfl, ?uyr4x0⟩) (by assumption) ?urr4x0
      case uyr4x0 => (intro w hSw; (try dsimp only at hSw); go_simp; try with_reducible rfl)
      (try simp only [Act.put, List.setIfInBounds_toArray, List.set_cons_zero, List.set_cons_succ])
      refine wpAnyH_take (i := 1) (oi := { dst := some 16, op := Go.Op.load 26 (Go.Operand.tmp 15), type := 26, pos := "route.go:40", after := #[{ on := 0, ground := Go.Ground.data }], guard := none }) (v := ?uvr4x1) rfl (by kernel_rfl) (by kernel_rfl) (by kernel_rfl) (fun _ _ _ h => h) (Or.inl ⟨by rfl, ?uyr4x1⟩) (by assumption) ?urr4x1
      case uyr4x1 => (intro w hSw; (try dsimp only at hSw); go_simp; try with_reducible rfl)
      (try simp only [Act.put, List.setIfInBounds_toArray, List.set_cons_zero, List.set_cons_succ])
      refine wpAnyH_take (i := 3) (oi := { dst := some 18, op := Go.Op.fieldAddr 48 (Go.Operand.tmp 1) 1, type := 0, pos := "route.go:40", after := #[], guard := none }) (v := ?uvr4x2) rfl (by kernel_rfl) (by kernel_rfl) (by kernel_rfl) (fun _ _ _ h => h) (Or.inl ⟨by rfl, ?uyr4x2⟩) (by assumption) ?urr4x2
      case uyr4x2 => (intro w hSw; (try dsimp only at hSw); go_simp; try with_reducible rfl)
      (try simp only [Act.put, List.setIfInBounds_toArray, List.set_cons_zero, List.set_cons_succ])
      refine wpAnyH_take (i := 4) (oi := { dst := some 19, op := Go.Op.load 26 (Go.Operand.tmp 18), type := 26, pos := "route.go:40", after := #[{ on := 3, ground := Go.Ground.data }], guard := none }) (v := ?uvr4x3) rfl (by kernel_rfl) (by kernel_rfl) (by kernel_rfl) (fun _ _ _ h => h) (Or.inl ⟨by rfl, ?uyr4x3⟩) (by assumption) ?urr4x3
      case uyr4x3 => (intro w hSw; (try dsimp only at hSw); go_simp; try with_reducible rfl)
      (try simp only [Act.put, List.setIfInBounds_toArray, List.set_cons_zero, List.set_cons_succ])
      refine wpAnyH_take (i := 5) (oi := { dst := some 20, op := Go.Op.call { callee := Go.Callee.builtin Go.Builtin.len, args := #[Go.Operand.tmp 19], argTypes := #[26] }, type := 3, pos := "route.go:40", after := #[{ on := 4, ground := Go.Ground.data }], guard := none }) (v := ?uvr4x4) rfl (by kernel_rfl) (by kernel_rfl) (by kernel_rfl) (fun _ _ _ h => h) (Or.inl ⟨by rfl, ?uyr4x4⟩) (by assumption) ?urr4x4
      case uyr4x4 => (intro w hSw; (try dsimp only at hSw); go_simp; try with_reducible rfl)
      (try simp only [Act.put, List.setIfInBounds_toArray, List.set_cons_zero, List.set_cons_succ])
      refine wpAnyH_take (i := 8) (oi := { dst := some 23, op := Go.Op.fieldAddr 48 (Go.Operand.tmp 1) 0, type := 0, pos := "route.go:40", after := #[], guard := none }) (v := ?uvr4x5) rfl (by kernel_rfl) (by kernel_rfl) (by kernel_rfl) (fun _ _ _ h => h) (Or.inl ⟨by rfl, ?uyr4x5⟩) (by assumption) ?urr4x5
      case uyr4x5 => (intro w hSw; (try dsimp only at hSw); go_simp; try with_reducible rfl)
      (try simp only [Act.put, List.setIfInBounds_toArray, List.set_cons_zero, List.set_cons_succ])
      refine wpAnyH_take (i := 9) (oi := { dst := some 24, op := Go.Op.load 46 (Go.Operand.tmp 23), type := 46, pos := "route.go:40", after := #[{ on := 8, ground := Go.Ground.data }], guard := none }) (v := ?uvr4x6) rfl (by kernel_rfl) (by kernel_rfl) (by kernel_rfl) (fun _ _ _ h => h) (Or.inl ⟨by rfl, ?uyr4x6⟩) (by assumption) ?urr4x6
      case uyr4x6 => (intro w hSw; (try dsimp only at hSw); go_simp; try with_reducible rfl)
      (try simp only [Act.put, List.setIfInBounds_toArray, List.set_cons_zero, List.set_cons_succ])
      refine wpAnyH_take (i := 10) (oi := { dst := some 25, op := Go.Op.call { callee := Go.Callee.builtin Go.Builtin.len, args := #[Go.Operand.tmp 24], argTypes := #[46] }, type := 3, pos := "route.go:40", after := #[{ on := 9, ground := Go.Ground.data }], guard := none }) (v := ?uvr4x7) rfl (by kernel_rfl) (by kernel_rfl) (by kernel_rfl) (fun _ _ _ h => h) (Or.inl ⟨by rfl, ?uyr4x7⟩) (by assumption) ?urr4x7
      case uyr4x7 => (intro w hSw; (try dsimp only at hSw); go_simp; try with_reducible rfl)
      (try simp only [Act.put, List.setIfInBounds_toArray, List.set_cons_zero, List.set_cons_succ])
      refine wpAnyH_ready (rs := [2, 6, 7]) (by kernel_rfl) (by simp) ?_
      refine AllReadyH.cons (o := { dst := some 17, op := Go.Op.call { callee := Go.Callee.value (Go.Operand.func 53), args := #[Go.Operand.tmp 16], argTypes := #[26] }, type := 77, pos := "route.go:41", after := #[{ on := 1, ground := Go.Ground.data }], guard := none }) rfl (fun K hK => ?_) (AllReadyH.cons (o := { dst := some 21, op := Go.Op.makeSlice 78 (Go.Operand.tmp 20) (Go.Operand.tmp 20), type := 78, pos := "route.go:40", after := #[{ on := 5, ground := Go.Ground.data }, { on := 5, ground := Go.Ground.data }], guard := none }) rfl (fun K hK => ?_) (AllReadyH.cons (o := { dst := some 22, op := Go.Op.buildSlice 79 1 #[(0, Go.Operand.const (Go.Value.int Go.IntKind.i64 (-1)))], type := 79, pos := "route.go:40", after := #[], guard := none }) rfl (fun K hK => ?_) AllReadyH.nil))
      · go_simp
        (go_at_call 53; (with_reducible refine (HSd.out _ (HBl.out _ HM.out.bel)).mono ?_); rintro e wS ⟨bS, rfl, hge, hs, hb⟩; have HM : Hid (Mk V m n T (some bS) none none none wS) := HM.out.addS hb hge hs; clear hge hs hb)
        refine hK.out _ _ ?_ (fun hHeld => ?_)
        · exact HBx.out _ HM.out.bel
        clear hK K
        (try simp only [Act.put, List.setIfInBounds_toArray, List.set_cons_zero, List.set_cons_succ])
        refine wpAnyH_ready (rs := [6, 7]) (by kernel_rfl) (by simp) ?_
        refine AllReadyH.cons (o := { dst := some 21, op := Go.Op.makeSlice 78 (Go.Operand.tmp 20) (Go.Operand.tmp 20), type := 78, pos := "route.go:40", after := #[{ on := 5, ground := Go.Ground.data }, { on := 5, ground := Go.Ground.data }], guard := none }) rfl (fun K hK => ?_) (AllReadyH.cons (o := { dst := some 22, op := Go.Op.buildSlice 79 1 #[(0, Go.Operand.const (Go.Value.int Go.IntKind.i64 (-1)))], type := 79, pos := "route.go:40", after := #[], guard := none }) rfl (fun K hK => ?_) AllReadyH.nil)
        · go_simp
          have HM : Hid (Mk V m n T (some bS) (some (wS.heap.size)) none none (wS.alloc (.cells (rowB (fun _ => false) m) 4))) := HM.out.addM (by rfl)
          refine hK.out _ _ ?_ (fun hHeld => ?_)
          · exact HBx.out _ HM.out.bel
          clear hK K
          (try simp only [Act.put, List.setIfInBounds_toArray, List.set_cons_zero, List.set_cons_succ])
          refine wpAnyH_ready (rs := [7]) (by kernel_rfl) (by simp) ?_
          refine AllReadyH.cons (o := { dst := some 22, op := Go.Op.buildSlice 79 1 #[(0, Go.Operand.const (Go.Value.int Go.IntKind.i64 (-1)))], type := 79, pos := "route.go:40", after := #[], guard := none }) rfl (fun K hK => ?_) AllReadyH.nil
          go_simp
          have HM : Hid (Mk V m n T (some bS) (some (wS.heap.size)) (some (wS.heap.size + 1)) none ((wS.alloc (.cells (rowB (fun _ => false) m) 4)).alloc (.cells #[.int .i64 (-1)] 3))) := HM.out.addL (by simp)
          refine hK.out _ _ ?_ (fun hHeld => ?_)
          · exact HBx.out _ HM.out.bel
          clear hK K
          (try simp only [Act.put, List.setIfInBounds_toArray, List.set_cons_zero, List.set_cons_succ])
          refine wpAnyH_ready (rs := [11]) (by kernel_rfl) (by simp) ?_
          refine AllReadyH.cons (o := { dst := some 26, op := Go.Op.call { callee := Go.Callee.value (Go.Operand.func 54), args := #[Go.Operand.tmp 22, Go.Operand.tmp 25], argTypes := #[79, 3] }, type := 79, pos := "route.go:43", after := #[{ on := 7, ground := Go.Ground.data }, { on := 10, ground := Go.Ground.data }, { on := 2, ground := Go.Ground.chain }], guard := none }) rfl (fun K hK => ?_) AllReadyH.nil
          go_simp
          (go_at_call 54; (with_reducible refine (repeat_any (wS.heap.size + 1) n _ ?_ hn).mono ?_)
           · exact (HM.out.l _ rfl).cell 0
           rintro e wR ⟨rfl, hk, hb⟩; have HM : Hid (Mk V m n T (some bS) (some (wS.heap.size)) (some (wS.heap.size + 1)) (some (wS.heap.size + 1 + 1)) wR) := HM.out.addN hb hk (by simp); clear hk hb)
          refine hK.out _ _ ?_ (fun hHeld => ?_)
          · exact HBx.out _ HM.out.bel
          clear hK K
          (try simp only [Act.put, List.setIfInBounds_toArray, List.set_cons_zero, List.set_cons_succ])
          refine wpAnyH_take (i := 12) (oi := { dst := some 27, op := Go.Op.build 82 #[(0, Go.Operand.tmp 17), (1, Go.Operand.tmp 21), (2, Go.Operand.tmp 26)], type := 82, pos := "route.go:40", after := #[{ on := 2, ground := Go.Ground.data }, { on := 6, ground := Go.Ground.data }, { on := 11, ground := Go.Ground.data }], guard := none }) (v := ?uvr4x8) rfl (by kernel_rfl) (by kernel_rfl) (by kernel_rfl) (fun _ _ _ h => h) (Or.inl ⟨by rfl, ?uyr4x8⟩) (by assumption) ?urr4x8
          case uyr4x8 => (intro w hSw; (try dsimp only at hSw); go_simp; try with_reducible rfl)
          (try simp only [Act.put, List.setIfInBounds_toArray, List.set_cons_zero, List.set_cons_succ])
          refine wpAnyH_ready (rs := [13]) (by kernel_rfl) (by simp) ?_
          refine AllReadyH.cons (o := { dst := some 28, op := Go.Op.box 82 (Go.Operand.tmp 27), type := 74, pos := "route.go:40", after := #[{ on := 12, ground := Go.Ground.data }], guard := none }) rfl (fun K hK => ?_) AllReadyH.nil
          go_simp
          have HFin := Lib.hid (HM.out.fin (g := wR.heap.size) (by rfl) F0 HF0.out)
          refine hK.out _ _ ?_ (fun hHeld => ?_)
          · exact HBx.out _ HFin.out.2
          clear hK K
          (try simp only [Act.put, List.setIfInBounds_toArray, List.set_cons_zero, List.set_cons_succ])
          refine wpAnyH_take (i := 14) (oi := { dst := some 5, op := Go.Op.assign (Go.Operand.tmp 28), type := 74, pos := "route.go:40", after := #[{ on := 13, ground := Go.Ground.data }, { on := 11, ground := Go.Ground.chain }, { on := 0, ground := Go.Ground.phase }, { on := 1, ground := Go.Ground.phase }, { on := 2, ground := Go.Ground.phase }, { on := 3, ground := Go.Ground.phase }, { on := 4, ground := Go.Ground.phase }, { on := 5, ground := Go.Ground.phase }, { on := 6, ground := Go.Ground.phase }, { on := 7, ground := Go.Ground.phase }, { on := 8, ground := Go.Ground.phase }, { on := 9, ground := Go.Ground.phase }, { on := 10, ground := Go.Ground.phase }, { on := 11, ground := Go.Ground.phase }, { on := 12, ground := Go.Ground.phase }, { on := 13, ground := Go.Ground.phase }], guard := none }) (v := ?uvr4x9) rfl (by kernel_rfl) (by kernel_rfl) (by kernel_rfl) (fun _ _ _ h => h) (Or.inl ⟨by rfl, ?uyr4x9⟩) (by assumption) ?urr4x9
          case uyr4x9 => (intro w hSw; (try dsimp only at hSw); go_simp; try with_reducible rfl)
          (try simp only [Act.put, List.setIfInBounds_toArray, List.set_cons_zero, List.set_cons_succ])
          refine wpAnyH_done (by kernel_rfl) ?_ _
          go_wp2_with (with_reducible fail)
          go_meet
          case rel => exact ⟨_, _, _, _, rfl, HFin.out.1, HFin.out.2⟩
        · go_simp
          have HM : Hid (Mk V m n T (some bS) none (some (wS.heap.size)) none (wS.alloc (.cells #[.int .i64 (-1)] 3))) := HM.out.addL (by rfl)
          refine hK.out _ _ ?_ (fun hHeld => ?_)
          · exact HBx.out _ HM.out.bel
          clear hK K
          (try simp only [Act.put, List.setIfInBounds_toArray, List.set_cons_zero, List.set_cons_succ])
          refine wpAnyH_ready (rs := [6, 11]) (by kernel_rfl) (by simp) ?_
          refine AllReadyH.cons (o := { dst := some 21, op := Go.Op.makeSlice 78 (Go.Operand.tmp 20) (Go.Operand.tmp 20), type := 78, pos := "route.go:40", after := #[{ on := 5, ground := Go.Ground.data }, { on := 5, ground := Go.Ground.data }], guard := none }) rfl (fun K hK => ?_) (AllReadyH.cons (o := { dst := some 26, op := Go.Op.call { callee := Go.Callee.value (Go.Operand.func 54), args := #[Go.Operand.tmp 22, Go.Operand.tmp 25], argTypes := #[79, 3] }, type := 79, pos := "route.go:43", after := #[{ on := 7, ground := Go.Ground.data }, { on := 10, ground := Go.Ground.data }, { on := 2, ground := Go.Ground.chain }], guard := none }) rfl (fun K hK => ?_) AllReadyH.nil)
          · go_simp
            have HM : Hid (Mk V m n T (some bS) (some (wS.heap.size + 1)) (some (wS.heap.size)) none ((wS.alloc (.cells #[.int .i64 (-1)] 3)).alloc (.cells (rowB (fun _ => false) m) 4))) := HM.out.addM (by simp)
            refine hK.out _ _ ?_ (fun hHeld => ?_)
            · exact HBx.out _ HM.out.bel
            clear hK K
            (try simp only [Act.put, List.setIfInBounds_toArray, List.set_cons_zero, List.set_cons_succ])
            refine wpAnyH_ready (rs := [11]) (by kernel_rfl) (by simp) ?_
            refine AllReadyH.cons (o := { dst := some 26, op := Go.Op.call { callee := Go.Callee.value (Go.Operand.func 54), args := #[Go.Operand.tmp 22, Go.Operand.tmp 25], argTypes := #[79, 3] }, type := 79, pos := "route.go:43", after := #[{ on := 7, ground := Go.Ground.data }, { on := 10, ground := Go.Ground.data }, { on := 2, ground := Go.Ground.chain }], guard := none }) rfl (fun K hK => ?_) AllReadyH.nil
            go_simp
            (go_at_call 54; (with_reducible refine (repeat_any (wS.heap.size) n _ ?_ hn).mono ?_)
             · exact (HM.out.l _ rfl).cell 0
             rintro e wR ⟨rfl, hk, hb⟩; have HM : Hid (Mk V m n T (some bS) (some (wS.heap.size + 1)) (some (wS.heap.size)) (some (wS.heap.size + 1 + 1)) wR) := HM.out.addN hb hk (by simp); clear hk hb)
            refine hK.out _ _ ?_ (fun hHeld => ?_)
            · exact HBx.out _ HM.out.bel
            clear hK K
            (try simp only [Act.put, List.setIfInBounds_toArray, List.set_cons_zero, List.set_cons_succ])
            refine wpAnyH_take (i := 12) (oi := { dst := some 27, op := Go.Op.build 82 #[(0, Go.Operand.tmp 17), (1, Go.Operand.tmp 21), (2, Go.Operand.tmp 26)], type := 82, pos := "route.go:40", after := #[{ on := 2, ground := Go.Ground.data }, { on := 6, ground := Go.Ground.data }, { on := 11, ground := Go.Ground.data }], guard := none }) (v := ?uvr4x10) rfl (by kernel_rfl) (by kernel_rfl) (by kernel_rfl) (fun _ _ _ h => h) (Or.inl ⟨by rfl, ?uyr4x10⟩) (by assumption) ?urr4x10
            case uyr4x10 => (intro w hSw; (try dsimp only at hSw); go_simp; try with_reducible rfl)
            (try simp only [Act.put, List.setIfInBounds_toArray, List.set_cons_zero, List.set_cons_succ])
            refine wpAnyH_ready (rs := [13]) (by kernel_rfl) (by simp) ?_
            refine AllReadyH.cons (o := { dst := some 28, op := Go.Op.box 82 (Go.Operand.tmp 27), type := 74, pos := "route.go:40", after := #[{ on := 12, ground := Go.Ground.data }], guard := none }) rfl (fun K hK => ?_) AllReadyH.nil
            go_simp
            have HFin := Lib.hid (HM.out.fin (g := wR.heap.size) (by rfl) F0 HF0.out)
            refine hK.out _ _ ?_ (fun hHeld => ?_)
            · exact HBx.out _ HFin.out.2
            clear hK K
            (try simp only [Act.put, List.setIfInBounds_toArray, List.set_cons_zero, List.set_cons_succ])
            refine wpAnyH_take (i := 14) (oi := { dst := some 5, op := Go.Op.assign (Go.Operand.tmp 28), type := 74, pos := "route.go:40", after := #[{ on := 13, ground := Go.Ground.data }, { on := 11, ground := Go.Ground.chain }, { on := 0, ground := Go.Ground.phase }, { on := 1, ground := Go.Ground.phase }, { on := 2, ground := Go.Ground.phase }, { on := 3, ground := Go.Ground.phase }, { on := 4, ground := Go.Ground.phase }, { on := 5, ground := Go.Ground.phase }, { on := 6, ground := Go.Ground.phase }, { on := 7, ground := Go.Ground.phase }, { on := 8, ground := Go.Ground.phase }, { on := 9, ground := Go.Ground.phase }, { on := 10, ground := Go.Ground.phase }, { on := 11, ground := Go.Ground.phase }, { on := 12, ground := Go.Ground.phase }, { on := 13, ground := Go.Ground.phase }], guard := none }) (v := ?uvr4x11) rfl (by kernel_rfl) (by kernel_rfl) (by kernel_rfl) (fun _ _ _ h => h) (Or.inl ⟨by rfl, ?uyr4x11⟩) (by assumption) ?urr4x11
            case uyr4x11 => (intro w hSw; (try dsimp only at hSw); go_simp; try with_reducible rfl)
            (try simp only [Act.put, List.setIfInBounds_toArray, List.set_cons_zero, List.set_cons_succ])
            refine wpAnyH_done (by kernel_rfl) ?_ _
            go_wp2_with (with_reducible fail)
            go_meet
            case rel => exact ⟨_, _, _, _, rfl, HFin.out.1, HFin.out.2⟩
          · go_simp
            (go_at_call 54; (with_reducible refine (repeat_any (wS.heap.size) n _ ?_ hn).mono ?_)
             · exact (HM.out.l _ rfl).cell 0
             rintro e wR ⟨rfl, hk, hb⟩; have HM : Hid (Mk V m n T (some bS) none (some (wS.heap.size)) (some (wS.heap.size + 1)) wR) := HM.out.addN hb hk (by simp); clear hk hb)
            refine hK.out _ _ ?_ (fun hHeld => ?_)
            · exact HBx.out _ HM.out.bel
            clear hK K
            (try simp only [Act.put, List.setIfInBounds_toArray, List.set_cons_zero, List.set_cons_succ])
            refine wpAnyH_ready (rs := [6]) (by kernel_rfl) (by simp) ?_
            refine AllReadyH.cons (o := { dst := some 21, op := Go.Op.makeSlice 78 (Go.Operand.tmp 20) (Go.Operand.tmp 20), type := 78, pos := "route.go:40", after := #[{ on := 5, ground := Go.Ground.data }, { on := 5, ground := Go.Ground.data }], guard := none }) rfl (fun K hK => ?_) AllReadyH.nil
            go_simp
            have HM : Hid (Mk V m n T (some bS) (some (wR.heap.size)) (some (wS.heap.size)) (some (wS.heap.size + 1)) (wR.alloc (.cells (rowB (fun _ => false) m) 4))) := HM.out.addM (by rfl)
            refine hK.out _ _ ?_ (fun hHeld => ?_)
            · exact HBx.out _ HM.out.bel
            clear hK K
            (try simp only [Act.put, List.setIfInBounds_toArray, List.set_cons_zero, List.set_cons_succ])
            refine wpAnyH_take (i := 12) (oi := { dst := some 27, op := Go.Op.build 82 #[(0, Go.Operand.tmp 17), (1, Go.Operand.tmp 21), (2, Go.Operand.tmp 26)], type := 82, pos := "route.go:40", after := #[{ on := 2, ground := Go.Ground.data }, { on := 6, ground := Go.Ground.data }, { on := 11, ground := Go.Ground.data }], guard := none }) (v := ?uvr4x12) rfl (by kernel_rfl) (by kernel_rfl) (by kernel_rfl) (fun _ _ _ h => h) (Or.inl ⟨by rfl, ?uyr4x12⟩) (by assumption) ?urr4x12
            case uyr4x12 => (intro w hSw; (try dsimp only at hSw); go_simp; try with_reducible rfl)
            (try simp only [Act.put, List.setIfInBounds_toArray, List.set_cons_zero, List.set_cons_succ])
            refine wpAnyH_ready (rs := [13]) (by kernel_rfl) (by simp) ?_
            refine AllReadyH.cons (o := { dst := some 28, op := Go.Op.box 82 (Go.Operand.tmp 27), type := 74, pos := "route.go:40", after := #[{ on := 12, ground := Go.Ground.data }], guard := none }) rfl (fun K hK => ?_) AllReadyH.nil
            go_simp
            have HFin := Lib.hid (HM.out.fin (g := wR.heap.size + 1) (by simp) F0 HF0.out)
            refine hK.out _ _ ?_ (fun hHeld => ?_)
            · exact HBx.out _ HFin.out.2
            clear hK K
            (try simp only [Act.put, List.setIfInBounds_toArray, List.set_cons_zero, List.set_cons_succ])
            refine wpAnyH_take (i := 14) (oi := { dst := some 5, op := Go.Op.assign (Go.Operand.tmp 28), type := 74, pos := "route.go:40", after := #[{ on := 13, ground := Go.Ground.data }, { on := 11, ground := Go.Ground.chain }, { on := 0, ground := Go.Ground.phase }, { on := 1, ground := Go.Ground.phase }, { on := 2, ground := Go.Ground.phase }, { on := 3, ground := Go.Ground.phase }, { on := 4, ground := Go.Ground.phase }, { on := 5, ground := Go.Ground.phase }, { on := 6, ground := Go.Ground.phase }, { on := 7, ground := Go.Ground.phase }, { on := 8, ground := Go.Ground.phase }, { on := 9, ground := Go.Ground.phase }, { on := 10, ground := Go.Ground.phase }, { on := 11, ground := Go.Ground.phase }, { on := 12, ground := Go.Ground.phase }, { on := 13, ground := Go.Ground.phase }], guard := none }) (v := ?uvr4x13) rfl (by kernel_rfl) (by kernel_rfl) (by kernel_rfl) (fun _ _ _ h => h) (Or.inl ⟨by rfl, ?uyr4x13⟩) (by assumption) ?urr4x13
            case uyr4x13 => (intro w hSw; (try dsimp only at hSw); go_simp; try with_reducible rfl)
            (try simp only [Act.put, List.setIfInBounds_toArray, List.set_cons_zero, List.set_cons_succ])
            refine wpAnyH_done (by kernel_rfl) ?_ _
            go_wp2_with (with_reducible fail)
            go_meet
            case rel => exact ⟨_, _, _, _, rfl, HFin.out.1, HFin.out.2⟩
      · go_simp
        have HM : Hid (Mk V m n T none (some (V.heap.size)) none none (V.alloc (.cells (rowB (fun _ => false) m) 4)).drew) := HM.out.addM (by rfl)
        refine hK.out _ _ ?_ (fun hHeld => ?_)
        · exact HBx.out _ HM.out.bel
        clear hK K
        (try simp only [Act.put, List.setIfInBounds_toArray, List.set_cons_zero, List.set_cons_succ])
        refine wpAnyH_ready (rs := [2, 7]) (by kernel_rfl) (by simp) ?_
        refine AllReadyH.cons (o := { dst := some 17, op := Go.Op.call { callee := Go.Callee.value (Go.Operand.func 53), args := #[Go.Operand.tmp 16], argTypes := #[26] }, type := 77, pos := "route.go:41", after := #[{ on := 1, ground := Go.Ground.data }], guard := none }) rfl (fun K hK => ?_) (AllReadyH.cons (o := { dst := some 22, op := Go.Op.buildSlice 79 1 #[(0, Go.Operand.const (Go.Value.int Go.IntKind.i64 (-1)))], type := 79, pos := "route.go:40", after := #[], guard := none }) rfl (fun K hK => ?_) AllReadyH.nil)
        · go_simp
          (go_at_call 53; (with_reducible refine (HSd.out _ (HBl.out _ HM.out.bel)).mono ?_); rintro e wS ⟨bS, rfl, hge, hs, hb⟩; have HM : Hid (Mk V m n T (some bS) (some (V.heap.size)) none none wS) := HM.out.addS hb hge hs; clear hge hs hb)
          refine hK.out _ _ ?_ (fun hHeld => ?_)
          · exact HBx.out _ HM.out.bel
          clear hK K
          (try simp only [Act.put, List.setIfInBounds_toArray, List.set_cons_zero, List.set_cons_succ])
          refine wpAnyH_ready (rs := [7]) (by kernel_rfl) (by simp) ?_
          refine AllReadyH.cons (o := { dst := some 22, op := Go.Op.buildSlice 79 1 #[(0, Go.Operand.const (Go.Value.int Go.IntKind.i64 (-1)))], type := 79, pos := "route.go:40", after := #[], guard := none }) rfl (fun K hK => ?_) AllReadyH.nil
          go_simp
          have HM : Hid (Mk V m n T (some bS) (some (V.heap.size)) (some (wS.heap.size)) none (wS.alloc (.cells #[.int .i64 (-1)] 3))) := HM.out.addL (by rfl)
          refine hK.out _ _ ?_ (fun hHeld => ?_)
          · exact HBx.out _ HM.out.bel
          clear hK K
          (try simp only [Act.put, List.setIfInBounds_toArray, List.set_cons_zero, List.set_cons_succ])
          refine wpAnyH_ready (rs := [11]) (by kernel_rfl) (by simp) ?_
          refine AllReadyH.cons (o := { dst := some 26, op := Go.Op.call { callee := Go.Callee.value (Go.Operand.func 54), args := #[Go.Operand.tmp 22, Go.Operand.tmp 25], argTypes := #[79, 3] }, type := 79, pos := "route.go:43", after := #[{ on := 7, ground := Go.Ground.data }, { on := 10, ground := Go.Ground.data }, { on := 2, ground := Go.Ground.chain }], guard := none }) rfl (fun K hK => ?_) AllReadyH.nil
          go_simp
          (go_at_call 54; (with_reducible refine (repeat_any (wS.heap.size) n _ ?_ hn).mono ?_)
           · exact (HM.out.l _ rfl).cell 0
           rintro e wR ⟨rfl, hk, hb⟩; have HM : Hid (Mk V m n T (some bS) (some (V.heap.size)) (some (wS.heap.size)) (some (wS.heap.size + 1)) wR) := HM.out.addN hb hk (by simp); clear hk hb)
          refine hK.out _ _ ?_ (fun hHeld => ?_)
          · exact HBx.out _ HM.out.bel
          clear hK K
          (try simp only [Act.put, List.setIfInBounds_toArray, List.set_cons_zero, List.set_cons_succ])
          refine wpAnyH_take (i := 12) (oi := { dst := some 27, op := Go.Op.build 82 #[(0, Go.Operand.tmp 17), (1, Go.Operand.tmp 21), (2, Go.Operand.tmp 26)], type := 82, pos := "route.go:40", after := #[{ on := 2, ground := Go.Ground.data }, { on := 6, ground := Go.Ground.data }, { on := 11, ground := Go.Ground.data }], guard := none }) (v := ?uvr4x14) rfl (by kernel_rfl) (by kernel_rfl) (by kernel_rfl) (fun _ _ _ h => h) (Or.inl ⟨by rfl, ?uyr4x14⟩) (by assumption) ?urr4x14
          case uyr4x14 => (intro w hSw; (try dsimp only at hSw); go_simp; try with_reducible rfl)
          (try simp only [Act.put, List.setIfInBounds_toArray, List.set_cons_zero, List.set_cons_succ])
          refine wpAnyH_ready (rs := [13]) (by kernel_rfl) (by simp) ?_
          refine AllReadyH.cons (o := { dst := some 28, op := Go.Op.box 82 (Go.Operand.tmp 27), type := 74, pos := "route.go:40", after := #[{ on := 12, ground := Go.Ground.data }], guard := none }) rfl (fun K hK => ?_) AllReadyH.nil
          go_simp
          have HFin := Lib.hid (HM.out.fin (g := wR.heap.size) (by rfl) F0 HF0.out)
          refine hK.out _ _ ?_ (fun hHeld => ?_)
          · exact HBx.out _ HFin.out.2
          clear hK K
          (try simp only [Act.put, List.setIfInBounds_toArray, List.set_cons_zero, List.set_cons_succ])
          refine wpAnyH_take (i := 14) (oi := { dst := some 5, op := Go.Op.assign (Go.Operand.tmp 28), type := 74, pos := "route.go:40", after := #[{ on := 13, ground := Go.Ground.data }, { on := 11, ground := Go.Ground.chain }, { on := 0, ground := Go.Ground.phase }, { on := 1, ground := Go.Ground.phase }, { on := 2, ground := Go.Ground.phase }, { on := 3, ground := Go.Ground.phase }, { on := 4, ground := Go.Ground.phase }, { on := 5, ground := Go.Ground.phase }, { on := 6, ground := Go.Ground.phase }, { on := 7, ground := Go.Ground.phase }, { on := 8, ground := Go.Ground.phase }, { on := 9, ground := Go.Ground.phase }, { on := 10, ground := Go.Ground.phase }, { on := 11, ground := Go.Ground.phase }, { on := 12, ground := Go.Ground.phase }, { on := 13, ground := Go.Ground.phase }], guard := none }) (v := ?uvr4x15) rfl (by kernel_rfl) (by kernel_rfl) (by kernel_rfl) (fun _ _ _ h => h) (Or.inl ⟨by rfl, ?uyr4x15⟩) (by assumption) ?urr4x15
          case uyr4x15 => (intro w hSw; (try dsimp only at hSw); go_simp; try with_reducible rfl)
          (try simp only [Act.put, List.setIfInBounds_toArray, List.set_cons_zero, List.set_cons_succ])
          refine wpAnyH_done (by kernel_rfl) ?_ _
          go_wp2_with (with_reducible fail)
          go_meet
          case rel => exact ⟨_, _, _, _, rfl, HFin.out.1, HFin.out.2⟩
        · go_simp
          have HM : Hid (Mk V m n T none (some (V.heap.size)) (some (V.heap.size + 1)) none ((V.alloc (.cells (rowB (fun _ => false) m) 4)).alloc (.cells #[.int .i64 (-1)] 3)).drew) := HM.out.addL (by simp)
          refine hK.out _ _ ?_ (fun hHeld => ?_)
          · exact HBx.out _ HM.out.bel
          clear hK K
          (try simp only [Act.put, List.setIfInBounds_toArray, List.set_cons_zero, List.set_cons_succ])
          refine wpAnyH_ready (rs := [2]) (by kernel_rfl) (by simp) ?_
          refine AllReadyH.cons (o := { dst := some 17, op := Go.Op.call { callee := Go.Callee.value (Go.Operand.func 53), args := #[Go.Operand.tmp 16], argTypes := #[26] }, type := 77, pos := "route.go:41", after := #[{ on := 1, ground := Go.Ground.data }], guard := none }) rfl (fun K hK => ?_) AllReadyH.nil
          go_simp
          (go_at_call 53; (with_reducible refine (HSd.out _ (HBl.out _ HM.out.bel)).mono ?_); rintro e wS ⟨bS, rfl, hge, hs, hb⟩; have HM : Hid (Mk V m n T (some bS) (some (V.heap.size)) (some (V.heap.size + 1)) none wS) := HM.out.addS hb hge hs; clear hge hs hb)
          refine hK.out _ _ ?_ (fun hHeld => ?_)
          · exact HBx.out _ HM.out.bel
          clear hK K
          (try simp only [Act.put, List.setIfInBounds_toArray, List.set_cons_zero, List.set_cons_succ])
          refine wpAnyH_ready (rs := [11]) (by kernel_rfl) (by simp) ?_
          refine AllReadyH.cons (o := { dst := some 26, op := Go.Op.call { callee := Go.Callee.value (Go.Operand.func 54), args := #[Go.Operand.tmp 22, Go.Operand.tmp 25], argTypes := #[79, 3] }, type := 79, pos := "route.go:43", after := #[{ on := 7, ground := Go.Ground.data }, { on := 10, ground := Go.Ground.data }, { on := 2, ground := Go.Ground.chain }], guard := none }) rfl (fun K hK => ?_) AllReadyH.nil
          go_simp
          (go_at_call 54; (with_reducible refine (repeat_any (V.heap.size + 1) n _ ?_ hn).mono ?_)
           · exact (HM.out.l _ rfl).cell 0
           rintro e wR ⟨rfl, hk, hb⟩; have HM : Hid (Mk V m n T (some bS) (some (V.heap.size)) (some (V.heap.size + 1)) (some (wS.heap.size)) wR) := HM.out.addN hb hk (by rfl); clear hk hb)
          refine hK.out _ _ ?_ (fun hHeld => ?_)
          · exact HBx.out _ HM.out.bel
          clear hK K
          (try simp only [Act.put, List.setIfInBounds_toArray, List.set_cons_zero, List.set_cons_succ])
          refine wpAnyH_take (i := 12) (oi := { dst := some 27, op := Go.Op.build 82 #[(0, Go.Operand.tmp 17), (1, Go.Operand.tmp 21), (2, Go.Operand.tmp 26)], type := 82, pos := "route.go:40", after := #[{ on := 2, ground := Go.Ground.data }, { on := 6, ground := Go.Ground.data }, { on := 11, ground := Go.Ground.data }], guard := none }) (v := ?uvr4x16) rfl (by kernel_rfl) (by kernel_rfl) (by kernel_rfl) (fun _ _ _ h => h) (Or.inl ⟨by rfl, ?uyr4x16⟩) (by assumption) ?urr4x16
          case uyr4x16 => (intro w hSw; (try dsimp only at hSw); go_simp; try with_reducible rfl)
          (try simp only [Act.put, List.setIfInBounds_toArray, List.set_cons_zero, List.set_cons_succ])
          refine wpAnyH_ready (rs := [13]) (by kernel_rfl) (by simp) ?_
          refine AllReadyH.cons (o := { dst := some 28, op := Go.Op.box 82 (Go.Operand.tmp 27), type := 74, pos := "route.go:40", after := #[{ on := 12, ground := Go.Ground.data }], guard := none }) rfl (fun K hK => ?_) AllReadyH.nil
          go_simp
          have HFin := Lib.hid (HM.out.fin (g := wR.heap.size) (by rfl) F0 HF0.out)
          refine hK.out _ _ ?_ (fun hHeld => ?_)
          · exact HBx.out _ HFin.out.2
          clear hK K
          (try simp only [Act.put, List.setIfInBounds_toArray, List.set_cons_zero, List.set_cons_succ])
          refine wpAnyH_take (i := 14) (oi := { dst := some 5, op := Go.Op.assign (Go.Operand.tmp 28), type := 74, pos := "route.go:40", after := #[{ on := 13, ground := Go.Ground.data }, { on := 11, ground := Go.Ground.chain }, { on := 0, ground := Go.Ground.phase }, { on := 1, ground := Go.Ground.phase }, { on := 2, ground := Go.Ground.phase }, { on := 3, ground := Go.Ground.phase }, { on := 4, ground := Go.Ground.phase }, { on := 5, ground := Go.Ground.phase }, { on := 6, ground := Go.Ground.phase }, { on := 7, ground := Go.Ground.phase }, { on := 8, ground := Go.Ground.phase }, { on := 9, ground := Go.Ground.phase }, { on := 10, ground := Go.Ground.phase }, { on := 11, ground := Go.Ground.phase }, { on := 12, ground := Go.Ground.phase }, { on := 13, ground := Go.Ground.phase }], guard := none }) (v := ?uvr4x17) rfl (by kernel_rfl) (by kernel_rfl) (by kernel_rfl) (fun _ _ _ h => h) (Or.inl ⟨by rfl, ?uyr4x17⟩) (by assumption) ?urr4x17
          case uyr4x17 => (intro w hSw; (try dsimp only at hSw); go_simp; try with_reducible rfl)
          (try simp only [Act.put, List.setIfInBounds_toArray, List.set_cons_zero, List.set_cons_succ])
          refine wpAnyH_done (by kernel_rfl) ?_ _
          go_wp2_with (with_reducible fail)
          go_meet
          case rel => exact ⟨_, _, _, _, rfl, HFin.out.1, HFin.out.2⟩
      · go_simp
        have HM : Hid (Mk V m n T none none (some (V.heap.size)) none (V.alloc (.cells #[.int .i64 (-1)] 3)).drew) := HM.out.addL (by rfl)
        refine hK.out _ _ ?_ (fun hHeld => ?_)
        · exact HBx.out _ HM.out.bel
        clear hK K
        (try simp only [Act.put, List.setIfInBounds_toArray, List.set_cons_zero, List.set_cons_succ])
        refine wpAnyH_ready (rs := [2, 6]) (by kernel_rfl) (by simp) ?_
        refine AllReadyH.cons (o := { dst := some 17, op := Go.Op.call { callee := Go.Callee.value (Go.Operand.func 53), args := #[Go.Operand.tmp 16], argTypes := #[26] }, type := 77, pos := "route.go:41", after := #[{ on := 1, ground := Go.Ground.data }], guard := none }) rfl (fun K hK => ?_) (AllReadyH.cons (o := { dst := some 21, op := Go.Op.makeSlice 78 (Go.Operand.tmp 20) (Go.Operand.tmp 20), type := 78, pos := "route.go:40", after := #[{ on := 5, ground := Go.Ground.data }, { on := 5, ground := Go.Ground.data }], guard := none }) rfl (fun K hK => ?_) AllReadyH.nil)
        · go_simp
          (go_at_call 53; (with_reducible refine (HSd.out _ (HBl.out _ HM.out.bel)).mono ?_); rintro e wS ⟨bS, rfl, hge, hs, hb⟩; have HM : Hid (Mk V m n T (some bS) none (some (V.heap.size)) none wS) := HM.out.addS hb hge hs; clear hge hs hb)
          refine hK.out _ _ ?_ (fun hHeld => ?_)
          · exact HBx.out _ HM.out.bel
          clear hK K
          (try simp only [Act.put, List.setIfInBounds_toArray, List.set_cons_zero, List.set_cons_succ])
          refine wpAnyH_ready (rs := [6, 11]) (by kernel_rfl) (by simp) ?_
          refine AllReadyH.cons (o := { dst := some 21, op := Go.Op.makeSlice 78 (Go.Operand.tmp 20) (Go.Operand.tmp 20), type := 78, pos := "route.go:40", after := #[{ on := 5, ground := Go.Ground.data }, { on := 5, ground := Go.Ground.data }], guard := none }) rfl (fun K hK => ?_) (AllReadyH.cons (o := { dst := some 26, op := Go.Op.call { callee := Go.Callee.value (Go.Operand.func 54), args := #[Go.Operand.tmp 22, Go.Operand.tmp 25], argTypes := #[79, 3] }, type := 79, pos := "route.go:43", after := #[{ on := 7, ground := Go.Ground.data }, { on := 10, ground := Go.Ground.data }, { on := 2, ground := Go.Ground.chain }], guard := none }) rfl (fun K hK => ?_) AllReadyH.nil)
          · go_simp
            have HM : Hid (Mk V m n T (some bS) (some (wS.heap.size)) (some (V.heap.size)) none (wS.alloc (.cells (rowB (fun _ => false) m) 4))) := HM.out.addM (by rfl)
            refine hK.out _ _ ?_ (fun hHeld => ?_)
            · exact HBx.out _ HM.out.bel
            clear hK K
            (try simp only [Act.put, List.setIfInBounds_toArray, List.set_cons_zero, List.set_cons_succ])
            refine wpAnyH_ready (rs := [11]) (by kernel_rfl) (by simp) ?_
            refine AllReadyH.cons (o := { dst := some 26, op := Go.Op.call { callee := Go.Callee.value (Go.Operand.func 54), args := #[Go.Operand.tmp 22, Go.Operand.tmp 25], argTypes := #[79, 3] }, type := 79, pos := "route.go:43", after := #[{ on := 7, ground := Go.Ground.data }, { on := 10, ground := Go.Ground.data }, { on := 2, ground := Go.Ground.chain }], guard := none }) rfl (fun K hK => ?_) AllReadyH.nil
            go_simp
            (go_at_call 54; (with_reducible refine (repeat_any (V.heap.size) n _ ?_ hn).mono ?_)
             · exact (HM.out.l _ rfl).cell 0
             rintro e wR ⟨rfl, hk, hb⟩; have HM : Hid (Mk V m n T (some bS) (some (wS.heap.size)) (some (V.heap.size)) (some (wS.heap.size + 1)) wR) := HM.out.addN hb hk (by simp); clear hk hb)
            refine hK.out _ _ ?_ (fun hHeld => ?_)
            · exact HBx.out _ HM.out.bel
            clear hK K
            (try simp only [Act.put, List.setIfInBounds_toArray, List.set_cons_zero, List.set_cons_succ])
            refine wpAnyH_take (i := 12) (oi := { dst := some 27, op := Go.Op.build 82 #[(0, Go.Operand.tmp 17), (1, Go.Operand.tmp 21), (2, Go.Operand.tmp 26)], type := 82, pos := "route.go:40", after := #[{ on := 2, ground := Go.Ground.data }, { on := 6, ground := Go.Ground.data }, { on := 11, ground := Go.Ground.data }], guard := none }) (v := ?uvr4x18) rfl (by kernel_rfl) (by kernel_rfl) (by kernel_rfl) (fun _ _ _ h => h) (Or.inl ⟨by rfl, ?uyr4x18⟩) (by assumption) ?urr4x18
            case uyr4x18 => (intro w hSw; (try dsimp only at hSw); go_simp; try with_reducible rfl)
            (try simp only [Act.put, List.setIfInBounds_toArray, List.set_cons_zero, List.set_cons_succ])
            refine wpAnyH_ready (rs := [13]) (by kernel_rfl) (by simp) ?_
            refine AllReadyH.cons (o := { dst := some 28, op := Go.Op.box 82 (Go.Operand.tmp 27), type := 74, pos := "route.go:40", after := #[{ on := 12, ground := Go.Ground.data }], guard := none }) rfl (fun K hK => ?_) AllReadyH.nil
            go_simp
            have HFin := Lib.hid (HM.out.fin (g := wR.heap.size) (by rfl) F0 HF0.out)
            refine hK.out _ _ ?_ (fun hHeld => ?_)
            · exact HBx.out _ HFin.out.2
            clear hK K
            (try simp only [Act.put, List.setIfInBounds_toArray, List.set_cons_zero, List.set_cons_succ])
            refine wpAnyH_take (i := 14) (oi := { dst := some 5, op := Go.Op.assign (Go.Operand.tmp 28), type := 74, pos := "route.go:40", after := #[{ on := 13, ground := Go.Ground.data }, { on := 11, ground := Go.Ground.chain }, { on := 0, ground := Go.Ground.phase }, { on := 1, ground := Go.Ground.phase }, { on := 2, ground := Go.Ground.phase }, { on := 3, ground := Go.Ground.phase }, { on := 4, ground := Go.Ground.phase }, { on := 5, ground := Go.Ground.phase }, { on := 6, ground := Go.Ground.phase }, { on := 7, ground := Go.Ground.phase }, { on := 8, ground := Go.Ground.phase }, { on := 9, ground := Go.Ground.phase }, { on := 10, ground := Go.Ground.phase }, { on := 11, ground := Go.Ground.phase }, { on := 12, ground := Go.Ground.phase }, { on := 13, ground := Go.Ground.phase }], guard := none }) (v := ?uvr4x19) rfl (by kernel_rfl) (by kernel_rfl) (by kernel_rfl) (fun _ _ _ h => h) (Or.inl ⟨by rfl, ?uyr4x19⟩) (by assumption) ?urr4x19
            case uyr4x19 => (intro w hSw; (try dsimp only at hSw); go_simp; try with_reducible rfl)
            (try simp only [Act.put, List.setIfInBounds_toArray, List.set_cons_zero, List.set_cons_succ])
            refine wpAnyH_done (by kernel_rfl) ?_ _
            go_wp2_with (with_reducible fail)
            go_meet
            case rel => exact ⟨_, _, _, _, rfl, HFin.out.1, HFin.out.2⟩
          · go_simp
            (go_at_call 54; (with_reducible refine (repeat_any (V.heap.size) n _ ?_ hn).mono ?_)
             · exact (HM.out.l _ rfl).cell 0
             rintro e wR ⟨rfl, hk, hb⟩; have HM : Hid (Mk V m n T (some bS) none (some (V.heap.size)) (some (wS.heap.size)) wR) := HM.out.addN hb hk (by rfl); clear hk hb)
            refine hK.out _ _ ?_ (fun hHeld => ?_)
            · exact HBx.out _ HM.out.bel
            clear hK K
            (try simp only [Act.put, List.setIfInBounds_toArray, List.set_cons_zero, List.set_cons_succ])
            refine wpAnyH_ready (rs := [6]) (by kernel_rfl) (by simp) ?_
            refine AllReadyH.cons (o := { dst := some 21, op := Go.Op.makeSlice 78 (Go.Operand.tmp 20) (Go.Operand.tmp 20), type := 78, pos := "route.go:40", after := #[{ on := 5, ground := Go.Ground.data }, { on := 5, ground := Go.Ground.data }], guard := none }) rfl (fun K hK => ?_) AllReadyH.nil
            go_simp
            have HM : Hid (Mk V m n T (some bS) (some (wR.heap.size)) (some (V.heap.size)) (some (wS.heap.size)) (wR.alloc (.cells (rowB (fun _ => false) m) 4))) := HM.out.addM (by rfl)
            refine hK.out _ _ ?_ (fun hHeld => ?_)
            · exact HBx.out _ HM.out.bel
            clear hK K
            (try simp only [Act.put, List.setIfInBounds_toArray, List.set_cons_zero, List.set_cons_succ])
            refine wpAnyH_take (i := 12) (oi := { dst := some 27, op := Go.Op.build 82 #[(0, Go.Operand.tmp 17), (1, Go.Operand.tmp 21), (2, Go.Operand.tmp 26)], type := 82, pos := "route.go:40", after := #[{ on := 2, ground := Go.Ground.data }, { on := 6, ground := Go.Ground.data }, { on := 11, ground := Go.Ground.data }], guard := none }) (v := ?uvr4x20) rfl (by kernel_rfl) (by kernel_rfl) (by kernel_rfl) (fun _ _ _ h => h) (Or.inl ⟨by rfl, ?uyr4x20⟩) (by assumption) ?urr4x20
            case uyr4x20 => (intro w hSw; (try dsimp only at hSw); go_simp; try with_reducible rfl)
            (try simp only [Act.put, List.setIfInBounds_toArray, List.set_cons_zero, List.set_cons_succ])
            refine wpAnyH_ready (rs := [13]) (by kernel_rfl) (by simp) ?_
            refine AllReadyH.cons (o := { dst := some 28, op := Go.Op.box 82 (Go.Operand.tmp 27), type := 74, pos := "route.go:40", after := #[{ on := 12, ground := Go.Ground.data }], guard := none }) rfl (fun K hK => ?_) AllReadyH.nil
            go_simp
            have HFin := Lib.hid (HM.out.fin (g := wR.heap.size + 1) (by simp) F0 HF0.out)
            refine hK.out _ _ ?_ (fun hHeld => ?_)
            · exact HBx.out _ HFin.out.2
            clear hK K
            (try simp only [Act.put, List.setIfInBounds_toArray, List.set_cons_zero, List.set_cons_succ])
            refine wpAnyH_take (i := 14) (oi := { dst := some 5, op := Go.Op.assign (Go.Operand.tmp 28), type := 74, pos := "route.go:40", after := #[{ on := 13, ground := Go.Ground.data }, { on := 11, ground := Go.Ground.chain }, { on := 0, ground := Go.Ground.phase }, { on := 1, ground := Go.Ground.phase }, { on := 2, ground := Go.Ground.phase }, { on := 3, ground := Go.Ground.phase }, { on := 4, ground := Go.Ground.phase }, { on := 5, ground := Go.Ground.phase }, { on := 6, ground := Go.Ground.phase }, { on := 7, ground := Go.Ground.phase }, { on := 8, ground := Go.Ground.phase }, { on := 9, ground := Go.Ground.phase }, { on := 10, ground := Go.Ground.phase }, { on := 11, ground := Go.Ground.phase }, { on := 12, ground := Go.Ground.phase }, { on := 13, ground := Go.Ground.phase }], guard := none }) (v := ?uvr4x21) rfl (by kernel_rfl) (by kernel_rfl) (by kernel_rfl) (fun _ _ _ h => h) (Or.inl ⟨by rfl, ?uyr4x21⟩) (by assumption) ?urr4x21
            case uyr4x21 => (intro w hSw; (try dsimp only at hSw); go_simp; try with_reducible rfl)
            (try simp only [Act.put, List.setIfInBounds_toArray, List.set_cons_zero, List.set_cons_succ])
            refine wpAnyH_done (by kernel_rfl) ?_ _
            go_wp2_with (with_reducible fail)
            go_meet
            case rel => exact ⟨_, _, _, _, rfl, HFin.out.1, HFin.out.2⟩
        · go_simp
          have HM : Hid (Mk V m n T none (some (V.heap.size + 1)) (some (V.heap.size)) none ((V.alloc (.cells #[.int .i64 (-1)] 3)).alloc (.cells (rowB (fun _ => false) m) 4)).drew) := HM.out.addM (by simp)
          refine hK.out _ _ ?_ (fun hHeld => ?_)
          · exact HBx.out _ HM.out.bel
          clear hK K
          (try simp only [Act.put, List.setIfInBounds_toArray, List.set_cons_zero, List.set_cons_succ])
          refine wpAnyH_ready (rs := [2]) (by kernel_rfl) (by simp) ?_
          refine AllReadyH.cons (o := { dst := some 17, op := Go.Op.call { callee := Go.Callee.value (Go.Operand.func 53), args := #[Go.Operand.tmp 16], argTypes := #[26] }, type := 77, pos := "route.go:41", after := #[{ on := 1, ground := Go.Ground.data }], guard := none }) rfl (fun K hK => ?_) AllReadyH.nil
          go_simp
          (go_at_call 53; (with_reducible refine (HSd.out _ (HBl.out _ HM.out.bel)).mono ?_); rintro e wS ⟨bS, rfl, hge, hs, hb⟩; have HM : Hid (Mk V m n T (some bS) (some (V.heap.size + 1)) (some (V.heap.size)) none wS) := HM.out.addS hb hge hs; clear hge hs hb)
          refine hK.out _ _ ?_ (fun hHeld => ?_)
          · exact HBx.out _ HM.out.bel
          clear hK K
          (try simp only [Act.put, List.setIfInBounds_toArray, List.set_cons_zero, List.set_cons_succ])
          refine wpAnyH_ready (rs := [11]) (by kernel_rfl) (by simp) ?_
          refine AllReadyH.cons (o := { dst := some 26, op := Go.Op.call { callee := Go.Callee.value (Go.Operand.func 54), args := #[Go.Operand.tmp 22, Go.Operand.tmp 25], argTypes := #[79, 3] }, type := 79, pos := "route.go:43", after := #[{ on := 7, ground := Go.Ground.data }, { on := 10, ground := Go.Ground.data }, { on := 2, ground := Go.Ground.chain }], guard := none }) rfl (fun K hK => ?_) AllReadyH.nil
          go_simp
          (go_at_call 54; (with_reducible refine (repeat_any (V.heap.size) n _ ?_ hn).mono ?_)
           · exact (HM.out.l _ rfl).cell 0
           rintro e wR ⟨rfl, hk, hb⟩; have HM : Hid (Mk V m n T (some bS) (some (V.heap.size + 1)) (some (V.heap.size)) (some (wS.heap.size)) wR) := HM.out.addN hb hk (by rfl); clear hk hb)
          refine hK.out _ _ ?_ (fun hHeld => ?_)
          · exact HBx.out _ HM.out.bel
          clear hK K
          (try simp only [Act.put, List.setIfInBounds_toArray, List.set_cons_zero, List.set_cons_succ])
          refine wpAnyH_take (i := 12) (oi := { dst := some 27, op := Go.Op.build 82 #[(0, Go.Operand.tmp 17), (1, Go.Operand.tmp 21), (2, Go.Operand.tmp 26)], type := 82, pos := "route.go:40", after := #[{ on := 2, ground := Go.Ground.data }, { on := 6, ground := Go.Ground.data }, { on := 11, ground := Go.Ground.data }], guard := none }) (v := ?uvr4x22) rfl (by kernel_rfl) (by kernel_rfl) (by kernel_rfl) (fun _ _ _ h => h) (Or.inl ⟨by rfl, ?uyr4x22⟩) (by assumption) ?urr4x22
          case uyr4x22 => (intro w hSw; (try dsimp only at hSw); go_simp; try with_reducible rfl)
          (try simp only [Act.put, List.setIfInBounds_toArray, List.set_cons_zero, List.set_cons_succ])
          refine wpAnyH_ready (rs := [13]) (by kernel_rfl) (by simp) ?_
          refine AllReadyH.cons (o := { dst := some 28, op := Go.Op.box 82 (Go.Operand.tmp 27), type := 74, pos := "route.go:40", after := #[{ on := 12, ground := Go.Ground.data }], guard := none }) rfl (fun K hK => ?_) AllReadyH.nil
          go_simp
          have HFin := Lib.hid (HM.out.fin (g := wR.heap.size) (by rfl) F0 HF0.out)
          refine hK.out _ _ ?_ (fun hHeld => ?_)
          · exact HBx.out _ HFin.out.2
          clear hK K
          (try simp only [Act.put, List.setIfInBounds_toArray, List.set_cons_zero, List.set_cons_succ])
          refine wpAnyH_take (i := 14) (oi := { dst := some 5, op := Go.Op.assign (Go.Operand.tmp 28), type := 74, pos := "route.go:40", after := #[{ on := 13, ground := Go.Ground.data }, { on := 11, ground := Go.Ground.chain }, { on := 0, ground := Go.Ground.phase }, { on := 1, ground := Go.Ground.phase }, { on := 2, ground := Go.Ground.phase }, { on := 3, ground := Go.Ground.phase }, { on := 4, ground := Go.Ground.phase }, { on := 5, ground := Go.Ground.phase }, { on := 6, ground := Go.Ground.phase }, { on := 7, ground := Go.Ground.phase }, { on := 8, ground := Go.Ground.phase }, { on := 9, ground := Go.Ground.phase }, { on := 10, ground := Go.Ground.phase }, { on := 11, ground := Go.Ground.phase }, { on := 12, ground := Go.Ground.phase }, { on := 13, ground := Go.Ground.phase }], guard := none }) (v := ?uvr4x23) rfl (by kernel_rfl) (by kernel_rfl) (by kernel_rfl) (fun _ _ _ h => h) (Or.inl ⟨by rfl, ?uyr4x23⟩) (by assumption) ?urr4x23
          case uyr4x23 => (intro w hSw; (try dsimp only at hSw); go_simp; try with_reducible rfl)
          (try simp only [Act.put, List.setIfInBounds_toArray, List.set_cons_zero, List.set_cons_succ])
          refine wpAnyH_done (by kernel_rfl) ?_ _
          go_wp2_with (with_reducible fail)
          go_meet
          case rel => exact ⟨_, _, _, _, rfl, HFin.out.1, HFin.out.2⟩
    case rest =>
      obtain ⟨g, b, gm, gn, rfl, HR, HB⟩ := hcut
      have HK2 := Lib.hid (HK1.out.next HB.out)
      have m0 := HK2.out.b0.cell 0
      have m1 := HK2.out.b0.cell 1
      have HR0 : Hid (RA F0 g b gm gn m n T (walkTo T 0) wc) := HR.out
      have HB0 := Lib.hid HK2.out.bel
      have HF1 : Hid (∀ W, Below w.heap.size w W → (∀ k, W.heap.size ≤ k → w.heap.size + 1 ≤ k → F0 k)) := fun W _ k _ h => by rw [hF0]; exact h
      have HMc : Hid (∀ W, Chg F0 wc W → Blk W w.heap.size 48 #[.slice A n c, .slice B m d'] ∧ Below w.heap.size w W) := fun W hW => by
        have hW2 : Chg (fun k => w.heap.size + 1 ≤ k) wc W := by rw [← hF0]; exact hW
        exact ⟨HK2.out.b0.chg hW2 (fun e => by have h : w.heap.size + 1 ≤ w.heap.size := e; omega), HK2.out.bel.trans (hW2.below (fun k e => by have h : w.heap.size + 1 ≤ k := e; omega) HK2.out.bel.size)⟩
      have HFn : Hid (∀ W, Chg F0 wc W → ∀ k, W.heap.size ≤ k → F0 k) := fun W hW k hk => by
        rw [hF0]
        exact Nat.le_trans HK2.out.b0.lt (Nat.le_trans hW.size hk)
      have HFw : Hid (∀ k, F0 k → w.heap.size ≤ k) := fun k hk => by
        rw [hF0] at hk
        exact Nat.le_trans (Nat.le_succ _) hk
      have HWi := Lib.hid (fun i (hi : i ≤ T.length) => walk_inv (n := n) HAll.out HNd.out i hi)
      clear HK1 HK2 HR HB HBx HBl HSd HM HF0 HF1 hF0 hmk
      go_wp2
      go_step3
      go_wp2
      clear m0 m1
      go_loopg [32] m (fun g' s32 wx => ∃ i : Nat, i + g' = m ∧ s32 = .int .i64 (i : Int) ∧ Hid (RA F0 g b gm gn m n T (walkTo T i) wx) ∧ Hid (Chg F0 wc wx))
      case atStart => exact ⟨0, by omega, rfl, HR0, Chg.refl _ _⟩
      case round =>
        clear HR0
        obtain ⟨i, hig, rfl, HR, HC⟩ := hrel
        by_cases hi : i < m
        · have ti : decide ((i : Int) < (m : Int)) = true := by simp; omega
          have i2 : (i : Int) < (m : Int) := by omega
          have hil : i < T.length := by rw [HM0.out]; exact hi
          obtain ⟨bT, oT, rfl, _, _⟩ := (HT.out _ (HMc.out _ HC.out).2).spot (by omega)
          obtain ⟨c0, c1, c2⟩ := p3_at (HT.out _ (HMc.out _ HC.out).2) hil
          have hti : T[i]?.getD (0, 0, 0) = T[i] := by rw [List.getElem?_eq_getElem hil]; rfl
          have htr := triM_iff.1 (List.all_eq_true.1 HAll.out _ (List.getElem_mem hil))
          have HNw := Lib.hid (fun hm => walk_new HRr.out hil hm)
          have HFi := Lib.hid (walk_fine T i (by omega))
          have HOk := Lib.hid (walk_ok T i (by omega))
          have HIv := Lib.hid (HWi.out i (by omega))
          generalize T[i] = t at *
          obtain ⟨x, y, z⟩ := t
          simp only at c0 c1 c2 htr
          obtain ⟨q, a, vG, vS, vV, vO, vN, hX, hq, _⟩ := HR.out
          have HR1 := Lib.hid (HR.out.next (new_alloc (Below.refl _ wr) (.cells #[.int .i64 x, .int .i64 y, .int .i64 z] 58)))
          have HX1 := Lib.hid (hX.next (new_alloc (Below.refl _ wr) (.cells #[.int .i64 x, .int .i64 y, .int .i64 z] 58)))
          have HC1 : Hid (Chg F0 wc (wr.alloc (.cells #[.int .i64 x, .int .i64 y, .int .i64 z] 58))) := HC.out.then_ (Chg.of_below (D := F0) (new_alloc (Below.refl _ _) _)) (fun _ _ e => e)
          have HN1 := Lib.hid (Blk.new wr 58 #[.int .i64 x, .int .i64 y, .int .i64 z])
          have d1 := HX1.out.mt.cell i
          rw [rowB_at _ hi, hq i hi] at d1
          have b1 := HX1.out.box.cell 1
          have e0 : (wr.alloc (.cells #[.int .i64 x, .int .i64 y, .int .i64 z] 58)).cell? ⟨wr.heap.size, 0, none⟩ = some (.int .i64 x) := HN1.out.cell 0
          have e1 : (wr.alloc (.cells #[.int .i64 x, .int .i64 y, .int .i64 z] 58)).cell? ⟨wr.heap.size, 1, none⟩ = some (.int .i64 y) := HN1.out.cell 1
          have e2 : (wr.alloc (.cells #[.int .i64 x, .int .i64 y, .int .i64 z] 58)).cell? ⟨wr.heap.size, 2, none⟩ = some (.int .i64 z) := HN1.out.cell 2
          clear hX hq
          by_cases hmem : i ∈ (walkTo T i).O
          · rw [decide_eq_true hmem] at d1
            have HW := Lib.hid (walkTo_skip hmem)
            clear hmem HNw HFi HOk HIv htr hti hil HX1 HN1
            go_wp2
            go_roundg (gk - 1)
            case measure => omega
            case rel => exact ⟨i + 1, by omega, by go_num, by rw [HW.out]; exact HR1, HC1⟩
          · rw [decide_eq_false hmem] at d1
            have HW := Lib.hid (walkTo_take hmem)
            have HFs := Lib.hid (HFi.out.seed hil hmem HOk.out.2.1)
            have HLf := Lib.hid (seed_ok HFi.out.ok hil hmem HOk.out.2.1).2.1
            have HIs := Lib.hid (HIv.out.seed hil hmem HOk.out.2.1)
            have hnew := HNw.out hmem
            obtain ⟨x, rfl⟩ := Int.eq_ofNat_of_zero_le (show 0 ≤ x by omega)
            obtain ⟨y, rfl⟩ := Int.eq_ofNat_of_zero_le (show 0 ≤ y by omega)
            obtain ⟨z, rfl⟩ := Int.eq_ofNat_of_zero_le (show 0 ≤ z by omega)
            have HSe := Lib.hid (seed_begin hti (hnew _ (Or.inl rfl)) (hnew _ (Or.inr (Or.inl rfl))) (hnew _ (Or.inr (Or.inr rfl))) (by omega) (by omega) (by omega))
            have HBg := Lib.hid (fun W (hW : Chg F0 wc W) (hR : RA F0 g b gm gn m n T (walkTo T i) W) => walkBegin_any F0 g b gm gn m n T (walkTo T i) i x y z W (HFn.out W hW) hR hi (by omega) (by omega) (by omega) ((HFi.out.small (by omega) (by rw [HM0.out]; exact hm)).more (by decide)) (hnew _ (Or.inl rfl)) (hnew _ (Or.inr (Or.inl rfl))) (hnew _ (Or.inr (Or.inr rfl))) (by omega) (by omega) (by omega))
            clear hmem hnew HNw HFi HOk HIv htr hti hil HX1 HN1
            go_wp2_with fail
            refine (HBg.out _ HC1.out HR1.out).mono ?_
            rintro e w2 ⟨rfl, hr, hc⟩
            rw [← HSe.out] at hr
            have HR2 := Lib.hid hr
            have HC2 := Lib.hid (HC1.out.then_ hc (fun _ _ e => e))
            clear hr hc HBg HSe HR1 HC1 HR HC b1 d1 e0 e1 e2 c0 c1 c2
            generalize seedW T (walkTo T i) i = SD at *
            obtain ⟨K0, hK0⟩ : ∃ K, 3 * T.length + 4 = K := ⟨_, rfl⟩
            rw [hK0] at HLf HW
            clear hK0
            go_wp2
            go_loopg [] K0 (fun g' wx => ∃ s : WS, gatesLeft T s ≤ g' ∧ Hid (RA F0 g b gm gn m n T s wx) ∧ Hid (WFine T (i + 1) s) ∧ Hid (WInv T s) ∧ Hid (drainW T g' s = walkTo T (i + 1)) ∧ Hid (Chg F0 wc wx))
            case atStart => exact ⟨SD, HLf.out, HR2, HFs, HIs, HW.out.symm, HC2⟩
            case round =>
              clear HR2 HFs HIs HW HC2 HLf
              obtain ⟨s, hgl, HR, HFs, HIs, HDr, HC⟩ := hrel
              rcases List.eq_nil_or_concat s.G with hG | ⟨l, d, hG⟩
              · have HE : Hid (s = walkTo T (i + 1)) := (drain_end hG gk).symm.trans HDr.out
                have HTk := Lib.hid (walkTakeNo_any F0 g b gm gn m n T s wr HR.out hG)
                clear hG HDr
                go_wp2_with fail
                refine HTk.out.mono ?_
                rintro e w3 ⟨rfl, hr, hb⟩
                have HR3 := Lib.hid (hr.next ((new_alloc (Below.refl _ w3) (.cells #[.int .i64 0, .int .i64 0] 98)).drew))
                have HC3 : Hid (Chg F0 wc (w3.alloc (.cells #[.int .i64 0, .int .i64 0] 98)).drew) := HC.out.then_ (Chg.of_below (D := F0) (new_call (Below.refl _ _) ((Below.refl _ wr).trans hb) |>.trans (((new_alloc (Below.refl _ w3) _).drew).mono hb.size))) (fun _ _ e => e)
                have HMd := Lib.hid (HMc.out _ HC3.out)
                obtain ⟨q, a, vG, vS, vV, vO, vN, hX, _⟩ := HR3.out
                have hrO := hX.rows.rO
                obtain ⟨Ao, co, rfl, _⟩ := hrO.has
                have b6 : (w3.alloc (.cells #[.int .i64 0, .int .i64 0] 98)).cell? ⟨g, 6, none⟩ = some (.slice Ao s.O.length co) := hX.box.cell 6
                have b9 : (w3.alloc (.cells #[.int .i64 0, .int .i64 0] 98)).cell? ⟨w.heap.size, 1, none⟩ = some (.slice (some ⟨bT, oT, none⟩) m d') := HMd.out.1.cell 1
                clear hX hrO hr hb HTk HR HC
                generalize hKO : s.O.length = KO at *
                by_cases hk : KO = m
                · have tk : ((KO : Int) == (m : Int)) = true := beq_iff_eq.2 (by omega)
                  have HAl : Hid (s = walkF T) := by
                    have hfull : ∀ j, j < T.length → j ∈ s.O := fun j hj => by
                      by_cases hjm : j ∈ s.O
                      · exact hjm
                      · exfalso
                        have h1 := nodup_len T.length (j :: s.O) (List.nodup_cons.2 ⟨hjm, HFs.out.ok.nd⟩) (fun x hx => by
                          rcases List.mem_cons.1 hx with rfl | hx
                          · exact hj
                          · exact HFs.out.ok.lt x hx)
                        rw [List.length_cons, hKO, hk, HM0.out] at h1
                        omega
                    show s = walkTo T T.length
                    rw [walk_skip (a := i + 1) T.length (by have := HM0.out; omega) (fun j _ hj => by rw [← HE.out]; exact hfull j hj)]
                    exact HE.out
                  clear hk hKO HFs HIs
                  go_wp2
                  go_region
                  all_goals
                    go_wp2
                    go_ret2
                    exact ⟨_, rfl, HMd.out.2, fun _ => ⟨g, b, gm, gn, rfl, by rw [← HAl.out]; exact HR3.out.among fun k _ e => HFw.out k e⟩⟩
                · have tk : ((KO : Int) == (m : Int)) = false := beq_eq_false_iff_ne.2 (by omega)
                  clear hk hKO HFs HIs
                  go_wp2
                  go_region
                  all_goals
                    go_wp2
                    go_roundg (m - (i + 1))
                    case measure => omega
                    case rel => exact ⟨i + 1, by omega, by go_num, by rw [← HE.out]; exact HR3, HC3⟩
              · rw [List.concat_eq_append] at hG
                have hG0 : s.G ≠ [] := fun e => by rw [e] at hG; exact absurd (congrArg List.length hG) (by simp)
                have hlast : s.G.getLast? = some d := by rw [hG, List.getLast?_concat]
                obtain ⟨j, hj, hjl, hdj⟩ := HIs.out.frm d (by rw [hG]; exact List.mem_append_right _ (List.mem_singleton.2 rfl))
                obtain ⟨k9, hk9, e9⟩ := dirs_mem_at.1 hdj
                have htr := tri_at.1 (List.all_eq_true.1 HAll.out _ (List.getElem_mem hjl))
                have r1 := htr k9 hk9
                have r2 := htr ((k9 + 1) % 3) (Nat.mod_lt _ (by decide))
                obtain ⟨x9, y9⟩ := d
                have ex := congrArg Prod.fst e9
                have ey := congrArg Prod.snd e9
                simp only at ex ey
                rw [← ex] at r1
                rw [← ey] at r2
                obtain ⟨x9, rfl⟩ := Int.eq_ofNat_of_zero_le r1.1
                obtain ⟨y9, rfl⟩ := Int.eq_ofNat_of_zero_le r2.1
                have hx9 : x9 < n := by have := r1.2.1; omega
                have hy9 : y9 < n := by have := r2.2.1; omega
                have hgk : s.G.length ≤ gatesLeft T s := Nat.le_add_right _ _
                have hGp : 0 < s.G.length := List.length_pos_iff.2 hG0
                obtain ⟨k, hk⟩ : ∃ k, gk = k + 1 := ⟨gk - 1, by omega⟩
                have HDn : Hid (drainW T k (gateW T s) = walkTo T (i + 1)) := by
                  have h := HDr.out
                  rw [hk, drain_next hG0] at h
                  exact h
                have HGl : Hid (gatesLeft T (gateW T s) ≤ k) := by have := (gateW_ok HFs.out.ok hG0).2.1; show _ ≤ _; omega
                have HFg := Lib.hid (HFs.out.gate hG0)
                have HGe : Hid (gateW T s = passW T { s with G := l } (x9 : Int) (y9 : Int)) := by
                  obtain ⟨p', q', hl2, e2⟩ := gateW_last (T := T) hG0
                  have e3 : ((x9 : Int), (y9 : Int)) = (p', q') := Option.some.inj (hlast.symm.trans hl2)
                  obtain ⟨rfl, rfl⟩ : (x9 : Int) = p' ∧ (y9 : Int) = q' := ⟨congrArg Prod.fst e3, congrArg Prod.snd e3⟩
                  show _ = _
                  rw [e2, gate_pass, show s.G.dropLast = l by rw [hG, List.dropLast_concat]]
                have HIg : Hid (WInv T (gateW T s)) := by
                  obtain ⟨p', q', hl2, e2⟩ := gateW_last (T := T) hG0
                  have h := HIs.out.gate HAll.out HNd.out hl2
                  rw [← e2] at h
                  exact h
                have HSm := Lib.hid ((HFs.out.small (by have := HM0.out; omega) (by rw [HM0.out]; exact hm)).more (show 1000000 ≤ 10000000 by decide))
                have HLl : Hid (l.length ≤ 10000000) := by have h1 := HSm.out.G; rw [hG, List.length_append] at h1; show _ ≤ _; omega
                have HTk := Lib.hid (walkTakeYes_any F0 g b gm gn m n T s l (x9 : Int) (y9 : Int) wr (HFn.out _ HC.out) HR.out hG (by have := HLl.out; omega))
                have HPa := Lib.hid (fun W (hW : Chg F0 wc W) (hR : RA F0 g b gm gn m n T { s with G := l } W) => walkPass_any F0 g b gm gn m n T { s with G := l } x9 y9 W (HFn.out W hW) hR HAll.out hn HM0.out HNd.out hx9 hy9 ⟨HSm.out.V, HSm.out.O, HSm.out.N, HLl.out, HSm.out.S⟩)
                clear hG hG0 hlast hj hdj e9 htr r1 r2 ex ey hx9 hy9 hgk hGp HDr HFs HIs HR hjl
                go_wp2_with fail
                refine HTk.out.mono ?_
                rintro e w3 ⟨rfl, hr, hc⟩
                have HR3 := Lib.hid (hr.next (new_alloc (Below.refl _ w3) (.cells #[.int .i64 (x9 : Int), .int .i64 (y9 : Int)] 98)))
                have HC3 : Hid (Chg F0 wc (w3.alloc (.cells #[.int .i64 (x9 : Int), .int .i64 (y9 : Int)] 98))) := (HC.out.then_ hc (fun _ _ e => e)).then_ (Chg.of_below (D := F0) (new_alloc (Below.refl _ _) _)) (fun _ _ e => e)
                clear hr hc HTk HC
                go_wp2_with fail
                refine (HPa.out _ HC3.out HR3.out).mono ?_
                rintro e w4 ⟨rfl, hr, hc⟩
                rw [← HGe.out] at hr
                go_wp2
                go_roundg k
                case measure => omega
                case rel => exact ⟨gateW T s, HGl.out, hr, HFg, HIg, HDn, HC3.out.then_ hc (fun _ _ e => e)⟩
        · have ti : decide ((i : Int) < (m : Int)) = false := by simp; omega
          obtain rfl : i = T.length := by rw [HM0.out]; omega
          go_wp2
          go_ret2
          exact ⟨_, rfl, (HMc.out _ HC.out).2, fun _ => ⟨g, b, gm, gn, rfl, HR.out.among fun k _ e => HFw.out k e⟩⟩
  · have hq : (r != 0) = true := bne_iff_ne.2 h0
    have HNe := Lib.hid h0
    clear h0
    go_wp2
    go_ret2
    exact ⟨none, rfl, HK1.out.bel, fun h => absurd h HNe.out⟩
end Go.Proofs.YthjmojglcfmkmaaDoor
