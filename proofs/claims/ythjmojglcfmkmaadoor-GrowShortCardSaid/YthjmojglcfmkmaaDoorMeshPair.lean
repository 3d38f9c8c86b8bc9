/- The landed mesh: two rows that are the same; Same, Copy; what is handed back through a cell. -/
import Derived.Test.YthjmojglcfmkmaaDoorMeshCodeH
import Derived.Test.YthjmojglcfmkmaaDoorMeshOwn
import Derived.Laws.StructEq
import Derived.Deep.RegionLaw
namespace Go.Proofs.YthjmojglcfmkmaaDoor
open Go.RowKit

theorem run_eqP (x y z a b c : Int) (W : World) : (Op.equalIn 10000 84 (.agg #[.int .i64 x, .int .i64 y, .int .i64 z]) (.agg #[.int .i64 a, .int .i64 b, .int .i64 c])).run Tryd.prog W = .ok ((x == a) && (y == b) && (z == c)) W := by
  have u3 := Tryd.underlying3
  have a3 := Tryd.isAgg3
  have z3 := Tryd.sizeOf3
  have hS : Tryd.prog.underlying 84 = some (.struct (Tryd.prog.fieldsOf 84)) := by kernel_rfl
  have hp : Tryd.prog.stoodInHeld 84 = false := by kernel_rfl
  rw [show (10000 : Nat) = 9999 + 1 from rfl, run_equalIn_struct W 9999 84 _ _ hS hp]
  simp only [Program.fieldsOf, Tryd.underlying84]
  go_simp
  by_cases h1 : x = a <;> by_cases h2 : y = b <;> by_cases h3 : z = c <;> simp [h1, h2, h3]
set_option maxRecDepth 100000 in
set_option maxHeartbeats 1600000 in
theorem equalPts_any (A : Option Addr) (n c : Nat) (l : List P3) (B : Option Addr) (m d : Nat) (r : List P3) (w : World) (hl : HasK 3 w A n c (p3Cells l)) (hr : HasK 3 w B m d (p3Cells r)) (hn : n ≤ 100000) (_ : m ≤ 100000) : Calls Tryd.prog 58 #[.slice A n c, .slice B m d] w fun e w' => e = .returned (.bool (decide (l = r))) ∧ Below w.heap.size w w' := by
  have HL : Hid (l.length = n) := by have := hl.len; rw [p3Cells_len] at this; show _ = _; omega
  have HM : Hid (r.length = m) := by have := hr.len; rw [p3Cells_len] at this; show _ = _; omega
  have HA := Lib.hid hl
  have HB := Lib.hid hr
  clear hl hr
  by_cases hq : n = m
  · subst hq
    have HD : Hid (decide (l = r) = true ↔ l = r) := decide_eq_true_iff
    generalize decide (l = r) = R at *
    go_enter Tryd.func58, Tryd.ntmps58
    go_wp2
    go_loopg [13] n (fun g s13 wx => ∃ i : Nat, i + g = n ∧ s13 = .int .i64 i ∧ Hid (Below w.heap.size w wx) ∧ Hid (l.take i = r.take i))
    case atStart => exact ⟨0, by omega, rfl, Below.refl _ _, rfl⟩
    case round =>
      obtain ⟨i, hig, rfl, HBl, HI⟩ := hrel
      by_cases hi : i < n
      · have ti : decide ((i : Int) < (n : Int)) = true := by simp; omega
        have i2 : (i : Int) < (n : Int) := by omega
        have hil : i < l.length := by rw [HL.out]; exact hi
        have hir : i < r.length := by rw [HM.out]; exact hi
        obtain ⟨b1, o1, rfl, hlt1, _⟩ := (HA.out.kept HBl.out).spot (by omega)
        obtain ⟨b2, o2, rfl, hlt2, _⟩ := (HB.out.kept HBl.out).spot (by omega)
        obtain ⟨c0, c1, c2⟩ := p3_at (HA.out.kept HBl.out) hil
        obtain ⟨d0, d1, d2⟩ := p3_at (HB.out.kept HBl.out) hir
        have HNx : Hid (l[i] = r[i] → l.take (i + 1) = r.take (i + 1)) := fun h => take_same HI.out hil hir h
        have HNo : Hid (l[i] ≠ r[i] → R = false) := fun h => by
          cases hRx : R with
          | false => rfl
          | true =>
            have e := HD.out.1 hRx
            subst e
            exact absurd rfl h
        generalize l[i] = p at *
        generalize r[i] = q at *
        obtain ⟨x, y, z⟩ := p
        obtain ⟨x2, y2, z2⟩ := q
        simp only at c0 c1 c2 d0 d1 d2
        clear hil hir hlt1 hlt2
        have hq2 := run_eqP x y z x2 y2 z2
        by_cases he : (x, y, z) = (x2, y2, z2)
        · have HE := Lib.hid (HNx.out he)
          clear HNx HNo
          cases he
          go_wp2
          go_region
          all_goals
            go_wp2
            go_roundg (gk - 1)
            case measure => omega
            case rel => exact ⟨i + 1, by omega, by go_num, HBl.out.drew, HE⟩
        · have HE := Lib.hid (HNo.out he)
          clear HNx HNo
          rcases neq_three he with e1 | ⟨e1, e2⟩ | ⟨e1, e2, e3⟩
          all_goals
            clear he
            go_wp2
            go_region
            all_goals
              go_wp2
              go_ret
              exact ⟨by rw [HE.out]; rfl, HBl.out.drew⟩
      · have ti : decide ((i : Int) < (n : Int)) = false := by simp; omega
        have HE : Hid (R = true) := HD.out.2 (take_whole HI.out (by rw [HL.out]; omega) (by rw [HM.out]; omega))
        go_wp2
        go_ret
        exact ⟨by rw [HE.out]; rfl, HBl.out⟩
  · have HE : Hid (decide (l = r) = false) := by
      show _ = _
      apply decide_eq_false
      intro h
      subst h
      exact hq (HL.out.symm.trans HM.out)
    have tq : ((n : Int) != (m : Int)) = true := bne_iff_ne.2 (by omega)
    rw [HE.out]
    clear hq
    go_enter Tryd.func58, Tryd.ntmps58
    go_wp2
    go_ret
    exact ⟨rfl, Below.refl _ _⟩
set_option maxRecDepth 100000 in
set_option maxHeartbeats 1600000 in
theorem equalTri_any (A : Option Addr) (n c : Nat) (l : List P3) (B : Option Addr) (m d : Nat) (r : List P3) (w : World) (hl : HasK 3 w A n c (p3Cells l)) (hr : HasK 3 w B m d (p3Cells r)) (hn : n ≤ 100000) (_ : m ≤ 100000) : Calls Tryd.prog 59 #[.slice A n c, .slice B m d] w fun e w' => e = .returned (.bool (decide (l = r))) ∧ Below w.heap.size w w' := by
  have HL : Hid (l.length = n) := by have := hl.len; rw [p3Cells_len] at this; show _ = _; omega
  have HM : Hid (r.length = m) := by have := hr.len; rw [p3Cells_len] at this; show _ = _; omega
  have HA := Lib.hid hl
  have HB := Lib.hid hr
  clear hl hr
  by_cases hq : n = m
  · subst hq
    have HD : Hid (decide (l = r) = true ↔ l = r) := decide_eq_true_iff
    generalize decide (l = r) = R at *
    go_enter Tryd.func59, Tryd.ntmps59
    go_wp2
    go_loopg [13] n (fun g s13 wx => ∃ i : Nat, i + g = n ∧ s13 = .int .i64 i ∧ Hid (Below w.heap.size w wx) ∧ Hid (l.take i = r.take i))
    case atStart => exact ⟨0, by omega, rfl, Below.refl _ _, rfl⟩
    case round =>
      obtain ⟨i, hig, rfl, HBl, HI⟩ := hrel
      by_cases hi : i < n
      · have ti : decide ((i : Int) < (n : Int)) = true := by simp; omega
        have i2 : (i : Int) < (n : Int) := by omega
        have hil : i < l.length := by rw [HL.out]; exact hi
        have hir : i < r.length := by rw [HM.out]; exact hi
        obtain ⟨b1, o1, rfl, hlt1, _⟩ := (HA.out.kept HBl.out).spot (by omega)
        obtain ⟨b2, o2, rfl, hlt2, _⟩ := (HB.out.kept HBl.out).spot (by omega)
        obtain ⟨c0, c1, c2⟩ := p3_at (HA.out.kept HBl.out) hil
        obtain ⟨d0, d1, d2⟩ := p3_at (HB.out.kept HBl.out) hir
        have HNx : Hid (l[i] = r[i] → l.take (i + 1) = r.take (i + 1)) := fun h => take_same HI.out hil hir h
        have HNo : Hid (l[i] ≠ r[i] → R = false) := fun h => by
          cases hRx : R with
          | false => rfl
          | true =>
            have e := HD.out.1 hRx
            subst e
            exact absurd rfl h
        generalize l[i] = p at *
        generalize r[i] = q at *
        obtain ⟨x, y, z⟩ := p
        obtain ⟨x2, y2, z2⟩ := q
        simp only at c0 c1 c2 d0 d1 d2
        clear hil hir hlt1 hlt2
        have hq2 := run_eq3 x y z x2 y2 z2
        by_cases he : (x, y, z) = (x2, y2, z2)
        · have HE := Lib.hid (HNx.out he)
          clear HNx HNo
          cases he
          go_wp2
          go_region
          all_goals
            go_wp2
            go_roundg (gk - 1)
            case measure => omega
            case rel => exact ⟨i + 1, by omega, by go_num, HBl.out.drew, HE⟩
        · have HE := Lib.hid (HNo.out he)
          clear HNx HNo
          rcases neq_three he with e1 | ⟨e1, e2⟩ | ⟨e1, e2, e3⟩
          all_goals
            clear he
            go_wp2
            go_region
            all_goals
              go_wp2
              go_ret
              exact ⟨by rw [HE.out]; rfl, HBl.out.drew⟩
      · have ti : decide ((i : Int) < (n : Int)) = false := by simp; omega
        have HE : Hid (R = true) := HD.out.2 (take_whole HI.out (by rw [HL.out]; omega) (by rw [HM.out]; omega))
        go_wp2
        go_ret
        exact ⟨by rw [HE.out]; rfl, HBl.out⟩
  · have HE : Hid (decide (l = r) = false) := by
      show _ = _
      apply decide_eq_false
      intro h
      subst h
      exact hq (HL.out.symm.trans HM.out)
    have tq : ((n : Int) != (m : Int)) = true := bne_iff_ne.2 (by omega)
    rw [HE.out]
    clear hq
    go_enter Tryd.func59, Tryd.ntmps59
    go_wp2
    go_ret
    exact ⟨rfl, Below.refl _ _⟩
set_option maxRecDepth 100000 in
theorem meshSame_any (A : Option Addr) (n c : Nat) (P : List P3) (B : Option Addr) (m d : Nat) (T : List P3) (A' : Option Addr) (n' c' : Nat) (P' : List P3) (B' : Option Addr) (m' d' : Nat) (T' : List P3) (w : World) (hp : HasK 3 w A n c (p3Cells P)) (ht : HasK 3 w B m d (p3Cells T)) (hp' : HasK 3 w A' n' c' (p3Cells P')) (ht' : HasK 3 w B' m' d' (p3Cells T')) (hn : n ≤ 100000) (hm : m ≤ 100000) (hn' : n' ≤ 100000) (hm' : m' ≤ 100000) : Calls Tryd.prog 41 #[.agg #[.slice A n c, .slice B m d], .agg #[.slice A' n' c', .slice B' m' d']] w fun e w' => e = .returned (.bool (decide (P = P' ∧ T = T'))) ∧ Below w.heap.size w w' := by
  have HK0 := Lib.hid (MeshTwo.new w (.slice A n c) (.slice B m d) (.slice A' n' c') (.slice B' m' d'))
  have HP := Lib.hid (fun W (hW : Below w.heap.size w W) => equalPts_any A n c P A' n' c' P' W (hp.kept hW) (hp'.kept hW) hn hn')
  have HT := Lib.hid (fun W (hW : Below w.heap.size w W) => equalTri_any B m d T B' m' d' T' W (ht.kept hW) (ht'.kept hW) hm hm')
  have m0 := HK0.out.b0.cell 0
  have m1 := HK0.out.b0.cell 1
  have k0 := HK0.out.b1.cell 0
  have k1 := HK0.out.b1.cell 1
  clear hp ht hp' ht'
  by_cases h1 : P = P'
  · have HE : Hid (decide (P = P' ∧ T = T') = decide (T = T')) := by show _ = _; apply decide_eq_decide.2; exact ⟨fun h => h.2, fun h => ⟨h1, h⟩⟩
    have HP1 := Lib.hid (HP.out _ HK0.out.bel)
    rw [decide_eq_true h1] at HP1
    rw [HE.out]
    generalize decide (T = T') = R at *
    clear h1 HE HP
    go_enter Tryd.func41, Tryd.ntmps41
    go_wp2_with fail
    refine HP1.out.mono ?_
    rintro e w1 ⟨rfl, hb1⟩
    have HK1 := Lib.hid (HK0.out.next hb1)
    have HT1 := Lib.hid (HT.out _ HK1.out.bel)
    clear hb1 m0 m1 k0 k1 HT HP1
    have m1 := HK1.out.b0.cell 1
    have k1 := HK1.out.b1.cell 1
    go_wp2_with fail
    refine HT1.out.mono ?_
    rintro e w2 ⟨rfl, hb2⟩
    have HK2 := Lib.hid (HK1.out.next hb2)
    clear hb2 m1 k1
    go_wp2
    go_ret
    exact ⟨rfl, HK2.out.bel⟩
  · have HE : Hid (decide (P = P' ∧ T = T') = false) := decide_eq_false (fun h => h1 h.1)
    have HP1 := Lib.hid (HP.out _ HK0.out.bel)
    rw [decide_eq_false h1] at HP1
    rw [HE.out]
    clear h1 HE HP
    go_enter Tryd.func41, Tryd.ntmps41
    go_wp2_with fail
    refine HP1.out.mono ?_
    rintro e w1 ⟨rfl, hb1⟩
    have HK1 := Lib.hid (HK0.out.next hb1)
    clear hb1 m0 m1 k0 k1
    go_wp2
    go_ret
    exact ⟨rfl, HK1.out.bel⟩
theorem meshInfo : (Tryd.prog.info? 48).map (fun i => (i.zero, i.size)) = some (some (.agg #[.slice none 0 0, .slice none 0 0]), 2) := by kernel_rfl
theorem mesh_load (W : World) (a b : Value) (g : Nat) (h : Blk W g 48 #[a, b]) : (loadVar 48 ⟨g, 0, none⟩).run Tryd.prog W = .ok (.agg #[a, b]) W := by
  obtain ⟨kz, ks⟩ := zero_of_info meshInfo
  exact run_loadVar_row _ _ _ _ _ _ _ h Tryd.underlying48 rfl (by rw [ks]; rfl)
theorem below_nil {w w' : World} (hg : w.grownBy w' (Value.slice none 0 0).ownBlock) : Below w.heap.size w w' := ⟨hg.os, hg.tape, hg.output, hg.size, fun k hk => hg.block k hk (by simp [Value.ownBlock])⟩
/-- A row that was laid when the other one lay already is another one. -/
theorem own_apart {w1 w2 : World} {base base' : Nat} {e e' : TypeId} {A B : Option Addr} {n c m d : Nat} {xs ys : List Value} (h1 : OwnK 3 w1 base e (.slice A n c) n xs) (_ : OwnK 3 w2 base' e' (.slice B m d) m ys) (hw : ∀ g, (Value.slice B m d).ownBlock = some g → (Value.slice none 0 0).ownBlock = some g ∨ w1.heap.size ≤ g) : ∀ b off b' off', A = some ⟨b, off, none⟩ → B = some ⟨b', off', none⟩ → b ≠ b' := by
  intro b off b' off' e1 e2
  subst e1 e2
  have hb : b < w1.heap.size := by
    rcases h1.2 with ⟨h, _⟩ | ⟨g, cap, cur, h, _, hc, _⟩
    · cases h
    · cases h; exact (Array.getElem?_eq_some_iff.1 hc).1
  rcases hw b' rfl with h | h
  · cases h
  · omega
theorem copy_end {f : Value → Ending} {w wl : World} {a b : Value} {Ap At : Option Addr} {n m cp ct : Nat} {P T : List P3} (hl : P.length = n) (hm : T.length = m) (hk : MeshTwo w a b (.slice none 0 0) (.slice none 0 0) wl)
    (hp : OwnK 3 wl (w.heap.size + 2) 84 (.slice Ap n cp) n (p3Cells P)) (ht : OwnK 3 wl (w.heap.size + 2) 58 (.slice At m ct) m (p3Cells T)) (ha : ∀ b off b' off', Ap = some ⟨b, off, none⟩ → At = some ⟨b', off', none⟩ → b ≠ b') :
    MeshOut w P T f (f (.agg #[.slice Ap n cp, .slice At m ct])) ((wl.setCell ⟨w.heap.size + 1, 0, none⟩ (.slice Ap n cp)).setCell ⟨w.heap.size + 1, 1, none⟩ (.slice At m ct)) ∧
    Blk ((wl.setCell ⟨w.heap.size + 1, 0, none⟩ (.slice Ap n cp)).setCell ⟨w.heap.size + 1, 1, none⟩ (.slice At m ct)) (w.heap.size + 1) 48 #[.slice Ap n cp, .slice At m ct] := by
  subst hl hm
  have far : ∀ {v : Value} {e : TypeId} {k : Nat} {xs : List Value}, OwnK 3 wl (w.heap.size + 2) e v k xs → OwnK 3 ((wl.setCell ⟨w.heap.size + 1, 0, none⟩ (.slice Ap P.length cp)).setCell ⟨w.heap.size + 1, 1, none⟩ (.slice At T.length ct)) w.heap.size e v k xs := fun {v e k xs} h => by
    have hn : ∀ g c, v = .slice (some ⟨g, 0, none⟩) k c → g ≠ w.heap.size + 1 := fun g c e => by have := (own3_lt h g c e).1; omega
    exact ((h.far hn _).far hn _).less (Nat.le_add_right _ _)
  exact ⟨⟨Ap, cp, At, ct, rfl, far hp, far ht, (hk.bel.setCell (Nat.le_succ _) _).setCell (Nat.le_succ _) _, ha⟩, (hk.b1.set_ 0 _).set_ 1 _⟩
theorem results_pairM {fn : Func} {p u : Tmp} {ty : TypeId} (h : fn.results = #[.cell p ty, .tmp u]) {tmps : Array Value} {P : Program} {w : World} {a : Addr} {v x : Value} (hp : tmps.getD p undef = .pointer (some a)) (hu : tmps.getD u undef = x)
    (hl : (loadVar ty a).run P w = .ok v w) : (results fn tmps).run P w = .ok (.tuple #[v, x]) w := by
  have hp' : tmps[p]?.getD undef = .pointer (some a) := by rw [← hp]; simp
  have hu' : tmps[u]?.getD undef = x := by rw [← hu]; simp
  simp only [results, h]
  simp [hp', hu', asAddr, hl]
end Go.Proofs.YthjmojglcfmkmaaDoor
