/- The landed mesh: laid: all edges of triangles in a map. -/
import Derived.Test.YthjmojglcfmkmaaDoorMeshCodeB
namespace Go.Proofs.YthjmojglcfmkmaaDoor
open Go.RowKit

theorem run_makeSides (z : Int) (w : World) : (Instr.makeMap 92 (some (.int .i64 z))).run Tryd.prog w = .ok (.map (some w.heap.size)) (w.alloc (.map #[] 0)) := by kernel_rfl
theorem step_update {P : Program} {w : World} {ops : Array Oper} {o : Oper} {a : Act} {K : Act → World → Prop} {Q : Exit → Act → World → Prop} {E' : Prop} (hgd : o.guard = Option.none) (mm x v : Operand) (t : TypeId)
    (hop : o.op = .mapUpdate t mm x v) (k e : TypeId) (KL : Maps.Keyed P k) (ht : P.underlying t = some (.map k e)) (R : Value → Option (DataW Unit × List MemPlace)) (b n : Nat) (D : DataW Unit)
    (hm : a.eval mm = .map (some b)) (hown : w.ownsMap P k R b n D) (hn : n < maxLen) (key val : Value) (kl : Lit) (hx : a.eval x = key) (hv : a.eval v = val) (hkey : keyOf P k key = some kl) (d : DataW Unit) (ps : List MemPlace) (hval : R val = some (d, ps))
    (h : ∀ w', w'.ownsMap P k R b (n + 1) (D.put kl d) → w.grownBy w' (some b) → K (a.put o.dst undef) w') : if Region.wanted o (yielded ops a.tmps) = true then Oper.wp P o a w K Q else E' := by
  have hw : Region.wanted o (yielded ops a.tmps) = true := by simp [Region.wanted, hgd]
  rw [if_pos hw]
  obtain ⟨w', hrun, r1, r2⟩ := hown.update KL ht hn hkey hval
  unfold Oper.wp
  simp [execOp, hop, hm, hx, hv, hrun, Result.andThen]
  exact h w' r1 r2
/-- A new map grows in a block of the call's own. -/
theorem Below.ownMap {w0 w w' : World} {b : Nat} (h : Below w0.heap.size w0 w) (hb : w0.heap.size ≤ b) (hg : w.grownBy w' (some b)) : Below w0.heap.size w0 w' :=
  ⟨hg.os.trans h.os, hg.tape.trans h.tape, hg.output.trans h.output, Nat.le_trans h.size hg.size, fun k hk => (hg.block k (Nat.lt_of_lt_of_le hk h.size) (fun e => by cases e; omega)).trans (h.block k hk)⟩
theorem Blk.grown {w w' : World} {g : Nat} {t : TypeId} {cs : Array Value} (h : Blk w g t cs) {row : Option Nat} (hg : w.grownBy w' row) (hr : row ≠ some g) : Blk w' g t cs := (hg.block g h.lt (fun e => hr e.symm)).trans h
set_option maxRecDepth 100000 in
set_option maxHeartbeats 2000000 in
theorem laid_any (B : Option Addr) (m d : Nat) (T : List P3) (n : Nat) (w : World) (hbe : BehW w) (ht : HasK 3 w B m d (p3Cells T)) (hm : m ≤ 100000) (hn : n ≤ 100000) (hall : T.all (triM n) = true) : Calls Tryd.prog 65 #[.slice B m d] w fun e w' => ∃ b, e = .returned (.map (some b)) ∧ w.heap.size ≤ b ∧ SidesW w' b T ∧ Below w.heap.size w w' := by
  have HM : Hid (T.length = m) := by have := ht.len; rw [p3Cells_len] at this; show _ = _; omega
  have HT := Lib.hid ht
  have HBe := Lib.hid hbe
  have HIn := Lib.hid (fun i k (hk : k < 3) => ent_in hall hn i k hk)
  have HO0 : Hid ((w.alloc (.map #[] 0)).ownsMap Tryd.prog 124 sideR w.heap.size 0 (.map [])) := World.ownsMap_made w _ _ _
  have HB0 := Lib.hid (new_alloc (Below.refl w.heap.size w) (.map #[] 0))
  have hmm := run_makeSides
  clear ht hbe hall
  go_enter Tryd.func65, Tryd.ntmps65
  go_wp2
  generalize w.alloc (.map #[] 0) = W at *
  obtain ⟨G, hG⟩ : ∃ G, w.heap.size = G := ⟨_, rfl⟩
  have HG : Hid (w.heap.size = G) := hG
  rw [hG] at HO0
  try rw [hG]
  clear hG
  go_loopg [14] m (fun g s14 wx => ∃ i : Nat, i + g = m ∧ s14 = .int .i64 i ∧ Hid (Below w.heap.size w wx) ∧ Hid (wx.ownsMap Tryd.prog 124 sideR G (3 * i) (entsD (entsTo T i 0))))
  case atStart => exact ⟨0, by omega, rfl, HB0, HO0⟩
  case round =>
    obtain ⟨i, hig, rfl, HB, HO⟩ := hrel
    by_cases hi : i < m
    · have ti : decide ((i : Int) < (m : Int)) = true := by simp; omega
      have i2 : (i : Int) < (m : Int) := by omega
      have hil : i < T.length := by rw [HM.out]; exact hi
      obtain ⟨b, off, rfl, hlt, _⟩ := (HT.out.kept HB.out).spot (by omega)
      obtain ⟨c0, c1, c2⟩ := p3_at (HT.out.kept HB.out) hil
      have HEn : Hid (∀ k, entAt T i k = ((at3 T[i] k, at3 T[i] ((k + 1) % 3)), ((i : Int), at3 T[i] ((k + 2) % 3)))) := fun k => by
        unfold entAt
        rw [List.getElem?_eq_getElem hil]
        rfl
      generalize T[i] = t at *
      obtain ⟨x, y, z⟩ := t
      simp only at c0 c1 c2
      have HKt := Lib.hid (Blk.new wr 58 #[.int .i64 x, .int .i64 y, .int .i64 z])
      have HB2 := Lib.hid (new_alloc HB.out (.cells #[.int .i64 x, .int .i64 y, .int .i64 z] 58))
      have HO2 := Lib.hid (HO.out.alloc (.cells #[.int .i64 x, .int .i64 y, .int .i64 z] 58))
      have HGG : Hid (G ≠ wr.heap.size) := fun e => by have := HO.out.lt; omega
      clear hil hlt
      go_wp2
      generalize wr.alloc (.cells #[.int .i64 x, .int .i64 y, .int .i64 z] 58) = W2 at *
      generalize wr.heap.size = G2 at *
      clear c0 c1 c2
      try rw [ti]
      go_loopg [20] 3 (fun g s20 wx => ∃ k : Nat, k + g = 3 ∧ s20 = .int .i64 k ∧ Hid (Blk wx G2 58 #[.int .i64 x, .int .i64 y, .int .i64 z]) ∧ Hid (Below w.heap.size w wx) ∧ Hid (wx.ownsMap Tryd.prog 124 sideR G (3 * i + k) (entsD (entsTo T i k))))
      case atStart => exact ⟨0, by omega, rfl, HKt, HB2, HO2⟩
      case round =>
        obtain ⟨k, hkg, rfl, HKa, HKc, HKo⟩ := hrel
        by_cases hk : k < 3
        · have tk : decide ((k : Int) < 3) = true := by simp; omega
          have k2 : (k : Int) < 3 := by omega
          have b1 := (HBe.out.kept HKc.out).one hk
          have b2 := (HBe.out.kept HKc.out).two hk
          have HEk := Lib.hid (HEn.out k)
          have HInk := Lib.hid (HIn.out i k hk)
          have HNx := Lib.hid (entsTo_next T i k)
          obtain ⟨k1, hk1⟩ : ∃ j, (k + 1) % 3 = j := ⟨_, rfl⟩
          obtain ⟨k3, hk3⟩ : ∃ j, (k + 2) % 3 = j := ⟨_, rfl⟩
          have hl1 : k1 < 3 := by omega
          have hl3 : k3 < 3 := by omega
          have cd := t3_blk HKa.out hl1
          have cf := t3_blk HKa.out hl3
          rw [hk1] at b1 HEk
          rw [hk3] at b2 HEk
          have hix := idx3 x y z hk wr
          have hj1 : (k1 : Int) < 3 := by omega
          have hj3 : (k3 : Int) < 3 := by omega
          clear hk1 hk3
          generalize at3 (x, y, z) k = v at *
          generalize at3 (x, y, z) k1 = u at *
          generalize at3 (x, y, z) k3 = o at *
          rw [HEk.out] at HInk HNx
          obtain ⟨W5, hrun, ho5, hg5⟩ := World.ownsMap.update HKo.out.drew lawE Tryd.underlying92 (by unfold maxLen; omega) (keyOf_e2 HInk.out) (sideR_mk ((i : Int), o))
          have HO5 : Hid (W5.ownsMap Tryd.prog 124 sideR G (3 * i + (k + 1)) (entsD (entsTo T i (k + 1)))) := by
            show World.ownsMap _ _ _ _ _ _ _
            rw [HNx.out, entsD_snoc]
            exact ho5
          have HB5 : Hid (Below w.heap.size w W5) := Below.ownMap (b := G) HKc.out.drew (Nat.le_of_eq HG.out) hg5
          have HK5 : Hid (Blk W5 G2 58 #[.int .i64 x, .int .i64 y, .int .i64 z]) := Blk.grown (w := wr.drew) HKa.out hg5 (fun e => HGG.out (Option.some.inj e))
          simp only [e2V] at hrun
          clear ho5 hg5
          go_wp2
          go_region
          all_goals
            go_wp2
            go_roundg (gk - 1)
            case measure => omega
            case rel => exact ⟨k + 1, by omega, by go_num, HK5, HB5, HO5⟩
        · have tk : decide ((k : Int) < 3) = false := by simp; omega
          have hk3 : k = 3 := by omega
          subst hk3
          rw [← entsTo_row] at HKo
          go_wp2
          go_roundg (m - (i + 1))
          case measure => omega
          case rel => exact ⟨i + 1, by omega, by go_num, HKc, HKo⟩
    · have ti : decide ((i : Int) < (m : Int)) = false := by simp; omega
      have hE : i = T.length := by rw [HM.out]; omega
      subst hE
      go_wp2
      go_ret
      exact ⟨G, rfl, by rw [HG.out]; exact Nat.le_refl _, HO.out, HB.out⟩
end Go.Proofs.YthjmojglcfmkmaaDoor
