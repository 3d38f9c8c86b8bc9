/- The landed mesh: Copy. -/
import Derived.Test.YtckjmnbglbegmaaDoorMeshCodeM
import Derived.Test.YtckjmnbglbegmaaDoorMeshOwn
import Derived.Deep.RegionLaw
namespace Go.Proofs.YtckjmnbglbegmaaDoor
open Go.RowKit

theorem meshInfo : (Tryd.prog.info? 25).map (fun i => (i.zero, i.size)) = some (some (.agg #[.slice none 0 0, .slice none 0 0]), 2) := by kernel_rfl
theorem mesh_load (W : World) (a b : Value) (g : Nat) (h : Blk W g 25 #[a, b]) : (loadVar 25 ⟨g, 0, none⟩).run Tryd.prog W = .ok (.agg #[a, b]) W := by
  obtain ⟨kz, ks⟩ := zero_of_info meshInfo
  exact run_loadVar_row _ _ _ _ _ _ _ h Tryd.underlying25 rfl (by rw [ks]; rfl)
theorem below_nil {w w' : World} (hg : w.grownBy w' (Value.slice none 0 0).ownBlock) : Below w.heap.size w w' := ⟨hg.os, hg.tape, hg.output, hg.size, fun k hk => hg.block k hk (by simp [Value.ownBlock])⟩
/-- A row that was laid when the other one lay already is another one. -/
theorem own_apart {w1 w2 : World} {base base' : Nat} {e e' : TypeId} {A B : Option Addr} {n c m d : Nat} {xs ys : List Value} (h1 : OwnK 3 w1 base e (.slice A n c) n xs) (_ : OwnK 3 w2 base' e' (.slice B m d) m ys) (hw : ∀ g, (Value.slice B m d).ownBlock = some g → (Value.slice none 0 0).ownBlock = some g ∨ w1.heap.size ≤ g) : ∀ b off b' off', A = some ⟨b, off, none⟩ → B = some ⟨b', off', none⟩ → b ≠ b' := by
  intro b off b' off' e1 e2
  subst e1 e2
  have hb : b < w1.heap.size := by
    rcases h1.2 with ⟨h, _⟩ | ⟨g, cap, cur, h, _, hc, _⟩
    · cases h
    · cases h; exact (Array.getElem?_eq_some_iff.1 hc).1
  rcases hw b' rfl with h | h
  · cases h
  · omega
theorem copy_end {f : Value → Ending} {w wl : World} {a b : Value} {Ap At : Option Addr} {n m cp ct : Nat} {P T : List P3} (hl : P.length = n) (hm : T.length = m) (hk : MeshTwo w a b (.slice none 0 0) (.slice none 0 0) wl)
    (hp : OwnK 3 wl (w.heap.size + 2) 55 (.slice Ap n cp) n (p3Cells P)) (ht : OwnK 3 wl (w.heap.size + 2) 46 (.slice At m ct) m (p3Cells T)) (ha : ∀ b off b' off', Ap = some ⟨b, off, none⟩ → At = some ⟨b', off', none⟩ → b ≠ b') :
    MeshOut w P T f (f (.agg #[.slice Ap n cp, .slice At m ct])) ((wl.setCell ⟨w.heap.size + 1, 0, none⟩ (.slice Ap n cp)).setCell ⟨w.heap.size + 1, 1, none⟩ (.slice At m ct)) ∧
    Blk ((wl.setCell ⟨w.heap.size + 1, 0, none⟩ (.slice Ap n cp)).setCell ⟨w.heap.size + 1, 1, none⟩ (.slice At m ct)) (w.heap.size + 1) 25 #[.slice Ap n cp, .slice At m ct] := by
  subst hl hm
  have far : ∀ {v : Value} {e : TypeId} {k : Nat} {xs : List Value}, OwnK 3 wl (w.heap.size + 2) e v k xs → OwnK 3 ((wl.setCell ⟨w.heap.size + 1, 0, none⟩ (.slice Ap P.length cp)).setCell ⟨w.heap.size + 1, 1, none⟩ (.slice At T.length ct)) w.heap.size e v k xs := fun {v e k xs} h => by
    have hn : ∀ g c, v = .slice (some ⟨g, 0, none⟩) k c → g ≠ w.heap.size + 1 := fun g c e => by have := (own3_lt h g c e).1; omega
    exact ((h.far hn _).far hn _).less (Nat.le_add_right _ _)
  exact ⟨⟨Ap, cp, At, ct, rfl, far hp, far ht, (hk.bel.setCell (Nat.le_succ _) _).setCell (Nat.le_succ _) _, ha⟩, (hk.b1.set_ 0 _).set_ 1 _⟩
set_option maxRecDepth 100000 in
set_option maxHeartbeats 2000000 in
theorem meshCopy_any (A : Option Addr) (n c : Nat) (P : List P3) (B : Option Addr) (m d : Nat) (T : List P3) (w : World) (hp : HasK 3 w A n c (p3Cells P)) (ht : HasK 3 w B m d (p3Cells T)) (hn : n ≤ 100000) (hm : m ≤ 100000) : Calls Tryd.prog 26 #[.agg #[.slice A n c, .slice B m d]] w (MeshOut w P T fun v => .returned v) := by
  have HL : Hid (P.length = n) := by have := hp.len; rw [p3Cells_len] at this; show _ = _; omega
  have HM : Hid (T.length = m) := by have := ht.len; rw [p3Cells_len] at this; show _ = _; omega
  have HK0 := Lib.hid (MeshTwo.new w (.slice A n c) (.slice B m d) (.slice none 0 0) (.slice none 0 0))
  have HP := Lib.hid (fun W (hW : Below w.heap.size w W) => hp.kept hW)
  have HT := Lib.hid (fun W (hW : Below w.heap.size w W) => ht.kept hW)
  have hn2 : 0 + n ≤ 1099511627776 := by omega
  have hm2 : 0 + m ≤ 1099511627776 := by omega
  obtain ⟨kz, ks⟩ := zero_of_info meshInfo
  clear hp ht
  go_enter Tryd.func26, Tryd.ntmps26
  go_wp2
  generalize (w.alloc (.cells #[.slice A n c, .slice B m d] 25)).alloc (.cells #[.slice none 0 0, .slice none 0 0] 25) = W at *
  have HKd := Lib.hid (HK0.out.next (Below.refl W.heap.size W).drew)
  have HDd : Hid (w.heap.size ≤ W.drew.heap.size) := HKd.out.bel.size
  have m0 := HKd.out.b0.cell 0
  have m1 := HKd.out.b0.cell 1
  have k0 := HKd.out.b1.cell 0
  have k1 := HKd.out.b1.cell 1
  have f0 := HKd.out.b1.frozen 0
  have f1 := HKd.out.b1.frozen 1
  go_region_law (first
    | (refine step_joinGK rfl _ _ 22 rfl elemP3 (by decide) (w.heap.size + 2) _ 0 [] rfl (OwnK.nil 3 _ _ _) A n c (p3Cells P) rfl ?_ (p3Cells_one _) hn2 (by decide) ?_ ?_
       · first | exact HP.out _ HKt.out.bel | exact HP.out _ HKd.out.bel
       · first | exact HKt.out.b1.lt | exact HKd.out.b1.lt
       rintro vp wp hop hgp hwp
       rw [Nat.zero_add, List.nil_append] at hop
       obtain ⟨Ap, cp, rfl, _⟩ := hop.has
       have HOp := Lib.hid hop
       have HGp := Lib.hid (below_nil hgp)
       have HWp := Lib.hid hwp
       first
         | (have HKp := Lib.hid (HKt.out.next HGp.out); have HOt2 := Lib.hid (HOt.out.keep HGp.out))
         | (have HKp := Lib.hid (HKd.out.next HGp.out))
       clear hop hgp hwp
       have mp0 := HKp.out.b0.cell 0
       have mp1 := HKp.out.b0.cell 1
       have kp0 := HKp.out.b1.cell 0
       have kp1 := HKp.out.b1.cell 1
       have fp0 := HKp.out.b1.frozen 0
       have fp1 := HKp.out.b1.frozen 1)
    | (refine step_joinGK rfl _ _ 23 rfl elemT3 (by decide) (w.heap.size + 2) _ 0 [] rfl (OwnK.nil 3 _ _ _) B m d (p3Cells T) rfl ?_ (p3Cells_one _) hm2 (by decide) ?_ ?_
       · first | exact HT.out _ HKp.out.bel | exact HT.out _ HKd.out.bel
       · first | exact HKp.out.b1.lt | exact HKd.out.b1.lt
       rintro vt wt hot hgt hwt
       rw [Nat.zero_add, List.nil_append] at hot
       obtain ⟨At, ct, rfl, _⟩ := hot.has
       have HOt := Lib.hid hot
       have HGt := Lib.hid (below_nil hgt)
       have HWt := Lib.hid hwt
       first
         | (have HKt := Lib.hid (HKp.out.next HGt.out); have HOp2 := Lib.hid (HOp.out.keep HGt.out))
         | (have HKt := Lib.hid (HKd.out.next HGt.out))
       clear hot hgt hwt
       have mt0 := HKt.out.b0.cell 0
       have mt1 := HKt.out.b0.cell 1
       have kt0 := HKt.out.b1.cell 0
       have kt1 := HKt.out.b1.cell 1
       have ft0 := HKt.out.b1.frozen 0
       have ft1 := HKt.out.b1.frozen 1)
    | fail)
  all_goals
    first
      | (have hE := copy_end (f := fun v => .returned v) HL.out HM.out HKt.out HOp2.out HOt.out (own_apart HOp.out HOt.out HWt.out)
         have HE := Lib.hid hE
         clear hE
         go_wp2
         try rw [Exit.noGoto_ret]
         exact bodyPost_ret (results_cellM Tryd.results26 rfl (mesh_load _ _ _ _ HE.out.2)) rfl HE.out.1)
      | (have hE := copy_end (f := fun v => .returned v) HL.out HM.out HKp.out HOp.out HOt2.out (fun b off b' off' e1 e2 e => own_apart HOt.out HOp.out HWp.out b' off' b off e2 e1 e.symm)
         have HE := Lib.hid hE
         clear hE
         go_wp2
         try rw [Exit.noGoto_ret]
         exact bodyPost_ret (results_cellM Tryd.results26 rfl (mesh_load _ _ _ _ HE.out.2)) rfl HE.out.1)
end Go.Proofs.YtckjmnbglbegmaaDoor
