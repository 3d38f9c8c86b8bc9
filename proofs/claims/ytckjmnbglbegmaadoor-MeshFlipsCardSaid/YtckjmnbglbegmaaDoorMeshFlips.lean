/- Turned the other way round as a whole, triangles are a surface just if they were; one of a piece turned by itself, with another one at its side, they are none: whatever mesh and whatever place come in, MeshFlips answers true. -/
import Derived.Test.YtckjmnbglbegmaaDoorKnown10
import Derived.Test.YtckjmnbglbegmaaDoorLawMesh
import Derived.Test.YtckjmnbglbegmaaDoorLawLaid
import Derived.Test.YtckjmnbglbegmaaDoorMeshOwn
namespace Go.Proofs.YtckjmnbglbegmaaDoor.meshFlips
open Go.ChangeShapes Go.WideShapes Go.ChangeAt Go.RowKit

set_option maxRecDepth 100000 in
set_option maxHeartbeats 3200000 in
theorem walk (A : Option Addr) (n c : Nat) (P : List P3) (B : Option Addr) (m d : Nat) (T : List P3) (at_ : Int) (W : World) (hbe : BehW W) (hp : HasK 3 W A n c (p3Cells P)) (ht : HasK 3 W B m d (p3Cells T)) (_ : ∀ x ∈ P, i64T x) (_ : ∀ x ∈ T, i64T x) (_ : n ≤ 9223372036854775807) (_ : m ≤ 9223372036854775807) (hat : 0 ≤ at_ ∧ at_ ≤ 255) : Calls Tryd.prog 10 #[.agg #[.slice A n c, .slice B m d], .int .u8 at_] W fun e w' => e = .returned (.bool true) ∧ Below W.heap.size W w' := by
  have HK0 := Lib.hid (MeshAt.new W (.slice A n c) (.slice B m d))
  have m0 := HK0.out.b0.cell 0
  have m1 := HK0.out.b0.cell 1
  have HKn := Lib.hid (fun w (hW : Below W.heap.size W w) => known10 w (hbe.kept hW))
  by_cases hl : n ≤ 40 ∧ m ≤ 60
  · have HLo := Lib.hid (fun w => lawlong_any A n c B m d false w (by rw [decide_eq_false (by omega), decide_eq_false (by omega)]; rfl))
    obtain ⟨r, hr⟩ := check_total P T
    have HTm : Hid (T.length = m) := by have := ht.len; rw [p3Cells_len] at this; show _ = _; omega
    have HPn : Hid (P.length = n) := by have := hp.len; rw [p3Cells_len] at this; show _ = _; omega
    have HT := Lib.hid ht
    have HRr := Lib.hid hr
    have HCk := Lib.hid (fun w (hW : Below W.heap.size W w) => meshCheck_any A n c P B m d T r w (hbe.kept hW) (hp.kept hW) (ht.kept hW) (by omega) (by omega) hr)
    have HCp := Lib.hid (fun w (hW : Below W.heap.size W w) => meshCopy_any A n c P B m d T w (hp.kept hW) (ht.kept hW) (by omega) (by omega))
    have HCf := Lib.hid (fun w A9 c9 B9 d9 (hW : Below W.heap.size W w) (h1 : HasK 3 w A9 n c9 (p3Cells P)) (h2 : HasK 3 w B9 m d9 (p3Cells (T.map flipT))) => meshCheck_any A9 n c9 P B9 m d9 (T.map flipT) r w (hbe.kept hW) h1 h2 (by omega) (by omega) (check_flip hr))
    have HHs := Lib.hid (fun a b w (hW : Below W.heap.size W w) => ref10Has_any B m d T a b w (ht.kept hW) (by omega))
    have HCo := Lib.hid (fun w A9 c9 B9 d9 T9 q (hW : Below W.heap.size W w) (h1 : HasK 3 w A9 n c9 (p3Cells P)) (h2 : HasK 3 w B9 m d9 (p3Cells T9)) (h3 : CheckIs P T9 q) => meshCheck_any A9 n c9 P B9 m d9 T9 q w (hbe.kept hW) h1 h2 (by omega) (by omega) h3)
    have hm60 := hl.2
    clear hp ht hr hl
    go_enter Tryd.func10, Tryd.ntmps10
    go_wp2_with fail
    refine (HLo.out _).mono ?_
    rintro e w1 ⟨rfl, hb1⟩
    have HK1 := Lib.hid (HK0.out.next hb1)
    clear hb1 HK0 m0 m1
    have m0 := HK1.out.b0.cell 0
    have m1 := HK1.out.b0.cell 1
    go_wp2_with fail
    refine (HCk.out _ HK1.out.bel).mono ?_
    rintro e w2 ⟨rfl, hb2⟩
    have HK2 := Lib.hid (HK1.out.next hb2)
    clear hb2 HK1 m0 m1
    have m0 := HK2.out.b0.cell 0
    have m1 := HK2.out.b0.cell 1
    go_wp2_with fail
    refine (HCp.out _ HK2.out.bel).mono ?_
    rintro e w3 ⟨A9, c9, B9, d9, rfl, ho1, ho2, hb3, hne9⟩
    rw [HPn.out] at ho1
    rw [HTm.out] at ho2
    rw [HPn.out, HTm.out]
    have HK3 : Hid (MeshAt W (.slice A n c) (.slice B m d) (w3.alloc (.cells #[.slice A9 n c9, .slice B9 m d9] 25))) := (HK2.out.next hb3).next (new_alloc (Below.refl _ _) _)
    have HC3 := Lib.hid (Blk.new w3 25 #[.slice A9 n c9, .slice B9 m d9])
    have HO3 : Hid (OwnK 3 (w3.alloc (.cells #[.slice A9 n c9, .slice B9 m d9] 25)) w2.heap.size 46 (.slice B9 m d9) m (p3Cells T)) := OwnK.alloc ho2 _
    have HQ3 : Hid (OwnK 3 (w3.alloc (.cells #[.slice A9 n c9, .slice B9 m d9] 25)) w2.heap.size 55 (.slice A9 n c9) n (p3Cells P)) := OwnK.alloc ho1 _
    have HZ : Hid (∀ g cc, Value.slice B9 m d9 = .slice (some ⟨g, 0, none⟩) m cc → g < w3.heap.size) := fun g cc e => by
      cases e
      exact (World.ownsRow.lt ho2 g rfl).2
    have HNe : Hid (∀ g cc g' cc', Value.slice A9 n c9 = .slice (some ⟨g, 0, none⟩) n cc → Value.slice B9 m d9 = .slice (some ⟨g', 0, none⟩) m cc' → g ≠ g') := fun g cc g' cc' e e' => by
      cases e
      cases e'
      exact hne9 _ _ _ _ rfl rfl
    have HW2 : Hid (W.heap.size + 1 ≤ w2.heap.size) := HK2.out.b0.lt
    clear hb3 ho1 ho2 hne9 HK2 m0 m1
    have m0 := HK3.out.b0.cell 0
    have m1 := HK3.out.b0.cell 1
    have m2 := HC3.out.cell 0
    have m3 := HC3.out.cell 1
    go_wp2
    generalize w3.alloc (.cells #[.slice A9 n c9, .slice B9 m d9] 25) = w4 at *
    generalize w3.heap.size = G at *
    go_loopg [7] m (fun g s7 wx => ∃ (i : Nat) (l : List P3), i + g = m ∧ s7 = .int .i64 i ∧ l.length = m ∧ Hid (∀ j, j < m → l[j]? = if j < i then T[j]?.map flipT else T[j]?) ∧ Hid (MeshAt W (.slice A n c) (.slice B m d) wx) ∧ Hid (Blk wx G 25 #[.slice A9 n c9, .slice B9 m d9]) ∧ Hid (OwnK 3 wx w2.heap.size 46 (.slice B9 m d9) m (p3Cells l)) ∧ Hid (OwnK 3 wx w2.heap.size 55 (.slice A9 n c9) n (p3Cells P)))
    case atStart => exact ⟨0, T, by omega, rfl, HTm.out, (fun j _ => by rw [if_neg (by omega)]), HK3, HC3, HO3, HQ3⟩
    case round =>
      obtain ⟨i, l, hig, rfl, hll, HI, HK, HC, HO, HQ⟩ := hrel
      clear HK3 HC3 HO3 HQ3 m0 m1 m2 m3
      have m0 := HK.out.b0.cell 0
      have m1 := HK.out.b0.cell 1
      have m2 := HC.out.cell 0
      have m3 := HC.out.cell 1
      by_cases hi : i < m
      · have ti : decide ((i : Int) < (m : Int)) = true := by simp; omega
        have i2 : (i : Int) < (m : Int) := by omega
        have hil : i < T.length := by rw [HTm.out]; exact hi
        obtain ⟨b, off, rfl, hlt, _⟩ := (HT.out.kept HK.out.bel).spot (by omega)
        obtain ⟨c0, c1, c2⟩ := p3_at (HT.out.kept HK.out.bel) hil
        have HTi : Hid (T[i]? = some T[i]) := List.getElem?_eq_getElem hil
        obtain ⟨g, cap, e9, hbg, hgl⟩ := own3_form HO.out (by omega)
        have hgG := HZ.out g cap e9
        have HNg := Lib.hid (fun g2 cc h => HNe.out g2 cc g cap h e9)
        generalize T[i] = t at *
        obtain ⟨x, y, z⟩ := t
        simp only at c0 c1 c2
        cases e9
        have HOa : Hid (OwnK 3 (wr.alloc (.cells #[.int .i64 x, .int .i64 y, .int .i64 z] 46)) w2.heap.size 46 (.slice (some ⟨g, 0, none⟩) m d9) m (p3Cells l)) := OwnK.alloc HO.out _
        have HQa : Hid (OwnK 3 (wr.alloc (.cells #[.int .i64 x, .int .i64 y, .int .i64 z] 46)) w2.heap.size 55 (.slice A9 n c9) n (p3Cells P)) := OwnK.alloc HQ.out _
        have HCa := Lib.hid (HC.out.alloc (.cells #[.int .i64 x, .int .i64 y, .int .i64 z] 46))
        have HKa := Lib.hid (HK.out.next (new_alloc (Below.refl _ wr) (.cells #[.int .i64 x, .int .i64 y, .int .i64 z] 46)))
        have n2 := HCa.out.cell 0
        have n3 := HCa.out.cell 1
        obtain ⟨⟨k0, k1, k2⟩, f0, f1, f2⟩ := own3_at HOa.out hll hi
        obtain ⟨ho, hbl⟩ := own3_put HOa.out i x z y
        have HO2 := Lib.hid ho
        have HC2 : Hid (Blk ((((wr.alloc (.cells #[.int .i64 x, .int .i64 y, .int .i64 z] 46)).setCell ⟨g, i * 3, none⟩ (.int .i64 x)).setCell ⟨g, i * 3 + 1, none⟩ (.int .i64 z)).setCell ⟨g, i * 3 + 2, none⟩ (.int .i64 y)) G 25 #[.slice A9 n c9, .slice (some ⟨g, 0, none⟩) m d9]) := by
          have q := HCa.out
          exact ((q.far (by show G ≠ g; omega) _).far (by show G ≠ g; omega) _).far (by show G ≠ g; omega) _
        have HQ2 : Hid (OwnK 3 ((((wr.alloc (.cells #[.int .i64 x, .int .i64 y, .int .i64 z] 46)).setCell ⟨g, i * 3, none⟩ (.int .i64 x)).setCell ⟨g, i * 3 + 1, none⟩ (.int .i64 z)).setCell ⟨g, i * 3 + 2, none⟩ (.int .i64 y)) w2.heap.size 55 (.slice A9 n c9) n (p3Cells P)) := by
          have q := HQa.out
          exact ((q.far (fun g2 cc h => HNg.out g2 cc h) _).far (fun g2 cc h => HNg.out g2 cc h) _).far (fun g2 cc h => HNg.out g2 cc h) _
        have HK2 : Hid (MeshAt W (.slice A n c) (.slice (some ⟨b, off, none⟩) m d) ((((wr.alloc (.cells #[.int .i64 x, .int .i64 y, .int .i64 z] 46)).setCell ⟨g, i * 3, none⟩ (.int .i64 x)).setCell ⟨g, i * 3 + 1, none⟩ (.int .i64 z)).setCell ⟨g, i * 3 + 2, none⟩ (.int .i64 y))) :=
          ⟨HKa.out.b0.below hbl (by have := HW2.out; omega), HKa.out.bel.trans (hbl.mono (by have := HW2.out; omega))⟩
        have HI2 : Hid (∀ j, j < m → (l.set i (x, z, y))[j]? = if j < i + 1 then T[j]?.map flipT else T[j]?) := fun j hj => by
          by_cases e : i = j
          · subst e
            rw [List.getElem?_set_self (by omega), if_pos (by omega), HTi.out]
            rfl
          · rw [List.getElem?_set_ne e, HI.out j hj]
            by_cases h1 : j < i
            · rw [if_pos h1, if_pos (by omega)]
            · rw [if_neg h1, if_neg (by omega)]
        clear ho hbl hgl hlt hil
        go_wp2
        go_roundg (gk - 1)
        case measure => omega
        case rel => exact ⟨i + 1, l.set i (x, z, y), by omega, by go_num, by rw [List.length_set]; exact hll, HI2, HK2, HC2, HO2, HQ2⟩
      · have ti : decide ((i : Int) < (m : Int)) = false := by simp; omega
        have hlf : l = T.map flipT := by
          apply List.ext_getElem?
          intro j
          by_cases hj : j < m
          · rw [HI.out j hj, if_pos (by omega), List.getElem?_map]
          · rw [List.getElem?_eq_none (by omega), List.getElem?_eq_none (by rw [List.length_map, HTm.out]; omega)]
        rw [hlf] at HO
        clear HI hlf hll
        have HCf4 : Hid (Calls Tryd.prog 14 #[.agg #[.slice A9 n c9, .slice B9 m d9]] wr fun e w' => e = .returned (.int .i64 r) ∧ Below wr.heap.size wr w') := by
          obtain ⟨_, _, e1, h1⟩ := OwnK.has HQ.out
          obtain ⟨_, _, e2, h2⟩ := OwnK.has HO.out
          cases e1
          cases e2
          exact HCf.out wr A9 c9 B9 d9 HK.out.bel h1 h2
        have ts : (r != r) = false := by simp
        go_wp2_with fail
        refine HCf4.out.mono ?_
        rintro e w5 ⟨rfl, hb5⟩
        have HK5 := Lib.hid (HK.out.next hb5)
        have HC5 := Lib.hid (HC.out.below hb5 HC.out.lt)
        have HO5 := Lib.hid (OwnK.keep HO.out hb5)
        clear hb5 HK HC HO HQ HCf4 m0 m1 m2 m3
        have m0 := HK5.out.b0.cell 0
        have m1 := HK5.out.b0.cell 1
        have m2 := HC5.out.cell 0
        have m3 := HC5.out.cell 1
        by_cases h0 : r = 0
        · have t0 : (r != 0) = false := by simp [h0]
          by_cases hm0 : m = 0
          · have t1 : ((m : Int) == 0) = true := beq_iff_eq.2 (by omega)
            clear h0 hm0
            go_wp2_with fail
            refine (HKn.out _ HK5.out.bel).mono ?_
            rintro e w9 ⟨rfl, hb9⟩
            go_wp2
            go_ret
            exact ⟨rfl, new_call HK5.out.bel hb9⟩
          · have t1 : ((m : Int) == 0) = false := beq_eq_false_iff_ne.2 (by omega)
            have HC0 : Hid (CheckIs P T 0) := h0 ▸ HRr.out
            clear h0
            have hmp : 0 < m := Nat.pos_of_ne_zero hm0
            obtain ⟨k, hk⟩ : ∃ k : Nat, at_.toNat % m = k := ⟨_, rfl⟩
            have hkm : k < m := by rw [← hk]; exact Nat.mod_lt _ hmp
            have hkt : at_.tmod (m : Int) = (k : Int) := by
              rw [← hk, Int.tmod_eq_emod_of_nonneg hat.1]
              have e : at_ = (at_.toNat : Int) := by omega
              conv => lhs; rw [e]
              exact (Int.natCast_emod at_.toNat m).symm
            have hcv : IntKind.wrap .i64 at_ = at_ := by rw [IntKind.wrap_i64]; omega
            have hne0 : (m : Int) ≠ 0 := by omega
            have hkT : k < T.length := by rw [HTm.out]; exact hkm
            have k2 : (k : Int) < (m : Int) := by omega
            obtain ⟨q, hq⟩ := check_total P (T.set k (flipT T[k]))
            have HQo := Lib.hid hq
            have HOne := Lib.hid (one_flipped hkT HC0.out hq)
            clear hk hm0 hq
            go_wp2_with fail
            refine (HCp.out _ HK5.out.bel).mono ?_
            rintro e w6 ⟨A8, c8, B8, d8, rfl, ho1, ho2, hb6, hne8⟩
            rw [HPn.out] at ho1
            rw [HTm.out] at ho2
            rw [HPn.out, HTm.out]
            obtain ⟨g8, cap8, e8, hbg8, hgl8⟩ := own3_form ho2 hmp
            cases e8
            have hZ8 : g8 < w6.heap.size := hgl8
            have HK6 : Hid (MeshAt W (.slice A n c) (.slice B m d) (w6.alloc (.cells #[.slice A8 n c8, .slice (some ⟨g8, 0, none⟩) m d8] 25))) := (HK5.out.next hb6).next (new_alloc (Below.refl _ _) _)
            have HC6 := Lib.hid (Blk.new w6 25 #[.slice A8 n c8, .slice (some ⟨g8, 0, none⟩) m d8])
            have HF6 := Lib.hid ((HC5.out.below hb6 HC5.out.lt).alloc (.cells #[.slice A8 n c8, .slice (some ⟨g8, 0, none⟩) m d8] 25))
            have HG6 : Hid (OwnK 3 (w6.alloc (.cells #[.slice A8 n c8, .slice (some ⟨g8, 0, none⟩) m d8] 25)) w2.heap.size 46 (.slice B9 m d9) m (p3Cells (T.map flipT))) := OwnK.alloc (OwnK.keep HO5.out hb6) _
            have HO6 : Hid (OwnK 3 (w6.alloc (.cells #[.slice A8 n c8, .slice (some ⟨g8, 0, none⟩) m d8] 25)) w5.heap.size 46 (.slice (some ⟨g8, 0, none⟩) m d8) m (p3Cells T)) := OwnK.alloc ho2 _
            have HQ6 : Hid (OwnK 3 (w6.alloc (.cells #[.slice A8 n c8, .slice (some ⟨g8, 0, none⟩) m d8] 25)) w5.heap.size 55 (.slice A8 n c8) n (p3Cells P)) := OwnK.alloc ho1 _
            have HN8 : Hid (∀ g cc, Value.slice A8 n c8 = .slice (some ⟨g, 0, none⟩) n cc → g ≠ g8) := fun g cc e => by
              cases e
              exact hne8 _ _ _ _ rfl rfl
            have HW5 : Hid (W.heap.size + 1 ≤ w5.heap.size) := HK5.out.b0.lt
            clear hb6 ho1 ho2 hne8 hgl8 HK5 HC5 HO5 m0 m1 m2 m3
            have m0 := HK6.out.b0.cell 0
            have m1 := HK6.out.b0.cell 1
            have m2 := HC6.out.cell 0
            have m3 := HC6.out.cell 1
            have m4 := HF6.out.cell 0
            have m5 := HF6.out.cell 1
            go_wp2_with (with_reducible fail)
            generalize w6.alloc (.cells #[.slice A8 n c8, .slice (some ⟨g8, 0, none⟩) m d8] 25) = w7 at *
            generalize w6.heap.size = C at *
            have hlf : (T.map flipT).length = m := by rw [List.length_map]; exact HTm.out
            obtain ⟨gf, capf, ef, _, _⟩ := own3_form HG6.out hmp
            cases ef
            obtain ⟨⟨k0, k1, k3⟩, _⟩ := own3_at HG6.out hlf hkm
            obtain ⟨⟨j0, j1, j2⟩, f0, f1, f2⟩ := own3_at HO6.out HTm.out hkm
            simp only [List.getElem_map] at k0 k1 k3
            obtain ⟨ho, hbl⟩ := own3_put HO6.out k (flipT T[k]).1 (flipT T[k]).2.1 (flipT T[k]).2.2
            have e3 : ((flipT T[k]).1, (flipT T[k]).2.1, (flipT T[k]).2.2) = flipT T[k] := rfl
            rw [e3] at ho
            clear e3
            generalize flipT T[k] = ft at *
            obtain ⟨x, y, z⟩ := ft
            simp only at k0 k1 k3 ho hbl
            have HO7 := Lib.hid ho
            have HC7 : Hid (Blk (((w7.setCell ⟨g8, k * 3, none⟩ (.int .i64 x)).setCell ⟨g8, k * 3 + 1, none⟩ (.int .i64 y)).setCell ⟨g8, k * 3 + 2, none⟩ (.int .i64 z)) C 25 #[.slice A8 n c8, .slice (some ⟨g8, 0, none⟩) m d8]) := by
              have q := HC6.out
              exact ((q.far (by show C ≠ g8; omega) _).far (by show C ≠ g8; omega) _).far (by show C ≠ g8; omega) _
            have HQ7 : Hid (OwnK 3 (((w7.setCell ⟨g8, k * 3, none⟩ (.int .i64 x)).setCell ⟨g8, k * 3 + 1, none⟩ (.int .i64 y)).setCell ⟨g8, k * 3 + 2, none⟩ (.int .i64 z)) w5.heap.size 55 (.slice A8 n c8) n (p3Cells P)) := by
              have q := HQ6.out
              exact ((q.far (fun g2 cc h => HN8.out g2 cc h) _).far (fun g2 cc h => HN8.out g2 cc h) _).far (fun g2 cc h => HN8.out g2 cc h) _
            have HK7 : Hid (MeshAt W (.slice A n c) (.slice B m d) (((w7.setCell ⟨g8, k * 3, none⟩ (.int .i64 x)).setCell ⟨g8, k * 3 + 1, none⟩ (.int .i64 y)).setCell ⟨g8, k * 3 + 2, none⟩ (.int .i64 z))) :=
              ⟨HK6.out.b0.below hbl (by have := HW5.out; omega), HK6.out.bel.trans (hbl.mono (by have := HW5.out; omega))⟩
            clear ho hbl
            go_region
            all_goals
              have HO8 := Lib.hid (OwnK.keep HO7.out (Below.refl _ _).drew)
              have HC8 := Lib.hid (HC7.out.below (Below.refl _ _).drew HC7.out.lt)
              have HQ8 := Lib.hid (OwnK.keep HQ7.out (Below.refl _ _).drew)
              have HK8 := Lib.hid (HK7.out.next (Below.refl _ _).drew)
              clear HO7 HC7 HQ7 HK7 HK6 HC6 HF6 HG6 HO6 HQ6 m0 m1 m2 m3 m4 m5 k0 k1 k3 j0 j1 j2 f0 f1 f2
              obtain ⟨b, off, rfl, hlt, _⟩ := HT.out.spot hmp
              have HCl : Hid (∀ w, Below W.heap.size W w → ∀ j, j < 3 → w.cell? ⟨b, off + k * 3 + j, none⟩ = some (.int .i64 (at3 T[k] j))) := fun w hW j hj => t3_cells (HT.out.kept hW) hkT hj
              have HOn2 : Hid (q = 80 ↔ ∃ j, j < 3 ∧ (at3 T[k] ((j + 1) % 3), at3 T[k] j) ∈ darts T) := by
                show _ ↔ _
                rw [HOne.out]
                constructor
                · rintro ⟨dd, h1, h2⟩
                  obtain ⟨j, hj, rfl⟩ := dirs_mem_at.1 h1
                  exact ⟨j, hj, h2⟩
                · rintro ⟨j, hj, h⟩
                  exact ⟨_, dirs_mem_at.2 ⟨j, hj, rfl⟩, h⟩
              generalize T[k] = tk at *
              clear HOne hlt
              go_wp2
              go_loopg [11, 12] 3 (fun g s11 s12 wx => ∃ (i : Nat) (sd : Bool), i + g = 3 ∧ s12 = .int .i64 i ∧ s11 = .bool sd ∧ Hid (sd = true ↔ ∃ j, j < i ∧ (at3 tk ((j + 1) % 3), at3 tk j) ∈ darts T) ∧ Hid (MeshAt W (.slice A n c) (.slice (some ⟨b, off, none⟩) m d) wx) ∧ Hid (Blk wx C 25 #[.slice A8 n c8, .slice (some ⟨g8, 0, none⟩) m d8]) ∧ Hid (OwnK 3 wx w5.heap.size 46 (.slice (some ⟨g8, 0, none⟩) m d8) m (p3Cells (T.set k (x, y, z)))) ∧ Hid (OwnK 3 wx w5.heap.size 55 (.slice A8 n c8) n (p3Cells P)))
              case atStart => exact ⟨0, false, by omega, rfl, rfl, ⟨fun h => (by cases h), fun ⟨j, hj, _⟩ => absurd hj (by omega)⟩, HK8, HC8, HO8, HQ8⟩
              case round =>
                obtain ⟨i, sd, hig3, rfl, rfl, HSd, HK, HC, HO, HQ⟩ := hrel
                clear HK8 HC8 HO8 HQ8
                have m0 := HK.out.b0.cell 0
                have m1 := HK.out.b0.cell 1
                have m2 := HC.out.cell 0
                have m3 := HC.out.cell 1
                by_cases hi3 : i < 3
                · have ti3 : decide ((i : Int) < 3) = true := by simp; omega
                  have i2 : (i : Int) < 3 := by omega
                  cases sd with
                  | true =>
                    have HSd2 : Hid (∃ j, j < i + 1 ∧ (at3 tk ((j + 1) % 3), at3 tk j) ∈ darts T) := by
                      obtain ⟨j, hj, h⟩ := HSd.out.1 rfl
                      exact ⟨j, by omega, h⟩
                    go_wp2
                    go_region
                    all_goals
                      have HK9 := Lib.hid (HK.out.next (Below.refl _ _).drew)
                      have HC9 := Lib.hid (HC.out.below (Below.refl _ _).drew HC.out.lt)
                      have HO9 := Lib.hid (OwnK.keep HO.out (Below.refl _ _).drew)
                      have HQ9 := Lib.hid (OwnK.keep HQ.out (Below.refl _ _).drew)
                      go_wp2
                      go_roundg (gk - 1)
                      case measure => omega
                      case rel => exact ⟨i + 1, true, by omega, by go_num, rfl, ⟨fun _ => HSd2.out, fun _ => rfl⟩, HK9, HC9, HO9, HQ9⟩
                  | false =>
                    have HSd2 : Hid (∀ z9, z9 = hasF T (at3 tk ((i + 1) % 3)) (at3 tk i) → (decide (0 ≤ z9) = true ↔ ∃ j, j < i + 1 ∧ (at3 tk ((j + 1) % 3), at3 tk j) ∈ darts T)) := fun z9 hz9 => by
                      subst hz9
                      rw [decide_eq_true_eq, hasF_nonneg]
                      constructor
                      · intro h; exact ⟨i, by omega, h⟩
                      · rintro ⟨j, hj, h⟩
                        by_cases e : j = i
                        · subst e; exact h
                        · have := HSd.out.2 ⟨j, by omega, h⟩
                          cases this
                    have tn := next3 hi3
                    have g1 : IntKind.wrap .i64 ((i : Int) + 1) = (i : Int) + 1 := by rw [IntKind.wrap_i64]; omega
                    have f1 : wrap64 ((i : Int) + 1) = (i : Int) + 1 := by unfold wrap64; omega
                    have hl1 : (i + 1) % 3 < 3 := Nat.mod_lt _ (by decide)
                    have HS : Hid (∀ w, Below wr.heap.size wr w → w.cell? ⟨W.heap.size, 1, none⟩ = some (.slice (some ⟨b, off, none⟩) m d) ∧ w.cell? ⟨b, off + k * 3 + i, none⟩ = some (.int .i64 (at3 tk i)) ∧ w.cell? ⟨b, off + k * 3 + (i + 1) % 3, none⟩ = some (.int .i64 (at3 tk ((i + 1) % 3)))) := fun w hW => by
                      have h := HK.out.next hW
                      exact ⟨h.b0.cell 1, HCl.out w h.bel i hi3, HCl.out w h.bel _ hl1⟩
                    have HHk := Lib.hid (HHs.out (at3 tk ((i + 1) % 3)) (at3 tk i) wr.drew (HK.out.bel.drew))
                    have HBv0 : Hid (Below wr.heap.size wr wr.drew) := (Below.refl _ _).drew
                    have HSd3 := Lib.hid (HSd2.out _ rfl)
                    clear HSd HSd2
                    generalize (i + 1) % 3 = i1 at tn hl1 HS HHk HSd3
                    have hl2 : (i1 : Int) < 3 := Int.ofNat_lt.2 hl1
                    generalize at3 tk i = pv at HS HHk HSd3
                    generalize at3 tk i1 = qv at HS HHk HSd3
                    generalize hasF T qv pv = z9 at HHk HSd3
                    go_wp2_with (with_reducible fail)
                    go_region_held3 (fun w => w.cell? ⟨W.heap.size, 1, none⟩ = some (.slice (some ⟨b, off, none⟩) m d) ∧ w.cell? ⟨b, off + k * 3 + i, none⟩ = some (.int .i64 pv) ∧ w.cell? ⟨b, off + k * 3 + i1, none⟩ = some (.int .i64 qv)) (first | (with_reducible exact HS.out _ HBv0.out)) (first
                      | (go_at_call 28; (with_reducible refine HHk.out.mono ?_); rintro e v1 ⟨rfl, rfl⟩))
                    all_goals
                      clear tn g1 f1 hl1 hl2
                      have HK9 := Lib.hid (HK.out.next HBv0.out)
                      have HC9 := Lib.hid (HC.out.below HBv0.out HC.out.lt)
                      have HO9 := Lib.hid (OwnK.keep HO.out HBv0.out)
                      have HQ9 := Lib.hid (OwnK.keep HQ.out HBv0.out)
                      go_wp2
                      go_roundg (gk - 1)
                      case measure => omega
                      case rel => exact ⟨i + 1, decide (0 ≤ z9), by omega, by go_num, rfl, HSd3, HK9, HC9, HO9, HQ9⟩
                · have ti3 : decide ((i : Int) < 3) = false := by simp; omega
                  obtain rfl : i = 3 := by omega
                  have tE : ((q == 80) == sd) = true := by
                    rw [beq_iff_eq, Bool.eq_iff_iff, beq_iff_eq, HOn2.out, HSd.out]
                  have HCo4 : Hid (Calls Tryd.prog 14 #[.agg #[.slice A8 n c8, .slice (some ⟨g8, 0, none⟩) m d8]] wr fun e w' => e = .returned (.int .i64 q) ∧ Below wr.heap.size wr w') := by
                    obtain ⟨_, _, e1, h1⟩ := OwnK.has HQ.out
                    obtain ⟨_, _, e2, h2⟩ := OwnK.has HO.out
                    cases e1
                    cases e2
                    exact HCo.out wr A8 c8 _ d8 (T.set k (x, y, z)) q HK.out.bel h1 h2 HQo.out
                  clear HSd HOn2
                  go_wp2_with fail
                  refine HCo4.out.mono ?_
                  rintro e w9 ⟨rfl, hb9⟩
                  have HK9 := Lib.hid (HK.out.next hb9)
                  clear hb9
                  go_wp2_with fail
                  refine (HKn.out _ HK9.out.bel).mono ?_
                  rintro e w10 ⟨rfl, hb10⟩
                  go_wp2
                  go_ret
                  exact ⟨rfl, new_call HK9.out.bel hb10⟩
        · have t0 : (r != 0) = true := bne_iff_ne.2 h0
          clear h0
          go_wp2_with fail
          refine (HKn.out _ HK5.out.bel).mono ?_
          rintro e w9 ⟨rfl, hb9⟩
          go_wp2
          go_ret
          exact ⟨rfl, new_call HK5.out.bel hb9⟩
  · have HLo := Lib.hid (fun w => lawlong_any A n c B m d true w (by
      by_cases h1 : 40 < n
      · rw [decide_eq_true h1]; rfl
      · rw [decide_eq_true (show 60 < m by omega)]; exact Bool.or_true _))
    clear hp ht hl
    go_enter Tryd.func10, Tryd.ntmps10
    go_wp2_with fail
    refine (HLo.out _).mono ?_
    rintro e w1 ⟨rfl, hb1⟩
    go_wp2_with fail
    refine (HKn.out _ (HK0.out.next hb1).bel).mono ?_
    rintro e w2 ⟨rfl, hb2⟩
    go_wp2
    go_ret
    exact ⟨rfl, new_call (HK0.out.next hb1).bel hb2⟩

set_option maxRecDepth 100000 in
theorem reads (os : Os) {H : Type} (enc : TypeId × Value → H) : ∃ places, DataW.whole enc Tryd.prog ((laidWorld os).forCall (fun _ _ => 0) ⟨#[], #[.agg #[.slice none 0 0, .slice none 0 0], .int .u8 0], []⟩).memory Tryd.f10.params.toList Rows.meshFlipsSpec.vars false (#[.agg #[.slice none 0 0, .slice none 0 0], .int .u8 0] : Array Value).toList 8 = some ([.agg [.nil, .nil], .lit (.int .u8 0)], [], places) := ⟨[], by kernel_rfl⟩
set_option maxRecDepth 100000 in
theorem lifted (os : Os) (started : os.Started) (H : Type) (enc : TypeId × Value → H) (F : Stop.Interp) :
    ReturnsInHanded {} Tryd.checked os 10 .any ((OpenSpec.ofChange Rows.meshFlipsSpec).preRow enc Tryd.prog Tryd.f10 Rows.meshFlipsRow.domain false Rows.meshFlipsRow.laid) (((OpenSpec.ofChange Rows.meshFlipsSpec).at F).post enc Tryd.prog Tryd.f10 false true false false) := by
  obtain ⟨places, hx⟩ := reads os enc
  refine returnsInHanded_of_row (C := Tryd.checked) (s := OpenSpec.ofChange Rows.meshFlipsSpec) Tryd.own started (by kernel_rfl) Tryd.func10
    (witness_row_at (enc := enc) (C := Tryd.checked) false (laidWorld os) #[.agg #[.slice none 0 0, .slice none 0 0], .int .u8 0] rfl (by kernel_rfl) (by kernel_rfl) (by kernel_rfl)
      (OpenSpec.preRow_of_cond 8 hx (by kernel_rfl) (fun k hk => by cases hk) (by kernel_rfl) (laidMet_of_run' 8 (by kernel_rfl) (by kernel_rfl)))) ?_
  intro W base args ds gs before hval0 hW _ _ hsz0 hL _ _
  have hbe : BehW W := behW_of_laid hL
  have hval : ∀ (j : Nat) t v, Tryd.f10.params[j]? = some t → args[j]? = some v → Value.okWide Tryd.prog W .any base t v := hval0
  have hW' := hW
  obtain ⟨p, q, hA0, hV, rfl, _, _⟩ := hW
  have hA : DataW.TrodAll enc Tryd.prog W 0 (fun _ => true) true Tryd.f10.params.toList args.toList ds p := hA0
  rw [Tryd.params10] at hA hval
  obtain ⟨v0, v1, d0, d1, p0, p1, rfl, rfl, rfl, h0, h1⟩ := trodAll_two hA
  obtain ⟨rfl, rfl⟩ := trodVars_none hV
  obtain ⟨A0, n0, c0, P0, B0, m0, e0, T0, rfl, hp0, ht0, bp0, bt0, hn0, hm0⟩ := open_mesh (hval 0 25 v0 rfl rfl) h0
  obtain ⟨a1, rfl, rfl, rfl, w1⟩ := open_int Tryd.underlying5 (hval 1 5 v1 rfl rfl) h1
  exact (walk A0 n0 c0 P0 B0 m0 e0 T0 a1 W hbe hp0 ht0 bp0 bt0 hn0 hm0 (wf_u8 w1)).mono fun e W' he =>
    law_post rfl rfl (by rw [Tryd.params10]; intro t ht; simp at ht; rcases ht with rfl | rfl <;> exact ⟨by kernel_rfl, of_decide_eq_true (by kernel_rfl)⟩) hW' rfl he

theorem said : Rows.MeshFlipsSaid :=
  OpenClaim.holds_of_cond 10 Tryd.f10 rfl rfl rfl rfl rfl rfl rfl ⟨rfl, rfl, rfl, rfl, rfl⟩ rfl rfl rfl rfl rfl (by kernel_rfl) Tryd.func10 (by kernel_rfl)
    (of_decide_eq_true (by kernel_rfl)) (by unfold Func.isWrapper; first | (rw [if_pos (by decide +kernel)]; kernel_rfl) | (rw [if_neg (by decide +kernel)]; exact ⟨rfl, rfl⟩))
    (fun os started H enc _ F => by rw [OpenClaim.pre_eq_preRow]; exact lifted os started H enc F)
theorem plain (f : FuncId) (fn : Func) (hf : Tryd.pinned.checked.prog.funcNamed "lapidary/lapidarylaw10.MeshFlips" = some f) (hfn : Tryd.pinned.checked.prog.funcs[f]? = some fn) :
    false = Tryd.pinned.checked.prog.looks [] ∧ ∀ (j : Nat) t, fn.params[j]? = some t → Tryd.pinned.checked.prog.wantsStandIn t = false := by
  obtain rfl : f = 10 := Option.some.inj ((show Tryd.prog.funcNamed "lapidary/lapidarylaw10.MeshFlips" = some 10 by kernel_rfl).symm.trans hf) |>.symm
  obtain rfl : fn = Tryd.f10 := (Option.some.inj (Tryd.func10.symm.trans hfn)).symm
  refine ⟨by kernel_rfl, fun j t ht => ?_⟩
  rw [Tryd.params10] at ht
  have hm : t ∈ [25, 5] := by simpa using Array.mem_of_getElem? ht
  have hall : ([25, 5].all fun u => !Tryd.prog.wantsStandIn u) = true := by kernel_rfl
  exact (show Tryd.prog.wantsStandIn t = false by simpa using List.all_eq_true.1 hall t hm)
theorem proved : Rows.MeshFlipsCardSaid :=
  Claim7.holds_tied_plain_at .later [] _ _ _ _ said (fun _ h => by cases h) (by kernel_rfl) (fun _ h => by cases h) meshFlips_row_tie rfl ⟨rfl, rfl⟩ (by kernel_rfl) rfl plain (by kernel_rfl)
end Go.Proofs.YtckjmnbglbegmaaDoor.meshFlips
