/- lapidaryref08: Add, Neg. -/
import Derived.Test.YtnhoinonojhgiaaWideRef
import Derived.Test.YtnhoinonojhgiaaKeep
namespace Go.Proofs.Ytnhoinonojhgiaa
open Go.RowKit

/-- Two numbers that came in, and the answer's place. -/
structure Trio (w : World) (A : Option Addr) (c : Nat) (B : Option Addr) (d : Nat) (wx : World) : Prop where
  b0 : Blk wx w.heap.size 39 #[.slice A 8 c]
  b1 : Blk wx (w.heap.size + 1) 39 #[.slice B 8 d]
  b2 : Blk wx (w.heap.size + 2) 39 #[.slice none 0 0]
  bel : Below w.heap.size w wx
theorem Trio.new (w : World) (A : Option Addr) (c : Nat) (B : Option Addr) (d : Nat) : Trio w A c B d (((w.alloc (.cells #[.slice A 8 c] 39)).alloc (.cells #[.slice B 8 d] 39)).alloc (.cells #[.slice none 0 0] 39)) := by
  refine ⟨((Blk.new w _ _).alloc _).alloc _, ?_, ?_, new_alloc (new_alloc (new_alloc (Below.refl _ _) _) _) _⟩
  · have h := (Blk.new (w.alloc (.cells #[.slice A 8 c] 39)) 39 #[.slice B 8 d]).alloc (.cells #[.slice none 0 0] 39)
    rw [show (w.alloc (.cells #[.slice A 8 c] 39)).heap.size = w.heap.size + 1 from Array.size_push _] at h
    exact h
  · have h := Blk.new ((w.alloc (.cells #[.slice A 8 c] 39)).alloc (.cells #[.slice B 8 d] 39)) 39 #[.slice none 0 0]
    rw [show ((w.alloc (.cells #[.slice A 8 c] 39)).alloc (.cells #[.slice B 8 d] 39)).heap.size = w.heap.size + 2 from by show (Array.push _ _).size = _; rw [Array.size_push]; exact congrArg (· + 1) (Array.size_push _)] at h
    exact h
theorem Trio.next {w wx w' : World} {A : Option Addr} {c : Nat} {B : Option Addr} {d : Nat} (h : Trio w A c B d wx) (hb : Below (w.heap.size + 3) wx w') : Trio w A c B d w' :=
  ⟨h.b0.below hb (by omega), h.b1.below hb (by omega), h.b2.below hb (by omega), h.bel.trans (hb.mono (by omega))⟩
theorem Trio.size {w wx : World} {A : Option Addr} {c : Nat} {B : Option Addr} {d : Nat} (h : Trio w A c B d wx) : w.heap.size + 3 ≤ wx.heap.size := h.b2.lt
theorem row_ge {k : Nat} {w : World} {base : Nat} {e : TypeId} {v : Value} {n : Nat} {xs : List Value} (h : OwnK k w base e v n xs) : ∀ g, v.ownBlock = some g → base ≤ g := fun g hg => (World.ownsRow.lt h g hg).1
theorem sum_at {a b : List Int} {i : Nat} (ha : i < a.length) (hb : i < b.length) : List.zipWith (· + ·) (a.take (i + 1)) (b.take (i + 1)) = List.zipWith (· + ·) (a.take i) (b.take i) ++ [a[i] + b[i]] := by
  rw [List.take_succ_eq_append_getElem ha, List.take_succ_eq_append_getElem hb, List.zipWith_append (by simp; omega)]
  rfl
theorem sum_bd {a b : List Int} {M : Int} (ha : ∀ d ∈ a, 0 ≤ d ∧ d < M) (hb : ∀ d ∈ b, 0 ≤ d ∧ d < M) : ∀ d ∈ List.zipWith (· + ·) a b, 0 ≤ d ∧ d < 2 * M := by
  intro d hd
  obtain ⟨i, hi, rfl⟩ := List.mem_iff_getElem.1 hd
  rw [List.getElem_zipWith]
  rw [List.length_zipWith] at hi
  have h1 := ha _ (List.getElem_mem (show i < a.length by omega))
  have h2 := hb _ (List.getElem_mem (show i < b.length by omega))
  omega
set_option maxRecDepth 100000 in
set_option maxHeartbeats 400000 in
theorem ref8Add_any (A : Option Addr) (c : Nat) (xs : List Int) (B : Option Addr) (d : Nat) (ys : List Int) (w : World) (hA : Has w A 8 c (intVs xs)) (hB : Has w B 8 d (intVs ys)) (ha : ∀ d ∈ xs, 0 ≤ d ∧ d < 65536) (hb : ∀ d ∈ ys, 0 ≤ d ∧ d < 65536) :
    Calls Try.prog 43 #[.agg #[.slice A 8 c], .agg #[.slice B 8 d]] w (Bigd w (valD xs + valD ys)) := by
  obtain ⟨kz, ks⟩ := zero_of_info bigInfo
  have HAl : Hid (xs.length = 8) := by have := hA.len; rw [intVs_len] at this; exact this
  have HBl : Hid (ys.length = 8) := by have := hB.len; rw [intVs_len] at this; exact this
  have HA := Lib.hid hA
  have HB := Lib.hid hB
  have HAd := Lib.hid ha
  have HBd := Lib.hid hb
  obtain ⟨ba, oa, e1, _, _⟩ := hA.spot (by decide)
  obtain ⟨bb, ob, e2, _, _⟩ := hB.spot (by decide)
  subst e1 e2
  clear hA hB ha hb
  have HT0 := Lib.hid (Trio.new w (some ⟨ba, oa, none⟩) c (some ⟨bb, ob, none⟩) d)
  go_enter Try.func43, Try.ntmps43
  go_wp2
  go_loopg [5, 6] 8 (fun g s5 s6 wx => ∃ i : Nat, i + g = 8 ∧ s6 = .int .i64 i ∧ Hid (OwnK 1 wx (w.heap.size + 3) 3 s5 i (intVs (List.zipWith (· + ·) (xs.take i) (ys.take i)))) ∧ Hid (Trio w (some ⟨ba, oa, none⟩) c (some ⟨bb, ob, none⟩) d wx))
  case atStart => exact ⟨0, by omega, rfl, OwnK.nil _ _ _ _, HT0⟩
  case round =>
    obtain ⟨i, hig, rfl, HO, HT⟩ := hrel
    clear HT0
    have hz := HT.out.size
    by_cases hi : i < 8
    · have ti : decide ((i : Int) < 8) = true := by simp; omega
      have hia : i < xs.length := by rw [HAl.out]; exact hi
      have hib : i < ys.length := by rw [HBl.out]; exact hi
      obtain ⟨_, _, e1, _, hca⟩ := (HA.out.kept HT.out.bel).spot (by decide)
      obtain ⟨_, _, e2, _, hcb⟩ := (HB.out.kept HT.out.bel).spot (by decide)
      cases e1
      cases e2
      have hx := hca _ _ (intVs_at hia)
      have hy := hcb _ _ (intVs_at hib)
      have hxb := HAd.out _ (List.getElem_mem hia)
      have hyb := HBd.out _ (List.getElem_mem hib)
      have hsum := sum_at hia hib
      generalize xs[i] = x at *
      generalize ys[i] = y at *
      have HS : Hid (intVs (List.zipWith (· + ·) (xs.take i) (ys.take i)) ++ intVs [x + y] = intVs (List.zipWith (· + ·) (xs.take (i + 1)) (ys.take (i + 1)))) := by show _ = _; rw [← intVs_app, hsum]
      have c0 : wr.cell? ⟨w.heap.size, 0, none⟩ = some (.slice (some ⟨ba, oa, none⟩) 8 c) := HT.out.b0.cell 0
      have c1 : wr.cell? ⟨w.heap.size + 1, 0, none⟩ = some (.slice (some ⟨bb, ob, none⟩) 8 d) := HT.out.b1.cell 0
      have HO1 : Hid (OwnK 1 (wr.alloc (.cells #[.int .i64 (x + y)] 3)).drew (w.heap.size + 3) 3 u5 i (intVs (List.zipWith (· + ·) (xs.take i) (ys.take i)))) := HO.out.alloc _
      have HN1 : Hid (HasK 1 (wr.alloc (.cells #[.int .i64 (x + y)] 3)).drew (some ⟨wr.heap.size, 0, none⟩) 1 1 (intVs [x + y])) := (HasK.new_at 1 wr #[.int .i64 (x + y)] 3 _ 1 rfl rfl).kept (Below.refl _ _).drew
      have hz1 : w.heap.size + 3 ≤ (wr.alloc (.cells #[.int .i64 (x + y)] 3)).drew.heap.size := by show _ ≤ (wr.heap.push _).size; simp; omega
      have hi8 : (i : Int) < 8 := by omega
      have hxy : IntKind.wrap .i64 (x + y) = x + y := by rw [IntKind.wrap_i64]; omega
      clear hca hcb hsum hia hib
      go_wp2
      go_region_law (first
        | (refine step_joinGK rfl _ _ 37 rfl elemI.toK (by decide) (w.heap.size + 3) _ i _ rfl HO1.out _ 1 1 (intVs [x + y]) rfl HN1.out (intVs_one _) (by omega) (by decide) hz1 ?_
           intro v5 w5 hown5 hgr5 hwh5
           rw [HS.out] at hown5
           have HO5 := Lib.hid hown5
           have HG5 := Lib.hid hgr5
           clear hown5 hgr5 hwh5))
      all_goals
        have hal : Below (w.heap.size + 3) wr (wr.alloc (.cells #[.int .i64 (x + y)] 3)).drew := (((Below.refl _ _).alloc (Nat.le_refl _) _).drew).mono hz
        have HT5 := Lib.hid (HT.out.next (hal.trans ((Chg.of_grown HG5.out).below (fun g e => row_ge HO.out g e) hz1)))
        clear hal HG5 HO1 HN1 hz1
        go_wp2
        go_roundg (gk - 1)
        case measure => omega
        case rel => exact ⟨i + 1, by omega, by go_num, HO5, HT5⟩
    · obtain rfl : i = 8 := by omega
      rw [List.take_of_length_le (by rw [HAl.out]; decide), List.take_of_length_le (by rw [HBl.out]; decide)] at HO
      have hlz : (List.zipWith (· + ·) xs ys).length = 8 := by rw [List.length_zipWith, HAl.out, HBl.out]; rfl
      obtain ⟨A9, c9, hv, hh⟩ := HO.out.has
      subst hv
      have HSe := Lib.hid (ref8Settled_any A9 c9 (List.zipWith (· + ·) xs ys) wr ⟨by rw [intVs_len]; exact hlz, hh.cap, hh.bare, hh.spot⟩ (fun d hd => by have := sum_bd HAd.out HBd.out d hd; omega))
      have HV : Hid (valD (List.zipWith (· + ·) xs ys) = valD xs + valD ys) := valD_add xs ys (by rw [HAl.out, HBl.out])
      clear hh hlz
      go_wp2_with fail
      refine HSe.out.mono ?_
      rintro e w2 ⟨A2, c2, rfl, hh2, hb2, hn2⟩
      rw [HV.out] at hh2
      have HT2 := Lib.hid (HT.out.next (hb2.mono hz))
      have fz := HT2.out.b2.frozen 0
      have cz : w2.cell? ⟨w.heap.size + 2, 0, none⟩ = some (.slice none 0 0) := HT2.out.b2.cell 0
      have HP := Lib.hid (big_pass HT2.out.b2 (Nat.le_add_right _ 2) hh2 (fun b off hA => by have := hn2 b off hA; omega) HT2.out.bel)
      clear hh2 hb2 hn2
      go_wp2
      exact bodyPost_ret (results_cell8 Try.results43 rfl HP.out.1) rfl HP.out.2
/-- One number that came in, and the answer's place. -/
structure Duo (w : World) (A : Option Addr) (c : Nat) (wx : World) : Prop where
  b0 : Blk wx w.heap.size 39 #[.slice A 8 c]
  b1 : Blk wx (w.heap.size + 1) 39 #[.slice none 0 0]
  bel : Below w.heap.size w wx
theorem Duo.new (w : World) (A : Option Addr) (c : Nat) : Duo w A c ((w.alloc (.cells #[.slice A 8 c] 39)).alloc (.cells #[.slice none 0 0] 39)) := by
  refine ⟨(Blk.new w _ _).alloc _, ?_, new_alloc (new_alloc (Below.refl _ _) _) _⟩
  have h := Blk.new (w.alloc (.cells #[.slice A 8 c] 39)) 39 #[.slice none 0 0]
  rw [show (w.alloc (.cells #[.slice A 8 c] 39)).heap.size = w.heap.size + 1 from Array.size_push _] at h
  exact h
theorem Duo.next {w wx w' : World} {A : Option Addr} {c : Nat} (h : Duo w A c wx) (hb : Below (w.heap.size + 2) wx w') : Duo w A c w' :=
  ⟨h.b0.below hb (by omega), h.b1.below hb (by omega), h.bel.trans (hb.mono (by omega))⟩
theorem Duo.size {w wx : World} {A : Option Addr} {c : Nat} (h : Duo w A c wx) : w.heap.size + 2 ≤ wx.heap.size := h.b1.lt
set_option maxRecDepth 100000 in
set_option maxHeartbeats 400000 in
theorem ref8Neg_any (A : Option Addr) (c : Nat) (x : Int) (w : World) (hA : Has w A 8 c (intVs (digI 8 x))) :
    Calls Try.prog 44 #[.agg #[.slice A 8 c]] w (Bigd w (-x)) := by
  obtain ⟨kz, ks⟩ := zero_of_info bigInfo
  have HXl := Lib.hid (digI_len 8 x)
  have HXb := Lib.hid (digI_bd 8 x)
  have HA := Lib.hid hA
  obtain ⟨ba, oa, e1, _, _⟩ := hA.spot (by decide)
  subst e1
  clear hA
  have HV : Hid (digI 8 (valD ((digI 8 x).map (65535 - ·)) + valD (digI 8 1)) = digI 8 (-x)) := digI_cong (by
    rw [valD_neg, digI_len, powB8]
    obtain ⟨t, ht⟩ := val_cong x
    refine ⟨1 + t, ?_⟩
    rw [show valD (digI 8 1) = 1 from by decide, Int.mul_add]
    omega)
  generalize digI 8 x = xs at *
  have HD0 := Lib.hid (Duo.new w (some ⟨ba, oa, none⟩) c)
  go_enter Try.func44, Try.ntmps44
  go_wp2
  go_loopg [3, 4] 8 (fun g s3 s4 wx => ∃ i : Nat, i + g = 8 ∧ s4 = .int .i64 i ∧ Hid (Own wx (w.heap.size + 2) 3 s3 (intVs ((xs.take i).map (65535 - ·)))) ∧ Hid (Duo w (some ⟨ba, oa, none⟩) c wx))
  case atStart => exact ⟨0, by omega, rfl, Own.nil _ _ _, HD0⟩
  case round =>
    obtain ⟨i, hig, rfl, HO, HT⟩ := hrel
    clear HD0
    have hz := HT.out.size
    by_cases hi : i < 8
    · have ti : decide ((i : Int) < 8) = true := by simp; omega
      have hia : i < xs.length := by rw [HXl.out]; exact hi
      obtain ⟨_, _, e1, _, hca⟩ := (HA.out.kept HT.out.bel).spot (by decide)
      cases e1
      have hx := hca _ _ (intVs_at hia)
      have hxb := HXb.out _ (List.getElem_mem hia)
      have hT := List.take_succ_eq_append_getElem hia
      have hlen : (intVs ((xs.take i).map (65535 - ·))).length ≤ 8 := by rw [intVs_len, List.length_map, List.length_take]; omega
      generalize xs[i] = y at *
      have HS : Hid (intVs ((xs.take i).map (65535 - ·)) ++ intVs [65535 - y] = intVs ((xs.take (i + 1)).map (65535 - ·))) := by show _ = _; rw [← intVs_app, hT, List.map_append]; rfl
      have c0 : wr.cell? ⟨w.heap.size, 0, none⟩ = some (.slice (some ⟨ba, oa, none⟩) 8 c) := HT.out.b0.cell 0
      clear hca hT hia
      go_wp2_with (at_builtin
                   refine wpList_join rfl _ _ 37 rfl elemI (w.heap.size + 2) _ _ rfl (HO.out.alloc _) _ 1 1 (intVs [65535 - y]) rfl (Has.one _ _ _) (intVs_one _) (by omega) (by decide) (Nat.le_trans hz (new_alloc (Below.refl _ wr) _).size) ?_
                   intro v2 w2 hown2 hbel2
                   rw [HS.out] at hown2
                   have HO2 := Lib.hid hown2
                   have HT2 := Lib.hid (HT.out.next ((((Below.refl _ wr).alloc (Nat.le_refl _) (.cells #[.int .i64 (65535 - y)] 3)).mono hz).trans hbel2))
                   clear hown2 hbel2)
      go_roundg (gk - 1)
      case measure => omega
      case rel => exact ⟨i + 1, by omega, by go_num, HO2, HT2⟩
    · obtain rfl : i = 8 := by omega
      rw [List.take_of_length_le (by rw [HXl.out]; decide)] at HO
      obtain ⟨A9, c9, hv, hh⟩ := own8 HO.out (by rw [List.length_map]; exact HXl.out)
      subst hv
      have HH9 := Lib.hid hh
      have HOf := Lib.hid (ref8Of_any 1 wr (by unfold i64W; decide))
      have HAd := Lib.hid (fun W B d hB hW => ref8Add_any A9 c9 (xs.map (65535 - ·)) B d (digI 8 1) W (hh.kept hW) hB (fun d hd => by
        obtain ⟨y, hy, rfl⟩ := List.mem_map.1 hd
        have := HXb.out y hy
        omega) (digI_bd 8 1))
      clear hh
      go_wp2_with fail
      refine HOf.out.mono ?_
      rintro e w1 ⟨A1, c1, rfl, hh1, hb1, _⟩
      have HAw := Lib.hid (HAd.out w1 A1 c1 hh1 hb1)
      have HT1 := Lib.hid (HT.out.next (hb1.mono hz))
      have hz1 := HT1.out.size
      clear hh1 hb1 HOf HAd
      go_wp2_with fail
      refine HAw.out.mono ?_
      rintro e w2 ⟨A2, c2, rfl, hh2, hb2, hn2⟩
      rw [HV.out] at hh2
      have HT2 := Lib.hid (HT1.out.next (hb2.mono hz1))
      have fz := HT2.out.b1.frozen 0
      have cz : w2.cell? ⟨w.heap.size + 1, 0, none⟩ = some (.slice none 0 0) := HT2.out.b1.cell 0
      have HP := Lib.hid (big_pass HT2.out.b1 (Nat.le_add_right _ 1) hh2 (fun b off hA => by have := hn2 b off hA; omega) HT2.out.bel)
      clear hh2 hb2 hn2
      go_wp2
      exact bodyPost_ret (results_cell8 Try.results44 rfl HP.out.1) rfl HP.out.2
end Go.Proofs.Ytnhoinonojhgiaa
