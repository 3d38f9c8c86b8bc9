/- Of any three rows of bytes CrcLinear answers true: of as many bytes the checksum of their xor is the xor of their checksums. Conditions: none. -/
import Derived.Test.YtlmecbclnhkmbaaLinear
import Derived.Test.YtlmecbclnhkmbaaFlow
import Derived.Test.YtlmecbclnhkmbaaLaw
namespace Go.Proofs.Ytlmecbclnhkmbaa.crcLinear
open Go.ChangeShapes Go.WideShapes Go.ChangeAt Go.RowKit

/-- What each operation of the last statement yields, whatever the order. -/
def linFact (X X0 X1 X2 Y m : Nat) (vx sa va sb vb sd vd : Value) : Nat → Value → World → Prop
  | 0, v, _ => v = vx
  | 1, v, w => ∃ g, v = .slice (some ⟨g, 0, none⟩) 1 1 ∧ Rowd w g vx
  | 2, v, _ => v = .int .u32 (X : Int)
  | 3, v, _ => v = sa
  | 4, v, _ => v = .int .i64 (m : Int)
  | 5, v, _ => v = va
  | 6, v, w => ∃ g, v = .slice (some ⟨g, 0, none⟩) 1 1 ∧ Rowd w g va
  | 7, v, _ => v = .int .u32 (X0 : Int)
  | 8, v, _ => v = sb
  | 9, v, _ => v = .int .i64 (m : Int)
  | 10, v, _ => v = vb
  | 11, v, w => ∃ g, v = .slice (some ⟨g, 0, none⟩) 1 1 ∧ Rowd w g vb
  | 12, v, _ => v = .int .u32 (X1 : Int)
  | 13, v, _ => v = .int .u32 (Y : Int)
  | 14, v, _ => v = sd
  | 15, v, _ => v = .int .i64 (m : Int)
  | 16, v, _ => v = vd
  | 17, v, w => ∃ g, v = .slice (some ⟨g, 0, none⟩) 1 1 ∧ Rowd w g vd
  | 18, v, _ => v = .int .u32 (X2 : Int)
  | 19, v, _ => v = .int .u32 (X : Int)
  | _, v, _ => v = .bool true
theorem linFact_kept {X X0 X1 X2 Y m : Nat} {vx sa va sb vb sd vd : Value} (i : Nat) (v : Value) (w w' : World) (hb : Below w.heap.size w w') (h : linFact X X0 X1 X2 Y m vx sa va sb vb sd vd i v w) :
    linFact X X0 X1 X2 Y m vx sa va sb vb sd vd i v w' := by
  have hr : ∀ u, (∃ g, v = .slice (some ⟨g, 0, none⟩) 1 1 ∧ Rowd w g u) → ∃ g, v = .slice (some ⟨g, 0, none⟩) 1 1 ∧ Rowd w' g u := fun u ⟨g, e, hg⟩ => ⟨g, e, hg.call hb⟩
  match i with
  | 1 => exact hr _ h
  | 6 => exact hr _ h
  | 11 => exact hr _ h
  | 17 => exact hr _ h
  | 0 | 2 | 3 | 4 | 5 | 7 | 8 | 9 | 10 | 12 | 13 | 14 | 15 | 16 | 18 | 19 => exact h
  | n + 20 => exact h

set_option maxRecDepth 100000 in
set_option maxHeartbeats 2000000 in
theorem walk (A : Option Addr) (n c : Nat) (bs : List Nat) (A1 : Option Addr) (n1 c1 : Nat) (bs1 : List Nat) (A2 : Option Addr) (n2 c2 : Nat) (bs2 : List Nat) (w : World)
    (hh : Has w A n c (u8s bs)) (hb : ∀ x ∈ bs, x < 256) (_hn : n ≤ 9223372036854775807) (hh1 : Has w A1 n1 c1 (u8s bs1)) (hb1 : ∀ x ∈ bs1, x < 256) (_hn1 : n1 ≤ 9223372036854775807) (hh2 : Has w A2 n2 c2 (u8s bs2)) (hb2 : ∀ x ∈ bs2, x < 256) (_hn2 : n2 ≤ 9223372036854775807) :
    Calls Try.prog 6 #[.slice A n c, .slice A1 n1 c1, .slice A2 n2 c2] w fun e w' => e = .returned (.bool true) ∧ Below w.heap.size w w' := by
  obtain ⟨m, hm0⟩ : ∃ m, m = min n (min n1 n2) := ⟨_, rfl⟩
  have hmin : ∀ (ts : Array TypeId) (t : TypeId) (W : World), (Builtin.min_ ts t #[.int .i64 (n : Int), .int .i64 (n1 : Int), .int .i64 (n2 : Int)]).run Try.prog W = .ok (.int .i64 (m : Int)) W := fun ts t W => by
    rw [run_min_int3]
    congr 2
    split <;> split <;> omega
  have l0 : m ≤ n := by omega
  have l1 : m ≤ n1 := by omega
  have l2 : m ≤ n2 := by omega
  clear hm0
  by_cases hl : 2000 < m
  · have t : decide ((2000 : Int) < (m : Int)) = true := by simp; omega
    clear hh hb hh1 hb1 hh2 hb2
    go_enter Try.func6, Try.ntmps6
    go_wp2_with (go_at_call 8; refine (known02 _).mono ?_; rintro e w' ⟨rfl, hb⟩)
    go_ret
    exact ⟨rfl, hb⟩
  · have t : decide ((2000 : Int) < (m : Int)) = false := by simp; omega
    have hz : (Try.prog.info? 5).bind (·.zero) = some (.int .u8 0) := by kernel_rfl
    have e0 : bs.length = n := by have := hh.len; rw [u8s_len] at this; exact this
    have e1 : bs1.length = n1 := by have := hh1.len; rw [u8s_len] at this; exact this
    have e2 : bs2.length = n2 := by have := hh2.len; rw [u8s_len] at this; exact this
    have g0 := hh.head l0
    have g1 := hh1.head l1
    have g2 := hh2.head l2
    rw [show (u8s bs).take m = u8s (bs.take m) by simp [u8s]] at g0
    rw [show (u8s bs1).take m = u8s (bs1.take m) by simp [u8s]] at g1
    rw [show (u8s bs2).take m = u8s (bs2.take m) by simp [u8s]] at g2
    have b0 : ∀ x ∈ bs.take m, x < 256 := fun x hx => hb x (List.mem_of_mem_take hx)
    have b1 : ∀ x ∈ bs1.take m, x < 256 := fun x hx => hb1 x (List.mem_of_mem_take hx)
    have b2 : ∀ x ∈ bs2.take m, x < 256 := fun x hx => hb2 x (List.mem_of_mem_take hx)
    have k0 : (bs.take m).length = m := by rw [List.length_take]; omega
    have k1 : (bs1.take m).length = m := by rw [List.length_take]; omega
    have k2 : (bs2.take m).length = m := by rw [List.length_take]; omega
    clear hh hh1 hh2 hb hb1 hb2 e0 e1 e2
    generalize bs.take m = a at *
    generalize bs1.take m = b at *
    generalize bs2.take m = d at *
    obtain ⟨m1, y1⟩ := xor_byte k0 k1 b0 b1
    obtain ⟨m2, y2⟩ := xor_byte m1 k2 y1 b2
    have HX : Hid (∀ i (_h : i < (xor3 a b d).length) (_h0 : i < a.length) (_h1 : i < b.length) (_h2 : i < d.length), (xor3 a b d)[i] = a[i] ^^^ b[i] ^^^ d[i]) := fun i _ _ _ _ => by simp [xor3]
    have HXl : Hid ((xor3 a b d).length = m) := m2
    have HXb : Hid (∀ x ∈ xor3 a b d, x < 256) := y2
    have HLin := Lib.hid (crc_linear k0 k1 k2 b0 b1 b2)
    have G0 := Lib.hid g0
    have G1 := Lib.hid g1
    have G2 := Lib.hid g2
    have B0 := Lib.hid b0
    have B1 := Lib.hid b1
    have B2 := Lib.hid b2
    have K0 := Lib.hid k0
    have K1 := Lib.hid k1
    have K2 := Lib.hid k2
    clear g0 g1 g2 b0 b1 b2 k0 k1 k2 m1 y1 m2 y2
    go_enter Try.func6, Try.ntmps6
    go_wp2_with (at_make; refine wpList_made rfl _ _ 22 rfl elem8 (.int .u8 0) hz rfl w.heap.size _ _ _ _ m rfl rfl rfl rfl (by omega) (by decide) (Nat.le_refl _) ?_; intro w1 hown hbel)
    clear hz hmin
    go_loopg [9] m (fun g s9 wx => ∃ i : Nat, i + g = m ∧ s9 = .int .i64 i ∧ Hid (Own wx w.heap.size 5 (.slice (some ⟨w.heap.size, 0, none⟩) m m) (u8s ((xor3 a b d).take i) ++ List.replicate (m - i) (.int .u8 0))) ∧ Hid (Below w.heap.size w wx))
    case atStart => exact ⟨0, by omega, rfl, by show Own _ _ _ _ _; simpa [u8s] using hown, hbel⟩
    case round =>
      obtain ⟨i, hig, rfl, HO, HB⟩ := hrel
      clear hown hbel
      by_cases hi : i < m
      · have ti : decide ((i : Int) < (m : Int)) = true := by simp; omega
        have hlen : (u8s ((xor3 a b d).take i) ++ List.replicate (m - i) (Value.int .u8 0)).length = m := by rw [List.length_append, u8s_len, List.length_take, HXl.out, List.length_replicate]; omega
        obtain ⟨p0, o0, rfl, _, q0⟩ := (G0.out.kept HB.out).spot (by omega)
        obtain ⟨p1, o1, rfl, _, q1⟩ := (G1.out.kept HB.out).spot (by omega)
        obtain ⟨p2, o2, rfl, _, q2⟩ := (G2.out.kept HB.out).spot (by omega)
        have i0 : i < a.length := by rw [K0.out]; exact hi
        have i1 : i < b.length := by rw [K1.out]; exact hi
        have i2 : i < d.length := by rw [K2.out]; exact hi
        have c0 := q0 i _ (u8s_at i0)
        have d1 := q1 i _ (u8s_at i1)
        have d2 := q2 i _ (u8s_at i2)
        have v0 := B0.out _ (List.getElem_mem i0)
        have v1 := B1.out _ (List.getElem_mem i1)
        have v2 := B2.out _ (List.getElem_mem i2)
        have hil : i < (xor3 a b d).length := by rw [HXl.out]; exact hi
        have HXi := Lib.hid (HX.out i hil i0 i1 i2)
        have z1 := u8_xor_nat _ _ v0 v1
        have v01 : a[i] ^^^ b[i] < 256 := Nat.xor_lt_two_pow (n := 8) v0 v1
        have z2 := u8_xor_nat _ _ v01 v2
        rw [← HXi.out] at z2
        have hst := HO.out.stored hlen i (.int .u8 (((xor3 a b d)[i] : Nat) : Int))
        have hset : (u8s ((xor3 a b d).take i) ++ List.replicate (m - i) (Value.int .u8 0)).set i (.int .u8 (((xor3 a b d)[i] : Nat) : Int)) = u8s ((xor3 a b d).take (i + 1)) ++ List.replicate (m - (i + 1)) (Value.int .u8 0) := by
          rw [List.take_succ_eq_append_getElem hil, u8s_app, List.append_assoc, show m - i = m - (i + 1) + 1 by omega, List.replicate_succ]
          rw [List.set_append_right _ _ (by rw [u8s_len, List.length_take]; omega)]
          rw [show i - (u8s ((xor3 a b d).take i)).length = 0 by rw [u8s_len, List.length_take, HXl.out]; omega]
          rfl
        rw [hset] at hst
        obtain ⟨hc1, hc2⟩ := HO.out.cellAt hlen i hi
        rw [List.getElem?_append_right (by rw [u8s_len, List.length_take]; omega)] at hc1
        have hc1' : wr.cell? ⟨w.heap.size, i, none⟩ = some (.int .u8 0) := by
          rw [hc1, List.getElem?_replicate, if_pos (by rw [u8s_len, List.length_take, HXl.out]; omega)]
        have R1 := Lib.hid hst.1
        have R2 := Lib.hid (HB.out.trans hst.2)
        clear hst hset hc1 q0 q1 q2 hlen HXi
        generalize (xor3 a b d)[i] = X at *
        generalize a[i] = x0 at *
        generalize b[i] = x1 at *
        generalize d[i] = x2 at *
        generalize x0 ^^^ x1 = x01 at *
        clear i0 i1 i2 hil
        go_wp2
        go_region
        go_wp2
        go_roundg (gk - 1)
        case measure => omega
        case rel => exact ⟨i + 1, by omega, by go_num, R1.out, ⟨R2.out.os, R2.out.tape, R2.out.output, R2.out.size, R2.out.block⟩⟩
      · have ti : decide ((i : Int) < (m : Int)) = false := by simp; omega
        have HOx : Hid (Has wr (some ⟨w.heap.size, 0, none⟩) m m (u8s (xor3 a b d))) := by
          have h := HO.out
          rw [List.take_of_length_le (by rw [HXl.out]; omega), show m - i = 0 by omega, List.replicate_zero, List.append_nil] at h
          obtain ⟨A', c', hv, hh⟩ := h.has
          rw [u8s_len, HXl.out] at hv hh
          cases hv
          exact hh
        clear HO
        have V0 := Lib.hid (G0.out.kept HB.out)
        have V1 := Lib.hid (G1.out.kept HB.out)
        have V2 := Lib.hid (G2.out.kept HB.out)
        have x0 := crcOf_lt B0.out
        have x1 := crcOf_lt B1.out
        have x2 := crcOf_lt B2.out
        have z1 := u32_xor_nat _ _ x0 x1
        have x01 : crcOf a ^^^ crcOf b < 4294967296 := Nat.xor_lt_two_pow (n := 32) x0 x1
        have z2 := u32_xor_nat _ _ x01 x2
        rw [HLin.out] at z2
        have F0 : Hid (∀ W g, Below wr.heap.size wr W → Rowd W g (.slice (some ⟨w.heap.size, 0, none⟩) m m) → Calls Try.prog 9 #[.slice (some ⟨g, 0, none⟩) 1 1] W fun e w' => e = .returned (.int .u32 (crcOf (xor3 a b d) : Int)) ∧ Below W.heap.size W w') := fun W g h1 h2 => of_row HOx.out HXb.out (by omega) W g h1 h2
        have F1 : Hid (∀ W g, Below wr.heap.size wr W → Rowd W g (.slice A m c) → Calls Try.prog 9 #[.slice (some ⟨g, 0, none⟩) 1 1] W fun e w' => e = .returned (.int .u32 (crcOf a : Int)) ∧ Below W.heap.size W w') := fun W g h1 h2 => of_row V0.out B0.out (by omega) W g h1 h2
        have F2 : Hid (∀ W g, Below wr.heap.size wr W → Rowd W g (.slice A1 m c1) → Calls Try.prog 9 #[.slice (some ⟨g, 0, none⟩) 1 1] W fun e w' => e = .returned (.int .u32 (crcOf b : Int)) ∧ Below W.heap.size W w') := fun W g h1 h2 => of_row V1.out B1.out (by omega) W g h1 h2
        have F3 : Hid (∀ W g, Below wr.heap.size wr W → Rowd W g (.slice A2 m c2) → Calls Try.prog 9 #[.slice (some ⟨g, 0, none⟩) 1 1] W fun e w' => e = .returned (.int .u32 (crcOf d : Int)) ∧ Below W.heap.size W w') := fun W g h1 h2 => of_row V2.out B2.out (by omega) W g h1 h2
        have cc : m ≤ c := by have := G0.out.cap; exact this
        have cc1 : m ≤ c1 := by have := G1.out.cap; exact this
        have cc2 : m ≤ c2 := by have := G2.out.cap; exact this
        clear HLin HX HXl HXb G0 G1 G2 B0 B1 B2 K0 K1 K2 V0 V1 V2 HOx x0 x1 x2 x01
        generalize crcOf (xor3 a b d) = X at *
        generalize crcOf a = X0 at *
        generalize crcOf b = X1 at *
        generalize crcOf d = X2 at *
        generalize X0 ^^^ X1 = Y at *
        -- REGION
        go_wp2
        refine flow_region (fact := linFact X X0 X1 X2 Y m (.slice (some ⟨w.heap.size, 0, none⟩) m m) (.slice A n c) (.slice A m c) (.slice A1 n1 c1) (.slice A1 m c1) (.slice A2 n2 c2) (.slice A2 m c2)) (by kernel_rfl) (by kernel_rfl) linFact_kept ?step ?fin
        case fin =>
          intro listed af wf hF hall
          have h6 : af.tmps.getD 6 undef = .bool true := hF.got 24 _ 6 rfl rfl (hall 24 (by decide))
          have h6' := get_opt h6
          have hd := hF.defers
          have HBf := Lib.hid (new_call HB.out hF.bel)
          clear hF hall
          go_wp2
          refine bodyPost_ret (v := .bool true) ?_ hd ⟨rfl, HBf.out⟩
          simp [results, Try.results6, go_sem, h6']
        case step =>
          intro i o listed a w1 ho hF hall
          have hi : i < 25 := (Array.getElem?_eq_some_iff.1 ho).1
          have hB := hF.bel
          match i, hi, ho, hall with
          | 0, _, ho, hall =>
            obtain rfl : _ = o := Option.some.inj ho
            have e : a.tmps.getD 8 undef = .slice (some ⟨w.heap.size, 0, none⟩) m m := hF.old 8 (not_dst (by kernel_rfl))
            exact op_value ho rfl rfl ⟨_, rfl, e, Below.refl _ _⟩
          | 1, _, ho, hall =>
            obtain rfl : _ = o := Option.some.inj ho
            have e := get_opt (show a.tmps.getD 44 undef = .slice (some ⟨w.heap.size, 0, none⟩) m m from hF.got 0 _ 44 rfl rfl (hall ⟨0, .data⟩ (by simp) rfl))
            refine op_value ho rfl (v := .slice (some ⟨w1.heap.size, 0, none⟩) 1 1) (w' := w1.alloc (.cells #[.slice (some ⟨w.heap.size, 0, none⟩) m m] 22)) ?_ ⟨_, rfl, ⟨_, rfl, Rowd.new_at _ _ _ _ rfl⟩, (Below.refl _ _).alloc (Nat.le_refl _) _⟩
            clear hF hall ho hB
            go_simp
          | 2, _, ho, hall =>
            obtain rfl : _ = o := Option.some.inj ho
            obtain ⟨g, e, hr⟩ := hF.got 1 _ 45 rfl rfl (hall ⟨1, .data⟩ (by simp) rfl)
            have e := get_opt e
            refine op_call ho rfl (f := 9) (args := #[.slice (some ⟨g, 0, none⟩) 1 1]) ?_ ?_
            · clear hF hall ho hB hr
              go_simp
            · refine (F0.out _ _ hB hr).mono ?_
              rintro e w2 ⟨rfl, hb2⟩
              exact ⟨_, rfl, _, rfl, rfl, hb2⟩
          | 3, _, ho, hall =>
            obtain rfl : _ = o := Option.some.inj ho
            have e : a.tmps.getD 0 undef = .slice A n c := hF.old 0 (not_dst (by kernel_rfl))
            exact op_value ho rfl rfl ⟨_, rfl, e, Below.refl _ _⟩
          | 4, _, ho, hall =>
            obtain rfl : _ = o := Option.some.inj ho
            have e : a.tmps.getD 7 undef = .int .i64 (m : Int) := hF.old 7 (not_dst (by kernel_rfl))
            exact op_value ho rfl rfl ⟨_, rfl, e, Below.refl _ _⟩
          | 5, _, ho, hall =>
            obtain rfl : _ = o := Option.some.inj ho
            have e1 := get_opt (show a.tmps.getD 47 undef = _ from hF.got 3 _ 47 rfl rfl (hall ⟨3, .data⟩ (by simp) rfl))
            have e2 := get_opt (show a.tmps.getD 48 undef = _ from hF.got 4 _ 48 rfl rfl (hall ⟨4, .data⟩ (by simp) rfl))
            refine op_value ho rfl (v := .slice A m c) (w' := w1) ?_ ⟨_, rfl, rfl, Below.refl _ _⟩
            clear hF hall ho hB
            go_simp
          | 6, _, ho, hall =>
            obtain rfl : _ = o := Option.some.inj ho
            have e := get_opt (show a.tmps.getD 49 undef = .slice A m c from hF.got 5 _ 49 rfl rfl (hall ⟨5, .data⟩ (by simp) rfl))
            refine op_value ho rfl (v := .slice (some ⟨w1.heap.size, 0, none⟩) 1 1) (w' := w1.alloc (.cells #[.slice A m c] 22)) ?_ ⟨_, rfl, ⟨_, rfl, Rowd.new_at _ _ _ _ rfl⟩, (Below.refl _ _).alloc (Nat.le_refl _) _⟩
            clear hF hall ho hB
            go_simp
          | 7, _, ho, hall =>
            obtain rfl : _ = o := Option.some.inj ho
            obtain ⟨g, e, hr⟩ := hF.got 6 _ 50 rfl rfl (hall ⟨6, .data⟩ (by simp) rfl)
            have e := get_opt e
            refine op_call ho rfl (f := 9) (args := #[.slice (some ⟨g, 0, none⟩) 1 1]) ?_ ?_
            · clear hF hall ho hB hr
              go_simp
            · refine (F1.out _ _ hB hr).mono ?_
              rintro e w2 ⟨rfl, hb2⟩
              exact ⟨_, rfl, _, rfl, rfl, hb2⟩
          | 8, _, ho, hall =>
            obtain rfl : _ = o := Option.some.inj ho
            have e : a.tmps.getD 1 undef = .slice A1 n1 c1 := hF.old 1 (not_dst (by kernel_rfl))
            exact op_value ho rfl rfl ⟨_, rfl, e, Below.refl _ _⟩
          | 9, _, ho, hall =>
            obtain rfl : _ = o := Option.some.inj ho
            have e : a.tmps.getD 7 undef = .int .i64 (m : Int) := hF.old 7 (not_dst (by kernel_rfl))
            exact op_value ho rfl rfl ⟨_, rfl, e, Below.refl _ _⟩
          | 10, _, ho, hall =>
            obtain rfl : _ = o := Option.some.inj ho
            have e1 := get_opt (show a.tmps.getD 52 undef = _ from hF.got 8 _ 52 rfl rfl (hall ⟨8, .data⟩ (by simp) rfl))
            have e2 := get_opt (show a.tmps.getD 53 undef = _ from hF.got 9 _ 53 rfl rfl (hall ⟨9, .data⟩ (by simp) rfl))
            refine op_value ho rfl (v := .slice A1 m c1) (w' := w1) ?_ ⟨_, rfl, rfl, Below.refl _ _⟩
            clear hF hall ho hB
            go_simp
          | 11, _, ho, hall =>
            obtain rfl : _ = o := Option.some.inj ho
            have e := get_opt (show a.tmps.getD 54 undef = .slice A1 m c1 from hF.got 10 _ 54 rfl rfl (hall ⟨10, .data⟩ (by simp) rfl))
            refine op_value ho rfl (v := .slice (some ⟨w1.heap.size, 0, none⟩) 1 1) (w' := w1.alloc (.cells #[.slice A1 m c1] 22)) ?_ ⟨_, rfl, ⟨_, rfl, Rowd.new_at _ _ _ _ rfl⟩, (Below.refl _ _).alloc (Nat.le_refl _) _⟩
            clear hF hall ho hB
            go_simp
          | 12, _, ho, hall =>
            obtain rfl : _ = o := Option.some.inj ho
            obtain ⟨g, e, hr⟩ := hF.got 11 _ 55 rfl rfl (hall ⟨11, .data⟩ (by simp) rfl)
            have e := get_opt e
            refine op_call ho rfl (f := 9) (args := #[.slice (some ⟨g, 0, none⟩) 1 1]) ?_ ?_
            · clear hF hall ho hB hr
              go_simp
            · refine (F2.out _ _ hB hr).mono ?_
              rintro e w2 ⟨rfl, hb2⟩
              exact ⟨_, rfl, _, rfl, rfl, hb2⟩
          | 13, _, ho, hall =>
            obtain rfl : _ = o := Option.some.inj ho
            have e1 := get_opt (show a.tmps.getD 51 undef = _ from hF.got 7 _ 51 rfl rfl (hall ⟨7, .data⟩ (by simp) rfl))
            have e2 := get_opt (show a.tmps.getD 56 undef = _ from hF.got 12 _ 56 rfl rfl (hall ⟨12, .data⟩ (by simp) rfl))
            refine op_value ho rfl (v := .int .u32 (Y : Int)) (w' := w1) ?_ ⟨_, rfl, rfl, Below.refl _ _⟩
            clear hF hall ho hB
            go_simp
          | 14, _, ho, hall =>
            obtain rfl : _ = o := Option.some.inj ho
            have e : a.tmps.getD 2 undef = .slice A2 n2 c2 := hF.old 2 (not_dst (by kernel_rfl))
            exact op_value ho rfl rfl ⟨_, rfl, e, Below.refl _ _⟩
          | 15, _, ho, hall =>
            obtain rfl : _ = o := Option.some.inj ho
            have e : a.tmps.getD 7 undef = .int .i64 (m : Int) := hF.old 7 (not_dst (by kernel_rfl))
            exact op_value ho rfl rfl ⟨_, rfl, e, Below.refl _ _⟩
          | 16, _, ho, hall =>
            obtain rfl : _ = o := Option.some.inj ho
            have e1 := get_opt (show a.tmps.getD 58 undef = _ from hF.got 14 _ 58 rfl rfl (hall ⟨14, .data⟩ (by simp) rfl))
            have e2 := get_opt (show a.tmps.getD 59 undef = _ from hF.got 15 _ 59 rfl rfl (hall ⟨15, .data⟩ (by simp) rfl))
            refine op_value ho rfl (v := .slice A2 m c2) (w' := w1) ?_ ⟨_, rfl, rfl, Below.refl _ _⟩
            clear hF hall ho hB
            go_simp
          | 17, _, ho, hall =>
            obtain rfl : _ = o := Option.some.inj ho
            have e := get_opt (show a.tmps.getD 60 undef = .slice A2 m c2 from hF.got 16 _ 60 rfl rfl (hall ⟨16, .data⟩ (by simp) rfl))
            refine op_value ho rfl (v := .slice (some ⟨w1.heap.size, 0, none⟩) 1 1) (w' := w1.alloc (.cells #[.slice A2 m c2] 22)) ?_ ⟨_, rfl, ⟨_, rfl, Rowd.new_at _ _ _ _ rfl⟩, (Below.refl _ _).alloc (Nat.le_refl _) _⟩
            clear hF hall ho hB
            go_simp
          | 18, _, ho, hall =>
            obtain rfl : _ = o := Option.some.inj ho
            obtain ⟨g, e, hr⟩ := hF.got 17 _ 61 rfl rfl (hall ⟨17, .data⟩ (by simp) rfl)
            have e := get_opt e
            refine op_call ho rfl (f := 9) (args := #[.slice (some ⟨g, 0, none⟩) 1 1]) ?_ ?_
            · clear hF hall ho hB hr
              go_simp
            · refine (F3.out _ _ hB hr).mono ?_
              rintro e w2 ⟨rfl, hb2⟩
              exact ⟨_, rfl, _, rfl, rfl, hb2⟩
          | 19, _, ho, hall =>
            obtain rfl : _ = o := Option.some.inj ho
            have e1 := get_opt (show a.tmps.getD 57 undef = _ from hF.got 13 _ 57 rfl rfl (hall ⟨13, .data⟩ (by simp) rfl))
            have e2 := get_opt (show a.tmps.getD 62 undef = _ from hF.got 18 _ 62 rfl rfl (hall ⟨18, .data⟩ (by simp) rfl))
            refine op_value ho rfl (v := .int .u32 (X : Int)) (w' := w1) ?_ ⟨_, rfl, rfl, Below.refl _ _⟩
            clear hF hall ho hB
            go_simp
          | 20, _, ho, hall =>
            obtain rfl : _ = o := Option.some.inj ho
            have e1 := get_opt (show a.tmps.getD 46 undef = _ from hF.got 2 _ 46 rfl rfl (hall ⟨2, .data⟩ (by simp) rfl))
            have e2 := get_opt (show a.tmps.getD 63 undef = _ from hF.got 19 _ 63 rfl rfl (hall ⟨19, .data⟩ (by simp) rfl))
            refine op_value ho rfl (v := .bool true) (w' := w1) ?_ ⟨_, rfl, rfl, Below.refl _ _⟩
            clear hF hall ho hB
            go_simp
          | 21, _, ho, hall =>
            obtain rfl : _ = o := Option.some.inj ho
            have e : a.tmps.getD 64 undef = .bool true := hF.got 20 _ 64 rfl rfl (hall ⟨20, .data⟩ (by simp) rfl)
            exact op_value ho rfl rfl ⟨_, rfl, e, Below.refl _ _⟩
          | 22, _, ho, hall =>
            obtain rfl : _ = o := Option.some.inj ho
            have e : a.tmps.getD 65 undef = .bool true := hF.got 21 _ 65 rfl rfl (hall ⟨21, .chain⟩ (by simp) rfl)
            refine op_call ho (wanted_true (j := 21) (t := 65) (b := true) rfl rfl rfl e) (f := 8) (args := #[]) ?_ ?_
            · clear hF hall ho hB e
              go_simp
            · refine (known02 _).mono ?_
              rintro e w2 ⟨rfl, hb2⟩
              exact ⟨_, rfl, _, rfl, rfl, hb2⟩
          | 23, _, ho, hall =>
            obtain rfl : _ = o := Option.some.inj ho
            have e1 := get_opt (show a.tmps.getD 65 undef = .bool true from hF.got 21 _ 65 rfl rfl (hall ⟨21, .data⟩ (by simp) rfl))
            have e2 := get_opt (show a.tmps.getD 66 undef = .bool true from hF.got 22 _ 66 rfl rfl (hall ⟨22, .data⟩ (by simp) rfl))
            refine op_value ho rfl (v := .bool true) (w' := w1) ?_ ⟨_, rfl, rfl, Below.refl _ _⟩
            clear hF hall ho hB
            go_simp
          | 24, _, ho, hall =>
            obtain rfl : _ = o := Option.some.inj ho
            have e : a.tmps.getD 67 undef = .bool true := hF.got 23 _ 67 rfl rfl (hall ⟨23, .data⟩ (by simp) rfl)
            exact op_value ho rfl rfl ⟨_, rfl, e, Below.refl _ _⟩

set_option maxRecDepth 100000 in
theorem lifted (os : Os) (started : os.Started) (H : Type) (enc : TypeId × Value → H) :
    ReturnsInHanded {} Try.checked os 6 .any (Rows.crcLinearSpec.pre6 enc Try.prog Try.f6 Rows.crcLinearRow.domain false) (Rows.crcLinearSpec.post enc Try.prog Try.f6 false true false false) := by
  refine returnsInHanded_of_change (C := Try.checked) Try.own started (by kernel_rfl) Try.func6
    (ChangeSpec.witness6 (enc := enc) (C := Try.checked) false ⟨#[], #[.slice none 0 0, .slice none 0 0, .slice none 0 0], []⟩ 8 (by kernel_rfl) (by kernel_rfl) (by kernel_rfl) (by kernel_rfl)) ?_
  intro W base args ds gs before hval0 hW _ _
  have hval : ∀ (j : Nat) t v, Try.f6.params[j]? = some t → args[j]? = some v → Value.okWide Try.prog W .any base t v := hval0
  have hW' := hW
  obtain ⟨p, q, hA0, hV, rfl, _, _⟩ := hW
  have hA : DataW.TrodAll enc Try.prog W 0 (fun _ => true) true Try.f6.params.toList args.toList ds p := hA0
  rw [Try.params6] at hA hval
  obtain ⟨v0, v1, v2, d0, d1, d2, p0, p1, p2, rfl, rfl, rfl, h0, h1, h2⟩ := trodAll_three hA
  obtain ⟨rfl, rfl⟩ := trodVars_none hV
  obtain ⟨A0, n0, c0, bs0, rfl, hh0, hb0, hn0⟩ := open_bytes (hval 0 22 v0 rfl rfl) h0
  obtain ⟨A1, n1, c1, bs1, rfl, hh1, hb1, hn1⟩ := open_bytes (hval 1 22 v1 rfl rfl) h1
  obtain ⟨A2, n2, c2, bs2, rfl, hh2, hb2, hn2⟩ := open_bytes (hval 2 22 v2 rfl rfl) h2
  exact (walk A0 n0 c0 bs0 A1 n1 c1 bs1 A2 n2 c2 bs2 W hh0 hb0 hn0 hh1 hb1 hn1 hh2 hb2 hn2).mono fun e W' he =>
    law_post rfl rfl (by rw [Try.params6]; intro t ht; simp at ht; subst ht; exact ⟨by kernel_rfl, of_decide_eq_true (by kernel_rfl)⟩) hW' rfl he

theorem proved : Rows.CrcLinearSaid :=
  OpenClaim.holds_of_wide 6 Try.f6 rfl rfl rfl rfl rfl rfl rfl ⟨rfl, rfl, rfl, rfl, rfl⟩ rfl rfl rfl rfl rfl (by kernel_rfl) Try.func6 (by kernel_rfl)
    (of_decide_eq_true (by kernel_rfl)) (by unfold Func.isWrapper; first | (rw [if_pos (by decide +kernel)]; kernel_rfl) | (rw [if_neg (by decide +kernel)]; exact ⟨rfl, rfl⟩))
    (fun os started H enc _ => lifted os started H enc)
end Go.Proofs.Ytlmecbclnhkmbaa.crcLinear
