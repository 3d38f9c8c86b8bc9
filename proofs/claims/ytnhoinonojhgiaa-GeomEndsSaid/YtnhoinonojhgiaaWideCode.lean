/- The landed wide: what its calls keep: signs, words, sums. -/
import Derived.Test.YtnhoinonojhgiaaWideCodeA
import Derived.Test.YtnhoinonojhgiaaKeep
namespace Go.Proofs.Ytnhoinonojhgiaa
open Go.RowKit

set_option maxRecDepth 100000 in
theorem wideSign_any (h l : Int) (w : World) (hh : i64W h) (hl : u64W l) : Calls Try.prog 25 #[.agg #[.int .i64 h, .int .u64 l]] w fun e w' => e = .returned (.int .i64 (cmpI (valW h l) 0)) ∧ Below w.heap.size w w' := by
  have HC := Lib.hid (fun W => wideCmp_any h l 0 0 W hh hl (by unfold i64W; decide) (by unfold u64W; decide))
  rw [show valW 0 0 = 0 from rfl] at HC
  have HB := Lib.hid (new_alloc (Below.refl w.heap.size w) (.cells #[.int .i64 h, .int .u64 l] 34))
  obtain ⟨kz, ks⟩ := zero_of_info numInfo
  clear hh hl
  go_enter Try.func25, Try.ntmps25
  go_wp2_with fail
  refine (HC.out _).mono ?_
  rintro e w1 ⟨rfl, hb1⟩
  go_wp2
  go_ret
  exact ⟨rfl, new_call HB.out hb1⟩
/-- The sum so far, in its place, and the answer's. -/
structure AddAt (w : World) (x : Int) (wx : World) : Prop where
  b1 : Blk wx (w.heap.size + 1) 34 #[.int .i64 0, .int .u64 0]
  b2 : Blk wx (w.heap.size + 2) 34 #[.int .i64 (hiW x), .int .u64 (loW x)]
  bel : Below w.heap.size w wx
theorem AddAt.new (w : World) (x : Int) (h l : Int) (hx : hiW x = h) (lx : loW x = l) : AddAt w x (((w.alloc (.cells #[.int .i64 h, .int .u64 l] 34)).alloc (.cells #[.int .i64 0, .int .u64 0] 34)).alloc (.cells #[.int .i64 h, .int .u64 l] 34)) := by
  subst hx lx
  exact ⟨(Blk.new_two w _ _ _).alloc _, third_new w _ _ _ _, new_alloc (new_alloc (new_alloc (Below.refl _ _) _) _) _⟩
theorem AddAt.next {w wx w' : World} {x : Int} (h : AddAt w x wx) (hb : Below (w.heap.size + 3) wx w') : AddAt w x w' :=
  ⟨h.b1.below hb (by omega), h.b2.below hb (by omega), h.bel.trans (hb.mono (by omega))⟩
theorem AddAt.size {w wx : World} {x : Int} (h : AddAt w x wx) : w.heap.size + 3 ≤ wx.heap.size := h.b2.lt
theorem AddAt.alloc {w wx : World} {x : Int} (h : AddAt w x wx) (o : Obj) : AddAt w x (wx.alloc o) := ⟨h.b1.alloc _, h.b2.alloc _, new_alloc h.bel _⟩
theorem AddAt.put {w wx : World} {x : Int} (h : AddAt w x wx) (y a b : Int) (ha : hiW y = a) (hb : loW y = b) : AddAt w y ((wx.setCell ⟨w.heap.size + 2, 0, none⟩ (.int .i64 a)).setCell ⟨w.heap.size + 2, 1, none⟩ (.int .u64 b)) := by
  subst ha hb
  refine ⟨(h.b1.far (by show w.heap.size + 1 ≠ w.heap.size + 2; omega) _).far (by show w.heap.size + 1 ≠ w.heap.size + 2; omega) _, (h.b2.set_ 0 _).set_ 1 _, (h.bel.setCell (by show w.heap.size ≤ w.heap.size + 2; omega) _).setCell (by show w.heap.size ≤ w.heap.size + 2; omega) _⟩
theorem sum_take {ps : List (Int × Int)} {i : Nat} (h : i < ps.length) : sumN (ps.take (i + 1)) = sumN (ps.take i) + valW ps[i].1 ps[i].2 := by
  rw [List.take_succ_eq_append_getElem h, sumN_app, sumN_one]
set_option maxRecDepth 100000 in
set_option maxHeartbeats 800000 in
theorem wideAdd_any (h l : Int) (A : Option Addr) (n c : Nat) (ps : List (Int × Int)) (w : World) (hh : i64W h) (hl : u64W l) (hs : HasK 2 w A n c (numCells ps)) (hp : ∀ p ∈ ps, okN p) (hn : n ≤ 100000) : Calls Try.prog 39 #[.agg #[.int .i64 h, .int .u64 l], .slice A n c] w fun e w' => e = .returned (numV (valW h l + sumN ps)) ∧ Below w.heap.size w w' := by
  obtain ⟨kz, ks⟩ := zero_of_info numInfo
  have HL : Hid (ps.length = n) := by have := hs.len; rw [numCells_len] at this; show _ = _; omega
  have HA0 := Lib.hid (AddAt.new w (valW h l) h l (hi_of hh hl) (lo_of hl))
  have HS := Lib.hid hs
  have HP := Lib.hid hp
  clear hs hp
  go_enter Try.func39, Try.ntmps39
  go_wp2_with fail
  go_step3
  go_wp2
  go_step3
  go_wp2
  go_loopg [15] n (fun g s15 wx => ∃ (i : Nat) (x : Int), i + g = n ∧ s15 = .int .i64 i ∧ Hid (Cong x (valW h l + sumN (ps.take i))) ∧ Hid (AddAt w x wx))
  case atStart => exact ⟨0, valW h l, by omega, rfl, by show Cong _ _; rw [List.take_zero, show sumN [] = 0 from rfl, Int.add_zero]; exact Cong.refl _, HA0⟩
  case round =>
    obtain ⟨i, x, hig, rfl, HC, HA⟩ := hrel
    clear HA0
    by_cases hi : i < n
    · have ti : decide ((i : Int) < (n : Int)) = true := by simp; omega
      have i2 : (i : Int) < (n : Int) := by omega
      have hil : i < ps.length := by rw [HL.out]; exact hi
      obtain ⟨B, off, rfl, hlt, hc⟩ := (HS.out.kept HA.out.bel).spot (by omega)
      obtain ⟨hx1, hx2⟩ := numCells_at hil
      have hcx := hc _ _ hx1
      have hcy := hc _ _ hx2
      have hok := HP.out _ (List.getElem_mem hil)
      have HT := Lib.hid (sum_take hil)
      generalize ps[i] = ab at *
      obtain ⟨a, b⟩ := ab
      simp only at hcx hcy HT
      rw [← Nat.add_assoc] at hcy
      obtain ⟨ha, hb⟩ := hok
      simp only at ha hb
      clear hx1 hx2 hc hil
      have HA2 : Hid (AddAt w x (wr.alloc (.cells #[.int .i64 a, .int .u64 b] 34))) := HA.out.alloc _
      have y0 : (wr.alloc (.cells #[.int .i64 a, .int .u64 b] 34)).cell? ⟨w.heap.size + 2, 0, none⟩ = some (.int .i64 (hiW x)) := HA2.out.b2.cell 0
      have y1 : (wr.alloc (.cells #[.int .i64 a, .int .u64 b] 34)).cell? ⟨w.heap.size + 2, 1, none⟩ = some (.int .u64 (loW x)) := HA2.out.b2.cell 1
      by_cases hz : a = 0 ∧ b = 0
      · obtain ⟨rfl, rfl⟩ := hz
        have HC2 : Hid (Cong x (valW h l + sumN (ps.take (i + 1)))) := by
          show Cong _ _
          rw [HT.out, show valW 0 0 = 0 from rfl, Int.add_zero]
          exact HC.out
        clear HT HC ha hb
        go_wp2
        go_roundg (gk - 1)
        case measure => omega
        case rel => exact ⟨i + 1, x, by omega, by go_num, HC2, HA2⟩
      · have e1 := fun W => add64_run (loW x) b 0 (lo_in x) hb (by decide) W
        obtain ⟨C, hC⟩ : ∃ C, (loW x + b + 0) / 18446744073709551616 = C := ⟨_, rfl⟩
        have hk : 0 ≤ C ∧ C ≤ 1 := by have := lo_in x; unfold u64W at *; omega
        have e2 := fun W => add64_run (hiW x % 18446744073709551616) (a % 18446744073709551616) C u64_of u64_of hk W
        have eA : IntKind.wrap .u64 (hiW x) = hiW x % 18446744073709551616 := IntKind.wrap_u64 _
        have eB : IntKind.wrap .u64 a = a % 18446744073709551616 := IntKind.wrap_u64 _
        obtain ⟨L, hL⟩ : ∃ L, (loW x + b + 0) % 18446744073709551616 = L := ⟨_, rfl⟩
        obtain ⟨H, hH⟩ : ∃ H, (hiW x % 18446744073709551616 + a % 18446744073709551616 + C) % 18446744073709551616 = H := ⟨_, rfl⟩
        rw [hC, hL] at e1
        rw [hH] at e2
        generalize (hiW x % 18446744073709551616 + a % 18446744073709551616 + C) / 18446744073709551616 = Z at e2
        have H1 : hiW (x + valW a b) = wrap64 H := by
          rw [← hH, ← hC]
          unfold hiW loW valW wrap64
          omega
        have H2 : loW (x + valW a b) = L := by
          rw [← hL]
          unfold loW valW
          omega
        have HA3 := Lib.hid (HA2.out.put (x + valW a b) (wrap64 H) L H1 H2)
        have HC2 : Hid (Cong (x + valW a b) (valW h l + sumN (ps.take (i + 1)))) := by
          show Cong _ _
          rw [HT.out, ← Int.add_assoc]
          exact HC.out.add (Cong.refl _)
        have fz := HA2.out.b2.frozen 0
        have fz1 := HA2.out.b2.frozen 1
        have htest : ((a == 0) = false ∨ (a == 0) = true ∧ (b == 0) = false) := by
          by_cases h0 : a = 0
          · exact Or.inr ⟨beq_iff_eq.2 h0, beq_eq_false_iff_ne.2 fun h1 => hz ⟨h0, h1⟩⟩
          · exact Or.inl (beq_eq_false_iff_ne.2 h0)
        clear HT HC ha hb hz H1 H2 hH hL hC hk
        rcases htest with ta | ⟨ta, tb⟩
        all_goals
          go_wp2
          go_roundg (gk - 1)
          case measure => omega
          case rel => exact ⟨i + 1, _, by omega, by go_num, HC2, HA3⟩
    · have ti : decide ((i : Int) < (n : Int)) = false := by simp; omega
      have HE : Hid (numV x = numV (valW h l + sumN ps)) := by
        have h1 := HC.out
        rw [List.take_of_length_le (by rw [HL.out]; omega)] at h1
        exact numV_cong h1
      have y0 : wr.cell? ⟨w.heap.size + 2, 0, none⟩ = some (.int .i64 (hiW x)) := HA.out.b2.cell 0
      have y1 : wr.cell? ⟨w.heap.size + 2, 1, none⟩ = some (.int .u64 (loW x)) := HA.out.b2.cell 1
      have z0 : wr.cell? ⟨w.heap.size + 1, 0, none⟩ = some (.int .i64 0) := HA.out.b1.cell 0
      have z1 : wr.cell? ⟨w.heap.size + 1, 1, none⟩ = some (.int .u64 0) := HA.out.b1.cell 1
      have fz := HA.out.b1.frozen 0
      have fz1 := HA.out.b1.frozen 1
      have HK := Lib.hid ((HA.out.b1.set_ 0 (.int .i64 (hiW x))).set_ 1 (.int .u64 (loW x)))
      have HBn : Hid (Below w.heap.size w ((wr.setCell ⟨w.heap.size + 1, 0, none⟩ (.int .i64 (hiW x))).setCell ⟨w.heap.size + 1, 1, none⟩ (.int .u64 (loW x)))) := (HA.out.bel.setCell (by show w.heap.size ≤ w.heap.size + 1; omega) _).setCell (by show w.heap.size ≤ w.heap.size + 1; omega) _
      go_wp2
      try rw [Exit.noGoto_ret]
      exact bodyPost_ret (results_cell8 Try.results39 rfl (num_load _ _ _ _ HK.out)) rfl ⟨congrArg Ending.returned HE.out, HBn.out⟩
theorem wideAddC_any (x y : Int) (V : World) : Calls Try.prog 39 #[numV x, .slice (some ⟨V.heap.size, 0, none⟩) 1 1] (V.alloc (.cells #[.int .i64 (hiW y), .int .u64 (loW y)] 34)) fun e w' => e = .returned (numV (x + y)) ∧ Below V.heap.size V w' := by
  refine (wideAdd_any (hiW x) (loW x) (some ⟨V.heap.size, 0, none⟩) 1 1 [(hiW y, loW y)] _ (hi_in x) (lo_in x) (HasK.new_at 2 V #[.int .i64 (hiW y), .int .u64 (loW y)] _ _ 1 rfl rfl) (by intro p hp; obtain rfl := List.mem_singleton.1 hp; exact ⟨hi_in y, lo_in y⟩) (by decide)).mono ?_
  rintro e w' ⟨rfl, hb⟩
  refine ⟨?_, new_call (new_alloc (Below.refl _ _) _) hb⟩
  rw [sumN_one, numV_cong ((cong_num x).add (cong_num y)).symm]
theorem hi0 : hiW 0 = 0 := by unfold hiW wrap64; omega
theorem lo0 : loW 0 = 0 := by unfold loW; omega
theorem num0 : numV 0 = .agg #[.int .i64 0, .int .u64 0] := by unfold numV; rw [hi0, lo0]
/-- The sum of products so far, in its place, and the answer's. -/
structure DotAt (w : World) (x : Int) (wx : World) : Prop where
  b1 : Blk wx w.heap.size 34 #[.int .i64 0, .int .u64 0]
  b2 : Blk wx (w.heap.size + 1) 34 #[.int .i64 (hiW x), .int .u64 (loW x)]
  bel : Below w.heap.size w wx
theorem DotAt.next {w wx w' : World} {x : Int} (h : DotAt w x wx) (hb : Below wx.heap.size wx w') : DotAt w x w' :=
  ⟨h.b1.below hb h.b1.lt, h.b2.below hb h.b2.lt, new_call h.bel hb⟩
theorem DotAt.put {w wx : World} {x : Int} (h : DotAt w x wx) (y : Int) : DotAt w y ((wx.setCell ⟨w.heap.size + 1, 0, none⟩ (.int .i64 (hiW y))).setCell ⟨w.heap.size + 1, 1, none⟩ (.int .u64 (loW y))) := by
  refine ⟨(h.b1.far (by show w.heap.size ≠ w.heap.size + 1; omega) _).far (by show w.heap.size ≠ w.heap.size + 1; omega) _, (h.b2.set_ 0 _).set_ 1 _, (h.bel.setCell (by show w.heap.size ≤ w.heap.size + 1; omega) _).setCell (by show w.heap.size ≤ w.heap.size + 1; omega) _⟩
end Go.Proofs.Ytnhoinonojhgiaa
