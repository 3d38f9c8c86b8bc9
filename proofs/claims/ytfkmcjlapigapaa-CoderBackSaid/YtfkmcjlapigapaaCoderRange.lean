/- The landed coder: what both ways hold of the number and the range. -/
import Derived.Test.YtfkmcjlapigapaaCoderTake
namespace Go.Proofs.Ytfkmcjlapigapaa
open Go.RowKit

set_option maxRecDepth 100000 in
set_option maxHeartbeats 400000 in
theorem coderPart_q (g : Nat) (A : Option Addr) (n c : Nat) (ps : List Nat) (C : List (List Nat)) (k : Int) (R : Nat) (w : World) (h0 : w.cell? ⟨g, 0, none⟩ = some (.slice A n c)) (h2 : w.cell? ⟨g, 2, none⟩ = some (.int .u64 (R : Int)))
    (hr : Has w A n c (ptrs ps)) (hm : MS w ps C) (hC : ∀ c ∈ C, Cnts c) (hk : -16 ≤ k ∧ k < (C.length : Int)) (hw : wholeC C k ≠ 0) (hR : R < 4294967296) :
    Calls Try.prog 52 #[.pointer (some ⟨g, 0, none⟩), .int .i64 k] w fun e w' => e = .returned (.int .u64 ((R / wholeC C k : Nat) : Int)) ∧ ∃ m, w' = w.drewN m := by
  have HW := Lib.hid (fun j => (coderWhole_any A n c ps C k (w.drewN j) (hr.kept (quiet_below _ j)) (hm.below (quiet_below _ j)) hk).mono fun _ _ ⟨p, q⟩ => And.intro p q.symm)
  have hle := whole_le hC k
  clear hr hm hC hk
  generalize wholeC C k = q at *
  have hq0 : ¬ (q : Int) = 0 := by omega
  have hq1 : (R : Int).tdiv (q : Int) = ((R / q : Nat) : Int) := rfl
  have hwr : IntKind.wrap .u64 (q : Int) = (q : Int) := by rw [IntKind.wrap_u64]; omega
  have HQ : Hid (IntKind.wrap .u64 ((R : Int) / (q : Int)) = ((R / q : Nat) : Int)) := by
    have h := Nat.div_le_self R q
    show _ = _
    rw [show (R : Int) / (q : Int) = ((R / q : Nat) : Int) from rfl, IntKind.wrap_u64]
    generalize R / q = z at *
    omega
  go_enter Try.func52, Try.ntmps52
  go_wp2
  go_quiet ((go_at_call 61; exact Calls.quiet_of_same (HW.out _)))
  go_wp2
  go_ret
  exact ⟨ret_int HQ.out, _, rfl⟩
theorem coderNarrow_any (g : Nat) (R : Nat) (w : World) (h2 : w.cell? ⟨g, 2, none⟩ = some (.int .u64 (R : Int))) :
    Calls Try.prog 43 #[.pointer (some ⟨g, 0, none⟩)] w fun e w' => e = .returned (.bool (decide (R < 16777216))) ∧ w = w' := by
  go_enter Try.func43, Try.ntmps43
  go_wp2
  go_ret
  refine ⟨ret_bool ?_, rfl⟩
  by_cases h : R < 16777216
  · simp [h]; omega
  · simp [h]; omega
set_option maxRecDepth 100000 in
set_option maxHeartbeats 400000 in
theorem coderWiden_any (g : Nat) (t : TypeId) (cs : Array Value) (lo R : Nat) (w : World) (h : Blk w g t cs) (h1 : cs[1]? = some (.int .u64 (lo : Int))) (h2 : cs[2]? = some (.int .u64 (R : Int))) (hlo : lo < 1099511627776) (hR : R < 16777216) :
    Calls Try.prog 59 #[.pointer (some ⟨g, 0, none⟩)] w fun e w' => e = .returned (.tuple #[]) ∧ w' = (w.setCell ⟨g, 1, none⟩ (.int .u64 ((lo * 256 % 4294967296 : Nat) : Int))).setCell ⟨g, 2, none⟩ (.int .u64 ((R * 256 : Nat) : Int)) := by
  have c1 := (h.cell 1).trans h1
  have f1 := h.frozen 1
  have hb2 := h.set_ 1 (.int .u64 ((lo * 256 % 4294967296 : Nat) : Int))
  have c2 := (hb2.cell 2).trans (show (cs.setIfInBounds 1 (.int .u64 ((lo * 256 % 4294967296 : Nat) : Int)))[2]? = some (.int .u64 (R : Int)) by rw [Array.getElem?_setIfInBounds]; simp [h2])
  have f2 := hb2.frozen 2
  have e1 : IntKind.wrap .u64 ((lo : Int) * 256) = (lo : Int) * 256 := by rw [IntKind.wrap_u64]; omega
  have e2 : IntKind.wrap .u64 ((R : Int) * 256) = ((R * 256 : Nat) : Int) := by rw [IntKind.wrap_u64]; omega
  have e3 : ((lo : Int) * 256) % 4294967296 = ((lo * 256 % 4294967296 : Nat) : Int) := by omega
  have hv : lo * 256 % 4294967296 < 4294967296 := Nat.mod_lt _ (by decide)
  generalize lo * 256 % 4294967296 = v at *
  clear h hb2 h1 h2
  go_enter Try.func59, Try.ntmps59
  go_wp2
  go_end0
  exact ⟨rfl, rfl⟩

set_option maxRecDepth 100000 in
set_option maxHeartbeats 400000 in
theorem coderTake_any (g : Nat) (t : TypeId) (cs : Array Value) (A : Option Addr) (n c : Nat) (ps : List Nat) (C : List (List Nat)) (x y : Int) (lo R : Nat) (w : World) (h : Blk w g t cs) (h0 : cs[0]? = some (.slice A n c)) (h1 : cs[1]? = some (.int .u64 (lo : Int))) (h2 : cs[2]? = some (.int .u64 (R : Int)))
    (hr : Rob (fun k => k = g) w fun W => Has W A n c (ptrs ps)) (hm : MS w ps C) (hg : g ∉ ps) (hC : ∀ c ∈ C, Cnts c) (hk : okC C (x, y)) (hR : R < 4294967296) (hlo : lo < 17179869184) :
    Calls Try.prog 41 #[.pointer (some ⟨g, 0, none⟩), .agg #[.int .i64 x, .int .i64 y]] w fun e w' => e = .returned (.tuple #[])
      ∧ Blk w' g t ((cs.setIfInBounds 1 (.int .u64 ((lo + R / wholeC C x * (shareC C (x, y)).1 : Nat) : Int))).setIfInBounds 2 (.int .u64 ((R / wholeC C x * (shareC C (x, y)).2 : Nat) : Int)))
      ∧ MS w' ps (seenC C (x, y)) ∧ Chg (fun k => k = g ∨ k ∈ ps) w w' := by
  have hmo := okC_model hk
  have hsh := (share_ok hC).1 hk
  have hshl := share_le (C := C) (x, y) hsh
  have hW0 : wholeC C x ≠ 0 := by simp only at hshl; omega
  have HB1 := Lib.hid (new_alloc (Below.refl w.heap.size w) (.cells #[.int .i64 x, .int .i64 y] 41))
  have hbx : Blk (w.alloc (.cells #[.int .i64 x, .int .i64 y] 41)) w.heap.size 41 #[.int .i64 x, .int .i64 y] := Blk.new w _ _
  have hb1 := h.alloc (.cells #[.int .i64 x, .int .i64 y] 41)
  have hr1 := Rob.chg (G' := fun k => k = g) Has.stays hr (Chg.of_below HB1.out) fun _ _ h => h
  have hm1 := hm.below HB1.out
  have hgl := h.lt
  have HP := Lib.hid (coderPart_q g A n c ps C x R _ ((hb1.cell 0).trans h0) ((hb1.cell 2).trans h2) hr1.here hm1 hC hmo hW0 hR)
  have y0 : (w.alloc (.cells #[.int .i64 x, .int .i64 y] 41)).cell? ⟨w.heap.size, 0, none⟩ = some (.int .i64 x) := hbx.cell 0
  have HBx := Lib.hid hbx
  have Hb1 := Lib.hid hb1
  have Hr1 := Lib.hid hr1
  have Hm1 := Lib.hid hm1
  have HSh := Lib.hid (fun W (hW : Has W A n c (ptrs ps)) (hM : MS W ps C) => coderShare_any A n c ps C x y W hW hM hC hk)
  have HCt := Lib.hid (fun W (hW : Has W A n c (ptrs ps)) (hM : MS W ps C) => coderCount_any A n c ps C x y W hW hM hC hk)
  have hq1 : R / wholeC C x * (shareC C (x, y)).1 ≤ R := Nat.le_trans (Nat.mul_le_mul_left _ (by simp only at hshl; omega)) (Nat.div_mul_le_self R (wholeC C x))
  have hq2 : R / wholeC C x * (shareC C (x, y)).2 ≤ R := Nat.le_trans (Nat.mul_le_mul_left _ (by simp only at hshl; omega)) (Nat.div_mul_le_self R (wholeC C x))
  have hq3 := Nat.div_le_self R (wholeC C x)
  have hq4 := whole_le hC x
  simp only at hshl
  have hH0 := Lib.hid h0
  have hH1 := Lib.hid h1
  have hH2 := Lib.hid h2
  have HG := Lib.hid hg
  have HGl := Lib.hid hgl
  clear h h0 h1 h2 hr hm hg hC hk hb1 hr1 hm1 hbx hmo hW0 hsh hgl
  generalize R / wholeC C x = q at *
  obtain ⟨sh, hsh⟩ : ∃ sh, shareC C (x, y) = sh := ⟨_, rfl⟩
  obtain ⟨fr, ct⟩ := sh
  rw [hsh] at HSh hq1 hq2 hshl ⊢
  simp only at HSh hq1 hq2 hshl ⊢
  obtain ⟨p1, hp1⟩ : ∃ p1, q * fr = p1 := ⟨_, rfl⟩
  obtain ⟨p2, hp2⟩ : ∃ p2, q * ct = p2 := ⟨_, rfl⟩
  have e1 : IntKind.wrap .u64 ((q : Int) * (fr : Int)) = (p1 : Int) := by rw [← Int.natCast_mul, hp1, IntKind.wrap_u64]; omega
  have e2 : IntKind.wrap .u64 ((q : Int) * (ct : Int)) = (p2 : Int) := by rw [← Int.natCast_mul, hp2, IntKind.wrap_u64]; omega
  have e3 : IntKind.wrap .u64 ((lo : Int) + (p1 : Int)) = (lo : Int) + (p1 : Int) := by rw [IntKind.wrap_u64]; omega
  have e4 : IntKind.wrap .u64 (fr : Int) = (fr : Int) := by rw [IntKind.wrap_u64]; omega
  have e5 : IntKind.wrap .u64 (ct : Int) = (ct : Int) := by rw [IntKind.wrap_u64]; omega
  rw [hp1, hp2]
  clear hp1 hp2 hsh hshl hq4
  generalize seenC C (x, y) = C2 at *
  go_enter Try.func41, Try.ntmps41
  go_wp2_with fail
  refine HP.out.mono ?_
  rintro e w2 ⟨rfl, m, rfl⟩
  have hb2 := quiet_below (w.alloc (.cells #[.int .i64 x, .int .i64 y] 41)) m
  have HB2 := Lib.hid (new_call HB1.out hb2)
  have HBx2 := Lib.hid (HBx.out.below hb2 HBx.out.lt)
  have Hg2 := Lib.hid (Hb1.out.below hb2 Hb1.out.lt)
  have Hr2 := Lib.hid (Rob.chg (G' := fun k => k = g) Has.stays Hr1.out (Chg.of_below hb2) fun _ _ h => h)
  have Hm2 := Lib.hid (Hm1.out.below hb2)
  clear hb2 HP y0 HBx Hb1 Hr1 Hm1 HB1
  generalize (w.alloc (.cells #[.int .i64 x, .int .i64 y] 41)).drewN m = w2 at *
  have x0 : w2.cell? ⟨w.heap.size, 0, none⟩ = some (.int .i64 x) := HBx2.out.cell 0
  have x1 : w2.cell? ⟨w.heap.size, 1, none⟩ = some (.int .i64 y) := HBx2.out.cell 1
  have g0 : w2.cell? ⟨g, 0, none⟩ = some (.slice A n c) := (Hg2.out.cell 0).trans hH0.out
  have HSw := Lib.hid (HSh.out w2.drew Hr2.out.here.drew (Hm2.out.below (Below.refl _ _).drew))
  go_wp2
  go_region_law (first
    | (go_simp; go_at_call 57; with_reducible refine Calls.mono HSw.out ?_; rintro e w3 ⟨rfl, hb3⟩; have HB3 := Lib.hid (new_call (Below.refl w2.heap.size w2).drew hb3); clear hb3))
  all_goals
    have HB4 := Lib.hid (new_call HB2.out HB3.out)
    have hgb : g ≠ w.heap.size := by have := HGl.out; omega
    have HBx3 := Lib.hid (HBx2.out.below HB3.out HBx2.out.lt)
    have Hg3 := Lib.hid (Hg2.out.below HB3.out Hg2.out.lt)
    have Hr3 := Lib.hid (Rob.chg (G' := fun k => k = g) Has.stays Hr2.out (Chg.of_below HB3.out) fun _ _ h => h)
    have Hm3 := Lib.hid (Hm2.out.below HB3.out)
    clear HSw HSh HB3 HB2 HBx2 Hg2 Hr2 Hm2 x0 x1 g0
    have g1 : w3.cell? ⟨g, 1, none⟩ = some (.int .u64 (lo : Int)) := (Hg3.out.cell 1).trans hH1.out
    have k1 := Hg3.out.frozen 1
    have Hg4 := Lib.hid (Hg3.out.set_ 1 (.int .u64 ((lo : Int) + (p1 : Int))))
    have g2 : (w3.setCell ⟨g, 1, none⟩ (.int .u64 ((lo : Int) + (p1 : Int)))).cell? ⟨g, 2, none⟩ = some (.int .u64 (R : Int)) := (Hg4.out.cell 2).trans (by rw [Array.getElem?_setIfInBounds]; simp [hH2.out])
    have k2 := Hg4.out.frozen 2
    have Hg5 := Lib.hid (Hg4.out.set_ 2 (.int .u64 (p2 : Int)))
    have Hf5 := Lib.hid (Far1.farD (D := fun k => k = g) (((Far1.refl g w3).set 1 (.int .u64 ((lo : Int) + (p1 : Int)))).set 2 (.int .u64 (p2 : Int))) rfl)
    have HBx5 := Lib.hid ((HBx3.out.far (p := ⟨g, 1, none⟩) (Ne.symm hgb) (.int .u64 ((lo : Int) + (p1 : Int)))).far (p := ⟨g, 2, none⟩) (Ne.symm hgb) (.int .u64 (p2 : Int)))
    have Hr5 := Lib.hid (Hr3.out.far Hf5.out)
    have Hm5 := Lib.hid (Hm3.out.chg (Chg.of_far Hf5.out) fun p hp e => HG.out (e ▸ hp))
    have HC5 := Lib.hid ((Chg.of_below (D := fun k => k = g ∨ k ∈ ps) HB4.out).then_ (Chg.of_far Hf5.out) fun _ _ h => Or.inl h)
    clear Hg3 Hr3 Hm3 HBx3 Hf5 HB4 Hg4
    have x0 : ((w3.setCell ⟨g, 1, none⟩ (.int .u64 ((lo : Int) + (p1 : Int)))).setCell ⟨g, 2, none⟩ (.int .u64 (p2 : Int))).cell? ⟨w.heap.size, 0, none⟩ = some (.int .i64 x) := HBx5.out.cell 0
    have x1 : ((w3.setCell ⟨g, 1, none⟩ (.int .u64 ((lo : Int) + (p1 : Int)))).setCell ⟨g, 2, none⟩ (.int .u64 (p2 : Int))).cell? ⟨w.heap.size, 1, none⟩ = some (.int .i64 y) := HBx5.out.cell 1
    have g0 : ((w3.setCell ⟨g, 1, none⟩ (.int .u64 ((lo : Int) + (p1 : Int)))).setCell ⟨g, 2, none⟩ (.int .u64 (p2 : Int))).cell? ⟨g, 0, none⟩ = some (.slice A n c) := (Hg5.out.cell 0).trans (by rw [Array.getElem?_setIfInBounds, Array.getElem?_setIfInBounds]; simp [hH0.out])
    have HCw := Lib.hid (HCt.out ((w3.setCell ⟨g, 1, none⟩ (.int .u64 ((lo : Int) + (p1 : Int)))).setCell ⟨g, 2, none⟩ (.int .u64 (p2 : Int))).drew Hr5.out.here.drew (Hm5.out.below (Below.refl _ _).drew))
    go_wp2
    go_region_law (first
      | (go_simp; go_at_call 58; with_reducible refine Calls.mono HCw.out ?_; rintro e w6 ⟨rfl, hm6, hc6⟩; have HM6 := Lib.hid hm6; have HC6 := Lib.hid ((Chg.of_below (D := fun k => k ∈ ps) (Below.refl _ ((w3.setCell ⟨g, 1, none⟩ (.int .u64 ((lo : Int) + (p1 : Int)))).setCell ⟨g, 2, none⟩ (.int .u64 (p2 : Int)))).drew).then_ hc6 fun _ _ h => h); clear hm6 hc6))
    all_goals
      go_wp2
      go_end0
      exact ⟨rfl, Blk.chg Hg5.out HC6.out HG.out, HM6.out, HC5.out.then_ HC6.out fun _ _ h => Or.inr h⟩
end Go.Proofs.Ytfkmcjlapigapaa
