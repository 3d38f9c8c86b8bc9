/- The landed coder's writer: what is held back, a carry, one digit out. -/
import Derived.Test.YtfkmcjlapigapaaCoderRange
namespace Go.Proofs.Ytfkmcjlapigapaa
open Go.RowKit

/-- Digits ahead of the ones held back, with a carry. -/
def settC (s : List Nat) (a r c : Nat) : List Nat := s ++ [a + c] ++ List.replicate r ((255 + c) % 256)
theorem val_app1 (b : List Nat) (r : Nat) : valC (b ++ List.replicate r 255) + 1 = (valC b + 1) * 256 ^ r := by
  induction r with
  | zero => simp
  | succ r ih => rw [List.replicate_succ', ← List.append_assoc, valC_snoc, Nat.pow_succ, ← Nat.mul_assoc, ← ih]; omega
theorem val_app0 (b : List Nat) (r : Nat) : valC (b ++ List.replicate r 0) = valC b * 256 ^ r := by
  induction r with
  | zero => simp
  | succ r ih => rw [List.replicate_succ', ← List.append_assoc, valC_snoc, Nat.pow_succ, ← Nat.mul_assoc, ← ih]; omega
theorem sett_val {s : List Nat} {a r c : Nat} (hc : c ≤ 1) : valC (settC s a r c) = valC (s ++ [a] ++ List.replicate r 255) + c := by
  unfold settC
  rcases Nat.eq_zero_or_pos c with h | h
  · subst h; rfl
  · obtain rfl : c = 1 := by omega
    rw [show (255 + 1) % 256 = 0 from rfl, val_app0, valC_snoc, val_app1, valC_snoc, Nat.add_assoc]
theorem sett_len (s : List Nat) (a r c : Nat) : (settC s a r c).length = s.length + 1 + r := by simp [settC]; omega
theorem sett_byte {s : List Nat} {a r c : Nat} (hs : ∀ x ∈ s, x < 256) (ha : a + c < 256) : ∀ x ∈ settC s a r c, x < 256 := by
  intro x hx
  unfold settC at hx
  rcases List.mem_append.1 hx with hx | hx
  · rcases List.mem_append.1 hx with hx | hx
    · exact hs x hx
    · rw [List.mem_singleton.1 hx]; exact ha
  · rw [(List.mem_replicate.1 hx).2]; exact Nat.mod_lt _ (by decide)
/-- What holds of the writer beside N, D and R. -/
structure WI (N D R lo : Nat) (s : List Nat) (a r : Nat) : Prop where
  num : N = valC (s ++ [a] ++ List.replicate r 255) * 4294967296 + lo
  dig : D = s.length + 1 + r + 4
  sum : lo + R ≤ 8589934592
  top : a = 255 → lo + R ≤ 4294967296
  byte : ∀ x ∈ s, x < 256
  ab : a < 256
theorem WI.carry {N D R lo : Nat} {s : List Nat} {a r : Nat} (h : WI N D R lo s a r) (hR : 1 ≤ R) : lo / 4294967296 ≤ 1 ∧ a + lo / 4294967296 < 256 := by
  have h1 := h.sum
  have h2 := h.ab
  refine ⟨by omega, ?_⟩
  by_cases h3 : a = 255
  · have := h.top h3; omega
  · omega
theorem WI.run {N D R lo : Nat} {s : List Nat} {a r : Nat} (h : WI N D R lo s a r) (hR : R < 16777216) (h1 : lo / 16777216 % 256 = 255) (h2 : lo < 4294967296) : WI (N * 256) (D + 1) (R * 256) (lo * 256 % 4294967296) s a (r + 1) := by
  refine ⟨?_, by have := h.dig; omega, by omega, fun ha => ?_, h.byte, h.ab⟩
  · rw [h.num, List.replicate_succ', ← List.append_assoc, valC_snoc]; omega
  · have := h.top ha; omega
theorem WI.out {N D R lo : Nat} {s : List Nat} {a r : Nat} (h : WI N D R lo s a r) (hR : R < 16777216) (hR1 : 1 ≤ R) (h1 : lo / 16777216 % 256 = 255 → 4294967296 ≤ lo) : WI (N * 256) (D + 1) (R * 256) (lo * 256 % 4294967296) (settC s a r (lo / 4294967296)) (lo / 16777216 % 256) 0 := by
  obtain ⟨hc, ha⟩ := h.carry hR1
  have hsum := h.sum
  refine ⟨?_, by have := h.dig; rw [sett_len]; omega, by omega, fun ha => ?_, sett_byte h.byte ha, Nat.mod_lt _ (by decide)⟩
  · rw [List.replicate_zero, List.append_nil, valC_snoc, sett_val hc, h.num]; omega
  · have := h1 ha; omega
theorem WI.take {N D R lo q fr ct : Nat} {s : List Nat} {a r W : Nat} (h : WI N D R lo s a r) (hq : q * W ≤ R) (hw : fr + ct ≤ W) : WI (N + q * fr) D (q * ct) (lo + q * fr) s a r := by
  have h1 : q * fr + q * ct ≤ R := Nat.le_trans (by rw [← Nat.mul_add]; exact Nat.mul_le_mul_left _ hw) hq
  have hsum := h.sum
  exact ⟨by rw [h.num]; omega, h.dig, by omega, fun ha => by have := h.top ha; omega, h.byte, h.ab⟩
theorem WI.end_ {N D R lo : Nat} {s : List Nat} {a r : Nat} (h : WI N D R lo s a r) (hR : 1 ≤ R) : settC s a r (lo / 4294967296) ++ [lo / 16777216 % 256, lo / 65536 % 256, lo / 256 % 256, lo % 256] = digC D N := by
  obtain ⟨hc, ha⟩ := h.carry hR
  have hb : ∀ x ∈ settC s a r (lo / 4294967296) ++ [lo / 16777216 % 256, lo / 65536 % 256, lo / 256 % 256, lo % 256], x < 256 := by
    intro x hx
    rcases List.mem_append.1 hx with hx | hx
    · exact sett_byte h.byte ha x hx
    · simp only [List.mem_cons, List.not_mem_nil, or_false] at hx
      rcases hx with rfl | rfl | rfl | rfl <;> exact Nat.mod_lt _ (by decide)
  have hl : (settC s a r (lo / 4294967296) ++ [lo / 16777216 % 256, lo / 65536 % 256, lo / 256 % 256, lo % 256]).length = D := by
    rw [List.length_append, sett_len, h.dig]; rfl
  rw [← dig_val D hl hb]
  congr 1
  have e : settC s a r (lo / 4294967296) ++ [lo / 16777216 % 256, lo / 65536 % 256, lo / 256 % 256, lo % 256] = (((settC s a r (lo / 4294967296) ++ [lo / 16777216 % 256]) ++ [lo / 65536 % 256]) ++ [lo / 256 % 256]) ++ [lo % 256] := by simp
  rw [e, valC_snoc, valC_snoc, valC_snoc, valC_snoc, sett_val hc, h.num]
  omega

theorem own_slice {w : World} {B : Nat} {e : TypeId} {v : Value} {xs : List Value} (h : Own w B e v xs) : ∃ A n c, v = .slice A n c := by
  obtain ⟨A, c, e, _⟩ := h.has
  exact ⟨_, _, _, e⟩
/-- The writer in memory: its own row of settled digits lies from B on. -/
def wv (A : Option Addr) (n c lo R : Nat) (sv : Value) (a r : Nat) : Array Value := #[.slice A n c, .int .u64 (lo : Int), .int .u64 (R : Int), sv, .int .u8 (a : Int), .int .i64 (r : Int)]
structure WM (w : World) (g B : Nat) (A : Option Addr) (n c lo R : Nat) (sv : Value) (s : List Nat) (a r : Nat) : Prop where
  blk : Blk w g 63 (wv A n c lo R sv a r)
  own : Own w B 5 sv (u8s s)
  low : g < B
  hi : B ≤ w.heap.size
section
variable {w w' : World} {g B : Nat} {A : Option Addr} {n c lo R : Nat} {sv : Value} {s : List Nat} {a r : Nat}
theorem WM.setS (h : Blk w g 63 (wv A n c lo R sv a r)) {sv' : Value} {s' : List Nat} (ho : Own w B 5 sv' (u8s s')) (hl : g < B) (hh : B ≤ w.heap.size) : WM (w.setCell ⟨g, 3, none⟩ sv') g B A n c lo R sv' s' a r :=
  ⟨h.set_ 3 sv', own_set ho hl 3 sv', hl, by simpa [World.setCell] using hh⟩
theorem WM.setR (h : WM w g B A n c lo R sv s a r) (r' : Nat) : WM (w.setCell ⟨g, 5, none⟩ (.int .i64 (r' : Int))) g B A n c lo R sv s a r' :=
  ⟨h.blk.set_ 5 _, own_set h.own h.low 5 _, h.low, by have := h.hi; simpa [World.setCell] using this⟩
theorem WM.setA (h : WM w g B A n c lo R sv s a r) (a' : Nat) : WM (w.setCell ⟨g, 4, none⟩ (.int .u8 (a' : Int))) g B A n c lo R sv s a' r :=
  ⟨h.blk.set_ 4 _, own_set h.own h.low 4 _, h.low, by have := h.hi; simpa [World.setCell] using this⟩
theorem WM.setW (h : WM w g B A n c lo R sv s a r) (lo' R' : Nat) : WM ((w.setCell ⟨g, 1, none⟩ (.int .u64 (lo' : Int))).setCell ⟨g, 2, none⟩ (.int .u64 (R' : Int))) g B A n c lo' R' sv s a r :=
  ⟨(h.blk.set_ 1 _).set_ 2 _, own_set (own_set h.own h.low 1 _) h.low 2 _, h.low, by have := h.hi; simpa [World.setCell] using this⟩
theorem WM.below (h : WM w g B A n c lo R sv s a r) (hb : Below w.heap.size w w') : WM w' g B A n c lo R sv s a r :=
  ⟨h.blk.below hb h.blk.lt, h.own.keep hb, h.low, Nat.le_trans h.hi hb.size⟩
end
theorem Chg.setg {D : Nat → Prop} {g : Nat} {w w' : World} (h : Chg D w w') (hg : D g) (o : Nat) (u : Value) : Chg D w (w'.setCell ⟨g, o, none⟩ u) :=
  h.then_ (Chg.of_far (Far1.farD (D := D) ((Far1.refl g w').set o u) hg)) fun _ _ h => h

set_option maxRecDepth 100000 in
set_option maxHeartbeats 1000000 in
theorem settle_any (g B : Nat) (A : Option Addr) (n c lo R : Nat) (sv : Value) (s : List Nat) (a r : Nat) (w : World) (h : WM w g B A n c lo R sv s a r) (hc : lo / 4294967296 ≤ 1) (ha : a + lo / 4294967296 < 256) (hs : s.length + r ≤ 100000) :
    Calls Try.prog 44 #[.pointer (some ⟨g, 0, none⟩)] w fun e w' => ∃ sv', e = .returned (.tuple #[]) ∧ WM w' g B A n c lo R sv' (settC s a r (lo / 4294967296)) a 0 ∧ Chg (fun k => k = g ∨ B ≤ k) w w' := by
  have c1 : w.cell? ⟨g, 1, none⟩ = some (.int .u64 (lo : Int)) := h.blk.cell 1
  have c3 : w.cell? ⟨g, 3, none⟩ = some sv := h.blk.cell 3
  have c4 : w.cell? ⟨g, 4, none⟩ = some (.int .u8 (a : Int)) := h.blk.cell 4
  have HM := Lib.hid h
  have HE : Hid ((lo : Int) / 4294967296 = ((lo / 4294967296 : Nat) : Int)) := rfl
  obtain ⟨cy, hcy⟩ : ∃ cy, lo / 4294967296 = cy := ⟨_, rfl⟩
  rw [hcy] at hc ha ⊢
  have e0 : (lo : Int) / 4294967296 = (cy : Int) := by omega
  have HS : Hid (settC s a 0 cy = s ++ [a + cy]) := by show _ = _; simp [settC]
  have HS2 : Hid (∀ i, settC s a i cy ++ [(255 + cy) % 256] = settC s a (i + 1) cy) := fun i => by unfold settC; rw [List.replicate_succ', List.append_assoc]
  have hx : Blk (w.alloc (.cells #[.int .u8 ((a : Int) + (cy : Int))] 5)) g 63 (wv A n c lo R sv a r) := h.blk.alloc _
  have d3 : (w.alloc (.cells #[.int .u8 ((a : Int) + (cy : Int))] 5)).cell? ⟨g, 3, none⟩ = some sv := hx.cell 3
  have HB1 : Hid (Below w.heap.size w (w.alloc (.cells #[.int .u8 ((a : Int) + (cy : Int))] 5)).drew) := (new_alloc (Below.refl _ w) _).drew
  have HO1 : Hid (OwnK 1 (w.alloc (.cells #[.int .u8 ((a : Int) + (cy : Int))] 5)).drew B 5 sv s.length (u8s s)) := by
    have h2 := h.own.keep HB1.out
    unfold Own at h2
    rw [u8s_len] at h2
    exact h2
  have HN1 : Hid (HasK 1 (w.alloc (.cells #[.int .u8 ((a : Int) + (cy : Int))] 5)).drew (some ⟨w.heap.size, 0, none⟩) 1 1 (u8s [a + cy])) := ((Has.one w (.int .u8 ((a : Int) + (cy : Int))) 5).drew).toK
  have hz1 : B ≤ (w.alloc (.cells #[.int .u8 ((a : Int) + (cy : Int))] 5)).drew.heap.size := Nat.le_trans h.hi HB1.out.size
  have HX : Hid (Blk (w.alloc (.cells #[.int .u8 ((a : Int) + (cy : Int))] 5)).drew g 63 (wv A n c lo R sv a r)) := hx
  have ew : IntKind.wrap .u8 ((a : Int) + (cy : Int)) = (a : Int) + (cy : Int) := by rw [IntKind.wrap_u8]; omega
  clear hcy h HE hx
  go_enter Try.func44, Try.ntmps44
  go_wp2
  go_region_law (first
    | (refine step_joinGK rfl _ _ 25 rfl elem8.toK (by decide) B _ s.length (u8s s) rfl HO1.out _ 1 1 (u8s [a + cy]) rfl HN1.out ?_ (by omega) (by decide) hz1 ?_
       · exact u8s_one _
       intro v5 w5 hown5 hgr5 hwh5
       have HC5 := Lib.hid ((Chg.of_below (D := fun k => k = g ∨ B ≤ k) HB1.out).then_ (Chg.of_grown hgr5) fun k _ e => Or.inr (OwnK.ge HO1.out k e))
       have HX5 := Lib.hid (HX.out.chg (Chg.of_grown hgr5) fun e => by have := OwnK.ge HO1.out g e; have := HM.out.low; omega)
       have s3 : w5.cell? ⟨g, 3, none⟩ = some sv := HX5.out.cell 3
       have f3 := HX5.out.frozen 3
       have HO5 : Hid (Own w5 B 5 v5 (u8s (settC s a 0 cy))) := by
         show Own _ _ _ _ _
         rw [HS.out, u8s_app]
         unfold Own
         rw [List.length_append, u8s_len, u8s_len]
         exact hown5
       obtain ⟨A5, n5, c5, hv5⟩ := own_slice HO5.out
       subst hv5
       have HM5 := Lib.hid (WM.setS HX5.out HO5.out HM.out.low (Nat.le_trans HM.out.hi HC5.out.size))
       have HC6 := Lib.hid (HC5.out.setg (Or.inl rfl) 3 (.slice A5 n5 c5))
       clear hown5 hgr5 hwh5 HC5 HO5))
  all_goals
    clear d3 c1 c3 c4 HO1 HN1 HX HX5 s3 f3 hz1 HB1 ew
    generalize w5.setCell ⟨g, 3, none⟩ (.slice A5 n5 c5) = w6 at *
    have k5 : w6.cell? ⟨g, 5, none⟩ = some (.int .i64 (r : Int)) := HM5.out.blk.cell 5
    go_wp2
    go_loopg [29] r (fun gh s29 wx => ∃ (i : Nat) (vx : Value), i + gh = r ∧ s29 = .int .i64 i ∧ Hid (WM wx g B A n c lo R vx (settC s a i cy) a r) ∧ Hid (Chg (fun k => k = g ∨ B ≤ k) w wx))
    case atStart => exact ⟨0, _, by omega, rfl, HM5, HC6⟩
    case round =>
      obtain ⟨i, vx, hig, rfl, HW, HC⟩ := hrel
      clear HM5 HC6 k5
      by_cases hi : i < r
      · have ti : decide (i < r) = true := by simpa using hi
        have ew : IntKind.wrap .u8 (255 + (cy : Int)) = (((255 + cy) % 256 : Nat) : Int) := by rw [IntKind.wrap_u8]; omega
        have r3 : wr.cell? ⟨g, 3, none⟩ = some vx := HW.out.blk.cell 3
        have HBa : Hid (Below wr.heap.size wr (wr.alloc (.cells #[.int .u8 (((255 + cy) % 256 : Nat) : Int)] 5))) := new_alloc (Below.refl _ wr) _
        have HWa := Lib.hid (HW.out.below HBa.out)
        have HSs := Lib.hid (HS2.out i)
        have hlen := sett_len s a i cy
        generalize (255 + cy) % 256 = z at *
        go_wp2_with (at_builtin
                     refine wpList_joinG rfl _ _ 25 rfl elem8 B _ _ rfl HWa.out.own _ 1 1 (u8s [z]) rfl (Has.one _ _ _) (u8s_one _) (by rw [u8s_len]; omega) (by decide) HWa.out.hi ?_
                     intro v7 w7 hown7 _ hgr7 _
                     rw [← u8s_app, HSs.out] at hown7
                     obtain ⟨A7, n7, c7, hv7⟩ := own_slice hown7
                     subst hv7
                     have HC7 := Lib.hid ((HC.out.then_ (Chg.of_below HBa.out) fun _ _ h => h).then_ (Chg.of_grown hgr7) fun k _ e => Or.inr (OwnK.ge HWa.out.own k e))
                     have HX7 := Lib.hid (HWa.out.blk.chg (Chg.of_grown hgr7) fun e => by have := OwnK.ge HWa.out.own g e; have := HWa.out.low; omega)
                     have s3 : w7.cell? ⟨g, 3, none⟩ = some vx := HX7.out.cell 3
                     have f3 := HX7.out.frozen 3
                     have HM7 := Lib.hid (WM.setS HX7.out hown7 HWa.out.low (Nat.le_trans HM.out.hi HC7.out.size))
                     have HC8 := Lib.hid (HC7.out.setg (Or.inl rfl) 3 (.slice A7 n7 c7))
                     clear hown7 hgr7 HC7)
        go_roundg (gk - 1)
        case measure => omega
        case rel => exact ⟨i + 1, _, by omega, by go_num, HM7, HC8⟩
      · have ti : decide (i < r) = false := by simpa using hi
        obtain rfl : i = r := by omega
        have s5 : wr.cell? ⟨g, 5, none⟩ = some (.int .i64 (i : Int)) := HW.out.blk.cell 5
        have f5 := HW.out.blk.frozen 5
        have HM9 := Lib.hid (HW.out.setR 0)
        have HC9 := Lib.hid (HC.out.setg (Or.inl rfl) 5 (.int .i64 0))
        go_wp2
        go_end0
        exact ⟨vx, rfl, HM9.out, HC9.out⟩
end Go.Proofs.Ytfkmcjlapigapaa
