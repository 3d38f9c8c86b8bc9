/- The landed wide: what its calls keep. -/
import Derived.Test.YtnhoinonojhgiaaWideLaw
import Derived.Test.YtnhoinonojhgiaaWideBits
namespace Go.Proofs.Ytnhoinonojhgiaa
open Go.RowKit

set_option maxRecDepth 100000 in
theorem wideOf_any (n : Int) (w : World) (hn : i64W n) : Calls Try.prog 34 #[.int .i64 n] w fun e w' => e = .returned (numV n) ∧ Below w.heap.size w w' := by
  obtain ⟨kz, ks⟩ := zero_of_info numInfo
  unfold i64W at hn
  have H1 : Hid (n / 9223372036854775808 = hiW n) := by show _ = _; unfold hiW wrap64; omega
  have H2 : Hid (IntKind.wrap .u64 n = loW n) := by show _ = _; rw [IntKind.wrap_u64]; rfl
  unfold numV
  go_enter Try.func34, Try.ntmps34
  go_wp2
  exact bodyPost_ret (results_cell8 Try.results34 rfl (num_load _ _ _ _ (Blk.new w _ _))) rfl ⟨ret_num H1.out H2.out, new_alloc (Below.refl _ _) _⟩
set_option maxRecDepth 100000 in
theorem wideMul_any (a b : Int) (w : World) (ha : i64W a) (hb : i64W b) : Calls Try.prog 40 #[.int .i64 a, .int .i64 b] w fun e w' => e = .returned (numV (a * b)) ∧ Below w.heap.size w w' := by
  obtain ⟨kz, ks⟩ := zero_of_info numInfo
  unfold numV
  have hX : u64W (a % 18446744073709551616) := by unfold u64W; omega
  have hY : u64W (b % 18446744073709551616) := by unfold u64W; omega
  have HM := Lib.hid (fun W => mul64_any _ _ hX hY W)
  have eA : IntKind.wrap .u64 a = a % 18446744073709551616 := IntKind.wrap_u64 a
  have eB : IntKind.wrap .u64 b = b % 18446744073709551616 := IntKind.wrap_u64 b
  have HP : Hid (a % 18446744073709551616 * (b % 18446744073709551616) = a * b + (if a < 0 then 18446744073709551616 * b else 0) + (if b < 0 then 18446744073709551616 * a else 0) + (if a < 0 ∧ b < 0 then bigW else 0)) := by
    unfold i64W at ha hb
    show _ = _
    by_cases h1 : a < 0
    · by_cases h2 : b < 0
      · rw [if_pos h1, if_pos h2, if_pos ⟨h1, h2⟩, show a % 18446744073709551616 = a + 18446744073709551616 by omega, show b % 18446744073709551616 = b + 18446744073709551616 by omega, Int.add_mul, Int.mul_add]
        unfold bigW
        omega
      · rw [if_pos h1, if_neg h2, if_neg (fun h => h2 h.2), show a % 18446744073709551616 = a + 18446744073709551616 by omega, show b % 18446744073709551616 = b by omega, Int.add_mul]
        omega
    · by_cases h2 : b < 0
      · rw [if_neg h1, if_pos h2, if_neg (fun h => h1 h.1), show a % 18446744073709551616 = a by omega, show b % 18446744073709551616 = b + 18446744073709551616 by omega, Int.mul_add]
        omega
      · rw [if_neg h1, if_neg h2, if_neg (fun h => h1 h.1), show a % 18446744073709551616 = a by omega, show b % 18446744073709551616 = b by omega]
        omega
  obtain ⟨P, hP⟩ : ∃ P, a % 18446744073709551616 * (b % 18446744073709551616) = P := ⟨_, rfl⟩
  rw [hP] at HP HM
  clear hP hX hY
  by_cases h1 : a < 0
  · have ta : decide (a < 0) = true := by simpa using h1
    by_cases h2 : b < 0
    · have tb : decide (b < 0) = true := by simpa using h2
      have H1 : Hid (wrap64 (IntKind.wrap .u64 (IntKind.wrap .u64 (P / 18446744073709551616 - b % 18446744073709551616) - a % 18446744073709551616)) = hiW (a * b)) := by
        have hp := HP.out
        rw [if_pos h1, if_pos h2, if_pos ⟨h1, h2⟩] at hp
        show _ = _
        unfold hiW bigW at *
        generalize a * b = q at *
        simp only [IntKind.wrap_u64]
        unfold wrap64
        omega
      have H2 : Hid (P % 18446744073709551616 = loW (a * b)) := by
        have hp := HP.out
        rw [if_pos h1, if_pos h2, if_pos ⟨h1, h2⟩] at hp
        show _ = _
        unfold loW bigW at *
        generalize a * b = q at *
        omega
      clear HP h1 h2
      go_enter Try.func40, Try.ntmps40
      go_wp2_with fail
      refine (HM.out _).mono ?_
      rintro e w2 ⟨rfl, rfl⟩
      go_wp2
      exact bodyPost_ret (results_cell8 Try.results40 rfl (num_load _ _ _ _ (Blk.new w _ _))) rfl ⟨ret_num H1.out H2.out, new_alloc (Below.refl _ _) _⟩
    · have tb : decide (b < 0) = false := by simpa using h2
      have H1 : Hid (wrap64 (IntKind.wrap .u64 (P / 18446744073709551616 - b % 18446744073709551616)) = hiW (a * b)) := by
        have hp := HP.out
        rw [if_pos h1, if_neg h2, if_neg (by omega)] at hp
        show _ = _
        unfold hiW bigW at *
        generalize a * b = q at *
        simp only [IntKind.wrap_u64]
        unfold wrap64
        omega
      have H2 : Hid (P % 18446744073709551616 = loW (a * b)) := by
        have hp := HP.out
        rw [if_pos h1, if_neg h2, if_neg (by omega)] at hp
        show _ = _
        unfold loW bigW at *
        generalize a * b = q at *
        omega
      clear HP h1 h2
      go_enter Try.func40, Try.ntmps40
      go_wp2_with fail
      refine (HM.out _).mono ?_
      rintro e w2 ⟨rfl, rfl⟩
      go_wp2
      exact bodyPost_ret (results_cell8 Try.results40 rfl (num_load _ _ _ _ (Blk.new w _ _))) rfl ⟨ret_num H1.out H2.out, new_alloc (Below.refl _ _) _⟩
  · have ta : decide (a < 0) = false := by simpa using h1
    by_cases h2 : b < 0
    · have tb : decide (b < 0) = true := by simpa using h2
      have H1 : Hid (wrap64 (IntKind.wrap .u64 (P / 18446744073709551616 - a % 18446744073709551616)) = hiW (a * b)) := by
        have hp := HP.out
        rw [if_neg h1, if_pos h2, if_neg (by omega)] at hp
        show _ = _
        unfold hiW bigW at *
        generalize a * b = q at *
        simp only [IntKind.wrap_u64]
        unfold wrap64
        omega
      have H2 : Hid (P % 18446744073709551616 = loW (a * b)) := by
        have hp := HP.out
        rw [if_neg h1, if_pos h2, if_neg (by omega)] at hp
        show _ = _
        unfold loW bigW at *
        generalize a * b = q at *
        omega
      clear HP h1 h2
      go_enter Try.func40, Try.ntmps40
      go_wp2_with fail
      refine (HM.out _).mono ?_
      rintro e w2 ⟨rfl, rfl⟩
      go_wp2
      exact bodyPost_ret (results_cell8 Try.results40 rfl (num_load _ _ _ _ (Blk.new w _ _))) rfl ⟨ret_num H1.out H2.out, new_alloc (Below.refl _ _) _⟩
    · have tb : decide (b < 0) = false := by simpa using h2
      have H1 : Hid (wrap64 (P / 18446744073709551616) = hiW (a * b)) := by
        have hp := HP.out
        rw [if_neg h1, if_neg h2, if_neg (by omega)] at hp
        show _ = _
        unfold hiW bigW at *
        generalize a * b = q at *
        unfold wrap64
        omega
      have H2 : Hid (P % 18446744073709551616 = loW (a * b)) := by
        have hp := HP.out
        rw [if_neg h1, if_neg h2, if_neg (by omega)] at hp
        show _ = _
        unfold loW bigW at *
        generalize a * b = q at *
        omega
      clear HP h1 h2
      go_enter Try.func40, Try.ntmps40
      go_wp2_with fail
      refine (HM.out _).mono ?_
      rintro e w2 ⟨rfl, rfl⟩
      go_wp2
      exact bodyPost_ret (results_cell8 Try.results40 rfl (num_load _ _ _ _ (Blk.new w _ _))) rfl ⟨ret_num H1.out H2.out, new_alloc (Below.refl _ _) _⟩
/-- A wide number in a block. -/
def NumAt (g : Nat) (h l : Int) (W : World) : Prop := Blk W g 34 #[.int .i64 h, .int .u64 l]
theorem NumAt.new (w : World) (h l : Int) : NumAt w.heap.size h l (w.alloc (.cells #[.int .i64 h, .int .u64 l] 34)) := Blk.new w _ _
theorem NumAt.kept {g : Nat} {h l : Int} {W W' : World} (k : NumAt g h l W) (hb : Below W.heap.size W W') : NumAt g h l W' := Blk.below k hb (Blk.lt k)
theorem NumAt.c0 {g : Nat} {h l : Int} {W : World} (k : NumAt g h l W) : W.cell? ⟨g, 0, none⟩ = some (.int .i64 h) := Blk.cell k 0
theorem NumAt.c1 {g : Nat} {h l : Int} {W : World} (k : NumAt g h l W) : W.cell? ⟨g, 1, none⟩ = some (.int .u64 l) := Blk.cell k 1
theorem u64_of {h : Int} : u64W (h % 18446744073709551616) := by unfold u64W; omega
theorem Blk.new_two (w : World) (o : Obj) (t : TypeId) (cs : Array Value) : Blk ((w.alloc o).alloc (.cells cs t)) (w.heap.size + 1) t cs := by
  have h := Blk.new (w.alloc o) t cs
  rw [show (w.alloc o).heap.size = w.heap.size + 1 from Array.size_push _] at h
  exact h
theorem third_new (w : World) (o p : Obj) (t : TypeId) (cs : Array Value) : Blk (((w.alloc o).alloc p).alloc (.cells cs t)) (w.heap.size + 1 + 1) t cs := by
  have h := Blk.new ((w.alloc o).alloc p) t cs
  rw [show ((w.alloc o).alloc p).heap.size = w.heap.size + 1 + 1 from by show (Array.push _ _).size = _; rw [Array.size_push]; exact congrArg (· + 1) (Array.size_push _)] at h
  exact h
set_option maxRecDepth 100000 in
theorem wideNeg_any (h l : Int) (w : World) (_ : i64W h) (hl : u64W l) : Calls Try.prog 26 #[.agg #[.int .i64 h, .int .u64 l]] w fun e w' => e = .returned (numV (-(valW h l))) ∧ Below w.heap.size w w' := by
  obtain ⟨kz, ks⟩ := zero_of_info numInfo
  unfold numV
  have e1 := fun W => sub64_run 0 l 0 (by unfold u64W; decide) hl (by decide) W
  obtain ⟨B, hB⟩ : ∃ B : Int, (if 0 < l + 0 then 1 else 0) = B := ⟨_, rfl⟩
  have hk : 0 ≤ B ∧ B ≤ 1 := by
    rw [← hB]
    by_cases h0 : 0 < l + 0
    · rw [if_pos h0]; decide
    · rw [if_neg h0]; decide
  have e2 := fun W => sub64_run 0 (h % 18446744073709551616) B (by unfold u64W; decide) u64_of hk W
  have eA : IntKind.wrap .u64 h = h % 18446744073709551616 := IntKind.wrap_u64 h
  rw [hB] at e1
  obtain ⟨L, hL⟩ : ∃ L : Int, (0 - l - 0) % 18446744073709551616 = L := ⟨_, rfl⟩
  rw [hL] at e1
  obtain ⟨H, hH⟩ : ∃ H : Int, (0 - h % 18446744073709551616 - B) % 18446744073709551616 = H := ⟨_, rfl⟩
  rw [hH] at e2
  generalize (if (0 : Int) < h % 18446744073709551616 + B then (1 : Int) else 0) = Z at e2
  have H1 : Hid (wrap64 H = hiW (-(valW h l))) := by
    show _ = _
    unfold u64W at *
    unfold hiW valW wrap64
    by_cases h0 : 0 < l + 0
    · rw [if_pos h0] at hB; omega
    · rw [if_neg h0] at hB; omega
  have H2 : Hid (L = loW (-(valW h l))) := by
    show _ = _
    unfold loW valW
    omega
  clear hk hl hB hL hH
  go_enter Try.func26, Try.ntmps26
  go_wp2
  exact bodyPost_ret (results_cell8 Try.results26 rfl (num_load _ _ _ _ (Blk.new_two w _ _ _))) rfl ⟨ret_num H1.out H2.out, new_alloc (new_alloc (Below.refl _ _) _) _⟩
set_option maxRecDepth 100000 in
theorem cmpInt_any (x y : Int) (w : World) : Calls Try.prog 54 #[.int .i64 x, .int .i64 y] w fun e w' => e = .returned (.int .i64 (cmpI x y)) ∧ w = w' := by
  have HE : Hid (cmpI x y = if x < y then -1 else if y < x then 1 else 0) := by show _ = _; rfl
  go_enter Try.func54, Try.ntmps54
  by_cases h1 : x < y
  · have t1 : decide (x < y) = true := by simpa using h1
    rw [if_pos h1] at HE
    go_wp2
    go_ret
    exact ⟨by rw [HE.out]; rfl, rfl⟩
  · have t1 : decide (x < y) = false := by simpa using h1
    rw [if_neg h1] at HE
    by_cases h2 : y < x
    · have t2 : decide (y < x) = true := by simpa using h2
      rw [if_pos h2] at HE
      clear h1 h2
      go_wp2
      go_ret
      exact ⟨by rw [HE.out]; rfl, rfl⟩
    · have t2 : decide (y < x) = false := by simpa using h2
      rw [if_neg h2] at HE
      clear h1 h2
      go_wp2
      go_ret
      exact ⟨by rw [HE.out]; rfl, rfl⟩
set_option maxRecDepth 100000 in
theorem cmpWord_any (x y : Int) (w : World) : Calls Try.prog 55 #[.int .u64 x, .int .u64 y] w fun e w' => e = .returned (.int .i64 (cmpI x y)) ∧ w = w' := by
  have HE : Hid (cmpI x y = if x < y then -1 else if y < x then 1 else 0) := by show _ = _; rfl
  go_enter Try.func55, Try.ntmps55
  by_cases h1 : x < y
  · have t1 : decide (x < y) = true := by simpa using h1
    rw [if_pos h1] at HE
    go_wp2
    go_ret
    exact ⟨by rw [HE.out]; rfl, rfl⟩
  · have t1 : decide (x < y) = false := by simpa using h1
    rw [if_neg h1] at HE
    by_cases h2 : y < x
    · have t2 : decide (y < x) = true := by simpa using h2
      rw [if_pos h2] at HE
      clear h1 h2
      go_wp2
      go_ret
      exact ⟨by rw [HE.out]; rfl, rfl⟩
    · have t2 : decide (y < x) = false := by simpa using h2
      rw [if_neg h2] at HE
      clear h1 h2
      go_wp2
      go_ret
      exact ⟨by rw [HE.out]; rfl, rfl⟩
set_option maxRecDepth 100000 in
theorem or2_any (A : Option Addr) (x y k : Int) (w : World) (hA : Has w A 2 2 [.int .i64 x, .int .i64 y]) (hk : (if x = 0 then y else x) = k) : Calls Try.prog 53 #[.slice A 2 2] w fun e w' => e = .returned (.int .i64 k) ∧ w = w' := by
  obtain ⟨b, off, rfl, _, hc⟩ := hA.spot (by decide)
  have HC := Lib.hid hc
  have HK := Lib.hid hk
  clear hA hc hk
  go_enter Try.func53, Try.ntmps53
  go_wp2
  go_loopg [8] 2 (fun g s8 wx => ∃ i : Nat, i + g = 2 ∧ s8 = .int .i64 i ∧ wx = w ∧ (1 ≤ i → x = 0) ∧ (2 ≤ i → y = 0))
  case atStart => exact ⟨0, by omega, rfl, rfl, fun h => absurd h (by decide), fun h => absurd h (by decide)⟩
  case round =>
    obtain ⟨i, hig, rfl, hw, h1, h2⟩ := hrel
    subst hw
    by_cases hi : i < 2
    · have ti : decide ((i : Int) < 2) = true := by simp; omega
      have i2 : (i : Int) < 2 := by omega
      obtain ⟨v, hv, hvx⟩ : ∃ v, wr.cell? ⟨b, off + i, none⟩ = some (.int .i64 v) ∧ (i = 0 ∧ v = x ∨ i = 1 ∧ v = y) := by
        rcases (show i = 0 ∨ i = 1 by omega) with rfl | rfl
        · exact ⟨x, HC.out 0 _ rfl, Or.inl ⟨rfl, rfl⟩⟩
        · exact ⟨y, HC.out 1 _ rfl, Or.inr ⟨rfl, rfl⟩⟩
      by_cases h0 : v = 0
      · have tv : (v != 0) = false := by rw [h0]; rfl
        have HX : Hid ((1 ≤ i + 1 → x = 0) ∧ (2 ≤ i + 1 → y = 0)) := ⟨fun _ => by rcases hvx with ⟨_, h⟩ | ⟨_, _⟩ <;> (first | exact h1 (by omega) | omega), fun _ => by rcases hvx with ⟨_, _⟩ | ⟨_, h⟩ <;> omega⟩
        clear hvx h0 h1 h2
        go_wp2
        go_roundg (gk - 1)
        case measure => omega
        case rel => exact ⟨i + 1, by omega, by go_num, rfl, HX.out.1, HX.out.2⟩
      · have tv : (v != 0) = true := bne_iff_ne.2 h0
        have HE : Hid (k = v) := by
          show _ = _
          rw [← HK.out]
          rcases hvx with ⟨_, h⟩ | ⟨_, h⟩
          · rw [if_neg (by omega), h]
          · rw [if_pos (h1 (by omega)), h]
        clear hvx h0 h1 h2
        go_wp2
        go_ret
        exact ⟨by rw [HE.out]; rfl, rfl⟩
    · have ti : decide ((i : Int) < 2) = false := by simp; omega
      have HE : Hid (k = 0) := by show _ = _; rw [← HK.out, if_pos (h1 (by omega)), h2 (by omega)]
      clear h1 h2
      go_wp2
      go_ret
      exact ⟨by rw [HE.out]; rfl, rfl⟩
theorem cmp_words {h l h' l' : Int} (hl : u64W l) (hl' : u64W l') : (if cmpI h h' = 0 then cmpI l l' else cmpI h h') = cmpI (valW h l) (valW h' l') := by
  unfold u64W at hl hl'
  unfold cmpI valW
  by_cases h1 : h < h'
  · rw [if_pos h1, if_neg (by decide), if_pos (by omega)]
  · by_cases h2 : h' < h
    · rw [if_neg h1, if_pos h2, if_neg (by decide), if_neg (by omega), if_pos (by omega)]
    · rw [if_neg h1, if_neg h2, if_pos rfl]
      by_cases h3 : l < l'
      · rw [if_pos h3, if_pos (by omega)]
      · by_cases h4 : l' < l
        · rw [if_neg h3, if_pos h4, if_neg (by omega), if_pos (by omega)]
        · rw [if_neg h3, if_neg h4, if_neg (by omega), if_neg (by omega)]
set_option maxRecDepth 100000 in
set_option maxHeartbeats 400000 in
theorem wideCmp_any (h l h' l' : Int) (w : World) (_ : i64W h) (hl : u64W l) (_ : i64W h') (hl' : u64W l') : Calls Try.prog 46 #[.agg #[.int .i64 h, .int .u64 l], .agg #[.int .i64 h', .int .u64 l']] w fun e w' => e = .returned (.int .i64 (cmpI (valW h l) (valW h' l'))) ∧ Below w.heap.size w w' := by
  have HE := Lib.hid (cmp_words (h := h) (h' := h') hl hl')
  have HC1 := Lib.hid (fun W => cmpInt_any h h' W)
  have HC2 := Lib.hid (fun W => cmpWord_any l l' W)
  generalize cmpI h h' = k1 at *
  generalize cmpI l l' = k2 at *
  generalize cmpI (valW h l) (valW h' l') = k at *
  clear hl hl'
  have HX := Lib.hid ((Blk.new w 34 #[.int .i64 h, .int .u64 l]).alloc (.cells #[.int .i64 h', .int .u64 l'] 34))
  have HY := Lib.hid (Blk.new_two w (.cells #[.int .i64 h, .int .u64 l] 34) 34 #[.int .i64 h', .int .u64 l'])
  have HB := Lib.hid (new_alloc (new_alloc (Below.refl w.heap.size w) (.cells #[.int .i64 h, .int .u64 l] 34)) (.cells #[.int .i64 h', .int .u64 l'] 34))
  go_enter Try.func46, Try.ntmps46
  go_wp2_with (with_reducible fail)
  generalize (w.alloc (.cells #[.int .i64 h, .int .u64 l] 34)).alloc (.cells #[.int .i64 h', .int .u64 l'] 34) = W0 at *
  have HS : Hid (∀ W, Below W0.heap.size W0 W → W.cell? ⟨w.heap.size, 0, none⟩ = some (.int .i64 h) ∧ W.cell? ⟨w.heap.size, 1, none⟩ = some (.int .u64 l) ∧ W.cell? ⟨w.heap.size + 1, 0, none⟩ = some (.int .i64 h') ∧ W.cell? ⟨w.heap.size + 1, 1, none⟩ = some (.int .u64 l')) := fun W hW =>
    ⟨(HX.out.below hW HX.out.lt).cell 0, (HX.out.below hW HX.out.lt).cell 1, (HY.out.below hW HY.out.lt).cell 0, (HY.out.below hW HY.out.lt).cell 1⟩
  have HBa : Hid (Below W0.heap.size W0 (W0.alloc (.cells #[.int .i64 k1, .int .i64 k2] 3)).drew) := (new_alloc (Below.refl _ _) _).drew
  go_region_held3 (fun W => W.cell? ⟨w.heap.size, 0, none⟩ = some (.int .i64 h) ∧ W.cell? ⟨w.heap.size, 1, none⟩ = some (.int .u64 l) ∧ W.cell? ⟨w.heap.size + 1, 0, none⟩ = some (.int .i64 h') ∧ W.cell? ⟨w.heap.size + 1, 1, none⟩ = some (.int .u64 l')) (first | (with_reducible exact HS.out _ (Below.refl _ _)) | (with_reducible exact HS.out _ (Below.refl _ _).drew) | (with_reducible exact HS.out _ HBa.out)) (first
    | (go_at_call 54; (with_reducible refine (HC1.out _).mono ?_); rintro e v1 ⟨rfl, rfl⟩)
    | (go_at_call 55; (with_reducible refine (HC2.out _).mono ?_); rintro e v2 ⟨rfl, rfl⟩)
    | (go_at_call 53; (with_reducible refine (or2_any (some ⟨W0.heap.size, 0, none⟩) k1 k2 k _ ((Has.new_at W0 #[.int .i64 k1, .int .i64 k2] 3 _ rfl).kept (Below.refl _ _).drew) HE.out).mono ?_); rintro e v3 ⟨rfl, rfl⟩))
  all_goals
    go_wp2
    go_ret
    exact ⟨rfl, HB.out.trans (HBa.out.mono (HB.out.size))⟩
end Go.Proofs.Ytnhoinonojhgiaa
