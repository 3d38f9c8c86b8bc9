/- lapidaryref08: Dot. -/
import Derived.Test.YtjecognpechapaaWideRefD
namespace Go.Proofs.Ytjecognpechapaa
open Go.RowKit

theorem results_pair8 {fn : Func} {p u : Tmp} {ty : TypeId} (h : fn.results = #[.cell p ty, .tmp u]) {tmps : Array Value} {P : Program} {w : World} {a : Addr} {v : Value} (hp : tmps.getD p undef = .pointer (some a))
    (hl : (loadVar ty a).run P w = .ok v w) : (results fn tmps).run P w = .ok (.tuple #[v, tmps.getD u undef]) w := by
  have hp' : tmps[p]?.getD undef = .pointer (some a) := by rw [← hp]; simp
  simp only [results, h]
  simp [hp', asAddr, hl]
theorem Bigd.cong {w : World} {x y : Int} {e : Ending} {w' : World} (h : Bigd w x e w') (hc : Cong x y) : Bigd w y e w' := by
  obtain ⟨A, c, h1, h2, h3, h4⟩ := h
  rw [digI_cong hc] at h2
  exact ⟨A, c, h1, h2, h3, h4⟩
theorem ref8MulD_any (A : Option Addr) (c : Nat) (x : Int) (B : Option Addr) (d : Nat) (y : Int) (w : World) (hA : Has w A 8 c (intVs (digI 8 x))) (hB : Has w B 8 d (intVs (digI 8 y))) :
    Calls Try.prog 13 #[.agg #[.slice A 8 c], .agg #[.slice B 8 d]] w (Bigd w (x * y)) :=
  (ref8Mul_any A c _ B d _ w hA hB (digI_bd 8 x) (digI_bd 8 y)).mono fun _ _ h => h.cong ((val_cong x).mul (val_cong y)).symm
theorem ref8AddD_any (A : Option Addr) (c : Nat) (x : Int) (B : Option Addr) (d : Nat) (y : Int) (w : World) (hA : Has w A 8 c (intVs (digI 8 x))) (hB : Has w B 8 d (intVs (digI 8 y))) :
    Calls Try.prog 19 #[.agg #[.slice A 8 c], .agg #[.slice B 8 d]] w (Bigd w (x + y)) :=
  (ref8Add_any A c _ B d _ w hA hB (digI_bd 8 x) (digI_bd 8 y)).mono fun _ _ h => h.cong ((val_cong x).add (val_cong y)).symm
/-- The sum of the products of every two. -/
def dotI : List Int → Int
  | a :: b :: l => a * b + dotI l
  | _ => 0
theorem dot_drop {l : List Int} {i : Nat} (h1 : 2 * i < l.length) (h2 : 2 * i + 1 < l.length) : dotI (l.drop (2 * i)) = l[2 * i] * l[2 * i + 1] + dotI (l.drop (2 * (i + 1))) := by
  rw [List.drop_eq_getElem_cons h1, List.drop_eq_getElem_cons h2, show 2 * i + 1 + 1 = 2 * (i + 1) by omega]
  rfl
/-- What Dot tells. -/
def dotR (l : List Int) : Int × Nat := if l.length % 2 ≠ 0 then (0, 2) else (dotI l, 0)
def Dotd (w : World) (r : Int × Nat) (e : Ending) (w' : World) : Prop := ∃ A c, e = .returned (.tuple #[.agg #[.slice A 8 c], .int .i64 (r.2 : Int)]) ∧ Has w' A 8 c (intVs (digI 8 r.1)) ∧ Below w.heap.size w w'
theorem dot_pass {w w2 : World} {g : Nat} {A : Option Addr} {c : Nat} {x : Int} {v : Value} (hK : Blk w2 g 29 #[v]) (hg : w.heap.size ≤ g) (hh : Has w2 A 8 c (intVs (digI 8 x))) (hn : ∀ b off, A = some ⟨b, off, none⟩ → g < b) (hB : Below w.heap.size w w2) (k : Nat) :
    (loadVar 29 ⟨g, 0, none⟩).run Try.prog (w2.setCell ⟨g, 0, none⟩ (.slice A 8 c)) = .ok (.agg #[.slice A 8 c]) (w2.setCell ⟨g, 0, none⟩ (.slice A 8 c))
      ∧ Dotd w (x, k) (.returned (.tuple #[.agg #[.slice A 8 c], .int .i64 (k : Int)])) (w2.setCell ⟨g, 0, none⟩ (.slice A 8 c)) := by
  obtain ⟨h1, A', c', h2, h3, h4, _⟩ := big_pass hK hg hh hn hB
  cases h2
  exact ⟨h1, A, c, rfl, h3, h4⟩
/-- The sum so far, in its place, and the answer's. -/
structure SumAt (w : World) (g : Nat) (A : Option Addr) (c : Nat) (x : Int) (wx : World) : Prop where
  b0 : Blk wx w.heap.size 29 #[.slice none 0 0]
  b1 : Blk wx g 29 #[.slice A 8 c]
  has : Has wx A 8 c (intVs (digI 8 x))
  far : ∀ b off, A = some ⟨b, off, none⟩ → b ≠ g ∧ w.heap.size < b
  bel : Below w.heap.size w wx
  gt : w.heap.size < g
theorem SumAt.next {w wx w' : World} {g : Nat} {A : Option Addr} {c : Nat} {x : Int} (h : SumAt w g A c x wx) (hb : Below wx.heap.size wx w') : SumAt w g A c x w' :=
  ⟨h.b0.below hb h.b0.lt, h.b1.below hb h.b1.lt, h.has.kept hb, h.far, new_call h.bel hb, h.gt⟩
theorem SumAt.put {w wx w' : World} {g : Nat} {A A' : Option Addr} {c c' : Nat} {x x' : Int} (h : SumAt w g A c x wx) (hb : Below wx.heap.size wx w') (hh : Has w' A' 8 c' (intVs (digI 8 x'))) (hn : ∀ b off, A' = some ⟨b, off, none⟩ → wx.heap.size ≤ b) : SumAt w g A' c' x' (w'.setCell ⟨g, 0, none⟩ (.slice A' 8 c')) := by
  have h2 := h.next hb
  have hg := h.b1.lt
  have hgt := h.gt
  refine ⟨h2.b0.far (by show w.heap.size ≠ g; omega) _, h2.b1.set_ 0 _, hh.off g (fun b off hA => by have := hn b off hA; omega) 0 _, fun b off hA => by have := hn b off hA; omega, h2.bel.setCell (Nat.le_of_lt hgt) _, hgt⟩
set_option maxRecDepth 100000 in
set_option maxHeartbeats 800000 in
theorem ref8Dot_any (A : Option Addr) (n c : Nat) (l : List Int) (w : World) (h : Has w A n c (intVs l)) (hl : ∀ x ∈ l, i64W x) (hn : n ≤ 100000) : Calls Try.prog 26 #[.slice A n c] w (Dotd w (dotR l)) := by
  obtain ⟨kz, ks⟩ := zero_of_info bigInfo
  have HL : Hid (l.length = n) := by have := h.len; rw [intVs_len] at this; exact this
  have HH := Lib.hid h
  have HBy := Lib.hid hl
  clear h hl
  have HOf := Lib.hid (fun x W (hx : i64W x) => ref8Of_any x W hx)
  have HK0 : Hid (Blk (w.alloc (.cells #[.slice none 0 0] 29)) w.heap.size 29 #[.slice none 0 0]) := Blk.new w _ _
  have HB0 := Lib.hid (new_alloc (Below.refl w.heap.size w) (.cells #[.slice none 0 0] 29))
  have HZ0 : Hid (w.heap.size < (w.alloc (.cells #[.slice none 0 0] 29)).heap.size) := HK0.out.lt
  have HO0 := Lib.hid (HOf.out 0 (w.alloc (.cells #[.slice none 0 0] 29)) (by unfold i64W; decide))
  by_cases hodd : n % 2 = 1
  · have p1 : (((n : Int)).tmod 2 == 0) = false := beq_eq_false_iff_ne.2 (by rw [show ((n : Int)).tmod 2 = ((n % 2 : Nat) : Int) from rfl, hodd]; decide)
    have p2 : ((n : Int) % 2 == 0) = false := beq_eq_false_iff_ne.2 (by omega)
    have p3 : ((n : Int) % 2 != 0) = true := by rw [bne, p2]; rfl
    have HE : Hid (dotR l = (0, 2)) := if_pos (by rw [HL.out]; omega)
    go_enter Try.func26, Try.ntmps26
    go_wp2_with (go_at_call 14; refine HO0.out.mono ?_; rintro e w1 ⟨A1, c1, rfl, hh1, hb1, hn1⟩; have HK1 := Lib.hid (HK0.out.below hb1 HK0.out.lt); have fz := HK1.out.frozen 0; have cz : w1.cell? ⟨w.heap.size, 0, none⟩ = some (.slice none 0 0) := HK1.out.cell 0; have HP := Lib.hid (dot_pass HK1.out (Nat.le_refl _) hh1 (fun b off hA => by have := hn1 b off hA; have := HZ0.out; omega) (new_call HB0.out hb1) 2); clear hh1 hb1 hn1)
    rw [HE.out]
    exact bodyPost_ret (results_pair8 Try.results26 rfl HP.out.1) rfl HP.out.2
  · have p1 : (((n : Int)).tmod 2 == 0) = true := beq_iff_eq.2 (by rw [show ((n : Int)).tmod 2 = ((n % 2 : Nat) : Int) from rfl, show n % 2 = 0 by omega]; rfl)
    have p2 : ((n : Int) % 2 == 0) = true := beq_iff_eq.2 (by omega)
    have p3 : ((n : Int) % 2 != 0) = false := by rw [bne, p2]; rfl
    have HE : Hid (dotR l = (dotI l, 0)) := if_neg (by rw [HL.out]; omega)
    obtain ⟨N, hN⟩ : ∃ N, n = 2 * N := ⟨n / 2, by omega⟩
    have HN := Lib.hid hN
    clear hodd hN
    go_enter Try.func26, Try.ntmps26
    go_wp2_with (go_at_call 14; refine HO0.out.mono ?_; rintro e w1 ⟨A1, c1, rfl, hh1, hb1, hn1⟩; have HS1 : Hid (SumAt w w1.heap.size A1 c1 0 (w1.alloc (.cells #[.slice A1 8 c1] 29))) := ⟨(HK0.out.below hb1 HK0.out.lt).alloc _, Blk.new w1 _ _, hh1.alloc _, (fun b off hA => by obtain ⟨b', off', hA', hlt, _⟩ := hh1.spot (by decide); rw [hA] at hA'; cases hA'; have := hn1 b off hA; have := HZ0.out; omega), new_alloc (new_call HB0.out hb1) _, Nat.lt_of_lt_of_le HZ0.out hb1.size⟩; clear hh1 hb1 hn1)
    clear HO0 HK0 HB0 HZ0
    go_loopg [5] N (fun g s5 wx => ∃ (i : Nat) (B : Option Addr) (d : Nat) (acc : Int), i + g = N ∧ s5 = .int .i64 (2 * (i : Int)) ∧ Hid (SumAt w w1.heap.size B d acc wx) ∧ Hid (acc + dotI (l.drop (2 * i)) = dotI l))
    case atStart => exact ⟨0, A1, c1, 0, by omega, rfl, HS1, by show _ = _; simp⟩
    case round =>
      obtain ⟨i, B, d, acc, hig, rfl, HS, HP⟩ := hrel
      clear HS1
      by_cases hi : i < N
      · have hn2 := HN.out
        have ti : decide (2 * (i : Int) < (n : Int)) = true := by simp; omega
        have hi1 : 2 * i < l.length := by rw [HL.out]; omega
        have hi2 : 2 * i + 1 < l.length := by rw [HL.out]; omega
        obtain ⟨b, off, rfl, hlt0, hc0⟩ := HH.out.spot (by omega)
        obtain ⟨_, _, e0, hlt, hc⟩ := (HH.out.kept HS.out.bel).spot (by omega)
        cases e0
        have hbg : w1.heap.size ≠ b := by have := HS.out.gt; omega
        clear hc0 hlt0
        have hc1 := hc _ _ (intVs_at hi1)
        have hc2 := hc _ _ (intVs_at hi2)
        have hx1 := HBy.out _ (List.getElem_mem hi1)
        have hx2 := HBy.out _ (List.getElem_mem hi2)
        have HD := Lib.hid (dot_drop hi1 hi2)
        generalize l[2 * i] = x1 at *
        generalize l[2 * i + 1] = x2 at *
        have HP2 : Hid (acc + x1 * x2 + dotI (l.drop (2 * (i + 1))) = dotI l) := by show _ = _; rw [← HP.out, HD.out, Int.add_assoc]
        obtain ⟨j, hj⟩ : ∃ j, 2 * i = j := ⟨_, rfl⟩
        have hj2 : 2 * (i : Int) = (j : Int) := by omega
        rw [hj] at hc1 hc2
        rw [hj2]
        have HO1 := Lib.hid (fun W => HOf.out x1 W hx1)
        have HO2 := Lib.hid (fun W => HOf.out x2 W hx2)
        have hjn : j + 1 < n := by omega
        have tj : decide ((j : Int) < (n : Int)) = true := by simp; omega
        have j1 : (j : Int) < (n : Int) := by omega
        have j2 : (j : Int) + 1 < (n : Int) := by omega
        have j4 : (0 : Int) ≤ (j : Int) + 1 := by omega
        have j5 : ((j : Int) + 1).toNat = j + 1 := by omega
        have j6 : ((j : Int) + 1 < 0) = False := eq_false (by omega)
        have hw1 : IntKind.wrap .i64 ((j : Int) + 1) = (j : Int) + 1 := by rw [IntKind.wrap_i64]; omega
        have HJ := Lib.hid hj2
        have HCl : Hid (∀ W, Below wr.heap.size wr W → W.cell? ⟨b, off + j, none⟩ = some (.int .i64 x1) ∧ W.cell? ⟨b, off + (j + 1), none⟩ = some (.int .i64 x2) ∧ W.cell? ⟨w1.heap.size, 0, none⟩ = some (.slice B 8 d)) := fun W hW =>
          ⟨(hW.cell (p := ⟨b, off + j, none⟩) hlt).trans hc1, (hW.cell (p := ⟨b, off + (j + 1), none⟩) hlt).trans hc2, (HS.out.next hW).b1.cell 0⟩
        have z0 := HCl.out wr (Below.refl _ _)
        obtain ⟨z1, z2, z3⟩ := z0
        clear hc HD hi1 hi2 hj hj2 ti hn2 hc1 hc2 hx1 hx2 HOf HP
        go_wp2
        go_region_law (first
          | (go_simp; go_at_call 14; (with_reducible refine (HO1.out _).mono ?_); rintro e w3 ⟨A3, c3, rfl, hh3, hb3, _⟩; have HH3 := Lib.hid hh3; have HB3 := Lib.hid (new_call (Below.refl wr.heap.size wr).drew hb3); obtain ⟨s1, s2, s3⟩ := HCl.out w3 HB3.out; clear hh3 hb3)
          | (go_simp; go_at_call 14; (with_reducible refine (HO2.out _).mono ?_); rintro e w4 ⟨A4, c4, rfl, hh4, hb4, _⟩; have HB4 := Lib.hid (new_call HB3.out hb4); have HM4 := Lib.hid (ref8MulD_any A3 c3 x1 A4 c4 x2 w4 (HH3.out.kept hb4) hh4); obtain ⟨t1, t2, t3⟩ := HCl.out w4 HB4.out; clear hh4 hb4)
          | (go_simp; go_at_call 13; (with_reducible refine HM4.out.mono ?_); rintro e w5 ⟨A5, c5, rfl, hh5, hb5, _⟩; have HB5 := Lib.hid (new_call HB4.out hb5); have HA5 := Lib.hid (ref8AddD_any B d acc A5 c5 (x1 * x2) w5 (HS.out.has.kept HB5.out) hh5); obtain ⟨p1, p2, p3⟩ := HCl.out w5 HB5.out; clear hh5 hb5)
          | (go_simp; go_at_call 19; (with_reducible refine HA5.out.mono ?_); rintro e w6 ⟨A6, c6, rfl, hh6, hb6, hn6⟩; have HB6 := Lib.hid (new_call HB5.out hb6); have HS6 := Lib.hid (HS.out.put HB6.out hh6 (fun b off hA => Nat.le_trans HB5.out.size (hn6 b off hA))); have fz := (HS.out.next HB6.out).b1.frozen 0; obtain ⟨q1, q2, q3⟩ := HCl.out w6 HB6.out; have r1 := (World.cell?_setCell_far w6 ⟨w1.heap.size, 0, none⟩ ⟨b, off + j, none⟩ (.slice A6 8 c6) hbg).trans q1; have r2 := (World.cell?_setCell_far w6 ⟨w1.heap.size, 0, none⟩ ⟨b, off + (j + 1), none⟩ (.slice A6 8 c6) hbg).trans q2; clear hh6 hb6 hn6))
        all_goals
          clear HM4 HA5 HB3 HB4 HB5 HH3 HO1 HO2 HCl HS
          go_wp2
          go_roundg (gk - 1)
          case measure => omega
          case rel => exact ⟨i + 1, A6, c6, acc + x1 * x2, by omega, by have := HJ.out; go_num, HS6, HP2⟩
      · have hn2 := HN.out
        have ti : decide (2 * (i : Int) < (n : Int)) = false := by simp; omega
        have HP2 : Hid (acc = dotI l) := by
          have h1 := HP.out
          rw [List.drop_of_length_le (by rw [HL.out]; omega), show dotI [] = 0 from rfl, Int.add_zero] at h1
          exact h1
        rw [HP2.out] at HS
        have c4 : wr.cell? ⟨w1.heap.size, 0, none⟩ = some (.slice B 8 d) := HS.out.b1.cell 0
        have fz := HS.out.b0.frozen 0
        have cz : wr.cell? ⟨w.heap.size, 0, none⟩ = some (.slice none 0 0) := HS.out.b0.cell 0
        have HPs := Lib.hid (dot_pass HS.out.b0 (Nat.le_refl _) HS.out.has (fun b off hA => (HS.out.far b off hA).2) HS.out.bel 0)
        clear hn2
        go_wp2
        rw [HE.out]
        exact bodyPost_ret (results_pair8 Try.results26 rfl HPs.out.1) rfl HPs.out.2
end Go.Proofs.Ytjecognpechapaa
