import Derived.Test.YthjmojglcfmkmaaDoorGrowRefC
import Derived.Test.YthjmojglcfmkmaaDoorGrowCodeL
import Derived.StillTailTactics
/- lapidaryref12: Open, Close, All, Same. -/
namespace Go.Proofs.YthjmojglcfmkmaaDoor
open Go.RowKit

theorem openG_next {T : List P3} {P : List (Int × Int)} {i : Nat} (hi : i < P.length) : (P.take (i + 1)).countP (fun d => !shutG T d) = (P.take i).countP (fun d => !shutG T d) + if shutG T P[i] = true then 0 else 1 := by
  rw [List.take_succ_eq_append_getElem hi, List.countP_append, List.countP_singleton]
  by_cases h : shutG T P[i] = true <;> simp [h]
set_option maxRecDepth 100000 in
set_option maxHeartbeats 1000000 in
theorem ref12Open_any (At : Option Addr) (nT ct : Nat) (T : List P3) (Ac : Option Addr) (nP cc : Nat) (P : List (Int × Int)) (N : Value) (dv ev : Value) (w : World) (hT : HasK 3 w At nT ct (p3Cells T)) (hP : HasK 2 w Ac nP cc (e2Cells P)) (hn : nT ≤ 100000) (hm : nP ≤ 100000) :
    Calls Tryd.prog 17 #[.agg #[.slice At nT ct, N, .slice Ac nP cc, dv, ev]] w fun e w' => e = .returned (.int .i64 ((P.countP fun d => !shutG T d : Nat) : Int)) ∧ Below w.heap.size w w' := by
  have HLp : Hid (P.length = nP) := by have := hP.len; rw [e2Cells_len] at this; show _ = _; omega
  have HT := Lib.hid hT
  have HP := Lib.hid hP
  have HB := Lib.hid (new_alloc (Below.refl w.heap.size w) (.cells #[.slice At nT ct, N, .slice Ac nP cc, dv, ev] 29))
  have HG := Lib.hid (Blk.new w 29 #[.slice At nT ct, N, .slice Ac nP cc, dv, ev])
  obtain ⟨kz, ks⟩ := zero_of_info gInfo
  clear hT hP
  go_enter Tryd.func17, Tryd.ntmps17
  go_wp2
  generalize w.alloc (.cells #[.slice At nT ct, N, .slice Ac nP cc, dv, ev] 29) = W at *
  go_loopg [3, 4] nP (fun k s3 s4 wx => ∃ i : Nat, i + k = nP ∧ s4 = .int .i64 (i : Int) ∧ s3 = .int .i64 (((P.take i).countP fun d => !shutG T d : Nat) : Int) ∧ Hid (Below W.heap.size W wx))
  case atStart => exact ⟨0, by omega, rfl, rfl, Below.refl _ _⟩
  case round =>
    obtain ⟨i, hik, rfl, rfl, HBx⟩ := hrel
    have HGx := Lib.hid (HG.out.below HBx.out HG.out.lt)
    have x0 := HGx.out.cell 0
    have x1 := HGx.out.cell 1
    have x2 := HGx.out.cell 2
    have x3 := HGx.out.cell 3
    have x4 := HGx.out.cell 4
    by_cases hi : i < nP
    · have ti : decide ((i : Int) < (nP : Int)) = true := decide_eq_true (by omega)
      have i2 : (i : Int) < (nP : Int) := by omega
      have hil : i < P.length := by rw [HLp.out]; exact hi
      have HPx := Lib.hid ((HP.out.kept HB.out).kept HBx.out)
      obtain ⟨b, off, rfl, hlt2, hc⟩ := HPx.out.spot (by omega)
      obtain ⟨z0, z1⟩ := e2Cells_at hil
      have g0 := hc _ _ z0
      have g1 := hc _ _ z1
      rw [← Nat.add_assoc] at g1
      have HNx := Lib.hid (openG_next (T := T) hil)
      generalize hx : P[i] = x at *
      obtain ⟨p, q⟩ := x
      simp only at g0 g1
      have hle : (P.take i).countP (fun d => !shutG T d) ≤ i := Nat.le_trans List.countP_le_length (by rw [List.length_take]; omega)
      have hib : i ≤ 100000 := by omega
      have n2 : IntKind.wrap .i64 ((((P.take i).countP fun d => !shutG T d : Nat) : Int) + 1) = (((P.take i).countP fun d => !shutG T d : Nat) : Int) + 1 := by rw [IntKind.wrap_i64]; omega
      have HSh : Hid (∀ V, Below wr.heap.size wr V → Calls Tryd.prog 33 #[.agg #[.slice At nT ct, N, .slice (some ⟨b, off, none⟩) nP cc, dv, ev], .agg #[.int .i64 p, .int .i64 q]] V fun e w' => e = .returned (.bool (shutG T (p, q))) ∧ Below V.heap.size V w') := fun V hV => ref12shut_any At nT ct T _ _ _ _ p q V (((HT.out.kept HB.out).kept HBx.out).kept hV) hn
      have hlt := HGx.out.lt
      generalize (P.take i).countP (fun d => !shutG T d) = r at *
      generalize shutG T (p, q) = R at *
      clear hc z0 z1 HPx hx hle HGx
      go_upto_region 5 with (with_reducible fail)
      go_region_held3 (fun V => V.cell? ⟨w.heap.size, 0, none⟩ = some (.slice At nT ct) ∧ V.cell? ⟨w.heap.size, 1, none⟩ = some N ∧ V.cell? ⟨w.heap.size, 2, none⟩ = some (.slice (some ⟨b, off, none⟩) nP cc) ∧ V.cell? ⟨w.heap.size, 3, none⟩ = some dv ∧ V.cell? ⟨w.heap.size, 4, none⟩ = some ev ∧ V.cell? ⟨b, off + i * 2, none⟩ = some (.int .i64 p) ∧ V.cell? ⟨b, off + i * 2 + 1, none⟩ = some (.int .i64 q)) (first | exact ⟨x0, x1, x2, x3, x4, g0, g1⟩ | exact ⟨(hb5.out.cell (p := ⟨w.heap.size, 0, none⟩) hlt).trans x0, (hb5.out.cell (p := ⟨w.heap.size, 1, none⟩) hlt).trans x1, (hb5.out.cell (p := ⟨w.heap.size, 2, none⟩) hlt).trans x2, (hb5.out.cell (p := ⟨w.heap.size, 3, none⟩) hlt).trans x3, (hb5.out.cell (p := ⟨w.heap.size, 4, none⟩) hlt).trans x4, (hb5.out.cell (p := ⟨b, off + i * 2, none⟩) hlt2).trans g0, (hb5.out.cell (p := ⟨b, off + i * 2 + 1, none⟩) hlt2).trans g1⟩) (first
              | (go_at_call 33; refine Calls.mono (HSh.out _ (Below.refl _ _).drew) ?_; rintro e w5 ⟨rfl, hb⟩; have hb5 : Hid (Below wr.heap.size wr w5) := new_call (Below.refl _ _).drew hb; clear hb))
      have HB5 := Lib.hid (new_call HBx.out hb5.out)
      cases R with
      | true =>
        rw [if_pos rfl] at HNx
        go_wp2
        go_roundg (nP - (i + 1))
        case measure => omega
        case rel => exact ⟨i + 1, by omega, by go_num, by rw [HNx.out]; rfl, HB5⟩
      | false =>
        rw [if_neg (by decide)] at HNx
        go_wp2
        go_roundg (nP - (i + 1))
        case measure => omega
        case rel => exact ⟨i + 1, by omega, by go_num, by rw [HNx.out]; rfl, HB5⟩
    · have ti : decide ((i : Int) < (nP : Int)) = false := decide_eq_false (by omega)
      have hE : P.take i = P := List.take_of_length_le (by rw [HLp.out]; omega)
      rw [hE]
      go_wp2
      go_ret
      exact ⟨rfl, new_call HB.out HBx.out⟩
set_option maxRecDepth 100000 in
set_option maxHeartbeats 1000000 in
theorem ref12Close_any (F : Nat → Prop) (a c d : Value) (s : GS) (r : Int) (w : World) (h : GRows w F a c d s.T s.P s.B) (hlT : s.T.length ≤ 10000) (hlP : s.P.length ≤ 100000) (hN : s.N ≤ 100000) (hr : CloseIs s r) :
    Calls Tryd.prog 19 #[.agg #[a, .int .i64 (s.N : Int), c, d, .int .i64 s.E]] w fun e w' => e = .returned (.int .i64 r) ∧ Below w.heap.size w w' := by
  obtain ⟨At, ct, rfl, hT⟩ := h.rT.has
  obtain ⟨Ac, cc, rfl, hP⟩ := h.rP.has
  obtain ⟨Ab, cb, rfl, _⟩ := h.rB.has
  have HT := Lib.hid hT
  have HP := Lib.hid hP
  have HB := Lib.hid (new_alloc (Below.refl w.heap.size w) (.cells #[.slice At s.T.length ct, .int .i64 (s.N : Int), .slice Ac s.P.length cc, .slice Ab s.B.length cb, .int .i64 s.E] 29))
  have HG := Lib.hid (Blk.new w 29 #[.slice At s.T.length ct, .int .i64 (s.N : Int), .slice Ac s.P.length cc, .slice Ab s.B.length cb, .int .i64 s.E])
  obtain ⟨kz, ks⟩ := zero_of_info gInfo
  have HR := Lib.hid hr
  have HlT := Lib.hid hlT
  have HlP := Lib.hid hlP
  have HlN := Lib.hid hN
  clear h hT hP hr hlT hlP hN
  have x0 := HG.out.cell 0
  have x1 := HG.out.cell 1
  have x2 := HG.out.cell 2
  have x3 := HG.out.cell 3
  have x4 := HG.out.cell 4
  by_cases hE : s.E = 0
  · have tE : (s.E != 0) = false := by rw [hE]; rfl
    have HE := Lib.hid hE
    have HOp := Lib.hid (ref12Open_any At s.T.length ct s.T Ac s.P.length cc s.P (.int .i64 (s.N : Int)) (.slice Ab s.B.length cb) (.int .i64 s.E) _ (HT.out.kept HB.out) (HP.out.kept HB.out) (by have := HlT.out; omega) (by have := HlP.out; omega))
    have HO2 : Hid (((s.P.countP fun d => !shutG s.T d : Nat) : Int) = (openG s : Int)) := rfl
    rw [HO2.out] at HOp
    clear hE HO2
    by_cases ho : 0 < openG s
    · have t1 : decide ((0 : Int) < (openG s : Int)) = true := decide_eq_true (by omega)
      have t0 : decide (0 < openG s) = true := decide_eq_true ho
      have HR2 := Lib.hid (close_open HR.out HE.out ho)
      generalize openG s = o at *
      go_enter Tryd.func19, Tryd.ntmps19
      go_wp2_with fail
      refine HOp.out.mono ?_
      rintro e w1 ⟨rfl, hb1⟩
      have HB1 := Lib.hid (new_call HB.out hb1)
      clear hb1
      go_wp2
      go_ret
      exact ⟨by rw [HR2.out]; rfl, HB1.out⟩
    · have t1 : decide ((0 : Int) < (openG s : Int)) = false := decide_eq_false (by omega)
      have t0 : decide (0 < openG s) = false := decide_eq_false ho
      have HCk := Lib.hid (close_check HR.out HE.out ho)
      clear ho
      generalize openG s = o at *
      go_enter Tryd.func19, Tryd.ntmps19
      go_wp2_with fail
      refine HOp.out.mono ?_
      rintro e w1 ⟨rfl, hb1⟩
      have HB1 := Lib.hid (new_call HB.out hb1)
      have HG1 := Lib.hid (HG.out.below hb1 HG.out.lt)
      have HT1 := Lib.hid (HT.out.kept HB1.out)
      clear hb1 x0 x1 x2 x3 x4 HOp
      have y0 := HG1.out.cell 0
      have y1 := HG1.out.cell 1
      have hmk : ∀ W, (Instr.makeSlice 46 (.int .i64 (s.N : Int)) (.int .i64 (s.N : Int))).run Tryd.prog W = .ok (.slice (some ⟨W.heap.size, 0, none⟩) s.N s.N) (W.alloc (.cells (p3Cells (List.replicate s.N (0, 0, 0))).toArray 84)) := fun W => run_makePts s.N HlN.out W
      have HBd : Hid (Below w1.heap.size w1 (w1.alloc (.cells (p3Cells (List.replicate s.N (0, 0, 0))).toArray 84))) := new_alloc (Below.refl _ _) _
      have HBe : Hid (Below w1.heap.size w1 (w1.alloc (.cells (p3Cells (List.replicate s.N (0, 0, 0))).toArray 84)).drew) := new_call HBd.out (Below.refl _ _).drew
      have HB3 : Hid (Below w.heap.size w (w1.alloc (.cells (p3Cells (List.replicate s.N (0, 0, 0))).toArray 84)).drew) := new_call HB1.out HBe.out
      have z0 : (w1.alloc (.cells (p3Cells (List.replicate s.N (0, 0, 0))).toArray 84)).cell? ⟨w.heap.size, 0, none⟩ = some (.slice At s.T.length ct) := cell_stays _ _ HBd.out y0
      have HNb := Lib.hid (blk_hasK (n := s.N) (Blk.new w1 84 (p3Cells (List.replicate s.N ((0 : Int), (0 : Int), (0 : Int)))).toArray) (List.length_replicate ..))
      have HCh := Lib.hid (ref10Check_any (some ⟨w1.heap.size, 0, none⟩) s.N s.N (List.replicate s.N (0, 0, 0)) At s.T.length ct s.T r (w1.alloc (.cells (p3Cells (List.replicate s.N (0, 0, 0))).toArray 84)).drew (HNb.out.kept (Below.refl _ _).drew) (HT1.out.kept HBe.out) HlN.out (by have := HlT.out; omega) HCk.out)
      clear HCk HT1 HT HP HG HG1 HBd HBe HNb
      generalize (p3Cells (List.replicate s.N (0, 0, 0))).toArray = pz at *
      go_wp2
      go_region_law (first
        | (go_simp; go_at_call 26; refine HCh.out.mono ?_; rintro e w4 ⟨rfl, hb4⟩; have HB4 := Lib.hid (new_call HB3.out hb4); clear hb4))
      all_goals
        go_wp2
        go_ret
        exact ⟨rfl, HB4.out⟩
  · have tE : (s.E != 0) = true := bne_iff_ne.2 hE
    have HRE : Hid (s.E = r) := (close_err HR.out hE).symm
    go_enter Tryd.func19, Tryd.ntmps19
    go_wp2
    go_ret
    exact ⟨by rw [← HRE.out]; rfl, HB.out⟩
/-- What All answers. -/
theorem grow_lens (l : List (Int × Int)) : (growG l).P.length ≤ 3 * (growG l).T.length ∧ (growG l).B.length ≤ l.length := by
  induction l using list_snoc with
  | h0 => exact ⟨Nat.le_refl _, Nat.le_refl _⟩
  | h1 l x ih =>
    rw [growG_next]
    refine ⟨(stepG_way _ _).lenP ih.1, Nat.le_trans (stepG_way _ _).lenB ?_⟩
    rw [List.length_append]
    exact Nat.succ_le_succ ih.2
set_option maxRecDepth 100000 in
theorem ref12Same_any (A : Option Addr) (n c : Nat) (T : List P3) (B : Option Addr) (m d : Nat) (U : List P3) (w : World) (ht : HasK 3 w A n c (p3Cells T)) (hu : HasK 3 w B m d (p3Cells U)) (hn : n ≤ 100000) (hm : m ≤ 100000) :
    Calls Tryd.prog 14 #[.slice A n c, .slice B m d] w fun e w' => e = .returned (.bool (decide (T = U))) ∧ Below w.heap.size w w' := by
  have HS := Lib.hid (ref10Same_any none 0 0 [] A n c T none 0 0 [] B m d U w (HasK.none _ _ _ _ (fun _ => rfl)) ht (HasK.none _ _ _ _ (fun _ => rfl)) hu (by decide) hn (by decide) hm)
  have HD : Hid (decide (([] : List P3) = [] ∧ T = U) = decide (T = U)) := by show _ = _; simp
  rw [HD.out] at HS
  clear ht hu hn hm
  go_enter Tryd.func14, Tryd.ntmps14
  go_wp2_with fail
  refine HS.out.mono ?_
  rintro e w1 ⟨rfl, hb1⟩
  go_wp2
  go_ret
  exact ⟨rfl, hb1⟩
end Go.Proofs.YthjmojglcfmkmaaDoor

/- lapidaryref12: All; the chapter's grower in a box of the caller's. -/
namespace Go.Proofs.YthjmojglcfmkmaaDoor
open Go.RowKit

def set5 (w : World) (g : Nat) (c0 c1 c2 c3 c4 : Value) : World := ((((w.setCell ⟨g, 0, none⟩ c0).setCell ⟨g, 1, none⟩ c1).setCell ⟨g, 2, none⟩ c2).setCell ⟨g, 3, none⟩ c3).setCell ⟨g, 4, none⟩ c4
theorem set5_blk {w : World} {g : Nat} {t : TypeId} {o0 o1 o2 o3 o4 : Value} (c0 c1 c2 c3 c4 : Value) (h : Blk w g t #[o0, o1, o2, o3, o4]) : Blk (set5 w g c0 c1 c2 c3 c4) g t #[c0, c1, c2, c3, c4] :=
  ((((h.set_ 0 c0).set_ 1 c1).set_ 2 c2).set_ 3 c3).set_ 4 c4
theorem set5_chg (w : World) (g : Nat) (c0 c1 c2 c3 c4 : Value) : Chg (fun k => k = g) w (set5 w g c0 c1 c2 c3 c4) := by
  have hs : ∀ (V : World) (i : Nat) (u : Value), Chg (fun k => k = g) w V → Chg (fun k => k = g) w (V.setCell ⟨g, i, none⟩ u) := fun V i u h =>
    h.then_ (D' := fun k => k = g) ((Chg.of_grown (grown_set V ⟨g, i, none⟩ u)).wide fun k _ e => by cases e; rfl) (fun _ _ e => e)
  exact hs _ 4 c4 (hs _ 3 c3 (hs _ 2 c2 (hs _ 1 c1 (hs _ 0 c0 (Chg.refl _ _)))))
/-- The chapter's grower in a block G; its rows are in blocks among F. -/
def BoxG (w : World) (F : Nat → Prop) (G : Nat) (s : GS) : Prop := ∃ a c d, Blk w G 29 #[a, .int .i64 (s.N : Int), c, d, .int .i64 s.E] ∧ GRows w F a c d s.T s.P s.B
section
variable {w w' : World} {F : Nat → Prop} {G : Nat} {s : GS}
theorem BoxG.next (h : BoxG w F G s) (hb : Below w.heap.size w w') : BoxG w' F G s := by
  obtain ⟨a, c, d, h1, h2⟩ := h
  exact ⟨a, c, d, h1.below hb h1.lt, h2.kept hb⟩
theorem BoxG.chg {D : Nat → Prop} (h : BoxG w F G s) (hc : Chg D w w') (hG : ¬ D G) (hd : ∀ k, k < w.heap.size → F k → ¬ D k) : BoxG w' F G s := by
  obtain ⟨a, c, d, h1, h2⟩ := h
  exact ⟨a, c, d, h1.chg hc hG, h2.chg hc hd⟩
theorem BoxG.among {F' : Nat → Prop} (h : BoxG w F G s) (hf : ∀ k, k < w.heap.size → F k → F' k) : BoxG w F' G s := by
  obtain ⟨a, c, d, h1, h2⟩ := h
  exact ⟨a, c, d, h1, h2.among hf⟩
theorem BoxG.lt (h : BoxG w F G s) : G < w.heap.size := by
  obtain ⟨a, c, d, h1, _⟩ := h
  exact h1.lt
end
theorem boxG_stored {w : World} {F : Nat → Prop} {G : Nat} {s : GS} {o0 o1 o2 o3 o4 a c d : Value} (hb : Blk w G 29 #[o0, o1, o2, o3, o4]) (hr : GRows w F a c d s.T s.P s.B) (hG : ¬ F G) :
    BoxG (set5 w G a (.int .i64 (s.N : Int)) c d (.int .i64 s.E)) F G s ∧ Chg (fun k => k = G) w (set5 w G a (.int .i64 (s.N : Int)) c d (.int .i64 s.E)) :=
  ⟨⟨a, c, d, set5_blk _ _ _ _ _ hb, hr.chg (set5_chg _ _ _ _ _ _ _) (fun _ _ hk e => hG (e ▸ hk))⟩, set5_chg _ _ _ _ _ _ _⟩
theorem boxG_new {w : World} (F : Nat → Prop) {G : Nat} (h : Blk w G 29 #[.slice none 0 0, .int .i64 0, .slice none 0 0, .slice none 0 0, .int .i64 0]) : BoxG w F G newG := ⟨_, _, _, h, GRows.nil _ _⟩
set_option maxRecDepth 100000 in
set_option maxHeartbeats 1000000 in
theorem ref12All_any (A : Option Addr) (n c : Nat) (l : List (Int × Int)) (r : Int) (w : World) (hl : HasK 2 w A n c (e2Cells l)) (hn : n ≤ 100000) (hr : CloseIs (growG l) r) :
    Calls Tryd.prog 21 #[.slice A n c] w (AllOut l r w) := by
  have HLn : Hid (l.length = n) := by have := hl.len; rw [e2Cells_len] at this; show _ = _; omega
  have HL := Lib.hid hl
  have HR := Lib.hid hr
  have HB0 := Lib.hid (new_alloc (Below.refl w.heap.size w) (.cells #[.slice none 0 0, .int .i64 0, .slice none 0 0, .slice none 0 0, .int .i64 0] 29))
  have HG0 := Lib.hid (Blk.new w 29 #[.slice none 0 0, .int .i64 0, .slice none 0 0, .slice none 0 0, .int .i64 0])
  obtain ⟨kz, ks⟩ := zero_of_info gInfo
  obtain ⟨sz, ss⟩ := zero_of_info stepInfo
  clear hl hr
  go_enter Tryd.func21, Tryd.ntmps21
  go_upto_region 2 with (with_reducible fail)
  have HBx0 : Hid (BoxG (w.alloc (.cells #[.slice none 0 0, .int .i64 0, .slice none 0 0, .slice none 0 0, .int .i64 0] 29)) (fun k => w.heap.size < k) w.heap.size (growG (l.take 0))) := boxG_new _ HG0.out
  clear HG0
  generalize w.alloc (.cells #[.slice none 0 0, .int .i64 0, .slice none 0 0, .slice none 0 0, .int .i64 0] 29) = W0 at *
  go_wp2
  go_loopg [6] n (fun k s6 wx => ∃ i : Nat, i + k = n ∧ s6 = .int .i64 (i : Int) ∧ Hid (BoxG wx (fun k => w.heap.size < k) w.heap.size (growG (l.take i))) ∧ Hid (Below w.heap.size w wx))
  case atStart => exact ⟨0, by omega, rfl, HBx0, HB0⟩
  case round =>
    obtain ⟨i, hik, rfl, HBx, HW⟩ := hrel
    clear HBx0 HB0
    by_cases hi : i < n
    · have ti : decide ((i : Int) < (n : Int)) = true := decide_eq_true (by omega)
      have i2 : (i : Int) < (n : Int) := by omega
      have hil : i < l.length := by rw [HLn.out]; exact hi
      obtain ⟨b, off, rfl, _, hc⟩ := (HL.out.kept HW.out).spot (by omega)
      obtain ⟨z0, z1⟩ := e2Cells_at hil
      have g0 := hc _ _ z0
      have g1 := hc _ _ z1
      rw [← Nat.add_assoc] at g1
      have HNx : Hid (growG (l.take (i + 1)) = stepG (growG (l.take i)) l[i]) := by show _ = _; rw [List.take_succ_eq_append_getElem hil, growG_next]
      have HLe := Lib.hid (grow_lens (l.take i))
      have HOk := Lib.hid (growG_ok (l.take i))
      have HTl : Hid ((l.take i).length = i) := by show _ = _; rw [List.length_take]; omega
      generalize l[i] = e at *
      obtain ⟨k, v⟩ := e
      simp only at g0 g1
      generalize growG (l.take i) = s at *
      generalize hs2 : growG (l.take (i + 1)) = s2 at *
      have HS2 := Lib.hid hs2
      clear hs2
      obtain ⟨a, c', d', hb, hr⟩ := HBx.out
      have HBl := Lib.hid hb
      have HRw := Lib.hid hr
      have x0 := hb.cell 0
      have x1 := hb.cell 1
      have x2 := hb.cell 2
      have x3 := hb.cell 3
      have x4 := hb.cell 4
      have HSt := Lib.hid (ref12Step_any (fun k => w.heap.size < k) a c' d' s k v wr.drew (fun k hk => by have := hb.lt; exact Nat.lt_of_lt_of_le this hk) (hr.kept (Below.refl _ _).drew) (by have := HOk.out.lenT; omega) (by have := HOk.out.lenT; have := HLe.out.1; omega) (by have := HLe.out.2; have := HTl.out; omega) (by have := HOk.out.lenN; omega))
      rw [← HNx.out] at HSt
      clear hb hr hc z0 z1 HLe HOk HTl
      go_wp2
      go_still_tail 5, (by kernel_rfl)
      go_wp2_with fail
      refine HSt.out.mono ?_
      rintro e w5 ⟨a5, c5, d5, rfl, hr5, hc5⟩
      obtain ⟨A5, ca5, rfl, _⟩ := hr5.rT.has
      obtain ⟨C5, cc5, rfl, _⟩ := hr5.rP.has
      obtain ⟨D5, cd5, rfl, _⟩ := hr5.rB.has
      have HB5 : Hid (Blk w5 w.heap.size 29 #[a, .int .i64 (s.N : Int), c', d', .int .i64 s.E]) := (HBl.out.below (Below.refl _ _).drew HBl.out.lt).chg hc5 (by omega)
      have HS5 : Hid (BoxG (((((w5.setCell ⟨w.heap.size, 0, none⟩ (.slice A5 s2.T.length ca5)).setCell ⟨w.heap.size, 1, none⟩ (.int .i64 (s2.N : Int))).setCell ⟨w.heap.size, 2, none⟩ (.slice C5 s2.P.length cc5)).setCell ⟨w.heap.size, 3, none⟩ (.slice D5 s2.B.length cd5)).setCell ⟨w.heap.size, 4, none⟩ (.int .i64 s2.E)) (fun k => w.heap.size < k) w.heap.size s2 ∧ Chg (fun k => k = w.heap.size) w5 (((((w5.setCell ⟨w.heap.size, 0, none⟩ (.slice A5 s2.T.length ca5)).setCell ⟨w.heap.size, 1, none⟩ (.int .i64 (s2.N : Int))).setCell ⟨w.heap.size, 2, none⟩ (.slice C5 s2.P.length cc5)).setCell ⟨w.heap.size, 3, none⟩ (.slice D5 s2.B.length cd5)).setCell ⟨w.heap.size, 4, none⟩ (.int .i64 s2.E))) := boxG_stored HB5.out hr5 (by omega)
      have HW5 : Hid (Below w.heap.size w (((((w5.setCell ⟨w.heap.size, 0, none⟩ (.slice A5 s2.T.length ca5)).setCell ⟨w.heap.size, 1, none⟩ (.int .i64 (s2.N : Int))).setCell ⟨w.heap.size, 2, none⟩ (.slice C5 s2.P.length cc5)).setCell ⟨w.heap.size, 3, none⟩ (.slice D5 s2.B.length cd5)).setCell ⟨w.heap.size, 4, none⟩ (.int .i64 s2.E))) := below_more HW.out (chg3 (F := fun k => w.heap.size ≤ k) (chg3 (chg_b (Below.refl _ _).drew) (hc5.wide fun k _ e => Nat.le_of_lt e)) (HS5.out.2.wide fun k _ e => Nat.le_of_eq e.symm))
      have y0 := HB5.out.cell 0
      have y1 := HB5.out.cell 1
      have y2 := HB5.out.cell 2
      have y3 := HB5.out.cell 3
      have y4 := HB5.out.cell 4
      have q0 := HB5.out.frozen 0
      have q1 := HB5.out.frozen 1
      have q2 := HB5.out.frozen 2
      have q3 := HB5.out.frozen 3
      have q4 := HB5.out.frozen 4
      clear hr5 hc5 HSt HBl HRw HBx HW
      go_wp2
      go_roundg (n - (i + 1))
      case measure => omega
      case rel => exact ⟨i + 1, by omega, by go_num, by show BoxG _ _ _ (growG (l.take (i + 1))); rw [HS2.out]; exact HS5.out.1, HW5⟩
    · have ti : decide ((i : Int) < (n : Int)) = false := decide_eq_false (by omega)
      have hE : l.take i = l := List.take_of_length_le (by rw [HLn.out]; omega)
      rw [hE] at HBx
      have HLe := Lib.hid (grow_lens l)
      have HOk := Lib.hid (growG_ok l)
      obtain ⟨a, c', d', hb, hr⟩ := HBx.out
      obtain ⟨At, ct, rfl, hT⟩ := hr.rT.has
      have HBl := Lib.hid hb
      have HT := Lib.hid hT
      have x0 := hb.cell 0
      have x1 := hb.cell 1
      have x2 := hb.cell 2
      have x3 := hb.cell 3
      have x4 := hb.cell 4
      have HCl := Lib.hid (ref12Close_any (fun k => w.heap.size < k) _ c' d' (growG l) r wr hr (by have := HOk.out.lenT; omega) (by have := HOk.out.lenT; have := HLe.out.1; omega) (by have := HOk.out.lenN; omega) HR.out)
      have HCn := Lib.hid (fun h => closeN_bad (s := growG l) (r := r) h)
      have HCt := Lib.hid (fun h => closeT_bad (s := growG l) (r := r) h)
      have HDn := Lib.hid (fun h => closeN_fine (s := growG l) (r := r) h)
      have HDt := Lib.hid (fun h => closeT_fine (s := growG l) (r := r) h)
      clear hb hr hT hE HBx HLe HOk
      go_wp2_with fail
      refine HCl.out.mono ?_
      rintro e w5 ⟨rfl, hb5⟩
      have HW5 := Lib.hid (new_call HW.out hb5)
      have HB5 := Lib.hid (HBl.out.below hb5 HBl.out.lt)
      have HT5 := Lib.hid (HT.out.kept hb5)
      have y0 := HB5.out.cell 0
      have y1 := HB5.out.cell 1
      clear hb5 HCl x0 x1 x2 x3 x4 HBl HT HW
      by_cases hr : r = 0
      · have t2 : (r != 0) = false := by rw [hr]; rfl
        have HN := Lib.hid (HDn.out hr)
        have HTT := Lib.hid (HDt.out hr)
        subst hr
        clear HCn HCt HDn HDt
        go_wp2
        go_region
        all_goals
          go_wp2
          go_ret3
          exact ⟨At, _, ct, by rw [HN.out]; rfl, by rw [HTT.out]; first | exact HT5.out | exact HT5.out.kept (Below.refl _ _).drew, by first | exact HW5.out | exact new_call HW5.out (Below.refl _ _).drew⟩
      · have t2 : (r != 0) = true := bne_iff_ne.2 hr
        have HN := Lib.hid (HCn.out hr)
        have HTT := Lib.hid (HCt.out hr)
        clear hr HCn HCt HDn HDt
        go_wp2
        go_ret3
        exact ⟨none, 0, 0, by rw [HN.out]; rfl, by rw [HTT.out]; exact HasK.none _ _ _ _ (fun _ => rfl), HW5.out⟩
end Go.Proofs.YthjmojglcfmkmaaDoor

/- What a law asks of growers in memory: their blocks are known, and all else stays as it is. -/
namespace Go.Proofs.YthjmojglcfmkmaaDoor
open Go.RowKit

/-- A grower in memory; its blocks are among F, and all of F is there. -/
structure GwF (w : World) (F : Nat → Prop) (g : Nat) (s : GS) : Prop where
  here : GwAt w F g s
  lt : ∀ k, F k → k < w.heap.size
/-- The chapter's grower in a box, the same way. -/
structure BxF (w : World) (X : Nat → Prop) (G : Nat) (s : GS) : Prop where
  here : BoxG w X G s
  lt : ∀ k, X k → k < w.heap.size
  not : ¬ X G
section
variable {w w' : World} {F D : Nat → Prop} {g : Nat} {s : GS}
theorem GwF.next (h : GwF w F g s) (hb : Below w.heap.size w w') : GwF w' F g s := ⟨h.here.next hb, fun k hk => Nat.lt_of_lt_of_le (h.lt k hk) hb.size⟩
theorem GwF.chg (h : GwF w F g s) (hc : Chg D w w') (hd : ∀ k, F k → ¬ D k) : GwF w' F g s := ⟨h.here.chg hc (fun k _ hk => hd k hk), fun k hk => Nat.lt_of_lt_of_le (h.lt k hk) hc.size⟩
theorem BxF.next (h : BxF w F g s) (hb : Below w.heap.size w w') : BxF w' F g s := ⟨h.here.next hb, fun k hk => Nat.lt_of_lt_of_le (h.lt k hk) hb.size, h.not⟩
theorem BxF.chg (h : BxF w F g s) (hc : Chg D w w') (hG : ¬ D g) (hd : ∀ k, F k → ¬ D k) : BxF w' F g s := ⟨h.here.chg hc hG (fun k _ hk => hd k hk), fun k hk => Nat.lt_of_lt_of_le (h.lt k hk) hc.size, h.not⟩
end
theorem gwVerts_any {F : Nat → Prop} {g : Nat} {s : GS} (w : World) (h : GwF w F g s) :
    Calls Tryd.prog 13 #[.pointer (some ⟨g, 0, none⟩)] w fun e w' => e = .returned (.int .i64 (s.N : Int)) ∧ Below w.heap.size w w' := by
  obtain ⟨U, hg, _⟩ := h.here
  refine (growVerts_any _ _ _ _ _ _ _ w hg).mono ?_
  rintro e w' ⟨rfl, rfl⟩
  exact ⟨rfl, Below.refl _ _⟩
theorem gwTris_any {F : Nat → Prop} {g : Nat} {s : GS} (w : World) (h : GwF w F g s) :
    Calls Tryd.prog 15 #[.pointer (some ⟨g, 0, none⟩)] w fun e w' => ∃ A' c', e = .returned (.slice A' s.T.length c') ∧ HasK 3 w' A' s.T.length c' (p3Cells s.T) ∧ Below w.heap.size w w' := by
  obtain ⟨U, hg, hl⟩ := h.here
  exact growTris_any _ _ _ _ _ _ _ w hg (by have := hl.lens; omega)
theorem gwOpen_any {F : Nat → Prop} {g : Nat} {s : GS} (w : World) (h : GwF w F g s) :
    Calls Tryd.prog 16 #[.pointer (some ⟨g, 0, none⟩)] w fun e w' => e = .returned (.int .i64 (openG s : Int)) ∧ Below w.heap.size w w' := by
  obtain ⟨U, hg, hl⟩ := h.here
  have := growOpen_any _ _ _ _ _ _ _ w hg (fun d hd => hl.in64 hd) hl.some (by have := hl.lens; omega)
  rw [hl.open] at this
  exact this
theorem gwNew_any (w : World) : Calls Tryd.prog 10 #[] w fun e w' => e = .returned (.pointer (some ⟨w.heap.size, 0, none⟩)) ∧ Below w.heap.size w w' ∧ ∃ F, GwF w' F w.heap.size newG ∧ ∀ k, F k → w.heap.size ≤ k ∧ k < w'.heap.size := by
  refine (growNew_any w).mono ?_
  rintro e w' ⟨rfl, hb, hg⟩
  exact ⟨rfl, hb, fun k => w.heap.size ≤ k ∧ k < w'.heap.size, ⟨hg.among (fun k hk hl => ⟨hl, hk⟩), fun k hk => hk.2⟩, fun k hk => hk⟩
theorem GwF.lens {w : World} {F : Nat → Prop} {g : Nat} {s : GS} (h : GwF w F g s) : s.T.length ≤ 8000 ∧ s.P.length ≤ 24000 ∧ s.N ≤ 4000 := by
  obtain ⟨U, _, hl⟩ := h.here
  exact hl.lens
/-- What a Step tells, and what it leaves: nothing older but the grower's blocks has changed. -/
def Grown (F : Nat → Prop) (g : Nat) (s : GS) (w : World) (e : Ending) (w' : World) : Prop := e = .returned (.int .i64 s.E) ∧ Chg F w w' ∧ ∃ F', GwF w' F' g s ∧ ∀ k, F' k → F k ∨ w.heap.size ≤ k
theorem chg_fresh {F : Nat → Prop} {w W : World} (h : Chg (fun k => F k ∨ w.heap.size ≤ k) w W) : Chg F w W := h.wide fun _ hk e => e.elim id (fun e => absurd hk (Nat.not_lt.2 e))
theorem gwSteps_any (F : Nat → Prop) (g : Nat) (s : GS) (A : Option Addr) (n c : Nat) (l : List (Int × Int)) (w : World) (h : GwF w F g s) (hl : ∀ W, Chg F w W → HasK 2 W A n c (e2Cells l)) (hi : ∀ d ∈ l, in64 d) (hnw : ∀ W, Chg F w W → NewW W) (hn : n ≤ 1000000) (hB : s.B.length ≤ 1000000) :
    Calls Tryd.prog 11 #[.pointer (some ⟨g, 0, none⟩), .slice A n c] w (Grown F g (l.foldl stepG s) w) := by
  refine (growStep_any (fun k => F k ∨ w.heap.size ≤ k) g s A n c l w (fun k hk => Or.inr hk) (h.here.among fun k _ hk => Or.inl hk) (fun W hW => hl W (chg_fresh hW)) hi (fun W hW => hnw W (chg_fresh hW)) hn hB).mono ?_
  rintro e w' ⟨rfl, hg, hc⟩
  exact ⟨rfl, chg_fresh hc, fun k => (F k ∨ w.heap.size ≤ k) ∧ k < w'.heap.size, ⟨hg.among (fun k hk hf => ⟨hf, hk⟩), fun k hk => hk.2⟩, fun k hk => hk.1⟩
theorem e2_one (k v : Int) : e2Cells [(k, v)] = [.int .i64 k, .int .i64 v] := rfl
theorem gwStep1_any (F : Nat → Prop) (g : Nat) (s : GS) (k v : Int) (w : World) (h : GwF w F g s) (hi : in64 (k, v)) (hnw : ∀ W, Chg F w W → NewW W) (hB : s.B.length ≤ 1000000) :
    Calls Tryd.prog 11 #[.pointer (some ⟨g, 0, none⟩), .slice (some ⟨w.heap.size, 0, none⟩) 1 1] (w.alloc (.cells #[.int .i64 k, .int .i64 v] 33)) (Grown F g (stepG s (k, v)) w) := by
  have hb : Below w.heap.size w (w.alloc (.cells #[.int .i64 k, .int .i64 v] 33)) := new_alloc (Below.refl _ w) _
  have hz : (w.alloc (.cells #[.int .i64 k, .int .i64 v] 33)).heap.size = w.heap.size + 1 := by simp
  have hk : Blk (w.alloc (.cells #[.int .i64 k, .int .i64 v] 33)) w.heap.size 33 #[.int .i64 k, .int .i64 v] := Blk.new _ _ _
  have hch : ∀ W, Chg (fun k => F k ∨ w.heap.size + 1 ≤ k) (w.alloc (.cells #[.int .i64 k, .int .i64 v] 33)) W → Chg F w W := fun W hW =>
    (chg_b hb).then_ hW (fun k' hk' e => e.elim id (fun e => by omega))
  refine (growStep_any (fun k => F k ∨ w.heap.size + 1 ≤ k) g s _ 1 1 [(k, v)] _ (fun k hk => Or.inr (by omega)) ((h.here.next hb).among fun k _ hk => Or.inl hk) (fun W hW => ?_) (fun d hd => by rw [List.mem_singleton.1 hd]; exact hi) (fun W hW => hnw W (hch W hW)) (by decide) hB).mono ?_
  · have hk2 := hk.chg hW (fun e => e.elim (fun e => Nat.lt_irrefl _ (h.lt _ e)) (fun e => by omega))
    refine ⟨by rw [e2_one]; rfl, Nat.le_refl _, (fun h => by cases h), fun _ => ⟨w.heap.size, 0, rfl, hk2.lt, fun j x hx => ?_⟩⟩
    rw [Nat.zero_add]
    rw [e2_one] at hx
    exact (hk2.cell j).trans (List.getElem?_toArray.trans hx)
  · rintro e w' ⟨rfl, hg, hc⟩
    exact ⟨rfl, hch _ hc, fun k => (F k ∨ w.heap.size + 1 ≤ k) ∧ k < w'.heap.size, ⟨hg.among (fun k hk hf => ⟨hf, hk⟩), fun k hk => hk.2⟩, fun k hk => hk.1.elim Or.inl (fun e => Or.inr (by omega))⟩
end Go.Proofs.YthjmojglcfmkmaaDoor
