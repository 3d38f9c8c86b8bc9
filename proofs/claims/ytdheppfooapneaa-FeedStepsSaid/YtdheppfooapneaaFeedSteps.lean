/- Of any bytes and any places FeedSteps answers true: chunk by chunk it is told what the document says, and as many bytes are taken, and held; closed, it tells the sections, or what is wrong. Conditions: none. -/
import Derived.Test.YtdheppfooapneaaKnown04
import Derived.Test.YtdheppfooapneaaFrameRef
import Derived.Test.YtdheppfooapneaaFeedRef
import Derived.Test.YtdheppfooapneaaLaw
import Derived.Deep.RegionHeld3
import Derived.StillTailTactics
import Derived.Deep.QuietTactic
import Derived.BigQuiet
namespace Go.Proofs.Ytdheppfooapneaa.feedSteps
open Go.ChangeShapes Go.WideShapes Go.ChangeAt Go.RowKit

set_option maxRecDepth 100000 in
set_option maxHeartbeats 4000000 in
theorem walk (A : Option Addr) (n c : Nat) (bs : List Nat) (B : Option Addr) (m d : Nat) (at_ : List Nat) (w : World) (hh : Has w A n c (u8s bs)) (hb : ∀ x ∈ bs, x < 256) (hn : n ≤ 9223372036854775807) (hh2 : Has w B m d (u8s at_)) (hb2 : ∀ x ∈ at_, x < 256) (hm : m ≤ 9223372036854775807) :
    Calls Try.prog 3 #[.slice A n c, .slice B m d] w fun e w' => e = .returned (.bool true) ∧ Below w.heap.size w w' := by
  by_cases hl : 1200 < n
  · have t : decide ((1200 : Int) < (n : Int)) = true := by simp; omega
    clear hh hb hh2 hb2
    go_enter Try.func3, Try.ntmps3
    go_wp2_with (go_at_call 7; refine (known04 _).mono ?_; rintro e w' ⟨rfl, hb⟩)
    go_ret
    exact ⟨rfl, hb⟩
  have t : decide ((1200 : Int) < (n : Int)) = false := by simp; omega
  by_cases hl2 : 60 < m
  · have t2 : decide ((60 : Int) < (m : Int)) = true := by simp; omega
    clear hh hb hh2 hb2
    go_enter Try.func3, Try.ntmps3
    go_wp2_with (go_at_call 7; refine (known04 _).mono ?_; rintro e w' ⟨rfl, hb⟩)
    go_ret
    exact ⟨rfl, hb⟩
  have t2 : decide ((60 : Int) < (m : Int)) = false := by simp; omega
  have HL : Hid (bs.length = n) := by have := hh.len; rw [u8s_len] at this; exact this
  have hlm : at_.length = m := by have := hh2.len; rw [u8s_len] at this; exact this
  have HH := Lib.hid hh
  have HH2 := Lib.hid hh2
  have HA := Lib.hid hb2
  have HDb := Lib.hid (dec_byte hb)
  have hdl := dec_num bs hb
  rw [HL.out] at hdl
  have HCf := Lib.hid (cutN_flat at_ bs)
  have hcl := cutN_len at_ bs
  rw [hlm] at hcl
  have HCb : Hid (∀ l ∈ cutN bs at_, ∀ x ∈ l, x < 256) := fun l hl x hx => hb x (by rw [← HCf.out]; exact List.mem_flatten.2 ⟨l, hl, hx⟩)
  have HCs : Hid (∀ i, ((cutN bs at_).take i).flatten.length ≤ n) := fun i => by
    have e : (cutN bs at_).flatten = ((cutN bs at_).take i).flatten ++ ((cutN bs at_).drop i).flatten := by rw [← List.flatten_append, List.take_append_drop]
    have := congrArg List.length e
    rw [HCf.out, HL.out, List.length_append] at this
    omega
  clear hh hb hh2 hb2 hlm
  go_enter Try.func3, Try.ntmps3
  go_wp2_with fail
  refine (feedNew_any _).mono ?_
  rintro e w1 ⟨p, S1, rfl, hf1, hS1, hb1⟩
  have HF1 := Lib.hid hf1
  have HS1 := Lib.hid hS1
  have HB1 := Lib.hid hb1
  have hz1 := hb1.size
  clear hf1 hS1 hb1
  go_wp2_with fail
  have HX2 : Hid (Blk (w1.alloc (.cells #[.slice none 0 0, .int .i64 0, .bool false, .int .i64 0, .slice none 0 0, .int .i64 0] 28)) w1.heap.size 28 #[.slice none 0 0, .int .i64 0, .bool false, .int .i64 0, .slice none 0 0, .int .i64 0]) := Blk.new _ _ _
  have HA2 : Hid (Below w1.heap.size w1 (w1.alloc (.cells #[.slice none 0 0, .int .i64 0, .bool false, .int .i64 0, .slice none 0 0, .int .i64 0] 28))) := new_alloc (Below.refl _ _) _
  generalize w1.alloc (.cells #[.slice none 0 0, .int .i64 0, .bool false, .int .i64 0, .slice none 0 0, .int .i64 0] 28) = w2 at *
  have HNG : Hid (¬ S1 w1.heap.size) := fun h => by have := HF1.out.sit _ h; omega
  obtain ⟨G, hG⟩ : ∃ G, w1.heap.size = G := ⟨_, rfl⟩
  rw [hG] at HNG HX2 hz1 ⊢
  have HF2 := Lib.hid (HF1.out.chg (D := fun _ => False) (Chg.of_below HA2.out) (fun _ _ h => h))
  have HB2 := Lib.hid (new_call HB1.out HA2.out)
  clear hG HA2 HF1 HB1
  have HSit : Hid (Sit (fun k => S1 k ∨ k = G) w2.heap.size) := fun k hk => by
    rcases hk with hk | hk
    · exact HF2.out.sit k hk
    · rw [hk]; exact HX2.out.lt
  have HU2 : Hid (∀ k, (S1 k ∨ k = G) → w.heap.size ≤ k) := fun k hk => by
    rcases hk with hk | hk
    · exact HS1.out k hk
    · omega
  refine (refCut_any A n c bs B m d at_ w2 (fun k => S1 k ∨ k = G) HSit.out (Rob.old Has.stays HH.out HB2.out HU2.out) (HH2.out.kept HB2.out) HA.out (by omega) (by omega)).mono ?_
  rintro e w3 ⟨A3, c3, rfl, hp3, hb3⟩
  have HP3 := Lib.hid hp3
  have HF3 := Lib.hid (HF2.out.chg (D := fun _ => False) (Chg.of_below hb3) (fun _ _ h => h))
  have HX3 : Hid (Blk w3 G 28 #[.slice none 0 0, .int .i64 0, .bool false, .int .i64 0, .slice none 0 0, .int .i64 0]) := Blk.below HX2.out hb3 HX2.out.lt
  have HB3 := Lib.hid (new_call HB2.out hb3)
  clear hp3 hb3 HF2 HX2 HB2 HSit HU2
  generalize cutN bs at_ = ls at *
  obtain ⟨L, hL⟩ : ∃ L, ls.length = L := ⟨_, rfl⟩
  rw [hL] at HP3 hcl ⊢
  have HLs := Lib.hid hL
  have hL61 : L ≤ 61 := by omega
  clear hL hcl
  go_wp2
  go_loopg [8] L (fun g s8 wx => ∃ (i : Nat) (S : Nat → Prop), i + g = L ∧ s8 = .int .i64 i ∧ Hid (Fdr wx p S ((ls.take i).flatten.foldl stepN st0) false) ∧ Hid (∀ k, S k → w.heap.size ≤ k) ∧ Hid (¬ S G) ∧ Hid (PartsR (fun k => S k ∨ k = G) wx A3 L c3 ls) ∧ Hid (∃ v0 v1 v2 v3 v4 v5, Blk wx G 28 #[v0, v1, v2, v3, v4, v5] ∧ StV (fun k => S k ∨ k = G) wx ((ls.take i).flatten.foldl stepN st0) (.agg #[v0, v1, v2, v3, v4, v5])) ∧ Hid (Below w.heap.size w wx))
  case atStart => exact ⟨0, S1, by omega, rfl, HF3, HS1, HNG, HP3, ⟨_, _, _, _, _, _, HX3.out, ⟨none, 0, 0, none, 0, 0, rfl, Rob.nil, SecsR.nil⟩⟩, HB3⟩
  case round =>
    obtain ⟨i, S, hig, rfl, HF, HS, HN, HP, HV, HB⟩ := hrel
    clear HF3 HS1 HP3 HB3 HNG HX3
    have hz := HB.out.size
    obtain ⟨v0, v1, v2, v3, v4, v5, hblk, hst⟩ := HV.out
    have HBl := Lib.hid hblk
    have HSt := Lib.hid hst
    have hGlt := hblk.lt
    clear HV hblk hst
    by_cases hi : i < L
    · have hil : i < ls.length := by rw [HLs.out]; exact hi
      have ti : decide ((i : Int) < (L : Int)) = true := by simp; omega
      obtain ⟨b, off, A', n', c', rfl, hcell, hrow⟩ := HP.out.row hil
      have HPt := Lib.hid (Rob.parts1 (hrow.less (D := S) fun k hk => Or.inl hk) HF.out.sit 22 _ rfl)
      have HFd : Hid ([ls[i]].flatten.foldl stepN ((ls.take i).flatten.foldl stepN st0) = (ls.take (i + 1)).flatten.foldl stepN st0) := by
        show _ = _
        rw [List.take_succ_eq_append_getElem hil, List.flatten_append, List.foldl_append]
      have HX8 := Lib.hid (HCb.out _ (List.getElem_mem hil))
      have hb0 : ∀ x ∈ (ls.take i).flatten, x < 256 := fun x hx => by
        obtain ⟨l, h1, h2⟩ := List.mem_flatten.1 hx
        exact HCb.out l (List.mem_of_mem_take h1) x h2
      have HOk := Lib.hid (fold_ok hb0 st0_ok)
      have hb1 : ∀ x ∈ (ls.take (i + 1)).flatten, x < 256 := fun x hx => by
        obtain ⟨l, h1, h2⟩ := List.mem_flatten.1 hx
        exact HCb.out l (List.mem_of_mem_take h1) x h2
      have HOk1 := Lib.hid (fold_ok hb1 st0_ok)
      have HHo := Lib.hid (fold_hold (ls.take (i + 1)).flatten st0_hold)
      have hc1 := HCs.out i
      have hc2 := HCs.out (i + 1)
      have hc3 := hc2
      rw [List.take_succ_eq_append_getElem hil, List.flatten_append, List.length_append] at hc2
      simp only [List.flatten_cons, List.flatten_nil, List.append_nil] at hc2
      have HF2 := Lib.hid (HF.out.chg (w' := wr.alloc (.cells #[.slice A' n' c'] 22)) (D := fun _ => False) (Chg.of_below (new_alloc (Below.refl _ _) _)) (fun _ _ h => h))
      have HRw := Lib.hid hrow
      have hln : ls[i].length = n' := by have := hrow.here.len; rw [u8s_len] at this; exact this
      have hbx := (Array.getElem?_eq_some_iff.1 HBl.out).1
      clear hrow hb0 hb1
      generalize ls[i] = x at *
      generalize (ls.take i).flatten = pre at *
      generalize hpre2 : (ls.take (i + 1)).flatten = pre2 at *
      have HPre2 := Lib.hid hpre2
      clear hpre2
      have hall := HOk.out.all
      go_wp2_with fail
      refine (feedFeed_any p S _ _ 1 1 [x] _ HF2.out HPt.out (by simpa using HX8.out) (by decide) (by simp; omega)).mono ?_
      rintro e w4 ⟨S4, rfl, hf4, hc4, hs4⟩
      rw [HFd.out] at hf4 ⊢
      have HF4 := Lib.hid hf4
      have hA : Below wr.heap.size wr (wr.alloc (.cells #[.slice A' n' c'] 22)) := new_alloc (Below.refl _ _) _
      have hcc : Chg S wr w4 := (Chg.of_below hA).then_ hc4 fun _ _ h => h
      have hs4' : ∀ k, S4 k → S k ∨ wr.heap.size ≤ k := fun k hk => by
        rcases hs4 k hk with h | h
        · exact Or.inl h
        · exact Or.inr (Nat.le_trans hA.size h)
      have HS4 : Hid (∀ k, S4 k → w.heap.size ≤ k) := fun k hk => by
        rcases hs4' k hk with h | h
        · exact HS.out k h
        · omega
      have HN4 : Hid (¬ S4 G) := fun hk => by
        rcases hs4' G hk with h | h
        · exact HN.out h
        · omega
      have hgg : ∀ k, k < wr.heap.size → (S4 k ∨ k = G) → (S k ∨ k = G) := fun k hk h => by
        rcases h with h | h
        · rcases hs4' k h with h | h
          · exact Or.inl h
          · omega
        · exact Or.inr h
      have hcw : Chg (fun k => S k ∨ k = G) wr w4 := hcc.wide fun _ _ h => Or.inl h
      have HP4 := Lib.hid (HP.out.chg (D' := fun k => S4 k ∨ k = G) hcw hgg)
      have HRw4 := Lib.hid (Rob.chg (G' := fun k => S4 k ∨ k = G) Has.stays HRw.out hcw hgg)
      have HSt4 := Lib.hid (HSt.out.chg (D' := fun k => S4 k ∨ k = G) hcw hgg)
      have HBl4 : Hid (Blk w4 G 28 #[v0, v1, v2, v3, v4, v5]) := (hcc.block G hGlt HN.out).trans HBl.out
      have HB4 : Hid (Below w.heap.size w w4) := HB.out.trans (hcc.below HS.out hz)
      have HCe := Lib.hid (Rob.chg (G' := fun k => S4 k ∨ k = G) cell_stays (HP.out.cell hil hcell) hcw hgg)
      clear hf4 hc4 hs4 hA hcc hs4' hgg hcw HF2 HPt HP HRw HSt HBl HB HF HS HN
      have hcell4 := HCe.out.here
      have x0 : w4.cell? ⟨G, 0, none⟩ = some v0 := HBl4.out.cell 0
      have x1 : w4.cell? ⟨G, 1, none⟩ = some v1 := HBl4.out.cell 1
      have x2 : w4.cell? ⟨G, 2, none⟩ = some v2 := HBl4.out.cell 2
      have x3 : w4.cell? ⟨G, 3, none⟩ = some v3 := HBl4.out.cell 3
      have x4 : w4.cell? ⟨G, 4, none⟩ = some v4 := HBl4.out.cell 4
      have x5 : w4.cell? ⟨G, 5, none⟩ = some v5 := HBl4.out.cell 5
      have hG4 := HBl4.out.lt
      have HSi4 : Hid (Sit (fun k => S4 k ∨ k = G) w4.heap.size) := fun k hk => by
        rcases hk with hk | hk
        · exact HF4.out.sit k hk
        · rw [hk]; exact hG4
      generalize (pre.foldl stepN st0) = s0 at *
      have HFx : Hid (x.foldl stepN s0 = pre2.foldl stepN st0) := by
        have := HFd.out
        simp only [List.flatten_cons, List.flatten_nil, List.append_nil] at this
        exact this
      generalize hs1 : (pre2.foldl stepN st0) = s1 at *
      have HS1e := Lib.hid hs1
      clear hs1
      clear hcell
      go_wp2
      go_still_tail 5, (by kernel_rfl)
      have hbd : Below w4.heap.size w4 w4.drew := (Below.refl _ _).drew
      go_wp2_with fail
      refine (refFeed_any (.agg #[v0, v1, v2, v3, v4, v5]) s0 A' n' c' x w4.drew _ HSi4.out (HSt4.out.kept HSi4.out hbd) (HRw4.out.here.kept hbd) HX8.out _ HOk.out (by omega)).mono ?_
      rintro e w5 ⟨v', rfl, hst5, hb5⟩
      rw [HFx.out] at hst5
      have HB5 : Hid (Below w4.heap.size w4 w5) := hbd.trans hb5
      have HS5 := Lib.hid hst5
      obtain ⟨A5, n5, c5, B5, m5, d5, rfl, _, _⟩ := hst5
      have HX5 : Hid (Blk w5 G 28 #[v0, v1, v2, v3, v4, v5]) := Blk.below HBl4.out HB5.out hG4
      have z0 : w5.cell? ⟨G, 0, none⟩ = some v0 := HX5.out.cell 0
      have z1 : w5.cell? ⟨G, 1, none⟩ = some v1 := HX5.out.cell 1
      have z2 : w5.cell? ⟨G, 2, none⟩ = some v2 := HX5.out.cell 2
      have z3 : w5.cell? ⟨G, 3, none⟩ = some v3 := HX5.out.cell 3
      have z4 : w5.cell? ⟨G, 4, none⟩ = some v4 := HX5.out.cell 4
      have z5 : w5.cell? ⟨G, 5, none⟩ = some v5 := HX5.out.cell 5
      have q0 := HX5.out.frozen 0
      have q1 := HX5.out.frozen 1
      have q2 := HX5.out.frozen 2
      have q3 := HX5.out.frozen 3
      have q4 := HX5.out.frozen 4
      have q5 := HX5.out.frozen 5
      clear hb5
      go_wp2_with fail
      have HX6 := Lib.hid (set6g (c0 := .slice A5 n5 c5) (c1 := .int .i64 (s1.last : Int)) (c2 := .bool s1.fin) (c3 := .int .i64 (s1.all : Int)) (c4 := .slice B5 m5 d5) (c5 := .int .i64 (s1.e : Int)) HX5.out)
      have HFr : Hid (Far1 G w5 ((((((w5.setCell ⟨G, 0, none⟩ (.slice A5 n5 c5)).setCell ⟨G, 1, none⟩ (.int .i64 (s1.last : Int))).setCell ⟨G, 2, none⟩ (.bool s1.fin)).setCell ⟨G, 3, none⟩ (.int .i64 (s1.all : Int))).setCell ⟨G, 4, none⟩ (.slice B5 m5 d5)).setCell ⟨G, 5, none⟩ (.int .i64 (s1.e : Int)))) := ((((((Far1.refl _ _).set 0 _).set 1 _).set 2 _).set 3 _).set 4 _).set 5 _
      generalize (((((w5.setCell ⟨G, 0, none⟩ (.slice A5 n5 c5)).setCell ⟨G, 1, none⟩ (.int .i64 (s1.last : Int))).setCell ⟨G, 2, none⟩ (.bool s1.fin)).setCell ⟨G, 3, none⟩ (.int .i64 (s1.all : Int))).setCell ⟨G, 4, none⟩ (.slice B5 m5 d5)).setCell ⟨G, 5, none⟩ (.int .i64 (s1.e : Int)) = w6 at *
      have hc46 : Chg (fun k => S4 k ∨ k = G) w4 w6 := (Chg.of_below HB5.out).then_ (Chg.of_far (HFr.out.farD (D := fun k => k = G) rfl)) fun _ _ h => Or.inr h
      have hc46' : Chg (fun k => k = G) w4 w6 := (Chg.of_below HB5.out).then_ (Chg.of_far (HFr.out.farD (D := fun k => k = G) rfl)) fun _ _ h => h
      have HF6 := Lib.hid (HF4.out.chg hc46' fun k hk h => HN4.out (h ▸ hk))
      have HP6 := Lib.hid (HP4.out.chg hc46 fun _ _ h => h)
      have HSt6 := Lib.hid (HS5.out.far (HFr.out.farD (D := fun k => S4 k ∨ k = G) (Or.inr rfl)))
      have HB6 : Hid (Below w.heap.size w w6) := HB4.out.trans (hc46'.below (fun k hk => by omega) HB4.out.size)
      have HTk : Hid (∀ W, Below w6.heap.size w6 W → Calls Try.prog 12 #[.pointer (some ⟨p, 0, none⟩)] W fun e w' => e = .returned (.int .i64 (s1.all : Int)) ∧ Below W.heap.size W w') := fun W hW => feedTaken_any p S4 s1 false W (HF6.out.chg (D := fun _ => False) (Chg.of_below hW) fun _ _ h => h)
      have y3 : w6.cell? ⟨G, 3, none⟩ = some (.int .i64 (s1.all : Int)) := HX6.out.cell 3
      have y5 : w6.cell? ⟨G, 5, none⟩ = some (.int .i64 (s1.e : Int)) := HX6.out.cell 5
      have hG6 := HX6.out.lt
      clear hc46 hc46' x0 x1 x2 x3 x4 x5 z0 z1 z2 z3 z4 z5 q0 q1 q2 q3 q4 q5 HS5 HFr HX5 HB5 HB4 HP4 HF4 HSt4 HRw4 HCe hcell4 HBl4 HSi4
      go_region_held3 (fun W => W.cell? ⟨G, 5, none⟩ = some (.int .i64 (s1.e : Int)) ∧ W.cell? ⟨G, 3, none⟩ = some (.int .i64 (s1.all : Int))) (first | exact ⟨y5, y3⟩ | exact ⟨t5, t3⟩) (first
        | (go_at_call 12; refine (HTk.out _ (Below.refl _ _).drew).mono ?_; rintro e w7 ⟨rfl, hb7⟩; have HB7 : Hid (Below w6.heap.size w6 w7) := new_call (Below.refl _ w6).drew hb7; have t5 : w7.cell? ⟨G, 5, none⟩ = some (.int .i64 (s1.e : Int)) := (HB7.out.cell (p := ⟨G, 5, none⟩) hG6).trans y5; have t3 : w7.cell? ⟨G, 3, none⟩ = some (.int .i64 (s1.all : Int)) := (HB7.out.cell (p := ⟨G, 3, none⟩) hG6).trans y3; clear hb7))
      have HX7 : Hid (Blk w7 G 28 #[.slice A5 n5 c5, .int .i64 (s1.last : Int), .bool s1.fin, .int .i64 (s1.all : Int), .slice B5 m5 d5, .int .i64 (s1.e : Int)]) := Blk.below HX6.out HB7.out hG6
      have HF7 := Lib.hid (HF6.out.chg (D := fun _ => False) (Chg.of_below HB7.out) fun _ _ h => h)
      have HP7 := Lib.hid (HP6.out.chg (Chg.of_below HB7.out) fun _ _ h => h)
      have HSt7 := Lib.hid (HSt6.out.chg (Chg.of_below HB7.out) fun _ _ h => h)
      have HBw7 := Lib.hid (new_call HB6.out HB7.out)
      clear HX6 HF6 HP6 HSt6 HB6 HTk y3 y5 t3 t5 HB7 hG6
      have hG7 := HX7.out.lt
      have y0 : w7.cell? ⟨G, 0, none⟩ = some (.slice A5 n5 c5) := HX7.out.cell 0
      have y1 : w7.cell? ⟨G, 1, none⟩ = some (.int .i64 (s1.last : Int)) := HX7.out.cell 1
      have y2 : w7.cell? ⟨G, 2, none⟩ = some (.bool s1.fin) := HX7.out.cell 2
      have y3 : w7.cell? ⟨G, 3, none⟩ = some (.int .i64 (s1.all : Int)) := HX7.out.cell 3
      have y4 : w7.cell? ⟨G, 4, none⟩ = some (.slice B5 m5 d5) := HX7.out.cell 4
      have y5 : w7.cell? ⟨G, 5, none⟩ = some (.int .i64 (s1.e : Int)) := HX7.out.cell 5
      by_cases he : s1.e = 0
      · have te : ((s1.e : Int) == 0) = true := by rw [he]; rfl
        have HHl : Hid (∀ W, Below w7.heap.size w7 W → Calls Try.prog 13 #[.pointer (some ⟨p, 0, none⟩)] W fun e w' => e = .returned (.int .i64 (heldN s1 : Int)) ∧ Below W.heap.size W w') := fun W hW => feedHeld_any p S4 s1 W (HF7.out.chg (D := fun _ => False) (Chg.of_below hW) fun _ _ h => h) he
        have hHo := HHo.out.all
        have hO1 := HOk1.out.all
        have hO2 := HOk1.out.l
        have HRh : Hid (∀ W, Below w7.heap.size w7 W → Calls Try.prog 14 #[.agg #[.slice A5 n5 c5, .int .i64 (s1.last : Int), .bool s1.fin, .int .i64 (s1.all : Int), .slice B5 m5 d5, .int .i64 (s1.e : Int)]] W fun e w' => e = .returned (.int .i64 (heldN s1 : Int)) ∧ Below W.heap.size W w') := fun W hW => refHeld_any _ s1 W _ (HSt7.out.chg (D' := fun k => S4 k ∨ k = G) (Chg.of_below hW) fun _ _ h => h) (by omega) (by omega)
        clear he hHo hO1 hO2
        go_wp2_with fail
        go_region_held3 (fun W => W.cell? ⟨G, 0, none⟩ = some (.slice A5 n5 c5) ∧ W.cell? ⟨G, 1, none⟩ = some (.int .i64 (s1.last : Int)) ∧ W.cell? ⟨G, 2, none⟩ = some (.bool s1.fin) ∧ W.cell? ⟨G, 3, none⟩ = some (.int .i64 (s1.all : Int)) ∧ W.cell? ⟨G, 4, none⟩ = some (.slice B5 m5 d5) ∧ W.cell? ⟨G, 5, none⟩ = some (.int .i64 (s1.e : Int))) (first | exact ⟨y0, y1, y2, y3, y4, y5⟩ | exact ⟨a0, a1, a2, a3, a4, a5⟩ | exact ⟨b0, b1, b2, b3, b4, b5⟩) (first
          | (go_at_call 13; refine Calls.mono (HHl.out _ ?_) ?_; (first | exact HBb.out | exact (Below.refl _ _).drew); rintro e w8 ⟨rfl, hb8⟩; have HBa : Hid (Below w7.heap.size w7 w8) := (by first | exact new_call HBb.out hb8 | exact new_call (Below.refl _ w7).drew hb8); have a0 : w8.cell? ⟨G, 0, none⟩ = some (.slice A5 n5 c5) := (HBa.out.cell (p := ⟨G, 0, none⟩) hG7).trans y0; have a1 : w8.cell? ⟨G, 1, none⟩ = some (.int .i64 (s1.last : Int)) := (HBa.out.cell (p := ⟨G, 1, none⟩) hG7).trans y1; have a2 : w8.cell? ⟨G, 2, none⟩ = some (.bool s1.fin) := (HBa.out.cell (p := ⟨G, 2, none⟩) hG7).trans y2; have a3 : w8.cell? ⟨G, 3, none⟩ = some (.int .i64 (s1.all : Int)) := (HBa.out.cell (p := ⟨G, 3, none⟩) hG7).trans y3; have a4 : w8.cell? ⟨G, 4, none⟩ = some (.slice B5 m5 d5) := (HBa.out.cell (p := ⟨G, 4, none⟩) hG7).trans y4; have a5 : w8.cell? ⟨G, 5, none⟩ = some (.int .i64 (s1.e : Int)) := (HBa.out.cell (p := ⟨G, 5, none⟩) hG7).trans y5; clear hb8)
          | (go_at_call 14; refine Calls.mono (HRh.out _ ?_) ?_; (first | exact HBa.out | exact (Below.refl _ _).drew); rintro e w9 ⟨rfl, hb9⟩; have HBb : Hid (Below w7.heap.size w7 w9) := (by first | exact new_call HBa.out hb9 | exact new_call (Below.refl _ w7).drew hb9); have b0 : w9.cell? ⟨G, 0, none⟩ = some (.slice A5 n5 c5) := (HBb.out.cell (p := ⟨G, 0, none⟩) hG7).trans y0; have b1 : w9.cell? ⟨G, 1, none⟩ = some (.int .i64 (s1.last : Int)) := (HBb.out.cell (p := ⟨G, 1, none⟩) hG7).trans y1; have b2 : w9.cell? ⟨G, 2, none⟩ = some (.bool s1.fin) := (HBb.out.cell (p := ⟨G, 2, none⟩) hG7).trans y2; have b3 : w9.cell? ⟨G, 3, none⟩ = some (.int .i64 (s1.all : Int)) := (HBb.out.cell (p := ⟨G, 3, none⟩) hG7).trans y3; have b4 : w9.cell? ⟨G, 4, none⟩ = some (.slice B5 m5 d5) := (HBb.out.cell (p := ⟨G, 4, none⟩) hG7).trans y4; have b5 : w9.cell? ⟨G, 5, none⟩ = some (.int .i64 (s1.e : Int)) := (HBb.out.cell (p := ⟨G, 5, none⟩) hG7).trans y5; clear hb9))
        go_wp2
        go_roundg (gk - 1)
        case measure => omega
        case rel =>
          refine ⟨i + 1, S4, by omega, by go_num, ?_, HS4, HN4, HP7.out.chg (Chg.of_below HBb.out) fun _ _ h => h, ⟨_, _, _, _, _, _, Blk.below HX7.out HBb.out hG7, ?_⟩, new_call HBw7.out HBb.out⟩
          · show Fdr _ _ _ _ _
            rw [HPre2.out, HS1e.out]; exact HF7.out.chg (D := fun _ => False) (Chg.of_below HBb.out) fun _ _ h => h
          · rw [HPre2.out, HS1e.out]; exact HSt7.out.chg (Chg.of_below HBb.out) fun _ _ h => h
      · have te : ((s1.e : Int) == 0) = false := by rw [beq_eq_false_iff_ne]; omega
        clear he
        go_wp2_with fail
        go_quiet (fail)
        go_wp2
        have hbq : ∀ q, Below w7.heap.size w7 (w7.drewN q) := fun q => ⟨rfl, rfl, rfl, Nat.le_refl _, fun _ _ => rfl⟩
        go_roundg (gk - 1)
        case measure => omega
        case rel =>
          refine ⟨i + 1, S4, by omega, by go_num, ?_, HS4, HN4, HP7.out.chg (Chg.of_below (hbq _)) fun _ _ h => h, ⟨_, _, _, _, _, _, Blk.below HX7.out (hbq _) hG7, ?_⟩, new_call HBw7.out (hbq _)⟩
          · show Fdr _ _ _ _ _
            rw [HPre2.out, HS1e.out]; exact HF7.out.chg (D := fun _ => False) (Chg.of_below (hbq _)) fun _ _ h => h
          · rw [HPre2.out, HS1e.out]; exact HSt7.out.chg (Chg.of_below (hbq _)) fun _ _ h => h
    · have ti : decide ((i : Int) < (L : Int)) = false := by simp; omega
      have hE : (ls.take i).flatten = bs := by rw [List.take_of_length_le (by rw [HLs.out]; omega), HCf.out]
      rw [hE] at HF HSt
      clear hE
      have HDe : Hid (closeN (bs.foldl stepN st0) = decN bs) := rfl
      generalize bs.foldl stepN st0 = s1 at *
      go_wp2_with fail
      refine (feedClose_any p S _ wr HF.out).mono ?_
      rintro e w5 ⟨S5, R5, A5, c5, rfl, hx5, _, _, hc5, _⟩
      have HX5 := Lib.hid (hx5 (fun _ => False) fun _ h => h.elim).here
      have HBl5 : Hid (Blk w5 G 28 #[v0, v1, v2, v3, v4, v5]) := (hc5.block G hGlt HN.out).trans HBl.out
      have HSt5 := Lib.hid (HSt.out.chg (D' := fun _ => False) (hc5.wide fun _ _ h => Or.inl h) fun _ _ h => h.elim)
      have HB5 : Hid (Below w.heap.size w w5) := HB.out.trans (hc5.below HS.out hz)
      have x0 : w5.cell? ⟨G, 0, none⟩ = some v0 := HBl5.out.cell 0
      have x1 : w5.cell? ⟨G, 1, none⟩ = some v1 := HBl5.out.cell 1
      have x2 : w5.cell? ⟨G, 2, none⟩ = some v2 := HBl5.out.cell 2
      have x3 : w5.cell? ⟨G, 3, none⟩ = some v3 := HBl5.out.cell 3
      have x4 : w5.cell? ⟨G, 4, none⟩ = some v4 := HBl5.out.cell 4
      have x5 : w5.cell? ⟨G, 5, none⟩ = some v5 := HBl5.out.cell 5
      clear hx5 hc5 HF HSt HBl HB HP HBl5
      go_wp2_with fail
      refine (refClose_any (.agg #[v0, v1, v2, v3, v4, v5]) s1 w5 _ HSt5.out).mono ?_
      rintro e w6 ⟨A6, c6, rfl, hs6, hb6⟩
      have HY6 := Lib.hid hs6
      have HX6 := Lib.hid (HX5.out.kept hb6)
      have HB6 := Lib.hid (new_call HB5.out hb6)
      clear hs6 hb6 HX5 HB5 HSt5 x0 x1 x2 x3 x4 x5
      rw [HDe.out] at HX6 HY6 ⊢
      clear HDe
      generalize decN bs = r at *
      go_wp2_with fail
      refine (refSame3_any _ _ _ _ _ _ r.1 r.1 _ HX6.out HY6.out HDb.out HDb.out (by omega) (by omega)).mono ?_
      rintro e w7 ⟨rfl, hb7⟩
      simp only [decide_true]
      have HB7 := Lib.hid (new_call HB6.out hb7)
      clear hb7
      go_wp2_with (go_at_call 7; refine (known04 _).mono ?_; rintro e w' ⟨rfl, hb⟩)
      go_ret
      exact ⟨rfl, new_call HB7.out hb⟩

set_option maxRecDepth 100000 in
theorem lifted (os : Os) (started : os.Started) (H : Type) (enc : TypeId × Value → H) :
    ReturnsInHanded {} Try.checked os 3 .any (Rows.feedStepsSpec.pre6 enc Try.prog Try.f3 Rows.feedStepsRow.domain false) (Rows.feedStepsSpec.post enc Try.prog Try.f3 false true false false) := by
  refine returnsInHanded_of_change (C := Try.checked) Try.own started (by kernel_rfl) Try.func3
    (ChangeSpec.witness6 (enc := enc) (C := Try.checked) false ⟨#[], #[.slice none 0 0, .slice none 0 0], []⟩ 8 (by kernel_rfl) (by kernel_rfl) (by kernel_rfl) (by kernel_rfl)) ?_
  intro W base args ds gs before hval0 hW _ _
  have hval : ∀ (j : Nat) t v, Try.f3.params[j]? = some t → args[j]? = some v → Value.okWide Try.prog W .any base t v := hval0
  have hW' := hW
  obtain ⟨p, q, hA0, hV, rfl, _, _⟩ := hW
  have hA : DataW.TrodAll enc Try.prog W 0 (fun _ => true) true Try.f3.params.toList args.toList ds p := hA0
  rw [Try.params3] at hA hval
  obtain ⟨v0, v1, d0, d1, p0, p1, rfl, rfl, rfl, h0, h1⟩ := trodAll_two hA
  obtain ⟨rfl, rfl⟩ := trodVars_none hV
  obtain ⟨A0, n0, c0, bs0, rfl, hh0, hb0, hn0⟩ := open_bytes (hval 0 22 v0 rfl rfl) h0
  obtain ⟨A1, n1, c1, bs1, rfl, hh1, hb1, hn1⟩ := open_bytes (hval 1 22 v1 rfl rfl) h1
  exact (walk A0 n0 c0 bs0 A1 n1 c1 bs1 W hh0 hb0 hn0 hh1 hb1 hn1).mono fun e W' he =>
    law_post rfl rfl (by rw [Try.params3]; intro t ht; simp at ht; subst ht; exact ⟨by kernel_rfl, of_decide_eq_true (by kernel_rfl)⟩) hW' rfl he

theorem proved : Rows.FeedStepsSaid :=
  OpenClaim.holds_of_wide 3 Try.f3 rfl rfl rfl rfl rfl rfl rfl ⟨rfl, rfl, rfl, rfl, rfl⟩ rfl rfl rfl rfl rfl (by kernel_rfl) Try.func3 (by kernel_rfl)
    (of_decide_eq_true (by kernel_rfl)) (by unfold Func.isWrapper; first | (rw [if_pos (by decide +kernel)]; kernel_rfl) | (rw [if_neg (by decide +kernel)]; exact ⟨rfl, rfl⟩))
    (fun os started H enc _ => lifted os started H enc)
end Go.Proofs.Ytdheppfooapneaa.feedSteps
