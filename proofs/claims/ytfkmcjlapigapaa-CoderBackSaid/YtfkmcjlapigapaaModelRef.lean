/- Layer 5 in plain lists; the document's own functions. -/
import Derived.Test.YtfkmcjlapigapaaKeep
import Derived.Deep.LoopGhost
import Derived.Deep.QuietTactic
import Derived.BigQuiet
import Derived.Deep.RegionHeld3
import Derived.Outline
namespace Go.Proofs.Ytfkmcjlapigapaa
open Go.RowKit

def i64s (l : List Nat) : List Value := l.map fun (x : Nat) => Value.int .i64 (x : Int)
theorem i64s_len (l : List Nat) : (i64s l).length = l.length := by simp [i64s]
theorem i64s_app (l r : List Nat) : i64s (l ++ r) = i64s l ++ i64s r := by simp [i64s]
theorem i64s_at {l : List Nat} {j : Nat} (h : j < l.length) : (i64s l)[j]? = some (.int .i64 (l[j] : Int)) := by simp [i64s, h]
theorem i64s_set (l : List Nat) (j v : Nat) : (i64s l).set j (.int .i64 (v : Int)) = i64s (l.set j v) := by
  simp [i64s, List.map_set]
theorem i64s_one (l : List Nat) : ∀ u ∈ i64s l, u.oneCell' = true := by
  intro u hu
  obtain ⟨x, _, rfl⟩ := List.mem_map.1 hu
  rfl
theorem elemI : Elem Try.prog 22 3 8 := by
  have h : (Try.prog.info? 3).map (fun i => (i.zero, i.size, i.bytes)) = some (some (.int .i64 0), 1, 8) := by kernel_rfl
  obtain ⟨i, h1, h2, h3, h4⟩ := info_parts h
  exact ⟨Try.underlying22, i, _, h1, h2, h3, h4, rfl⟩

/-- Counts, behind one more. -/
def halveN (c : List Nat) : List Nat := c.map fun x => (x + 1) / 2
def countN (c : List Nat) (s : Nat) : List Nat := if 8192 < (c.set s (c.getD s 0 + 32)).sum then halveN (c.set s (c.getD s 0 + 32)) else c.set s (c.getD s 0 + 32)
theorem countN_len (c : List Nat) (s : Nat) : (countN c s).length = c.length := by
  unfold countN halveN; split <;> simp
def shareN (c : List Nat) (s : Int) : Nat × Nat × Nat := if s < 0 ∨ (c.length : Int) ≤ s then (0, 0, 2) else ((c.take s.toNat).sum, c.getD s.toNat 0, 0)
/-- Whose share it is, from symbol s on. -/
def findFrom (c : List Nat) (v : Int) : Nat → Nat → Nat × Nat
  | 0, _ => (0, 2)
  | f + 1, s => if ((c.take s).sum : Int) ≤ v ∧ v < ((c.take (s + 1)).sum : Int) then (s, 0) else findFrom c v f (s + 1)
def findN (c : List Nat) (v : Int) : Nat × Nat := findFrom c v c.length 0
theorem sum_snoc5 {c : List Nat} {i : Nat} (h : i < c.length) : (c.take (i + 1)).sum = (c.take i).sum + c[i] := by
  rw [List.take_succ_eq_append_getElem h, List.sum_append]; simp
theorem sum_take5 (c : List Nat) (i : Nat) : (c.take i).sum ≤ c.sum := by
  have e : c.sum = (c.take i).sum + (c.drop i).sum := by rw [← List.sum_append, List.take_append_drop]
  omega

set_option maxRecDepth 100000 in
theorem ref5New_any (n : Nat) (w : World) (hn : n ≤ 1000000) : Calls Try.prog 45 #[.int .i64 (n : Int)] w fun e w' => ∃ v, e = .returned v ∧ Own w' w.heap.size 3 v (i64s (List.replicate n 1)) ∧ Below w.heap.size w w' := by
  go_enter Try.func45, Try.ntmps45
  go_wp2
  go_loopg [3, 4] n (fun g s3 s4 wx => ∃ i : Nat, i + g = n ∧ s4 = .int .i64 i ∧ Hid (Own wx w.heap.size 3 s3 (i64s (List.replicate i 1))) ∧ Hid (Below w.heap.size w wx))
  case atStart => exact ⟨0, by omega, rfl, Own.nil _ _ _, Below.refl _ _⟩
  case round =>
    obtain ⟨i, hig, rfl, HO, HB⟩ := hrel
    have hz := HB.out.size
    by_cases hi : i < n
    · have ti : decide ((i : Int) < (n : Int)) = true := by simp; omega
      go_wp2_with (at_builtin
                   refine wpList_join rfl _ _ 22 rfl elemI w.heap.size _ _ rfl (HO.out.alloc _) _ 1 1 (i64s [1]) rfl (Has.one _ _ _) (i64s_one _) (by simp [i64s_len]; omega) (by decide) (by simp; omega) ?_
                   intro v2 w2 hown2 hbel2
                   rw [← i64s_app, ← List.replicate_succ'] at hown2
                   have HO2 := Lib.hid hown2
                   have HB2 := Lib.hid ((new_alloc HB.out _).trans hbel2)
                   clear hown2 hbel2)
      go_roundg (gk - 1)
      case measure => omega
      case rel => exact ⟨i + 1, by omega, by go_num, HO2, HB2⟩
    · have ti : decide ((i : Int) < (n : Int)) = false := by simp; omega
      obtain rfl : i = n := by omega
      go_wp2
      go_ret
      exact ⟨_, rfl, HO.out, HB.out⟩

set_option maxRecDepth 100000 in
theorem ref5Sum_any (A : Option Addr) (n c : Nat) (cs : List Nat) (k : Nat) (w : World) (h : Has w A n c (i64s cs)) (hk : k ≤ n) (hs : cs.sum ≤ 1000000000000) (hn : n ≤ 1000000) :
    Calls Try.prog 55 #[.slice A n c, .int .i64 (k : Int)] w fun e w' => e = .returned (.int .i64 ((cs.take k).sum : Int)) ∧ w = w' := by
  have hl : cs.length = n := by have := h.len; rw [i64s_len] at this; exact this
  have HL := Lib.hid hl
  have HH := Lib.hid h
  clear h hl
  go_enter Try.func55, Try.ntmps55
  go_wp2
  go_loopg [5, 6] k (fun g s5 s6 wx => ∃ i : Nat, i + g = k ∧ s6 = .int .i64 i ∧ s5 = .int .i64 ((cs.take i).sum : Nat) ∧ w = wx)
  case atStart => exact ⟨0, by omega, rfl, rfl, rfl⟩
  case round =>
    obtain ⟨i, hig, rfl, rfl, rfl⟩ := hrel
    by_cases hi : i < k
    · have hil : i < cs.length := by rw [HL.out]; omega
      obtain ⟨b, off, rfl, _, hc⟩ := HH.out.spot (by omega)
      have hcell := hc i _ (i64s_at hil)
      have HX := Lib.hid (sum_snoc5 hil)
      have hs1 := sum_take5 cs i
      have hs2 := sum_take5 cs (i + 1)
      rw [HX.out] at hs2
      have ti : decide (i < k) = true := by simp; omega
      clear hc
      generalize cs[i] = x at *
      generalize (cs.take i).sum = q at *
      go_wp2
      go_roundg (gk - 1)
      case measure => omega
      case rel => exact ⟨i + 1, by omega, by go_num, by rw [HX.out]; go_num, rfl⟩
    · have ti : decide (i < k) = false := by simp; omega
      obtain rfl : i = k := by omega
      go_wp2
      go_ret
      exact ⟨rfl, rfl⟩

theorem quiet_below (w : World) (n : Nat) : Below w.heap.size w (w.drewN n) := ⟨rfl, rfl, rfl, Nat.le_refl _, fun _ _ => rfl⟩
set_option maxRecDepth 100000 in
set_option maxHeartbeats 400000 in
theorem ref5Share_q (A : Option Addr) (n c : Nat) (cs : List Nat) (s : Int) (w : World) (h : Has w A n c (i64s cs)) (hs : cs.sum ≤ 1000000000000) (hn : n ≤ 1000000) :
    Calls Try.prog 60 #[.slice A n c, .int .i64 s] w fun e w' => e = .returned (.tuple #[.int .i64 ((shareN cs s).1 : Int), .int .i64 ((shareN cs s).2.1 : Int), .int .i64 ((shareN cs s).2.2 : Int)]) ∧ ∃ m, w' = w.drewN m := by
  have hl : cs.length = n := by have := h.len; rw [i64s_len] at this; exact this
  by_cases h0 : s < 0
  · have HE : Hid (shareN cs s = (0, 0, 2)) := if_pos (Or.inl h0)
    have t0 : decide (s < 0) = true := by simpa using h0
    clear h hl
    go_enter Try.func60, Try.ntmps60
    go_wp2
    go_ret3
    rw [HE.out]
    exact ⟨rfl, 0, rfl⟩
  · have t0 : decide (s < 0) = false := by simpa using h0
    by_cases h1 : (n : Int) ≤ s
    · have HE : Hid (shareN cs s = (0, 0, 2)) := if_pos (Or.inr (by rw [hl]; exact h1))
      have t1 : decide ((n : Int) ≤ s) = true := by simpa using h1
      clear h hl
      go_enter Try.func60, Try.ntmps60
      go_wp2
      go_ret3
      rw [HE.out]
      exact ⟨rfl, 0, rfl⟩
    · obtain ⟨k, rfl⟩ := Int.eq_ofNat_of_zero_le (show 0 ≤ s by omega)
      have t1 : decide (n ≤ k) = false := by simp; omega
      have hkl : k < cs.length := by omega
      have HE : Hid (shareN cs (k : Int) = ((cs.take k).sum, cs[k], 0)) := by
        show _ = _
        unfold shareN
        rw [if_neg (by omega)]
        simp [List.getElem?_eq_getElem hkl]
      have HS := Lib.hid (fun j => (ref5Sum_any A n c cs k (w.drewN j) (h.kept (quiet_below w j)) (by omega) hs hn).mono fun _ _ ⟨p, q⟩ => And.intro p q.symm)
      obtain ⟨b, off, rfl, hlt, hc⟩ := h.spot (by omega)
      have hcell := hc k _ (i64s_at hkl)
      clear hc h hl
      generalize cs[k] = x at *
      generalize (cs.take k).sum = q at *
      go_enter Try.func60, Try.ntmps60
      go_wp2_with fail
      go_quiet ((go_at_call 55; exact Calls.quiet_of_same (HS.out _)))
      go_wp2
      go_ret3
      rw [HE.out]
      exact ⟨rfl, _, rfl⟩

theorem findFrom_hit {c : List Nat} {v : Int} {f s : Nat} (h : ((c.take s).sum : Int) ≤ v ∧ v < ((c.take (s + 1)).sum : Int)) : findFrom c v (f + 1) s = (s, 0) := if_pos h
theorem findFrom_on {c : List Nat} {v : Int} {f s : Nat} (h : ¬ (((c.take s).sum : Int) ≤ v ∧ v < ((c.take (s + 1)).sum : Int))) : findFrom c v (f + 1) s = findFrom c v f (s + 1) := if_neg h
theorem ref5Share_any (A : Option Addr) (n c : Nat) (cs : List Nat) (s : Int) (w : World) (h : Has w A n c (i64s cs)) (hs : cs.sum ≤ 1000000000000) (hn : n ≤ 1000000) :
    Calls Try.prog 60 #[.slice A n c, .int .i64 s] w fun e w' => e = .returned (.tuple #[.int .i64 ((shareN cs s).1 : Int), .int .i64 ((shareN cs s).2.1 : Int), .int .i64 ((shareN cs s).2.2 : Int)]) ∧ Below w.heap.size w w' :=
  (ref5Share_q A n c cs s w h hs hn).mono fun _ _ ⟨p, _, q⟩ => And.intro p (by rw [q]; exact quiet_below _ _)

set_option maxRecDepth 100000 in
set_option maxHeartbeats 400000 in
theorem ref5Find_any (A : Option Addr) (n c : Nat) (cs : List Nat) (v : Int) (w : World) (h : Has w A n c (i64s cs)) (hs : cs.sum ≤ 1000000000000) (hn : n ≤ 1000000) :
    Calls Try.prog 37 #[.slice A n c, .int .i64 v] w fun e w' => e = .returned (.tuple #[.int .i64 ((findN cs v).1 : Int), .int .i64 ((findN cs v).2 : Int)]) ∧ w = w' := by
  have hl : cs.length = n := by have := h.len; rw [i64s_len] at this; exact this
  have HS := Lib.hid (fun k (hk : k ≤ n) => ref5Sum_any A n c cs k w h hk hs hn)
  have HN : Hid (findN cs v = findFrom cs v n 0) := by show _ = _; unfold findN; rw [hl]
  clear h hl
  go_enter Try.func37, Try.ntmps37
  go_wp2
  go_loopg [6] n (fun g s6 wx => ∃ i : Nat, i + g = n ∧ s6 = .int .i64 i ∧ Hid (findN cs v = findFrom cs v g i) ∧ w = wx)
  case atStart => exact ⟨0, by omega, rfl, HN, rfl⟩
  case round =>
    obtain ⟨i, hig, rfl, HF, rfl⟩ := hrel
    by_cases hi : i < n
    · have ti : decide ((i : Int) < (n : Int)) = true := by simp; omega
      obtain ⟨f, rfl⟩ : ∃ f, gk = f + 1 := ⟨gk - 1, by omega⟩
      have HS1 := Lib.hid (HS.out i (by omega))
      have HS2 := Lib.hid (HS.out (i + 1) (by omega))
      have HFh := Lib.hid (findFrom_hit (c := cs) (v := v) (f := f) (s := i))
      have HFo := Lib.hid (findFrom_on (c := cs) (v := v) (f := f) (s := i))
      generalize (cs.take i).sum = a at *
      generalize (cs.take (i + 1)).sum = b at *
      by_cases h1 : (a : Int) ≤ v
      · have t1 : decide ((a : Int) ≤ v) = true := by simpa using h1
        by_cases h2 : v < (b : Int)
        · have t2 : decide (v < (b : Int)) = true := by simpa using h2
          have HE := Lib.hid (HF.out.trans (HFh.out ⟨h1, h2⟩))
          clear HFh HFo HF
          go_wp2_with fail
          refine HS1.out.mono ?_
          rintro e w' ⟨rfl, rfl⟩
          go_wp2_with fail
          refine HS2.out.mono ?_
          rintro e w' ⟨rfl, rfl⟩
          go_wp2
          go_ret2
          rw [HE.out]
          exact ⟨rfl, rfl⟩
        · have t2 : decide (v < (b : Int)) = false := by simpa using h2
          have HE := Lib.hid (HF.out.trans (HFo.out fun h => h2 h.2))
          clear HFh HFo HF
          go_wp2_with fail
          refine HS1.out.mono ?_
          rintro e w' ⟨rfl, rfl⟩
          go_wp2_with fail
          refine HS2.out.mono ?_
          rintro e w' ⟨rfl, rfl⟩
          go_wp2
          go_roundg f
          case measure => omega
          case rel => exact ⟨i + 1, by omega, by go_num, HE, rfl⟩
      · have t1 : decide ((a : Int) ≤ v) = false := by simpa using h1
        have HE := Lib.hid (HF.out.trans (HFo.out fun h => h1 h.1))
        clear HFh HFo HF
        go_wp2_with fail
        refine HS1.out.mono ?_
        rintro e w' ⟨rfl, rfl⟩
        go_wp2
        go_roundg f
        case measure => omega
        case rel => exact ⟨i + 1, by omega, by go_num, HE, rfl⟩
    · have ti : decide ((i : Int) < (n : Int)) = false := by simp; omega
      obtain rfl : gk = 0 := by omega
      have HE : Hid (findN cs v = (0, 2)) := HF.out
      go_wp2
      go_ret2
      rw [HE.out]
      exact ⟨rfl, rfl⟩

/-- The halving so far. -/
def halfTo (c : List Nat) (i : Nat) : List Nat := halveN (c.take i) ++ c.drop i
theorem halfTo_len (c : List Nat) (i : Nat) : (halfTo c i).length = c.length := by
  unfold halfTo halveN; simp; omega
theorem halfTo_at {c : List Nat} {i : Nat} (h : i < c.length) : (halfTo c i)[i]'(by rw [halfTo_len]; exact h) = c[i] := by
  unfold halfTo halveN
  rw [List.getElem_append_right (by simp; omega)]
  simp [List.length_take, Nat.min_eq_left (Nat.le_of_lt h)]
theorem halfTo_step {c : List Nat} {i : Nat} (h : i < c.length) : (halfTo c i).set i ((c[i] + 1) / 2) = halfTo c (i + 1) := by
  unfold halfTo halveN
  have hl : (List.map (fun x => (x + 1) / 2) (c.take i)).length = i := by simp; omega
  rw [List.set_append_right (h := by omega), hl, Nat.sub_self, List.drop_eq_getElem_cons h, List.set_cons_zero, List.take_succ_eq_append_getElem h, List.map_append, List.append_assoc]
  rfl
theorem halfTo_all (c : List Nat) : halfTo c c.length = halveN c := by unfold halfTo; simp
theorem set_sum {c : List Nat} {s v : Nat} (h : s < c.length) : (c.set s v).sum + c[s] = c.sum + v := by
  induction c generalizing s with
  | nil => simp at h
  | cons x c ih =>
    cases s with
    | zero => simp; omega
    | succ s => have := ih (s := s) (by simpa using h); simp at this ⊢; omega

set_option maxRecDepth 100000 in
set_option maxHeartbeats 1000000 in
theorem ref5Count_any (A : Option Addr) (n c : Nat) (cs : List Nat) (s : Nat) (w : World) (h : Has w A n c (i64s cs)) (hsn : s < n) (hs : cs.sum ≤ 100000000000) (hn : n ≤ 100000) :
    Calls Try.prog 48 #[.slice A n c, .int .i64 (s : Int)] w fun e w' => ∃ v, e = .returned v ∧ Own w' w.heap.size 3 v (i64s (countN cs s)) ∧ Below w.heap.size w w' := by
  have hl : cs.length = n := by have := h.len; rw [i64s_len] at this; exact this
  have HH := Lib.hid h
  have HL := Lib.hid hl
  have hsl : s < cs.length := by omega
  have hxs : cs[s] ≤ cs.sum := by have := sum_snoc5 hsl; have := sum_take5 cs (s + 1); omega
  have hg0 : cs.getD s 0 = cs[s] := by simp [List.getElem?_eq_getElem hsl]
  have HC : Hid (countN cs s = if 8192 < (cs.set s (cs[s] + 32)).sum then halveN (cs.set s (cs[s] + 32)) else cs.set s (cs[s] + 32)) := by show _ = _; unfold countN; rw [hg0]
  have hsum := set_sum (v := cs[s] + 32) hsl
  clear h hl hg0
  go_enter Try.func48, Try.ntmps48
  go_wp2_with (at_builtin
               refine wpList_join rfl _ _ 22 rfl elemI w.heap.size _ [] rfl (Own.nil _ _ _) _ _ _ (i64s cs) rfl HH.out (i64s_one _) (by simp; omega) (by decide) (Nat.le_refl _) ?_
               intro v1 w1 hown1 hbel1
               rw [List.nil_append] at hown1
               obtain ⟨g, cap, rfl, hgb, hgl⟩ := hown1.form (by rw [i64s_len, HL.out]; omega)
               rw [i64s_len, HL.out] at hown1
               simp only [i64s_len, HL.out]
               have HO1 := Lib.hid hown1
               have HB1 := Lib.hid hbel1
               obtain ⟨hc1, hf1⟩ := hown1.cellAt (by rw [i64s_len, HL.out]) s hsn
               rw [i64s_at hsl] at hc1
               clear hown1 hbel1)
  have HO2 : Hid (Own (w1.setCell ⟨g, s, none⟩ (.int .i64 ((cs[s] : Int) + 32))) w.heap.size 3 (.slice (some ⟨g, 0, none⟩) n cap) (i64s (cs.set s (cs[s] + 32)))) := by
    have := (HO1.out.stored (by rw [i64s_len, HL.out]) s (.int .i64 ((cs[s] + 32 : Nat) : Int))).1
    rw [i64s_set] at this
    exact this
  have HB2 : Hid (Below w.heap.size w (w1.setCell ⟨g, s, none⟩ (.int .i64 ((cs[s] : Int) + 32)))) := HB1.out.setCell hgb _
  have hl2 : (cs.set s (cs[s] + 32)).length = n := by rw [List.length_set, HL.out]
  have HL2 := Lib.hid hl2
  clear HO1 HB1 hc1 hf1 hl2 HH
  generalize w1.setCell ⟨g, s, none⟩ (.int .i64 ((cs[s] : Int) + 32)) = w2 at *
  generalize cs.set s (cs[s] + 32) = cs2 at *
  obtain ⟨A0, c0, e0, hh2⟩ := HO2.out.has
  rw [i64s_len, HL2.out] at e0 hh2
  cases e0
  refine (ref5Sum_any _ n _ cs2 n w2 hh2 (Nat.le_refl _) (by omega) (by omega)).mono ?_
  rintro e w3 ⟨rfl, rfl⟩
  rw [List.take_of_length_le (by rw [HL2.out]; exact Nat.le_refl _)]
  clear hh2
  by_cases hgt : 8192 < cs2.sum
  · have tg : decide ((8192 : Int) < (cs2.sum : Int)) = true := by simp; omega
    have HC2 : Hid (countN cs s = halveN cs2) := by show _ = _; rw [HC.out, if_pos hgt]
    clear HC hgt
    go_wp2
    go_loopg [6] n (fun gh s6 wx => ∃ i : Nat, i + gh = n ∧ s6 = .int .i64 i ∧ Hid (Own wx w.heap.size 3 (.slice (some ⟨g, 0, none⟩) n cap) (i64s (halfTo cs2 i))) ∧ Hid (Below w.heap.size w wx))
    case atStart => exact ⟨0, by omega, rfl, by show Own _ _ _ _ _; simpa [halfTo, halveN] using HO2.out, HB2⟩
    case round =>
      obtain ⟨i, hig, rfl, HO, HB⟩ := hrel
      clear HO2 HB2
      by_cases hi : i < n
      · have hil : i < cs2.length := by rw [HL2.out]; exact hi
        have ti : decide ((i : Int) < (n : Int)) = true := by simp; omega
        have hle : (i64s (halfTo cs2 i)).length = n := by rw [i64s_len, halfTo_len, HL2.out]
        obtain ⟨hc1, hf1⟩ := HO.out.cellAt hle i hi
        rw [i64s_at (by rw [halfTo_len]; exact hil), halfTo_at hil] at hc1
        have hv : ((cs2[i] : Int) + 1) / 2 = (((cs2[i] + 1) / 2 : Nat) : Int) := by omega
        have HO3 : Hid (Own (wr.setCell ⟨g, i, none⟩ (.int .i64 (((cs2[i] : Int) + 1) / 2))) w.heap.size 3 (.slice (some ⟨g, 0, none⟩) n cap) (i64s (halfTo cs2 (i + 1)))) := by
          have hst := (HO.out.stored hle i (.int .i64 (((cs2[i] + 1) / 2 : Nat) : Int))).1
          rw [i64s_set, halfTo_step hil] at hst
          show Own _ _ _ _ _
          rw [hv]; exact hst
        have HB3 := Lib.hid (HB.out.setCell (p := ⟨g, i, none⟩) hgb (.int .i64 (((cs2[i] : Int) + 1) / 2)))
        have hx := sum_take5 cs2 (i + 1)
        rw [sum_snoc5 hil] at hx
        clear HO HB hle hv
        generalize cs2[i] = x at *
        go_wp2
        go_roundg (gk - 1)
        case measure => omega
        case rel =>
          refine ⟨i + 1, by omega, by go_num, ?_, ?_⟩
          · exact HO3
          · exact HB3
      · have ti : decide ((i : Int) < (n : Int)) = false := by simp; omega
        obtain rfl : i = n := by omega
        rw [← HL2.out, halfTo_all, HL2.out] at HO
        go_wp2
        go_ret
        rw [HC2.out]
        refine ⟨_, rfl, ?_, HB.out⟩
        exact HO.out
  · have tg : decide ((8192 : Int) < (cs2.sum : Int)) = false := by simp; omega
    have HC2 : Hid (countN cs s = cs2) := by show _ = _; rw [HC.out, if_neg hgt]
    clear HC hgt
    go_wp2
    go_ret
    rw [HC2.out]
    refine ⟨_, rfl, ?_, HB2.out⟩
    exact HO2.out
end Go.Proofs.Ytfkmcjlapigapaa
