import Derived.Test.YtfkmcjlapigapaaModelMath
import Derived.Deep.LoopGhost
import Derived.Deep.WholeRow
import Derived.RegionTactic
/- The landed model: an array of counts, how many symbols, the sum. -/
namespace Go.Proofs.Ytfkmcjlapigapaa
open Go.RowKit

theorem mdl_info : (Try.prog.info? 102).map (fun i => (i.zero, i.size)) = some (some (.agg (Array.replicate 258 (.int .i64 0))), 258) := by kernel_rfl
/-- The block's cells: 256 counts, how many symbols, the sum. -/
def mdlV (f : Nat → Nat) (n t : Nat) : Array Value := Array.ofFn (n := 258) fun j => .int .i64 (if j.val < 256 then (f j.val : Int) else if j.val = 256 then (n : Int) else (t : Int))
theorem mdlV_at (f : Nat → Nat) (n t : Nat) {j : Nat} (h : j < 256) : (mdlV f n t)[j]? = some (.int .i64 (f j : Int)) := by simp [mdlV, h, show j < 258 by omega]
theorem mdlV_n (f : Nat → Nat) (n t : Nat) : (mdlV f n t)[256]? = some (.int .i64 (n : Int)) := by simp [mdlV]
theorem mdlV_t (f : Nat → Nat) (n t : Nat) : (mdlV f n t)[257]? = some (.int .i64 (t : Int)) := by simp [mdlV]
theorem mdlV_set (f : Nat → Nat) (n t : Nat) {j : Nat} (v : Nat) (hj : j < 256) : (mdlV f n t).setIfInBounds j (.int .i64 (v : Int)) = mdlV (fun i => if i = j then v else f i) n t := by
  apply Array.ext (by simp [mdlV])
  intro i h1 h2
  rw [Array.getElem_setIfInBounds (by simpa using h1)]
  simp only [mdlV, Array.getElem_ofFn]
  by_cases e : i = j
  · subst e; simp [hj]
  · rw [if_neg (fun h => e h.symm), if_neg e]
theorem mdlV_setT (f : Nat → Nat) (n t v : Nat) : (mdlV f n t).setIfInBounds 257 (.int .i64 (v : Int)) = mdlV f n v := by
  apply Array.ext (by simp [mdlV])
  intro i h1 h2
  rw [Array.getElem_setIfInBounds (by simpa using h1)]
  simp only [mdlV, Array.getElem_ofFn]
  by_cases e : i = 257
  · subst e; simp
  · rw [if_neg (fun h => e h.symm)]
    have : i < 258 := by simpa [mdlV] using h2
    by_cases h : i < 256
    · simp [h]
    · simp [show i = 256 by omega]
theorem mdlV_same {f g : Nat → Nat} {n t : Nat} (h : ∀ j, j < 256 → f j = g j) : mdlV f n t = mdlV g n t := by
  apply Array.ext (by simp [mdlV])
  intro i h1 h2
  simp only [mdlV, Array.getElem_ofFn]
  by_cases e : i < 256
  · simp [e, h i e]
  · simp [e]
theorem mdlV_zero (n t : Nat) : ((Array.replicate 258 (Value.int .i64 0)).setIfInBounds 256 (.int .i64 (n : Int))).setIfInBounds 257 (.int .i64 (t : Int)) = mdlV (fun _ => 0) n t := by
  apply Array.ext (by simp [mdlV])
  intro i h1 h2
  have : i < 258 := by simpa [mdlV] using h2
  rw [Array.getElem_setIfInBounds (by simpa using h1), Array.getElem_setIfInBounds (by simpa using h1)]
  simp only [mdlV, Array.getElem_ofFn, Array.getElem_replicate]
  by_cases e : i < 256
  · rw [if_neg (by omega), if_neg (by omega)]; simp [e]
  · by_cases e2 : i = 256
    · subst e2; simp
    · obtain rfl : i = 257 := by omega
      simp
/-- A model's block. -/
def MB (w : World) (p : Nat) (f : Nat → Nat) (n t : Nat) : Prop := Blk w p 102 (mdlV f n t)
section
variable {w : World} {p : Nat} {f : Nat → Nat} {n t : Nat}
theorem MB.at_ (h : MB w p f n t) {j : Nat} (hj : j < 256) : w.cell? ⟨p, j, none⟩ = some (.int .i64 (f j : Int)) := (Blk.cell h j).trans (mdlV_at f n t hj)
theorem MB.n_ (h : MB w p f n t) : w.cell? ⟨p, 256, none⟩ = some (.int .i64 (n : Int)) := (Blk.cell h 256).trans (mdlV_n f n t)
theorem MB.t_ (h : MB w p f n t) : w.cell? ⟨p, 257, none⟩ = some (.int .i64 (t : Int)) := (Blk.cell h 257).trans (mdlV_t f n t)
theorem MB.set (h : MB w p f n t) {j : Nat} (hj : j < 256) (v : Nat) : MB (w.setCell ⟨p, j, none⟩ (.int .i64 (v : Int))) p (fun i => if i = j then v else f i) n t := by
  have := Blk.set_ h j (.int .i64 (v : Int)); rw [mdlV_set f n t v hj] at this; exact this
theorem MB.setT (h : MB w p f n t) (v : Nat) : MB (w.setCell ⟨p, 257, none⟩ (.int .i64 (v : Int))) p f n v := by
  have := Blk.set_ h 257 (.int .i64 (v : Int)); rw [mdlV_setT f n t v] at this; exact this
theorem MB.fz (h : MB w p f n t) (j : Nat) : w.frozen? ⟨p, j, none⟩ = false := Blk.frozen h j
theorem MB.drew (h : MB w p f n t) : MB w.drew p f n t := h
theorem MB.same {g : Nat → Nat} (h : MB w p f n t) (e : ∀ j, j < 256 → f j = g j) : MB w p g n t := by unfold MB; rw [← mdlV_same e]; exact h
end
theorem getD_at {cs : List Nat} {k : Nat} (h : k < cs.length) : cs.getD k 0 = cs[k] := by
  rw [List.getD_eq_getElem?_getD, List.getElem?_eq_getElem h]; rfl
/-- A model in memory. -/
structure Mdl (w : World) (p : Nat) (S : Nat → Prop) (cs : List Nat) : Prop where
  own : S p
  sit : Sit S w.heap.size
  blk : MB w p (fun j => cs.getD j 0) cs.length cs.sum
theorem Mdl.chg {w w' : World} {p : Nat} {S D : Nat → Prop} {cs : List Nat} (h : Mdl w p S cs) (hc : Chg D w w') (hd : ∀ k, S k → ¬ D k) : Mdl w' p S cs :=
  ⟨h.own, h.sit.le hc.size, Blk.chg h.blk hc (hd p h.own)⟩

theorem modelTotal_same (p : Nat) (S : Nat → Prop) (cs : List Nat) (w : World) (h : Mdl w p S cs)  : Calls Try.prog 65 #[.pointer (some ⟨p, 0, none⟩)] w fun e w' => e = .returned (.int .i64 (cs.sum : Int)) ∧ w = w' := by
  have ht := h.blk.t_
  clear h
  go_enter Try.func65, Try.ntmps65
  go_wp2
  go_ret
  exact ⟨rfl, rfl⟩
theorem modelTotal_any (p : Nat) (S : Nat → Prop) (cs : List Nat) (w : World) (h : Mdl w p S cs) (_ : Cnts cs) : Calls Try.prog 65 #[.pointer (some ⟨p, 0, none⟩)] w fun e w' => e = .returned (.int .i64 (cs.sum : Int)) ∧ Below w.heap.size w w' := (modelTotal_same p S cs w h).mono fun _ _ ⟨e, q⟩ => ⟨e, by subst q; exact Below.refl _ _⟩
theorem modelSize_same (p : Nat) (S : Nat → Prop) (cs : List Nat) (w : World) (h : Mdl w p S cs)  : Calls Try.prog 56 #[.pointer (some ⟨p, 0, none⟩)] w fun e w' => e = .returned (.int .i64 (cs.length : Int)) ∧ w = w' := by
  have ht := h.blk.n_
  clear h
  go_enter Try.func56, Try.ntmps56
  go_wp2
  go_ret
  exact ⟨rfl, rfl⟩
theorem modelSize_any (p : Nat) (S : Nat → Prop) (cs : List Nat) (w : World) (h : Mdl w p S cs) (_ : Cnts cs) : Calls Try.prog 56 #[.pointer (some ⟨p, 0, none⟩)] w fun e w' => e = .returned (.int .i64 (cs.length : Int)) ∧ Below w.heap.size w w' := (modelSize_same p S cs w h).mono fun _ _ ⟨e, q⟩ => ⟨e, by subst q; exact Below.refl _ _⟩
theorem modelTotal_nil (w : World) : Calls Try.prog 65 #[.pointer none] w fun e w' => e = .returned (.int .i64 0) ∧ Below w.heap.size w w' := by
  go_enter Try.func65, Try.ntmps65
  go_wp2
  go_ret
  exact ⟨rfl, Below.refl _ _⟩
theorem modelSize_nil (w : World) : Calls Try.prog 56 #[.pointer none] w fun e w' => e = .returned (.int .i64 0) ∧ Below w.heap.size w w' := by
  go_enter Try.func56, Try.ntmps56
  go_wp2
  go_ret
  exact ⟨rfl, Below.refl _ _⟩
theorem modelCount_nil (w : World) : Calls Try.prog 64 #[.pointer none, .slice none 0 0] w fun e w' => e = .returned (.int .i64 1) ∧ Below w.heap.size w w' := by
  go_enter Try.func64, Try.ntmps64
  go_wp2
  go_ret
  exact ⟨rfl, Below.refl _ _⟩
theorem modelNew_bad (n : Int) (w : World) (h : n < 1 ∨ 256 < n) : Calls Try.prog 38 #[.int .i64 n] w fun e w' => e = .returned (.tuple #[.pointer none, .int .i64 2]) ∧ Below w.heap.size w w' := by
  by_cases h1 : n < 1
  · have t1 : decide (n < 1) = true := by simpa using h1
    go_enter Try.func38, Try.ntmps38
    go_wp2
    go_ret2
    exact ⟨rfl, Below.refl _ _⟩
  · have t1 : decide (n < 1) = false := by simpa using h1
    have t2 : decide (256 < n) = true := by simp; omega
    go_enter Try.func38, Try.ntmps38
    go_wp2
    go_ret2
    exact ⟨rfl, Below.refl _ _⟩
theorem lacks_any (p : Nat) (f : Nat → Nat) (n t : Nat) (s : Int) (w : World) (h : MB w p f n t) : Calls Try.prog 66 #[.pointer (some ⟨p, 0, none⟩), .int .i64 s] w fun e w' => e = .returned (.bool (decide (s < 0 ∨ (n : Int) ≤ s))) ∧ w = w' := by
  have hn := h.n_
  clear h
  by_cases h1 : s < 0
  · have t1 : decide (s < 0) = true := by simpa using h1
    have HD : Hid (decide (s < 0 ∨ (n : Int) ≤ s) = true) := by show _ = _; simp [h1]
    go_enter Try.func66, Try.ntmps66
    go_wp2
    go_ret
    exact ⟨ret_bool (by rw [HD.out]), rfl⟩
  · have t1 : decide (s < 0) = false := by simpa using h1
    have HD : Hid (decide (s < 0 ∨ (n : Int) ≤ s) = decide ((n : Int) ≤ s)) := by show _ = _; simp [h1]
    go_enter Try.func66, Try.ntmps66
    go_wp2
    go_ret
    exact ⟨ret_bool (by first | rfl | rw [HD.out]), rfl⟩
/-- The first so many counts, as a slice. -/
theorem mdl_slice (p k : Nat) (h : k ≤ 256) (w : World) : (Instr.sliceAt 100 (.pointer (some ⟨p, 0, none⟩)) none (some (.int .i64 (k : Int))) none).run Try.prog w = .ok (.slice (some ⟨p, 0, none⟩) k 256) w := by
  have hal : Try.prog.arrayLen 100 = 256 := by simp [Program.arrayLen, Try.underlying100]
  have hel : Try.prog.elem 100 = 3 := by simp [Program.elem, Try.underlying100]
  rw [run_sliceAt_array_h w 100 ⟨p, 0, none⟩ (by rw [hal, hel]; exact Try.underlying100) .i64 (k : Int) (by omega) (by rw [hal]; omega), hal, hel]
  have hz : (Go.sizeOf 3).run Try.prog w = .ok 1 w := by kernel_rfl
  rw [hz]
  simp [Result.andThen, slicedAt, Addr.add]

set_option maxRecDepth 100000 in
set_option maxHeartbeats 400000 in
theorem modelShare_q (p : Nat) (S : Nat → Prop) (cs : List Nat) (s : Int) (w : World) (h : Mdl w p S cs) (hc : Cnts cs) : Calls Try.prog 63 #[.pointer (some ⟨p, 0, none⟩), .int .i64 s] w fun e w' => e = .returned (.tuple #[.int .i64 ((shareN cs s).1 : Int), .int .i64 ((shareN cs s).2.1 : Int), .int .i64 ((shareN cs s).2.2 : Int)]) ∧ ∃ m, w' = w.drewN m := by
  have HB := Lib.hid h.blk
  have HF := Lib.hid hc.few
  have HSum := Lib.hid hc.sum
  clear h hc
  have HL := Lib.hid (lacks_any p _ _ _ s w HB.out)
  by_cases hs : s < 0 ∨ (cs.length : Int) ≤ s
  · have HE : Hid (shareN cs s = (0, 0, 2)) := if_pos hs
    have HD : Hid (decide (s < 0 ∨ (cs.length : Int) ≤ s) = true) := decide_eq_true hs
    rw [HD.out] at HL
    clear hs
    go_enter Try.func63, Try.ntmps63
    go_wp2_with (go_at_call 66; refine HL.out.mono ?_; rintro e w' ⟨rfl, rfl⟩)
    go_ret3
    rw [HE.out]
    exact ⟨rfl, 0, rfl⟩
  · have HD : Hid (decide (s < 0 ∨ (cs.length : Int) ≤ s) = false) := decide_eq_false hs
    obtain ⟨k, rfl⟩ := Int.eq_ofNat_of_zero_le (show 0 ≤ s by omega)
    have hk : k < cs.length := by omega
    have HE : Hid (shareN cs (k : Int) = ((cs.take k).sum, cs[k], 0)) := share_in hk
    have HG : Hid (∀ i, i < cs.length → w.cell? ⟨p, i, none⟩ = some (.int .i64 ((cs.getD i 0 : Nat) : Int))) := fun i hi => HB.out.at_ (by have := HF.out; omega)
    rw [HD.out] at HL
    have hcell := HG.out k hk
    have HK := Lib.hid hk
    have hk2 : k < 256 := by have := HF.out; omega
    rw [getD_at hk] at hcell
    clear hs
    generalize cs[k] = ck at *
    clear hk
    have hsl := fun W => mdl_slice p k (by omega) W
    go_enter Try.func63, Try.ntmps63
    go_wp2_with (go_at_call 66; refine HL.out.mono ?_; rintro e w' ⟨rfl, rfl⟩)
    go_loopg [7, 23] k (fun g s7 s23 wx => ∃ i : Nat, i + g = k ∧ s23 = .int .i64 i ∧ s7 = .int .i64 ((cs.take i).sum : Nat) ∧ w = wx)
    case atStart => exact ⟨0, by omega, rfl, rfl, rfl⟩
    case round =>
      obtain ⟨i, hig, rfl, rfl, rfl⟩ := hrel
      by_cases hi : i < k
      · have ti : decide (i < k) = true := by simp; omega
        have hil : i < cs.length := by have := HK.out; omega
        have hcl := HG.out i hil
        rw [getD_at hil] at hcl
        have HX := Lib.hid (sum_snoc5 hil)
        have hs1 := sum_take5 cs i
        have hs2 := sum_take5 cs (i + 1)
        have hs3 := HSum.out
        rw [HX.out] at hs2
        generalize cs[i] = x at *
        generalize (cs.take i).sum = q at *
        go_wp2
        go_roundg (gk - 1)
        case measure => omega
        case rel => exact ⟨i + 1, by omega, by go_num, by rw [HX.out]; go_num, rfl⟩
      · have ti : decide (i < k) = false := by simp; omega
        obtain rfl : i = k := by omega
        go_wp2
        go_region
        go_wp2
        go_ret3
        rw [HE.out]
        exact ⟨rfl, 1, rfl⟩
theorem modelShare_any (p : Nat) (S : Nat → Prop) (cs : List Nat) (s : Int) (w : World) (h : Mdl w p S cs) (hc : Cnts cs) : Calls Try.prog 63 #[.pointer (some ⟨p, 0, none⟩), .int .i64 s] w fun e w' => e = .returned (.tuple #[.int .i64 ((shareN cs s).1 : Int), .int .i64 ((shareN cs s).2.1 : Int), .int .i64 ((shareN cs s).2.2 : Int)]) ∧ Below w.heap.size w w' := (modelShare_q p S cs s w h hc).mono fun _ _ ⟨e, m, q⟩ => ⟨e, by subst q; exact quiet_below _ _⟩
theorem findFrom_low {c : List Nat} {v : Int} (h : v < 0) : ∀ f i, findFrom c v f i = (0, 2) := by
  intro f
  induction f with
  | zero => intro i; rfl
  | succ f ih => intro i; rw [findFrom_on fun h' => by omega]; exact ih _
set_option maxRecDepth 100000 in
set_option maxHeartbeats 400000 in
theorem modelFind_same (p : Nat) (S : Nat → Prop) (cs : List Nat) (v : Int) (w : World) (h : Mdl w p S cs) (hc : Cnts cs) : Calls Try.prog 62 #[.pointer (some ⟨p, 0, none⟩), .int .i64 v] w fun e w' => e = .returned (.tuple #[.int .i64 ((findN cs v).1 : Int), .int .i64 ((findN cs v).2 : Int)]) ∧ w = w' := by
  have HB := Lib.hid h.blk
  have HF := Lib.hid hc.few
  have HSum := Lib.hid hc.sum
  have ht := h.blk.t_
  clear h hc
  by_cases h1 : v < 0
  · have t1 : decide (v < 0) = true := by simpa using h1
    have HE : Hid (findN cs v = (0, 2)) := findFrom_low h1 _ _
    go_enter Try.func62, Try.ntmps62
    go_wp2
    go_step3
    go_wp2
    rw [Exit.noGoto_ret]
    go_ret2
    rw [HE.out]
    exact ⟨rfl, rfl⟩
  · have t1 : decide (v < 0) = false := by simpa using h1
    by_cases h2 : (cs.sum : Int) ≤ v
    · have t2 : decide ((cs.sum : Int) ≤ v) = true := by simpa using h2
      have HE : Hid (findN cs v = (0, 2)) := find_none h2
      go_enter Try.func62, Try.ntmps62
      go_wp2
      go_step3
      go_wp2
      rw [Exit.noGoto_ret]
      go_ret2
      rw [HE.out]
      exact ⟨rfl, rfl⟩
    · have t2 : decide ((cs.sum : Int) ≤ v) = false := by simpa using h2
      have HV : Hid (v < (cs.sum : Int)) := by show _ < _; omega
      have HG : Hid (∀ i, i < cs.length → w.cell? ⟨p, i, none⟩ = some (.int .i64 ((cs.getD i 0 : Nat) : Int))) := fun i hi => HB.out.at_ (by have := HF.out; omega)
      obtain ⟨n, hn⟩ : ∃ n, cs.length = n := ⟨_, rfl⟩
      have HN := Lib.hid hn
      clear h2 hn
      go_enter Try.func62, Try.ntmps62
      go_wp2
      go_step3
      go_wp2
      go_step3
      go_wp2
      go_loopg [6, 7] n (fun g s6 s7 wx => ∃ i : Nat, i + g = n ∧ s6 = .int .i64 i ∧ s7 = .int .i64 ((cs.take i).sum : Nat) ∧ Hid (((cs.take i).sum : Int) ≤ v) ∧ w = wx)
      case atStart => exact ⟨0, by omega, rfl, rfl, by show _ ≤ _; simp; omega, rfl⟩
      case round =>
        obtain ⟨i, hig, rfl, rfl, HLo, rfl⟩ := hrel
        have hi : i < n := by
          rcases Nat.lt_or_ge i n with h | h
          · exact h
          · have h3 := HLo.out
            have h4 := HV.out
            rw [List.take_of_length_le (by rw [HN.out]; exact h)] at h3
            omega
        have hil : i < cs.length := by rw [HN.out]; exact hi
        have hcl := HG.out i hil
        have hi2 : i < 256 := by have := HF.out; omega
        rw [getD_at hil] at hcl
        have HX := Lib.hid (sum_snoc5 hil)
        have hs1 := sum_take5 cs i
        have hs2 := sum_take5 cs (i + 1)
        have hs3 := HSum.out
        rw [HX.out] at hs2
        have HFi := Lib.hid (fun h => find_is (c := cs) (v := v) hil HLo.out h)
        rw [HX.out] at HFi
        generalize cs[i] = x at *
        generalize (cs.take i).sum = q at *
        clear HLo
        by_cases hx : v < (q : Int) + (x : Int)
        · have tx : decide (v < (q : Int) + (x : Int)) = true := by simpa using hx
          have HE : Hid (findN cs v = (i, 0)) := HFi.out (by omega)
          clear hx
          go_wp2
          rw [Exit.noGoto_ret]
          go_ret2
          rw [HE.out]
          exact ⟨rfl, rfl⟩
        · have tx : decide (v < (q : Int) + (x : Int)) = false := by simpa using hx
          have HLo2 : Hid (((cs.take (i + 1)).sum : Int) ≤ v) := by show _ ≤ _; rw [HX.out]; omega
          clear hx
          go_wp2
          go_roundg (gk - 1)
          case measure => omega
          case rel => exact ⟨i + 1, by omega, by go_num, by rw [HX.out]; go_num, HLo2, rfl⟩
theorem modelFind_any (p : Nat) (S : Nat → Prop) (cs : List Nat) (v : Int) (w : World) (h : Mdl w p S cs) (hc : Cnts cs) : Calls Try.prog 62 #[.pointer (some ⟨p, 0, none⟩), .int .i64 v] w fun e w' => e = .returned (.tuple #[.int .i64 ((findN cs v).1 : Int), .int .i64 ((findN cs v).2 : Int)]) ∧ Below w.heap.size w w' := (modelFind_same p S cs v w h hc).mono fun _ _ ⟨e, q⟩ => ⟨e, by subst q; exact Below.refl _ _⟩
theorem getD_set5 {l : List Nat} {i : Nat} (h : i < l.length) (v j : Nat) : (if j = i then v else l.getD j 0) = (l.set i v).getD j 0 := by
  simp only [List.getD_eq_getElem?_getD, List.getElem?_set]
  by_cases e : j = i
  · subst e; simp [h]
  · rw [if_neg e, if_neg fun h => e h.symm]
theorem Chg.set1 {p : Nat} {w w' : World} (h : Chg (fun k => k = p) w w') (o : Nat) (u : Value) : Chg (fun k => k = p) w (w'.setCell ⟨p, o, none⟩ u) :=
  ⟨h.os, h.tape, h.output, by simp [World.setCell]; exact h.size, fun k hk hn => (Below.heap_setCell w' ⟨p, o, none⟩ u k hn).trans (h.block k hk hn)⟩
set_option maxRecDepth 100000 in
set_option maxHeartbeats 400000 in
theorem halve_any (p : Nat) (cs : List Nat) (t : Nat) (w : World) (h : MB w p (fun j => cs.getD j 0) cs.length t) (hf : cs.length ≤ 256) (hs : cs.sum ≤ 100000) :
    Calls Try.prog 68 #[.pointer (some ⟨p, 0, none⟩)] w fun e w' => e = .returned (.tuple #[]) ∧ MB w' p (fun j => (halveN cs).getD j 0) cs.length (halveN cs).sum ∧ Chg (fun k => k = p) w w' := by
  obtain ⟨n, hn⟩ : ∃ n, cs.length = n := ⟨_, rfl⟩
  have HN := Lib.hid hn
  have HS := Lib.hid hs
  rw [hn] at h hf
  have HM0 : Hid (MB (w.setCell ⟨p, 257, none⟩ (.int .i64 0)) p (fun j => cs.getD j 0) n 0) := h.setT 0
  have HC0 := Lib.hid ((Chg.refl (fun k => k = p) w).set1 257 (.int .i64 0))
  have c0 := h.t_
  have f0 := h.fz 257
  have d0 := HM0.out.n_
  have hsl := fun W => mdl_slice p n hf W
  rw [hn]
  clear hn h hs
  go_enter Try.func68, Try.ntmps68
  go_wp2
  generalize w.setCell ⟨p, 257, none⟩ (.int .i64 0) = w0 at *
  go_region
  go_wp2
  go_loopg [17] n (fun g s17 wx => ∃ i : Nat, i + g = n ∧ s17 = .int .i64 i ∧ Hid (MB wx p (fun j => (halfTo cs i).getD j 0) n ((halveN cs).take i).sum) ∧ Hid (Chg (fun k => k = p) w wx))
  case atStart => exact ⟨0, by omega, rfl, by show MB _ _ _ _ _; simpa [halfTo, halveN] using HM0.out.drew, HC0.out.then_ (Chg.of_below (D := fun k => k = p) (Below.refl _ _).drew) fun _ _ h => h⟩
  case round =>
    obtain ⟨i, hig, rfl, HM, HC⟩ := hrel
    clear HM0 HC0 d0 c0 f0
    by_cases hi : i < n
    · have hil : i < cs.length := by rw [HN.out]; exact hi
      have ti : decide ((i : Int) < (n : Int)) = true := by simp; omega
      have hi2 : i < 256 := by omega
      have hc1 := HM.out.at_ hi2
      have hf1 := HM.out.fz i
      rw [getD_at (by rw [halfTo_len]; exact hil), halfTo_at hil] at hc1
      have hv : ((cs[i] : Int) + 1) / 2 = (((cs[i] + 1) / 2 : Nat) : Int) := by omega
      have HM2 : Hid (MB (wr.setCell ⟨p, i, none⟩ (.int .i64 (((cs[i] : Int) + 1) / 2))) p (fun j => (halfTo cs (i + 1)).getD j 0) n ((halveN cs).take i).sum) := by
        have h2 := HM.out.set hi2 ((cs[i] + 1) / 2)
        rw [← hv] at h2
        refine MB.same h2 fun j _ => ?_
        rw [getD_set5 (by rw [halfTo_len]; exact hil), halfTo_step hil]
      have hq : (((halveN cs).take (i + 1)).sum : Int) = ((halveN cs).take i).sum + ((cs[i] : Int) + 1) / 2 := by
        rw [sum_snoc5 (by simp [halveN]; exact hil), hv]
        simp [halveN]
      have HM3 : Hid (MB ((wr.setCell ⟨p, i, none⟩ (.int .i64 (((cs[i] : Int) + 1) / 2))).setCell ⟨p, 257, none⟩ (.int .i64 ((((halveN cs).take i).sum : Int) + ((cs[i] : Int) + 1) / 2))) p (fun j => (halfTo cs (i + 1)).getD j 0) n ((halveN cs).take (i + 1)).sum) := by
        have h3 := HM2.out.setT ((halveN cs).take (i + 1)).sum
        rw [hq] at h3
        exact h3
      have HC3 := Lib.hid ((HC.out.set1 i (.int .i64 (((cs[i] : Int) + 1) / 2))).set1 257 (.int .i64 ((((halveN cs).take i).sum : Int) + ((cs[i] : Int) + 1) / 2)))
      have c2 := HM2.out.t_
      have f2 := HM2.out.fz 257
      have hx := sum_take5 cs (i + 1)
      rw [sum_snoc5 hil] at hx
      have hx3 := HS.out
      have hq2 : ((halveN cs).take i).sum ≤ 200000 := by
        have h1 := halve_sum cs
        have h2 := sum_take5 (halveN cs) i
        rw [HN.out] at h1
        omega
      clear HM HC hv hq HM2
      generalize cs[i] = x at *
      generalize ((halveN cs).take i).sum = q at *
      go_wp2
      go_roundg (gk - 1)
      case measure => omega
      case rel => exact ⟨i + 1, by omega, by go_num, HM3, HC3⟩
    · have ti : decide ((i : Int) < (n : Int)) = false := by simp; omega
      obtain rfl : i = n := by omega
      rw [← HN.out, halfTo_all, List.take_of_length_le (by simp [halveN]), HN.out] at HM
      go_wp2
      go_end0
      exact ⟨rfl, HM.out, HC.out⟩

set_option maxRecDepth 100000 in
set_option maxHeartbeats 400000 in
theorem add_any (p : Nat) (cs : List Nat) (s : Nat) (w : World) (h : MB w p (fun j => cs.getD j 0) cs.length cs.sum) (hc : Cnts cs) (hs : s < cs.length) :
    Calls Try.prog 67 #[.pointer (some ⟨p, 0, none⟩), .int .i64 (s : Int)] w fun e w' => e = .returned (.tuple #[]) ∧ MB w' p (fun j => (countN cs s).getD j 0) (countN cs s).length (countN cs s).sum ∧ Chg (fun k => k = p) w w' := by
  have hf := hc.few
  have hsum := hc.sum
  have hs2 : s < 256 := by omega
  have hset := set_sum (v := cs[s] + 32) hs
  have hxs : cs[s] ≤ cs.sum := by have := sum_snoc5 hs; have := sum_take5 cs (s + 1); omega
  have HCn : Hid (countN cs s = if 8192 < (cs.set s (cs[s] + 32)).sum then halveN (cs.set s (cs[s] + 32)) else cs.set s (cs[s] + 32)) := by show _ = _; unfold countN; rw [getD_at hs]
  have HLn : Hid ((countN cs s).length = cs.length) := countN_len cs s
  have hc1 := h.at_ hs2
  rw [getD_at hs] at hc1
  have hf1 := h.fz s
  have HM1 : Hid (MB ((w.setCell ⟨p, s, none⟩ (.int .i64 ((cs[s] : Int) + 32))).drew) p (fun j => (cs.set s (cs[s] + 32)).getD j 0) cs.length cs.sum) := by
    have h2 := MB.set h hs2 (cs[s] + 32)
    exact MB.same h2.drew fun j _ => getD_set5 hs _ _
  have HC1 := Lib.hid (((Chg.refl (fun k => k = p) w).set1 s (.int .i64 ((cs[s] : Int) + 32))).then_ (Chg.of_below (D := fun k => k = p) (Below.refl _ _).drew) fun _ _ h => h)
  have c1 := HM1.out.t_
  have f1 := HM1.out.fz 257
  have hT : ((cs.set s (cs[s] + 32)).sum : Int) = (cs.sum : Int) + 32 := by omega
  have hl2 : (cs.set s (cs[s] + 32)).length = cs.length := by simp
  have HM2 : Hid (MB (((w.setCell ⟨p, s, none⟩ (.int .i64 ((cs[s] : Int) + 32))).drew).setCell ⟨p, 257, none⟩ (.int .i64 ((cs.sum : Int) + 32))) p (fun j => (cs.set s (cs[s] + 32)).getD j 0) (cs.set s (cs[s] + 32)).length (cs.set s (cs[s] + 32)).sum) := by
    have h3 := HM1.out.setT (cs.set s (cs[s] + 32)).sum
    rw [hT, ← hl2] at h3
    exact h3
  have HC2 := Lib.hid (HC1.out.set1 257 (.int .i64 ((cs.sum : Int) + 32)))
  have d2 := HM2.out.t_
  rw [hT] at d2
  have HT := Lib.hid hT
  clear HM1 HC1 h hc hset hT
  generalize cs.set s (cs[s] + 32) = cs2 at *
  generalize cs[s] = x at *
  by_cases hg : 8192 < cs2.sum
  · have tg : decide ((8192 : Int) < (cs.sum : Int) + 32) = true := by have := HT.out; simp; omega
    have HE : Hid (countN cs s = halveN cs2) := by show _ = _; rw [HCn.out, if_pos hg]
    have HH := Lib.hid (fun W (h : MB W p (fun j => cs2.getD j 0) cs2.length cs2.sum) => halve_any p cs2 _ W h (by omega) (by have := HT.out; omega))
    rw [HLn.out, HE.out, ← hl2]
    clear hg hl2 HCn
    go_enter Try.func67, Try.ntmps67
    go_wp2
    go_region
    generalize (w.setCell ⟨p, s, none⟩ (.int .i64 ((x : Int) + 32))).drew = w1 at *
    go_wp2_with fail
    refine (HH.out _ HM2.out).mono ?_
    rintro e w3 ⟨rfl, hm3, hc3⟩
    have HM3 := Lib.hid hm3
    have HC3 := Lib.hid (HC2.out.then_ hc3 fun _ _ h => h)
    clear hm3 hc3
    go_wp2
    go_end0
    exact ⟨rfl, HM3.out, HC3.out⟩
  · have tg : decide ((8192 : Int) < (cs.sum : Int) + 32) = false := by have := HT.out; simp; omega
    have HE : Hid (countN cs s = cs2) := by show _ = _; rw [HCn.out, if_neg hg]
    rw [HE.out]
    clear hg hl2 HCn
    go_enter Try.func67, Try.ntmps67
    go_wp2
    go_region
    generalize (w.setCell ⟨p, s, none⟩ (.int .i64 ((x : Int) + 32))).drew = w1 at *
    go_wp2
    go_end0
    exact ⟨rfl, HM2.out, HC2.out⟩

set_option maxRecDepth 100000 in
set_option maxHeartbeats 400000 in
theorem index_any (p : Nat) (f : Nat → Nat) (m t : Nat) (A : Option Addr) (n c : Nat) (l : List Int) (w : World) (h : MB w p f m t) (hl : Has w A n c (intVs l)) (hn : n ≤ 100000) :
    Calls Try.prog 49 #[.slice A n c, .func (.func 66) #[.pointer (some ⟨p, 0, none⟩)] #[]] w fun e w' => ∃ r : Int, e = .returned (.int .i64 r) ∧ decide (0 ≤ r) = decide (¬ ∀ x ∈ l, 0 ≤ x ∧ x < (m : Int)) ∧ w = w' := by
  have HM := Lib.hid h
  have HH := Lib.hid hl
  have HL : Hid (l.length = n) := by have := hl.len; rw [intVs_len] at this; exact this
  clear h hl
  go_enter Try.func49, Try.ntmps49
  go_wp2
  go_loopg [8] n (fun g s8 wx => ∃ i : Nat, i + g = n ∧ s8 = .int .i64 i ∧ Hid (∀ x ∈ l.take i, 0 ≤ x ∧ x < (m : Int)) ∧ w = wx)
  case atStart => exact ⟨0, by omega, rfl, by show ∀ _, _; simp, rfl⟩
  case round =>
    obtain ⟨i, hig, rfl, HA, rfl⟩ := hrel
    by_cases hi : i < n
    · have ti : decide ((i : Int) < (n : Int)) = true := by simp; omega
      have hil : i < l.length := by rw [HL.out]; exact hi
      obtain ⟨b, off, rfl, hlt, hc⟩ := HH.out.spot (by omega)
      have hcell := hc i _ (intVs_at hil)
      have HLk := Lib.hid (lacks_any p f m t l[i] w HM.out)
      have HT : Hid (l.take (i + 1) = l.take i ++ [l[i]]) := List.take_succ_eq_append_getElem hil
      have HMem : Hid (l[i] ∈ l) := List.getElem_mem hil
      clear hc
      generalize l[i] = x at *
      by_cases hx : x < 0 ∨ (m : Int) ≤ x
      · have HD : Hid (decide (¬ ∀ x ∈ l, 0 ≤ x ∧ x < (m : Int)) = true) := decide_eq_true fun h => by have := h x HMem.out; omega
        rw [decide_eq_true hx] at HLk
        clear hx
        go_wp2_with (go_at_call 66; refine HLk.out.mono ?_; rintro e w' ⟨rfl, rfl⟩)
        go_ret
        exact ⟨i, rfl, by rw [HD.out]; simp, rfl⟩
      · have HA2 : Hid (∀ y ∈ l.take (i + 1), 0 ≤ y ∧ y < (m : Int)) := fun y hy => by
          rw [HT.out] at hy
          rcases List.mem_append.1 hy with h | h
          · exact HA.out y h
          · obtain rfl := List.mem_singleton.1 h; omega
        rw [decide_eq_false hx] at HLk
        clear hx
        go_wp2_with (go_at_call 66; refine HLk.out.mono ?_; rintro e w' ⟨rfl, rfl⟩)
        go_roundg (gk - 1)
        case measure => omega
        case rel => exact ⟨i + 1, by omega, by go_num, HA2, rfl⟩
    · have ti : decide ((i : Int) < (n : Int)) = false := by simp; omega
      rw [List.take_of_length_le (by rw [HL.out]; omega)] at HA
      have HD : Hid (decide (¬ ∀ x ∈ l, 0 ≤ x ∧ x < (m : Int)) = false) := decide_eq_false fun h => h HA.out
      go_wp2
      go_ret
      exact ⟨-1, rfl, by rw [HD.out]; rfl, rfl⟩
theorem contains_any (p : Nat) (f : Nat → Nat) (m t : Nat) (A : Option Addr) (n c : Nat) (l : List Int) (w : World) (h : MB w p f m t) (hl : Has w A n c (intVs l)) (hn : n ≤ 100000) :
    Calls Try.prog 31 #[.slice A n c, .func (.func 66) #[.pointer (some ⟨p, 0, none⟩)] #[]] w fun e w' => e = .returned (.bool (decide (¬ ∀ x ∈ l, 0 ≤ x ∧ x < (m : Int)))) ∧ w = w' := by
  have HI := Lib.hid (index_any p f m t A n c l w h hl hn)
  clear h hl
  go_enter Try.func31, Try.ntmps31
  go_wp2_with (go_at_call 49; refine HI.out.mono ?_; rintro e w' ⟨r, rfl, hr, rfl⟩; have HR := Lib.hid hr; clear hr)
  go_ret
  exact ⟨ret_bool HR.out, rfl⟩

set_option maxRecDepth 100000 in
set_option maxHeartbeats 400000 in
theorem modelCount_any (p : Nat) (S : Nat → Prop) (cs : List Nat) (A : Option Addr) (n c : Nat) (l : List Int) (w : World) (h : Mdl w p S cs) (hc : Cnts cs) (hl : Rob S w fun W => Has W A n c (intVs l)) (hn : n ≤ 100000) :
    Calls Try.prog 64 #[.pointer (some ⟨p, 0, none⟩), .slice A n c] w fun e w' => ∃ S', e = .returned (.int .i64 ((countAll cs l).2 : Int)) ∧ Mdl w' p S' (countAll cs l).1 ∧ Chg S w w' ∧ ∀ k, S' k → S k ∨ w.heap.size ≤ k := by
  have hmf : ∀ (fn : Fn) (first cap : Array Value) (w : World), (Instr.makeFunc fn first cap).run Try.prog w = .ok (.func fn first cap) w := fun _ _ _ _ => rfl
  have HM := Lib.hid h
  have HC := Lib.hid hc
  have HR := Lib.hid hl
  have HL : Hid (l.length = n) := by have := hl.here.len; rw [intVs_len] at this; exact this
  have HK := Lib.hid (contains_any p _ _ _ A n c l w h.blk hl.here hn)
  clear h hc hl
  by_cases hg : ∀ x ∈ l, 0 ≤ x ∧ x < (cs.length : Int)
  · have HE := Lib.hid (countAll_ok hg)
    rw [decide_eq_false (fun h => h hg)] at HK
    have HG := Lib.hid hg
    rw [HE.out]
    clear hg HE
    go_enter Try.func64, Try.ntmps64
    go_wp2_with (go_at_call 31; refine HK.out.mono ?_; rintro e w' ⟨rfl, rfl⟩)
    go_loopg [17] n (fun g s17 wx => ∃ i : Nat, i + g = n ∧ s17 = .int .i64 i ∧ Hid (MB wx p (fun j => (((l.take i).map Int.toNat).foldl countN cs).getD j 0) (((l.take i).map Int.toNat).foldl countN cs).length (((l.take i).map Int.toNat).foldl countN cs).sum) ∧ Hid (Cnts (((l.take i).map Int.toNat).foldl countN cs)) ∧ Hid (Chg (fun k => k = p) w wx))
    case atStart => exact ⟨0, by omega, rfl, HM.out.blk, HC.out, Chg.refl _ _⟩
    case round =>
      obtain ⟨i, hig, rfl, HB, HCn, HCh⟩ := hrel
      by_cases hi : i < n
      · have ti : decide ((i : Int) < (n : Int)) = true := by simp; omega
        have hil : i < l.length := by rw [HL.out]; exact hi
        have hrow := (Rob.chg (G' := fun _ => False) Has.stays HR.out (HCh.out.wide (D' := S) fun k _ e => by rw [e]; exact HM.out.own) fun _ _ h => h.elim).here
        obtain ⟨b, off, rfl, hlt, hc⟩ := hrow.spot (by omega)
        have hcell := hc i _ (intVs_at hil)
        obtain ⟨k, hk⟩ := Int.eq_ofNat_of_zero_le (HG.out _ (List.getElem_mem hil)).1
        have hk2 : (k : Int) < (cs.length : Int) := by rw [← hk]; exact (HG.out _ (List.getElem_mem hil)).2
        have HT : Hid ((((l.take (i + 1)).map Int.toNat).foldl countN cs) = countN (((l.take i).map Int.toNat).foldl countN cs) k) := by
          show _ = _
          rw [List.take_succ_eq_append_getElem hil, List.map_append, List.foldl_append, hk]; rfl
        have hlen := fold_len5 ((l.take i).map Int.toNat) cs
        rw [hk] at hcell
        clear hc hk hrow
        have HAd := Lib.hid (add_any p _ k wr HB.out HCn.out (by rw [hlen]; omega))
        have HC2 := Lib.hid (HCn.out.count (s := k) (by rw [hlen]; omega))
        clear HB HCn hlen
        go_wp2_with (go_at_call 67
                     refine HAd.out.mono ?_
                     rintro e w' ⟨rfl, hm2, hc2⟩
                     rw [← HT.out] at hm2
                     have HB2 := Lib.hid hm2
                     have HCh2 := Lib.hid (HCh.out.then_ hc2 fun _ _ h => h)
                     clear hm2 hc2)
        rw [← HT.out] at HC2
        go_roundg (gk - 1)
        case measure => omega
        case rel => exact ⟨i + 1, by omega, by go_num, HB2, HC2, HCh2⟩
      · have ti : decide ((i : Int) < (n : Int)) = false := by simp; omega
        rw [List.take_of_length_le (by rw [HL.out]; omega)] at HB
        go_wp2
        go_ret
        exact ⟨S, rfl, ⟨HM.out.own, HM.out.sit.le HCh.out.size, HB.out⟩, HCh.out.wide (fun k _ e => by rw [e]; exact HM.out.own), fun k hk => Or.inl hk⟩
  · have HE : Hid (countAll cs l = (cs, 2)) := if_neg hg
    rw [decide_eq_true hg] at HK
    rw [HE.out]
    clear hg HE
    go_enter Try.func64, Try.ntmps64
    go_wp2_with (go_at_call 31; refine HK.out.mono ?_; rintro e w' ⟨rfl, rfl⟩)
    go_ret
    exact ⟨S, rfl, HM.out, Chg.refl _ _, fun k hk => Or.inl hk⟩

set_option maxRecDepth 100000 in
set_option maxHeartbeats 400000 in
theorem modelNew_any (n : Nat) (w : World) (h : 1 ≤ n) (h2 : n ≤ 256) : Calls Try.prog 38 #[.int .i64 (n : Int)] w fun e w' => ∃ p S, e = .returned (.tuple #[.pointer (some ⟨p, 0, none⟩), .int .i64 0]) ∧ Mdl w' p S (List.replicate n 1) ∧ (∀ k, S k → w.heap.size ≤ k) ∧ Below w.heap.size w w' := by
  obtain ⟨kz, ks⟩ := zero_of_info mdl_info
  have HS := Lib.hid ks
  clear ks
  have t1 : decide ((n : Int) < 1) = false := by simp; omega
  have t2 : decide ((256 : Int) < (n : Int)) = false := by simp; omega
  go_enter Try.func38, Try.ntmps38
  go_wp2
  rw [mdlV_zero n n]
  go_loopg [18] n (fun g s18 wx => ∃ i : Nat, i + g = n ∧ s18 = .int .i64 i ∧ Hid (MB wx w.heap.size (fun j => if j < i then 1 else 0) n n) ∧ Hid (Below w.heap.size w wx))
  case atStart => exact ⟨0, by omega, rfl, MB.same (show MB _ _ (fun _ => 0) n n from Blk.new w _ _) (fun j _ => by rw [if_neg (by omega)]), new_alloc (Below.refl _ _) _⟩
  case round =>
    obtain ⟨i, hig, rfl, HB, HBe⟩ := hrel
    clear kz
    by_cases hi : i < n
    · have ti : decide ((i : Int) < (n : Int)) = true := by simp; omega
      have hi2 : i < 256 := by omega
      have hc := HB.out.at_ hi2
      have hf := HB.out.fz i
      have HB2 : Hid (MB (wr.setCell ⟨w.heap.size, i, none⟩ (.int .i64 1)) w.heap.size (fun j => if j < i + 1 then 1 else 0) n n) := by
        refine MB.same (HB.out.set hi2 1) fun j _ => ?_
        by_cases e : j = i
        · subst e; simp
        · rw [if_neg e]
          by_cases h : j < i
          · rw [if_pos h, if_pos (by omega)]
          · rw [if_neg h, if_neg (by omega)]
      have HBe2 := Lib.hid (HBe.out.setCell (p := ⟨w.heap.size, i, none⟩) (Nat.le_refl _) (.int .i64 1))
      go_wp2
      go_roundg (gk - 1)
      case measure => omega
      case rel => exact ⟨i + 1, by omega, by go_num, HB2, HBe2⟩
    · have ti : decide ((i : Int) < (n : Int)) = false := by simp; omega
      obtain rfl : i = n := by omega
      have HB3 : Hid (MB wr w.heap.size (fun j => (List.replicate i 1).getD j 0) (List.replicate i 1).length (List.replicate i 1).sum) := by
        show MB _ _ _ _ _
        rw [List.length_replicate, show (List.replicate i 1).sum = i by simp]
        refine MB.same HB.out fun j _ => ?_
        simp only [List.getD_eq_getElem?_getD, List.getElem?_replicate]
        by_cases h : j < i
        · simp [h]
        · simp [h]
      go_wp2
      go_ret2
      exact ⟨w.heap.size, fun k => k = w.heap.size, rfl, ⟨rfl, fun k e => by rw [e]; exact Blk.lt HB3.out, HB3.out⟩, fun k e => by rw [e]; exact Nat.le_refl _, HBe.out⟩
end Go.Proofs.Ytfkmcjlapigapaa
