/- crc.remainders: the table of bytes' remainders. -/
import Derived.Test.YtbmdgoljjffjdaaCrcStep
import Derived.Deep.LoopGhost
import Derived.Deep.WholeRow
import Derived.Deep.MidRow
import Derived.RegionTactic
import Derived.Laws.ResultCell
import Derived.Outline
namespace Go.Proofs.Ytbmdgoljjffjdaa
open Go.RowKit

theorem tab_info : (Try.prog.info? 82).map (fun i => (i.zero, i.size)) = some (some (.agg (Array.replicate 256 (.int .u32 0))), 256) := by kernel_rfl

/-- A block that is known whole. -/
def Blk (w : World) (g : Nat) (t : TypeId) (cs : Array Value) : Prop := w.heap[g]? = some (.cells cs t (0, 0))
section
variable {w w' : World} {g : Nat} {t : TypeId} {cs : Array Value}
theorem Blk.lt (h : Blk w g t cs) : g < w.heap.size := by
  rcases Nat.lt_or_ge g w.heap.size with hlt | hge
  · exact hlt
  · unfold Blk at h; rw [Array.getElem?_eq_none hge] at h; cases h
theorem Blk.cell (h : Blk w g t cs) (i : Nat) : w.cell? ⟨g, i, none⟩ = cs[i]? := cell_of_row w g i cs t (0, 0) h
theorem Blk.frozen (h : Blk w g t cs) (i : Nat) : w.frozen? ⟨g, i, none⟩ = false := by
  unfold Blk at h
  simp [World.frozen?, h]
theorem Blk.new (w : World) (t : TypeId) (cs : Array Value) : Blk (w.alloc (.cells cs t)) w.heap.size t cs := heap_alloc_new w _
theorem Blk.alloc (h : Blk w g t cs) (o : Obj) : Blk (w.alloc o) g t cs := (Below.heap_alloc w o g h.lt).trans h
theorem Blk.set_ (h : Blk w g t cs) (i : Nat) (u : Value) : Blk (w.setCell ⟨g, i, none⟩ u) g t (cs.setIfInBounds i u) := by
  unfold Blk at h ⊢
  simp [World.setCell, Array.getElem?_modify, h]
theorem Blk.far (h : Blk w g t cs) {p : Addr} (hp : g ≠ p.block) (u : Value) : Blk (w.setCell p u) g t cs := (Below.heap_setCell w p u g hp).trans h
theorem Blk.below {B : Nat} (h : Blk w g t cs) (hb : Below B w w') (hg : g < B) : Blk w' g t cs := (hb.block g hg).trans h
end

/-- A whole row of a new block. -/
theorem below_row {B g : Nat} {w w1 : World} (h : Below B w w1) (hg : B ≤ g) (cs : Array Value) : Below B w (w1.setRow g cs) :=
  ⟨h.os, h.tape, h.output, by rw [setRow_size]; exact h.size, fun k hk => (setRow_other w1 g k cs (by omega)).trans (h.block k hk)⟩

theorem results_cell {fn : Func} {p : Tmp} {ty : TypeId} (h : fn.results = #[.cell p ty]) {tmps : Array Value} {P : Program} {w : World} {a : Addr} {v : Value} (hp : tmps.getD p undef = .pointer (some a))
    (hl : (loadVar ty a).run P w = .ok v w) : (results fn tmps).run P w = .ok v w := by
  have hp' : tmps[p]?.getD undef = .pointer (some a) := by rw [← hp]; simp
  simp only [results, h]
  simp [hp', asAddr, hl]

/-- A table of 256 words. -/
def tabV (f : Nat → Nat) : Array Value := Array.ofFn (n := 256) fun j => .int .u32 (f j.val : Int)
theorem tabV_size (f : Nat → Nat) : (tabV f).size = 256 := by simp [tabV]
theorem tabV_at (f : Nat → Nat) {j : Nat} (h : j < 256) : (tabV f)[j]? = some (.int .u32 (f j : Int)) := by simp [tabV, h]
theorem tabV_set (f : Nat → Nat) (j v : Nat) : (tabV f).setIfInBounds j (.int .u32 (v : Int)) = tabV fun i => if i = j then v else f i := by
  apply Array.ext (by simp [tabV])
  intro i h1 h2
  rw [Array.getElem_setIfInBounds (by simpa using h1)]
  simp only [tabV, Array.getElem_ofFn]
  by_cases e : i = j
  · subst e; simp
  · rw [if_neg (fun h => e h.symm), if_neg e]
theorem tabV_zero : Array.replicate 256 (Value.int .u32 0) = tabV fun _ => 0 := by
  apply Array.ext (by simp [tabV])
  intro i h1 h2
  simp [tabV]
theorem tabV_one (f : Nat → Nat) : (tabV f).all (·.oneCell') = true := by
  rw [Array.all_eq_true]
  intro i h
  simp [tabV, Value.oneCell']

/-- While the table is made: it lies in the second new block, the result's place in the first. -/
structure Tabs (w wx : World) (f : Nat → Nat) : Prop where
  res : Blk wx w.heap.size 82 (tabV fun _ => 0)
  tab : Blk wx (w.heap.size + 1) 82 (tabV f)
  bel : Below w.heap.size w wx
theorem Tabs.set {w wx : World} {f : Nat → Nat} (h : Tabs w wx f) (j v : Nat) : Tabs w (wx.setCell ⟨w.heap.size + 1, j, none⟩ (.int .u32 (v : Int))) (fun i => if i = j then v else f i) :=
  ⟨h.res.far (by simp) _, by have := h.tab.set_ j (.int .u32 (v : Int)); rw [tabV_set] at this; exact this, h.bel.setCell (by simp) _⟩
theorem Tabs.drew {w wx : World} {f : Nat → Nat} (h : Tabs w wx f) : Tabs w wx.drew f := ⟨h.res, h.tab, ⟨h.bel.os, h.bel.tape, h.bel.output, h.bel.size, h.bel.block⟩⟩
theorem Tabs.at_ {w wx : World} {f : Nat → Nat} (h : Tabs w wx f) {j : Nat} (hj : j < 256) : wx.cell? ⟨w.heap.size + 1, j, none⟩ = some (.int .u32 (f j : Int)) ∧ wx.frozen? ⟨w.heap.size + 1, j, none⟩ = false :=
  ⟨by rw [h.tab.cell, tabV_at f hj], h.tab.frozen j⟩

def bitsT : Nat → Nat → Nat
  | 0 => fun _ => 0
  | i + 1 => fun j => if j = 2 ^ (7 - i) then crcN (i + 1) 1 else bitsT i j
def lowOff (c : Nat) : Nat := c &&& (c - 1)
def lowBit (c : Nat) : Nat := c &&& (256 - c)
def tabAt (c j : Nat) : Nat := if j < c then crcN 8 j else bitsT 8 j
theorem tab_facts : ∀ c : Nat, c < 256 → bits .and .i64 (c : Int) ((c : Int) - 1) = (lowOff c : Int) ∧ bits .and .i64 (c : Int) (-(c : Int)) = (lowBit c : Int) ∧ lowOff c < 256 ∧ lowBit c < 256 ∧
    tabAt c (lowOff c) ^^^ tabAt c (lowBit c) = crcN 8 c ∧ tabAt c (lowOff c) < 4294967296 ∧ tabAt c (lowBit c) < 4294967296 := by decide +kernel

set_option maxRecDepth 100000 in
set_option maxHeartbeats 400000 in
theorem remainders_any (w : World) : Calls Try.prog 45 #[] w fun e w' => e = .returned (.agg (tabV (crcN 8))) ∧ Below w.heap.size w w' := by
  obtain ⟨kz, ks⟩ := zero_of_info tab_info
  have HS := Lib.hid ks
  clear ks
  go_enter Try.func45, Try.ntmps45
  go_wp2
  go_loopg [2, 5] 8 (fun g s2 s5 wx => ∃ i : Nat, i + g = 8 ∧ s5 = .int .i64 i ∧ s2 = .int .u32 (crcN i 1) ∧ Hid (Tabs w wx (bitsT i)))
  case atStart =>
    refine ⟨0, by omega, rfl, rfl, ?_⟩
    rw [tabV_zero]
    refine ⟨(Blk.new _ _ _).alloc _, ?_, new_alloc (new_alloc (Below.refl _ _) _) _⟩
    have := Blk.new (w.alloc (.cells (tabV fun _ => 0) 82)) 82 (tabV fun _ => 0)
    rw [show (w.alloc (.cells (tabV fun _ => 0) 82)).heap.size = w.heap.size + 1 by simp] at this
    exact this
  case round =>
    obtain ⟨i, hig, rfl, rfl, HT⟩ := hrel
    have hc1 : crcN i 1 < 4294967296 := crcN_lt i (by decide)
    by_cases hi : i < 8
    · have HN : Hid (crc1 (crcN i 1) = crcN (i + 1) 1) := by
        show _ = _
        have := crcN_add i 1 1
        rw [this]; rfl
      obtain ⟨p, hp⟩ : ∃ p, 2 ^ (7 - i) = p := ⟨_, rfl⟩
      have hp8 : p < 256 := by rw [← hp]; exact Nat.lt_of_le_of_lt (Nat.pow_le_pow_right (n := 2) (by decide) (show 7 - i ≤ 7 by omega)) (by decide)
      have hpw : wrap64 ((2 : Int) ^ (7 - i)) = (p : Int) := by
        rw [show ((2 : Int) ^ (7 - i)) = (p : Int) by rw [← hp]; simp]
        unfold wrap64; omega
      obtain ⟨hcell, hfro⟩ := HT.out.at_ hp8
      have HT2 := Lib.hid (HT.out.set p (crcN (i + 1) 1))
      have HP := Lib.hid hp
      clear kz hp
      have R : Hid (Tabs w (wr.setCell ⟨w.heap.size + 1, p, none⟩ (.int .u32 (crc1 (crcN i 1) : Int))) (bitsT (i + 1))) := by
        rw [HN.out]
        have e : bitsT (i + 1) = fun j => if j = p then crcN (i + 1) 1 else bitsT i j := by
          rw [← HP.out]; rfl
        rw [e]; exact HT2
      go_wp2_with (go_at_call 46; refine (step_any _ _ hc1).mono ?_; rintro e w' ⟨rfl, rfl⟩)
      go_roundg (gk - 1)
      case measure => omega
      case rel => exact ⟨i + 1, by omega, by go_num, by rw [HN.out], R⟩
    · obtain rfl : i = 8 := by omega
      clear kz
      go_wp2
      go_loopg [16] 256 (fun g s16 wx => ∃ (c : Nat) (f : Nat → Nat), c + g = 256 ∧ s16 = .int .i64 c ∧ Hid (Tabs w wx f) ∧ Hid (∀ j, j < 256 → f j = tabAt c j))
      case atStart => exact ⟨0, _, by omega, rfl, HT, fun j _ => by simp [tabAt]⟩
      case round =>
        obtain ⟨c, f, hcg, rfl, HT2, HF⟩ := hrel
        by_cases hc : c < 256
        · obtain ⟨fa, fb, ha, hb, hx, h1, h2⟩ := tab_facts c hc
          obtain ⟨c1, f1⟩ := HT2.out.at_ ha
          obtain ⟨c2, f2⟩ := HT2.out.at_ hb
          obtain ⟨c3, f3⟩ := HT2.out.at_ hc
          rw [HF.out _ ha] at c1
          rw [HF.out _ hb] at c2
          have hxr := u32_xor_nat _ _ h1 h2
          rw [hx] at hxr
          have HT3 := Lib.hid (HT2.out.set c (crcN 8 c))
          have HF3 : Hid (∀ j, j < 256 → (if j = c then crcN 8 c else f j) = tabAt (c + 1) j) := by
            intro j hj
            by_cases e : j = c
            · subst e; rw [if_pos rfl]; unfold tabAt; rw [if_pos (by omega)]
            · rw [if_neg e, HF.out j hj]; unfold tabAt
              by_cases hjc : j < c
              · rw [if_pos hjc, if_pos (by omega)]
              · rw [if_neg hjc, if_neg (by omega)]
          generalize lowOff c = a at *
          generalize lowBit c = b at *
          generalize tabAt c a = ta at *
          generalize tabAt c b = tb at *
          clear hx f1 f2
          go_wp2
          go_region
          go_wp2
          go_roundg (gk - 1)
          case measure => omega
          case rel => exact ⟨c + 1, _, by omega, by go_num, HT3.out.drew, HF3⟩
        · obtain rfl : c = 256 := by omega
          have ef : tabV f = tabV (crcN 8) := by
            unfold tabV
            congr 1
            funext j
            rw [HF.out _ j.isLt]; unfold tabAt; rw [if_pos j.isLt]
          have HB1 := HT2.out.tab
          rw [ef] at HB1
          have HB2 := HT2.out.res
          have HBel := Lib.hid HT2.out.bel
          have hsz : (tabV (crcN 8)).size = 256 := tabV_size _
          have hone := tabV_one (crcN 8)
          have HSZ := Lib.hid hsz
          have HB1' := Lib.hid HB1
          have HB2' := Lib.hid HB2
          clear hsz
          obtain ⟨T, hT⟩ : ∃ T, tabV (crcN 8) = T := ⟨_, rfl⟩
          rw [hT] at hone HSZ HB1'
          have HTT := Lib.hid hT
          clear hT
          clear ef HF HT2 HT HB1 HB2
          go_wp2
          refine wp_load_mid _ _ rfl (w.heap.size + 1) 0 rfl T.toList _ (fun j v hv => by rw [Nat.zero_add, HB1'.out.cell j]; simpa using hv) Try.underlying82 rfl (by rw [Array.length_toList, HSZ.out]; exact HS.out) ?_
          go_wp2_with (refine wpList_store_row rfl _ _ _ rfl w.heap.size T rfl rfl _ _ HB2'.out (by rw [HSZ.out]; exact HS.out) (by rw [HSZ.out, tabV_size]) hone ?_)
          have hrow : (wr.setRow w.heap.size T).heap[w.heap.size]? = some (.cells T 82 (0, 0)) := by
            have := HB2'.out
            unfold Blk at this
            simp [World.setRow, Array.getElem?_modify, this]
          have hld := run_loadVar_row (P := Try.prog) _ _ _ _ _ _ _ hrow Try.underlying82 rfl (by rw [HSZ.out]; exact HS.out)
          refine bodyPost_ret (v := .agg T) ?_ rfl ⟨by rw [HTT.out], below_row HBel.out (Nat.le_refl _) T⟩
          exact results_cell Try.results45 rfl hld
end Go.Proofs.Ytbmdgoljjffjdaa
