/- The landed coder: a model of each size. -/
import Derived.Test.YtfkmcjlapigapaaCoderTake
namespace Go.Proofs.Ytfkmcjlapigapaa
open Go.RowKit

theorem elemMd : Elem Try.prog 52 84 8 := by
  have h : (Try.prog.info? 84).map (fun i => (i.zero, i.size, i.bytes)) = some (some (.pointer none), 1, 8) := by kernel_rfl
  obtain ⟨i, h1, h2, h3, h4⟩ := info_parts h
  exact ⟨Try.underlying52, i, _, h1, h2, h3, h4, rfl⟩
/-- make(.., 0, n). -/
theorem wpList_room0 {k : Nat} {P : Program} {w : World} {ops : Array Oper} {rest : List Oper} {o : Oper} {a : Act} {Q : Exit → Act → World → Prop} (hgd : o.guard = Option.none) (l c : Operand) (t : TypeId)
    (hop : o.op = Op.makeSlice t l c) {e : TypeId} {bytes : Nat} (E : ElemK P t e k bytes) (base : Nat) (kl kc : IntKind) (C : Int) (n : Nat) (hl : a.eval l = .int kl 0) (hc : a.eval c = .int kc C) (hC : C = (n : Int)) (hn : n ≤ 1099511627776) (hby : bytes ≤ 64) (hbase : base ≤ w.heap.size)
    (hK : ∀ w', OwnK k w' base e (.slice (some ⟨w.heap.size, 0, Option.none⟩) 0 n) 0 [] → Below w.heap.size w w' → wpList P ops Q rest (a.put o.dst (.slice (some ⟨w.heap.size, 0, Option.none⟩) 0 n)) w') :
    wpList P ops Q (o :: rest) a w := by
  obtain ⟨i, z, hi, hz, hsize, hbytes, hzs⟩ := E.info
  have hmul : bytes * n ≤ 64 * 1099511627776 := Nat.mul_le_mul hby hn
  exact wpList_make_own w hgd l c t hop base e i z k E.under hi hz hsize kl kc C n hl hc hC (by rw [hbytes]; omega) (by unfold maxLen; omega) hbase fun w' h1 h2 => hK w' h1 ((Below.refl _ _).grown h2 (Nat.le_refl _) (fun k hk => by cases hk))
/-- Models that were made, in a row of the call's own. -/
structure MR (w : World) (v : Value) (ps : List Nat) (C : List (List Nat)) (wx : World) : Prop where
  own : Own wx w.heap.size 84 v (ptrs ps)
  ms : MS wx ps C
  new : ∀ p ∈ ps, w.heap.size ≤ p
  far : ∀ b, v.ownBlock = some b → b ∉ ps
  bel : Below w.heap.size w wx
theorem MR.next {w wx w' : World} {v : Value} {ps : List Nat} {C : List (List Nat)} (h : MR w v ps C wx) (hb : Below wx.heap.size wx w') : MR w v ps C w' := ⟨h.own.keep hb, h.ms.below hb, h.new, h.far, new_call h.bel hb⟩
theorem MS.lt {w : World} {ps : List Nat} {C : List (List Nat)} (h : MS w ps C) : ∀ p ∈ ps, p < w.heap.size := by
  intro p hp
  obtain ⟨i, hi, rfl⟩ := List.mem_iff_getElem.1 hp
  exact Blk.lt (h.blk i (by rw [← h.len]; exact hi) hi)
theorem MR.snoc {w wr wx w' : World} {v v' : Value} {ps : List Nat} {C : List (List Nat)} {p : Nat} {cs : List Nat} (h : MR w v ps C wr) (hx : Below wr.heap.size wr wx) (hp : wr.heap.size ≤ p) (hb : MB wx p (fun j => cs.getD j 0) cs.length cs.sum) (hgr : wx.grownBy w' v.ownBlock)
    (hwh : ∀ g, v'.ownBlock = some g → v.ownBlock = some g ∨ wx.heap.size ≤ g) (ho : Own w' w.heap.size 84 v' (ptrs (ps ++ [p]))) : MR w v' (ps ++ [p]) (C ++ [cs]) w' := by
  have hlt := h.ms.lt
  have hrow : ∀ b, v.ownBlock = some b → b < wr.heap.size := fun b hb => (World.ownsRow.lt h.own b hb).2
  have hch := Chg.of_grown hgr
  refine ⟨ho, ⟨by simp [h.ms.len], ?_, fun i hi hj => ?_⟩, ?_, ?_, ?_⟩
  · rw [List.nodup_append]
    refine ⟨h.ms.diff, by simp, fun a ha b hb => ?_⟩
    have := hlt a ha
    have hb := List.mem_singleton.1 hb
    omega
  · rw [List.length_append, List.length_singleton] at hi hj
    by_cases he : i < ps.length
    · rw [List.getElem_append_left he]
      simp only [List.getElem_append_left (show i < C.length by rw [← h.ms.len]; exact he)]
      exact Blk.chg ((h.ms.below hx).blk i (by rw [← h.ms.len]; exact he) he) hch fun e => h.far _ e (List.getElem_mem he)
    · obtain rfl : i = ps.length := by omega
      have hl := h.ms.len
      have e1 : (ps ++ [p])[ps.length] = p := by simp
      have e2 : (C ++ [cs])[ps.length]'(by simp; omega) = cs := by simp [hl]
      simp only [e1, e2]
      exact Blk.chg hb hch fun e => by have := hrow p e; omega
  · intro q hq
    rcases List.mem_append.1 hq with hq | hq
    · exact h.new q hq
    · have := h.bel.size
      have hq := List.mem_singleton.1 hq
      omega
  · intro b hb' hq
    rcases hwh b hb' with h1 | h1
    · rcases List.mem_append.1 hq with hq | hq
      · exact h.far b h1 hq
      · have := hrow b h1
        have hq := List.mem_singleton.1 hq
        omega
    · have hsz := hx.size
      rcases List.mem_append.1 hq with hq | hq
      · have := hlt b hq; omega
      · have hpl := Blk.lt hb
        have hq := List.mem_singleton.1 hq
        omega
  · exact (new_call h.bel hx).trans (hch.below (fun g e => OwnK.ge h.own g e) (Nat.le_trans h.bel.size hx.size))
/-- What is told of sizes. -/
def Modd (w : World) (sizes : List Int) (e : Ending) (w' : World) : Prop :=
  (okS sizes = false ∧ e = .returned (.tuple #[.slice none 0 0, .int .i64 2]) ∧ Below w.heap.size w w') ∨
  (okS sizes = true ∧ ∃ v ps, e = .returned (.tuple #[v, .int .i64 0]) ∧ MR w v ps (beginC sizes).C w')
set_option maxRecDepth 100000 in
set_option maxHeartbeats 1000000 in
theorem modelsOf_any (A : Option Addr) (n c : Nat) (sizes : List Int) (w : World) (h : Has w A n c (intVs sizes)) (hn : n ≤ 100000) : Calls Try.prog 22 #[.slice A n c] w (Modd w sizes) := by
  have HH := Lib.hid h
  have HLen : Hid (sizes.length = n) := by have := h.len; rw [intVs_len] at this; exact this
  clear h
  by_cases h16 : 16 < n
  · have t1 : decide ((16 : Int) < (n : Int)) = true := by simp; omega
    have HF : Hid (okS sizes = false) := by show _ = _; unfold okS; rw [HLen.out]; simp; omega
    go_enter Try.func22, Try.ntmps22
    go_wp2
    go_ret2
    exact Or.inl ⟨HF.out, rfl, Below.refl _ _⟩
  · have t1 : decide ((16 : Int) < (n : Int)) = false := by simp; omega
    have HB0 : Hid (Below w.heap.size w w) := Below.refl _ _
    go_enter Try.func22, Try.ntmps22
    go_wp2_with (first
      | (at_make
         refine wpList_room0 rfl _ _ 52 rfl elemMd.toK w.heap.size _ _ _ n rfl rfl rfl (by omega) (by decide) (Nat.le_refl _) ?_
         intro w1 hown1 hbel1
         have HM1 : Hid (MR w (.slice (some ⟨w.heap.size, 0, none⟩) 0 n) [] [] w1) := ⟨hown1, ⟨rfl, List.nodup_nil, fun i hi => absurd hi (by simp)⟩, fun p hp => absurd hp (by simp), fun b _ hb => absurd hb (by simp), hbel1⟩
         clear hown1 hbel1))
    go_loopg [4, 17] n (fun gh s4 s17 wx => ∃ (i : Nat) (ps : List Nat), i + gh = n ∧ s17 = .int .i64 i ∧ Hid (∀ s ∈ sizes.take i, 1 ≤ s ∧ s ≤ 256) ∧ Hid (MR w s4 ps ((sizes.take i).map fun s => List.replicate s.toNat 1) wx))
    case atStart => exact ⟨0, [], by omega, rfl, by show ∀ _, _; simp, HM1⟩
    case round =>
      obtain ⟨i, ps, hig, rfl, HG, HM⟩ := hrel
      clear HM1
      have hz := HM.out.bel.size
      by_cases hil : i < n
      · have ti : decide ((i : Int) < (n : Int)) = true := by simp; omega
        have hi2 : i < sizes.length := by rw [HLen.out]; exact hil
        obtain ⟨b, off, rfl, hlt, hc⟩ := (HH.out.kept HM.out.bel).spot (by omega)
        have hcell := hc i _ (intVs_at hi2)
        have HT : Hid (sizes.take (i + 1) = sizes.take i ++ [sizes[i]]) := List.take_succ_eq_append_getElem hi2
        have HMem : Hid (sizes[i] ∈ sizes) := List.getElem_mem hi2
        clear hc
        generalize sizes[i] = s at *
        by_cases hs : s < 1 ∨ 256 < s
        · have HF : Hid (okS sizes = false) := by
            show _ = _
            unfold okS
            exact decide_eq_false fun h => by have := h.1 s HMem.out; omega
          have HNb := Lib.hid (modelNew_bad s wr hs)
          go_wp2_with (go_at_call 38; refine HNb.out.mono ?_; rintro e w2 ⟨rfl, hb2⟩; have HB2 := Lib.hid (new_call HM.out.bel hb2); clear hb2)
          go_ret2
          exact Or.inl ⟨HF.out, rfl, HB2.out⟩
        · obtain ⟨k, rfl⟩ := Int.eq_ofNat_of_zero_le (show 0 ≤ s by omega)
          have HNw := Lib.hid (modelNew_any k wr (by omega) (by omega))
          have HG2 : Hid (∀ s ∈ sizes.take (i + 1), 1 ≤ s ∧ s ≤ 256) := fun y hy => by
            rw [HT.out] at hy
            rcases List.mem_append.1 hy with h | h
            · exact HG.out y h
            · obtain rfl := List.mem_singleton.1 h; omega
          have HRows : Hid ((sizes.take (i + 1)).map (fun s => List.replicate s.toNat 1) = (sizes.take i).map (fun s => List.replicate s.toNat 1) ++ [List.replicate k 1]) := by
            show _ = _
            rw [HT.out, List.map_append]; rfl
          have HPl : Hid (ps.length = i) := by
            have := HM.out.ms.len
            rw [List.length_map, List.length_take] at this
            show _ = _
            omega
          generalize (sizes.take i).map (fun s => List.replicate s.toNat 1) = rows at *
          clear HT HMem HG hs
          go_wp2_with (first
            | (go_at_call 38
               refine HNw.out.mono ?_
               rintro e w2 ⟨p, S, rfl, hmd, hS, hb2⟩
               have HP : Hid (wr.heap.size ≤ p) := hS p hmd.own
               have HB2 := Lib.hid hb2
               have HMd := Lib.hid hmd.blk
               clear hmd hS hb2)
            | (at_builtin
               refine wpList_joinG rfl _ _ 52 rfl elemMd w.heap.size _ _ rfl ((HM.out.next HB2.out).own.alloc _) _ 1 1 (ptrs [p]) rfl (Has.one _ _ _) (ptrs_one _) (by rw [ptrs_len, HPl.out]; omega) (by decide) (Nat.le_trans (Nat.le_trans hz HB2.out.size) (new_alloc (Below.refl _ _) _).size) ?_
               intro v7 w7 hown7 _ hgr7 hwh7
               rw [← ptrs_app] at hown7
               have HM7 := Lib.hid (HM.out.snoc (new_alloc HB2.out (.cells #[.pointer (some ⟨p, 0, none⟩)] 84)) HP.out (Blk.alloc HMd.out _) hgr7 hwh7 hown7)
               clear hown7 hgr7 hwh7))
          go_roundg (gk - 1)
          case measure => omega
          case rel => exact ⟨i + 1, ps ++ [p], by omega, by go_num, HG2, by rw [HRows.out]; exact HM7⟩
      · have ti : decide ((i : Int) < (n : Int)) = false := by simp; omega
        rw [List.take_of_length_le (by rw [HLen.out]; omega)] at HG HM
        have HT : Hid (okS sizes = true) := by show _ = _; unfold okS; exact decide_eq_true ⟨HG.out, by rw [HLen.out]; omega⟩
        go_wp2
        go_ret2
        exact Or.inr ⟨HT.out, _, ps, rfl, HM.out⟩
end Go.Proofs.Ytfkmcjlapigapaa
