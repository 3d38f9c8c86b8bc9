/- Of any rows of bytes CrcParts answers true: in whichever parts bytes come, they have one checksum; how many they are is told; a nil Sum takes nothing. Conditions: none. -/
import Derived.Test.YtlmecbclnhkmbaaKnown02
import Derived.Test.YtlmecbclnhkmbaaLawParts
namespace Go.Proofs.Ytlmecbclnhkmbaa.crcParts
open Go.ChangeShapes Go.WideShapes Go.ChangeAt Go.RowKit

/-- At the loop's head: what was added so far, and the Sum of it. -/
structure Adds (w : World) (v : Value) (bs : List Nat) (wx : World) : Prop where
  own : Own wx (w.heap.size + 1) 5 v (u8s bs)
  sum : SumAt wx w.heap.size (crcOf bs) bs.length
  bel : Below w.heap.size w wx
  size : w.heap.size + 1 ≤ wx.heap.size
theorem own_grown {w w' : World} {base g : Nat} {e : TypeId} {v : Value} {xs : List Value} (h : Own w base e v xs) (hg : w.grownBy w' (some g)) (hb : g < base) : Own w' base e v xs :=
  World.ownsRow.kept (row := some g) h hg (by
    rcases h.2 with ⟨rfl, _⟩ | ⟨g', cap, cur, rfl, hg', _⟩
    · left; simp [Value.ownBlock]
    · right; simp [Value.ownBlock]; omega)
theorem below_grown1 {w w1 w' : World} {g : Nat} (h : Below w.heap.size w w1) (hg : w1.grownBy w' (some g)) (hb : w.heap.size ≤ g) : Below w.heap.size w w' :=
  h.trans ⟨hg.os, hg.tape, hg.output, hg.size, fun k hk => hg.block k (Nat.lt_of_lt_of_le hk h.size) (by simp; omega)⟩
theorem flat_byte {ls : List (List Nat)} (h : ∀ l ∈ ls, ∀ x ∈ l, x < 256) (k : Nat) : ∀ x ∈ (ls.take k).flatten, x < 256 := fun x hx => by
  obtain ⟨l, hl, hx⟩ := List.mem_flatten.1 hx
  exact h l (List.mem_of_mem_take hl) x hx

theorem parts_at {w : World} {A : Option Addr} {n c : Nat} {ls : List (List Nat)} (h : Parts w A n c ls) {i : Nat} (hi : i < ls.length) :
    ∃ b off A' n' c', A = some ⟨b, off, none⟩ ∧ ls[i].length = n' ∧ ∀ W, Below w.heap.size w W → W.cell? ⟨b, off + i, none⟩ = some (.slice A' n' c') ∧ Has W A' n' c' (u8s ls[i]) := by
  obtain ⟨b, off, A', n', c', hA, hc, hh⟩ := h.at_ hi
  have hl := hh.len
  rw [u8s_len] at hl
  exact ⟨b, off, A', n', c', hA, hl, fun W hW => ⟨(hW.cell (p := ⟨b, off + i, none⟩) (World.block_lt_of_cell? w ⟨b, off + i, none⟩ hc)).trans hc, hh.kept hW⟩⟩

set_option maxRecDepth 100000 in
set_option maxHeartbeats 1000000 in
theorem walk (A : Option Addr) (n c : Nat) (ls : List (List Nat)) (w : World) (hp : Parts w A n c ls) (hb : ∀ l ∈ ls, ∀ x ∈ l, x < 256) (hn : n ≤ 140737488355328) (hm : ∀ l ∈ ls, l.length ≤ 140737488355328) :
    Calls Try.prog 5 #[.slice A n c] w fun e w' => e = .returned (.bool true) ∧ Below w.heap.size w w' := by
  have HP := Lib.hid hp
  have HL := Lib.hid hp.len
  have HB := Lib.hid hb
  have HM := Lib.hid hm
  clear hp hb hm
  go_enter Try.func5, Try.ntmps5
  go_wp2_with (go_at_call 16; refine (new_any _).mono ?_; rintro e w1 ⟨rfl, hs1, hb1, hz1⟩; have HS1 := Lib.hid hs1; have HB1 := Lib.hid hb1; have HZ1 := Lib.hid hz1; clear hs1 hb1 hz1)
  go_loopg [3, 5] n (fun g s3 s5 wx => ∃ i : Nat, i + g = n ∧ s5 = .int .i64 i ∧ (ls.take i).flatten.length ≤ 3000 ∧ Hid (Adds w s3 (ls.take i).flatten wx))
  case atStart =>
    refine ⟨0, by omega, rfl, by simp, Own.nil _ _ _, ?_, HB1.out, by rw [HZ1.out]; exact Nat.le_refl _⟩
    have e : crcOf ([] : List Nat) = 0 := by show (4294967295 ^^^ 4294967295 : Nat) = 0; exact Nat.xor_self _
    show SumAt w1 w.heap.size (crcOf []) 0
    rw [e]; exact HS1.out
  case round =>
    obtain ⟨i, hig, rfl, h3, HA⟩ := hrel
    clear HS1 HB1 HZ1
    obtain ⟨A1, c1, rfl, hh1⟩ := HA.out.own.has
    rw [u8s_len] at *
    by_cases hi : i < n
    · have hil : i < ls.length := by rw [HL.out]; exact hi
      have ti : decide ((i : Int) < (n : Int)) = true := by simp; omega
      obtain ⟨b, off, A', n', c', rfl, hl, hrow⟩ := parts_at HP.out hil
      have hl' := HM.out _ (List.getElem_mem hil)
      have HX : Hid ((ls.take (i + 1)).flatten = (ls.take i).flatten ++ ls[i]) := flat_snoc hil
      have HLB : Hid (∀ x ∈ ls[i], x < 256) := HB.out _ (List.getElem_mem hil)
      have HFB := Lib.hid (flat_byte HB.out i)
      have HFB2 := Lib.hid (flat_byte HB.out (i + 1))
      rw [HX.out] at HFB2
      have HR := Lib.hid hrow
      have HLn := Lib.hid hl
      rw [hl] at hl'
      clear hl hrow hh1
      generalize (ls.take i).flatten = bs at *
      generalize ls[i] = l at *
      clear hil
      obtain ⟨hcell, hhas⟩ := HR.out _ HA.out.bel
      have HHs := Lib.hid hhas
      clear hhas
      by_cases hbig : 3000 < bs.length + n'
      · have tb : decide ((3000 : Int) < (bs.length : Int) + (n' : Int)) = true := by simp; omega
        go_wp2_with (go_at_call 8; refine (known02 _).mono ?_; rintro e w' ⟨rfl, hb⟩)
        go_ret
        exact ⟨rfl, new_call HA.out.bel hb⟩
      · have tb : decide ((3000 : Int) < (bs.length : Int) + (n' : Int)) = false := by simp; omega
        go_wp2_with (at_builtin
                     refine wpList_join rfl _ _ 22 rfl elem8 (w.heap.size + 1) _ _ rfl HA.out.own _ _ _ _ rfl HHs.out (u8s_one _) (by rw [u8s_len]; omega) (by decide) HA.out.size ?_
                     intro v2 w2 hown2 hbel2
                     rw [← u8s_app] at hown2
                     obtain ⟨A2, c2, rfl, hh2⟩ := hown2.has
                     simp only [u8s_len, List.length_append, HLn.out] at hh2 hown2
                     simp only [u8s_len, List.length_append, HLn.out]
                     have HB2 := Lib.hid (HA.out.bel.trans (hbel2.mono (Nat.le_succ _)))
                     have HO2 := Lib.hid hown2
                     have HS2 : Hid (SumAt w2 w.heap.size (crcOf bs) bs.length) := Blk.below HA.out.sum hbel2 (Nat.lt_succ_self _)
                     have HZ2 := Lib.hid (Nat.le_trans HA.out.size hbel2.size)
                     clear hown2 hh2 hbel2
                     obtain ⟨hcell2, hhas2⟩ := HR.out _ HB2.out
                     have HH2 := Lib.hid hhas2
                     clear hhas2)
        refine (sumAdd_any _ _ _ _ _ _ l _ HS2.out HH2.out HLB.out (crcOf_lt HFB.out) (by omega) (by omega)).mono ?_
        rintro e w3 ⟨rfl, hs3, hg3⟩
        rw [goOn_more] at hs3
        have HS3 := Lib.hid hs3
        have HO3 := Lib.hid (own_grown HO2.out hg3 (Nat.lt_succ_self _))
        have HB3 := Lib.hid (below_grown1 HB2.out hg3 (Nat.le_refl _))
        have HZ3 := Lib.hid (Nat.le_trans HZ2.out hg3.size)
        clear hs3 hg3 HS2 HH2 HB2 HO2
        obtain ⟨A3, c3, hv3, hh3⟩ := HO3.out.has
        simp only [u8s_len, List.length_append, HLn.out] at hv3 hh3
        cases hv3
        have HH3 := Lib.hid hh3
        clear hh3
        have HLs : Hid ((bs ++ l).length = bs.length + n') := by show _ = _; rw [List.length_append, HLn.out]
        have HOf := Lib.hid (of_one A2 (bs.length + n') c2 (bs ++ l) w3 22 HH3.out HFB2.out (by omega))
        obtain ⟨X, hX⟩ : ∃ X, crcOf (bs ++ l) = X := ⟨_, rfl⟩
        rw [hX] at HOf HS3
        have HXX := Lib.hid hX
        clear hX
        go_wp2_with (first
          | (go_at_call 18; refine (sumSum_any _ _ _ _ HS3.out).mono ?_; rintro e w' ⟨rfl, rfl⟩)
          | (go_at_call 9; refine HOf.out.mono ?_; rintro e w4 ⟨rfl, hb4⟩; have HB4 := Lib.hid hb4; clear hb4)
          | (go_at_call 19; refine (sumLen_any _ _ _ _ (Blk.below HS3.out HB4.out (Nat.lt_of_succ_le HZ3.out))).mono ?_; rintro e w' ⟨rfl, rfl⟩))
        go_roundg (gk - 1)
        case measure => omega
        case rel =>
          refine ⟨i + 1, by omega, by go_num, by rw [HX.out, HLs.out]; omega, ?_⟩
          show Adds _ _ _ _
          rw [HX.out]
          refine ⟨HO3.out.keep HB4.out, ?_, new_call HB3.out HB4.out, Nat.le_trans HZ3.out HB4.out.size⟩
          rw [HXX.out, HLs.out]
          exact Blk.below HS3.out HB4.out (Nat.lt_of_succ_le HZ3.out)
    · have ti : decide ((i : Int) < (n : Int)) = false := by simp; omega
      have HFl : Hid ((ls.take i).flatten = ls.flatten) := by show _ = _; rw [List.take_of_length_le (by rw [HL.out]; omega)]
      have HFB := Lib.hid (flat_byte HB.out i)
      have HH1 := Lib.hid hh1
      have HBl := Lib.hid HA.out.bel
      clear hh1
      rw [HFl.out] at HFB HH1 h3 ⊢
      have HO1 : Hid (∀ W, Below w.heap.size w W → Calls Try.prog 9 #[.slice A n c] W fun e w' => e = .returned (.int .u32 (crcOf ls.flatten : Int)) ∧ Below W.heap.size W w') := fun W hW => of_any A n c ls W (HP.out.kept hW) HB.out (by omega) (fun l hl => by have := HM.out l hl; omega)
      have HO2 : Hid (∀ W, Below wr.heap.size wr W → Calls Try.prog 9 #[.slice (some ⟨W.heap.size, 0, none⟩) 1 1] (W.alloc (.cells #[.slice A1 ls.flatten.length c1] 22)) fun e w' => e = .returned (.int .u32 (crcOf ls.flatten : Int)) ∧ Below W.heap.size W w') := fun W hW => of_one A1 _ c1 ls.flatten W 22 (HH1.out.kept hW) HFB.out (by omega)
      generalize crcOf ls.flatten = X at *
      generalize ls.flatten.length = N at *
      go_wp2_with (go_at_call 17; refine (sumAdd_nil _ _).mono ?_; rintro e w' ⟨rfl, rfl⟩)
      refine (HO1.out _ HBl.out).mono ?_
      rintro e w2 ⟨rfl, hb2⟩
      have HB2 := Lib.hid hb2
      clear hb2
      go_wp2_with fail
      refine (HO2.out _ HB2.out).mono ?_
      rintro e w3 ⟨rfl, hb3⟩
      have HB3 := Lib.hid (new_call HBl.out (new_call HB2.out hb3))
      clear hb3
      go_wp2_with (first
        | (go_at_call 18; refine (sumSum_nil _).mono ?_; rintro e w' ⟨rfl, rfl⟩)
        | (go_at_call 19; refine (sumLen_nil _).mono ?_; rintro e w' ⟨rfl, rfl⟩)
        | (go_at_call 8; refine (known02 _).mono ?_; rintro e w' ⟨rfl, hb⟩))
      go_ret
      exact ⟨rfl, new_call HB3.out hb⟩

set_option maxRecDepth 100000 in
theorem lifted (os : Os) (started : os.Started) (H : Type) (enc : TypeId × Value → H) :
    ReturnsInHanded {} Try.checked os 5 .any (Rows.crcPartsSpec.pre6 enc Try.prog Try.f5 Rows.crcPartsRow.domain false) (Rows.crcPartsSpec.post enc Try.prog Try.f5 false true false false) := by
  refine returnsInHanded_of_change_sized (C := Try.checked) Try.own started (by kernel_rfl) Try.func5
    (ChangeSpec.witness6 (enc := enc) (C := Try.checked) false ⟨#[], #[.slice none 0 0], []⟩ 8 (by kernel_rfl) (by kernel_rfl) (by kernel_rfl) (by kernel_rfl)) ?_
  intro W base args ds gs before hval0 hW _ hsz0 _
  have hval : ∀ (j : Nat) t v, Try.f5.params[j]? = some t → args[j]? = some v → Value.okWide Try.prog W .any base t v := hval0
  have hW' := hW
  obtain ⟨p, q, hA0, hV, rfl, _, _⟩ := hW
  have hA : DataW.TrodAll enc Try.prog W 0 (fun _ => true) true Try.f5.params.toList args.toList ds p := hA0
  have hsz : (DataW.weightsEach Try.prog (Try.f5.params.toList ++ Rows.crcPartsSpec.plain.varTypes Try.prog) (ds ++ gs)).all (· ≤ reachBytes) = true := hsz0
  rw [Try.params5] at hA hval hsz
  obtain ⟨v0, d0, rfl, rfl, h0⟩ := trodAll_one hA
  obtain ⟨rfl, rfl⟩ := trodVars_none hV
  obtain ⟨A0, n0, c0, ls0, rfl, hh0, hb0, hn0, hl0⟩ := open_parts (hval 0 35 v0 rfl rfl) h0 (fun m hm => of_decide_eq_true (List.all_eq_true.1 hsz m (DataW.weights_mem_each (j := 0) rfl rfl m hm)))
  exact (walk A0 n0 c0 ls0 W hh0 hb0 hn0 hl0).mono fun e W' he =>
    law_post rfl rfl (by rw [Try.params5]; intro t ht; simp at ht; subst ht; exact ⟨by kernel_rfl, of_decide_eq_true (by kernel_rfl)⟩) hW' rfl he

theorem proved : Rows.CrcPartsSaid :=
  OpenClaim.holds_of_wide 5 Try.f5 rfl rfl rfl rfl rfl rfl rfl ⟨rfl, rfl, rfl, rfl, rfl⟩ rfl rfl rfl rfl rfl (by kernel_rfl) Try.func5 (by kernel_rfl)
    (of_decide_eq_true (by kernel_rfl)) (by unfold Func.isWrapper; first | (rw [if_pos (by decide +kernel)]; kernel_rfl) | (rw [if_neg (by decide +kernel)]; exact ⟨rfl, rfl⟩))
    (fun os started H enc _ => lifted os started H enc)
end Go.Proofs.Ytlmecbclnhkmbaa.crcParts
