/- The landed coder: Pack, Unpack; with Encode and Decode all of its calls. -/
import Derived.Test.YtfkmcjlapigapaaCoderDecode
namespace Go.Proofs.Ytfkmcjlapigapaa
open Go.RowKit

set_option maxRecDepth 100000 in
set_option maxHeartbeats 400000 in
theorem coderPack_any (A : Option Addr) (n c : Nat) (bs : List Nat) (w : World) (h : Has w A n c (u8s bs)) (hb : ∀ x ∈ bs, x < 256) (hn : n ≤ 200) : Calls Try.prog 19 #[.slice A n c] w (Coded w (encC [256] (codesC bs))) := by
  have HL : Hid (bs.length = n) := by have := h.len; rw [u8s_len] at this; exact this
  have HH := Lib.hid h
  have HBy := Lib.hid hb
  have tm : decide ((65536 : Int) < (n : Int)) = false := by simp; omega
  clear h hb
  go_enter Try.func19, Try.ntmps19
  go_wp2_with (first
    | (at_make
       refine wpList_room0 rfl _ _ 23 rfl elemCd w.heap.size _ _ _ n rfl rfl rfl (by omega) (by decide) (Nat.le_refl _) ?_
       intro w1 hown1 hbel1
       have HO1 := Lib.hid hown1
       have HB1 := Lib.hid hbel1
       clear hown1 hbel1))
  go_loopg [4, 15] n (fun g s4 s15 wx => ∃ i : Nat, i + g = n ∧ s15 = .int .i64 i ∧ Hid (OwnK 2 wx w.heap.size 41 s4 i (codCells (codesC (bs.take i)))) ∧ Hid (Below w.heap.size w wx))
  case atStart => exact ⟨0, by omega, rfl, HO1, HB1⟩
  case round =>
    obtain ⟨i, hig, rfl, HO, HB⟩ := hrel
    clear HO1 HB1
    have hz := HB.out.size
    by_cases hi : i < n
    · have ti : decide ((i : Int) < (n : Int)) = true := by simp; omega
      have hil : i < bs.length := by rw [HL.out]; exact hi
      obtain ⟨b, off, rfl, hlt, hc⟩ := (HH.out.kept HB.out).spot (by omega)
      have hcell := hc i _ (u8s_at hil)
      have HS : Hid (codCells (codesC (bs.take i)) ++ codCells [((0 : Int), (bs[i] : Int))] = codCells (codesC (bs.take (i + 1)))) := by
        show _ = _
        rw [← codCells_app, List.take_succ_eq_append_getElem hil]
        unfold codesC
        rw [List.map_append]; rfl
      have hx := HBy.out _ (List.getElem_mem hil)
      clear hc
      generalize bs[i] = x at *
      clear hil
      go_wp2_with (at_builtin
                   refine wpList_joinK rfl _ _ 23 rfl elemCd (by decide) w.heap.size _ i _ rfl (HO.out.alloc _) _ 1 1 (codCells [((0 : Int), (x : Int))]) rfl (HasK.new_at 2 _ #[_, _] _ _ 1 rfl rfl) (codCells_one _) (by omega) (by decide) (by simp; omega) ?_
                   intro v2 w2 hown2 hbel2 _
                   rw [HS.out] at hown2
                   have HO2 := Lib.hid hown2
                   have HB2 := Lib.hid ((new_alloc HB.out _).trans hbel2)
                   clear hown2 hbel2)
      go_roundg (gk - 1)
      case measure => omega
      case rel => exact ⟨i + 1, by omega, by go_num, HO2, HB2⟩
    · have ti : decide ((i : Int) < (n : Int)) = false := by simp; omega
      obtain rfl : i = n := by omega
      rw [List.take_of_length_le (by rw [HL.out]; exact Nat.le_refl _)] at HO
      obtain ⟨B, d, hv, hh⟩ := HO.out.has
      subst hv
      have HB3 : Hid (Below wr.heap.size wr (wr.alloc (.cells #[.int .i64 256] 3))) := new_alloc (Below.refl _ _) _
      have HEn := Lib.hid (coderEnc_any (some ⟨wr.heap.size, 0, none⟩) 1 1 [256] B i d (codesC bs) _ (Has.one wr (.int .i64 256) 3) (hh.kept HB3.out) (by decide) (by omega))
      have HB4 := Lib.hid (new_call HB.out HB3.out)
      clear hh
      go_wp2_with fail
      refine HEn.out.mono ?_
      rintro e w5 ⟨A5, c5, rfl, hh5, hb5⟩
      have HH5 := Lib.hid hh5
      have HB5 := Lib.hid (new_call HB4.out hb5)
      clear hh5 hb5 HEn
      go_wp2
      go_ret2
      exact ⟨A5, c5, rfl, HH5.out, HB5.out⟩
theorem dec_unp {k : Nat} {bs : List Nat} : (decAll [256] (List.replicate k 0) bs).2 ≠ 0 → (decAll [256] (List.replicate k 0) bs).1 = [] := by
  intro h
  unfold decAll at h ⊢
  split
  · rename_i h1
    rw [if_pos h1] at h
    split
    · rfl
    · rename_i h2
      rw [if_neg h2] at h
      unfold decodeC at h ⊢
      cases hr : rdecC bs (beginC [256]) (List.replicate k 0) with
      | none => rfl
      | some r =>
        rw [hr] at h
        simp only at h ⊢
        split
        · rename_i h3
          rw [if_pos h3] at h
          exact absurd rfl h
        · rfl
  · rfl
theorem dec_syms {k : Nat} {bs : List Nat} : ∀ x ∈ (decAll [256] (List.replicate k 0) bs).1, 0 ≤ x.2 ∧ x.2 < 256 := by
  by_cases h0 : (decAll [256] (List.replicate k 0) bs).2 = 0
  · unfold decAll at h0 ⊢
    split
    · rename_i h1
      rw [if_pos h1] at h0
      split
      · intro x hx; cases hx
      · rename_i h2
        rw [if_neg h2] at h0
        have hok : COk (beginC [256]) := begin_ok (okS_sizes h1.1)
        have he : decodeC (beginC [256]) (List.replicate k 0) bs = ((decodeC (beginC [256]) (List.replicate k 0) bs).1, 0) := by rw [← h0]
        obtain ⟨hb, hm⟩ := decode_back he
        generalize (decodeC (beginC [256]) (List.replicate k 0) bs).1 = l at *
        intro x hx
        have hx1 : x.1 = 0 := List.eq_of_mem_replicate (by rw [← hm]; exact List.mem_map.2 ⟨x, hx, rfl⟩)
        have hall : ∀ y ∈ l, okC (beginC [256]).C y := Classical.byContradiction fun h => by
          unfold bytesC at hb
          rw [run_none l hok h] at hb
          cases hb
        obtain ⟨h3, h4⟩ := hall x hx
        rw [hx1] at h4
        have e : sizeC (beginC [256]).C (0 : Int) = 256 := by
          have h5 := size_at (C := (beginC [256]).C) (k := 0) (by decide)
          have h6 : (beginC [256]).C[0].length = 256 := by
            show (List.replicate (256 : Int).toNat 1).length = 256
            rw [List.length_replicate]; rfl
          rw [h6] at h5
          exact h5
        rw [e] at h4
        exact ⟨h3, h4⟩
    · intro x hx; cases hx
  · rw [dec_unp h0]
    intro x hx; cases hx
theorem intVs_zeros (K : Nat) : List.replicate K (Value.int .i64 0) = intVs (List.replicate K 0) := by simp [intVs]
set_option maxRecDepth 100000 in
set_option maxHeartbeats 400000 in
theorem coderUnpack_any (k : Int) (B : Option Addr) (nb cb : Nat) (bs : List Nat) (w : World) (hk : k ≤ 200 ∨ 65536 < k) (hb : Has w B nb cb (u8s bs)) (hby : ∀ x ∈ bs, x < 256) (hnb : nb ≤ 2000) : Calls Try.prog 21 #[.int .i64 k, .slice B nb cb] w (Coded w (unpC k bs)) := by
  by_cases h0 : k < 0
  · have t0 : decide (k < 0) = true := by simpa using h0
    have HE : Hid (unpC k bs = ([], 2)) := if_pos h0
    clear hb hby hk
    go_enter Try.func21, Try.ntmps21
    go_wp2
    go_ret2
    rw [HE.out]
    exact ⟨none, 0, rfl, Has.none _ _ _ fun _ => rfl, Below.refl _ _⟩
  · have t0 : decide (k < 0) = false := by simpa using h0
    by_cases h1 : 65536 < k
    · have t1 : decide (65536 < k) = true := by simpa using h1
      have HE : Hid (unpC k bs = ([], 3)) := by show _ = _; unfold unpC; rw [if_neg h0, if_pos h1]
      clear hb hby hk
      go_enter Try.func21, Try.ntmps21
      go_wp2
      go_ret2
      rw [HE.out]
      exact ⟨none, 0, rfl, Has.none _ _ _ fun _ => rfl, Below.refl _ _⟩
    · have t1 : decide (65536 < k) = false := by simpa using h1
      obtain ⟨K, rfl⟩ := Int.eq_ofNat_of_zero_le (show 0 ≤ k by omega)
      have HE : Hid (unpC (K : Int) bs = ((decAll [256] (List.replicate K 0) bs).1.map (fun x => x.2.toNat), (decAll [256] (List.replicate K 0) bs).2)) := by show _ = _; unfold unpC; rw [if_neg h0, if_neg h1]; rfl
      have hK : K ≤ 200 := by omega
      have HHb := Lib.hid hb
      have HBy := Lib.hid hby
      have HSy : Hid (∀ x ∈ (decAll [256] (List.replicate K 0) bs).1, 0 ≤ x.2 ∧ x.2 < 256) := dec_syms
      have HNo : Hid ((decAll [256] (List.replicate K 0) bs).2 ≠ 0 → (decAll [256] (List.replicate K 0) bs).1 = []) := dec_unp
      have HB1 : Hid (Below w.heap.size w (w.alloc (.cells #[.int .i64 256] 3))) := new_alloc (Below.refl _ _) _
      have HLe : Hid ((decAll [256] (List.replicate K 0) bs).1.length ≤ K) := by
        show _ ≤ _
        by_cases hz : (decAll [256] (List.replicate K 0) bs).2 = 0
        · unfold decAll at hz ⊢
          split
          · rename_i h1
            rw [if_pos h1] at hz
            split
            · simp
            · rename_i h2
              rw [if_neg h2] at hz
              have he : decodeC (beginC [256]) (List.replicate K 0) bs = ((decodeC (beginC [256]) (List.replicate K 0) bs).1, 0) := by rw [← hz]
              have hm := congrArg List.length (decode_back he).2
              rw [List.length_map, List.length_replicate] at hm
              omega
          · simp
        · rw [dec_unp hz]; simp
      have HDe : Hid (∀ W, Below w.heap.size w W → ∀ M, Has W M K K (intVs (List.replicate K 0)) → Has W (some ⟨w.heap.size, 0, none⟩) 1 1 (intVs [256]) → Calls Try.prog 15 #[.slice (some ⟨w.heap.size, 0, none⟩) 1 1, .slice M K K, .slice B nb cb] W (Deced W (decAll [256] (List.replicate K 0) bs))) := fun W hW M h1 h2 => coderDec_any _ 1 1 [256] M K K (List.replicate K 0) B nb cb bs W h2 h1 (hb.kept hW) hby (by decide) (by omega) hnb
      rw [HE.out]
      generalize decAll [256] (List.replicate K 0) bs = r at *
      obtain ⟨rl, re⟩ := r
      simp only at *
      clear hb hby hk h0 h1 HE
      go_enter Try.func21, Try.ntmps21
      go_wp2_with (at_make
                   refine wpList_made rfl _ _ 22 rfl elemI (.int .i64 0) (by kernel_rfl) rfl (w.alloc (.cells #[.int .i64 256] 3)).heap.size .i64 .i64 _ _ K rfl rfl (by first | rfl | omega) (by first | rfl | omega) (by omega) (by decide) (Nat.le_refl _) ?_
                   intro w2 hown2 hbel2
                   obtain ⟨M2, c2, hv2, hh2⟩ := hown2.has
                   rw [List.length_replicate] at hv2 hh2
                   rw [intVs_zeros] at hh2
                   cases hv2
                   have HB2 := Lib.hid (new_call HB1.out hbel2)
                   have HD2 := Lib.hid (HDe.out w2 HB2.out _ hh2 ((Has.one w (.int .i64 256) 3).kept hbel2))
                   rw [show (w.alloc (.cells #[.int .i64 256] 3)).heap.size = w.heap.size + 1 by simp] at HD2
                   clear hown2 hbel2 hh2)
      with_reducible refine Calls.mono HD2.out ?_
      rintro e w3 ⟨A3, c3, rfl, hh3, hb3⟩
      simp only at hh3
      have HH3 := Lib.hid hh3
      have HB3 := Lib.hid (new_call HB2.out hb3)
      clear hh3 hb3 HD2 HDe HB2 HB1
      have hz3 := HB3.out.size
      by_cases he : re = 0
      · subst he
        go_wp2_with (at_make
                     refine wpList_room0 rfl _ _ 25 rfl elem8.toK w3.heap.size _ _ _ K rfl rfl rfl (by omega) (by decide) (Nat.le_refl _) ?_
                     intro w4 hown4 hbel4
                     have HO4 := Lib.hid hown4
                     have HB4 := Lib.hid hbel4
                     clear hown4 hbel4)
        obtain ⟨nl, hnl⟩ : ∃ nl, rl.length = nl := ⟨_, rfl⟩
        rw [hnl] at HH3 HLe ⊢
        have HNl := Lib.hid hnl
        clear hnl
        have hnl2 : nl ≤ 200 := Nat.le_trans HLe.out hK
        go_loopg [8, 32] nl (fun g s8 s32 wx => ∃ i : Nat, i + g = nl ∧ s32 = .int .i64 i ∧ Hid (Own wx w3.heap.size 5 s8 (u8s ((rl.take i).map fun x => x.2.toNat))) ∧ Hid (Below w3.heap.size w3 wx))
        case atStart => exact ⟨0, by omega, rfl, HO4, HB4⟩
        case round =>
          obtain ⟨i, hig, rfl, HO, HB⟩ := hrel
          clear HO4 HB4
          have hz := HB.out.size
          by_cases hi : i < nl
          · have ti : decide (i < nl) = true := by simpa using hi
            have hil : i < rl.length := by rw [HNl.out]; exact hi
            obtain ⟨b, off, rfl, hlt, hc⟩ := (HH3.out.kept HB.out).spot (by omega)
            have hcx := hc _ _ (cod_at hil).1
            have hcy := hc _ _ (cod_at hil).2
            rw [← Nat.add_assoc] at hcy
            obtain ⟨hs1, hs2⟩ := HSy.out _ (List.getElem_mem hil)
            have HS : Hid (u8s ((rl.take i).map fun x => x.2.toNat) ++ u8s [rl[i].2.toNat] = u8s ((rl.take (i + 1)).map fun x => x.2.toNat)) := by
              show _ = _
              rw [← u8s_app, List.take_succ_eq_append_getElem hil, List.map_append]; rfl
            generalize rl[i] = xy at *
            obtain ⟨x, y⟩ := xy
            simp only at hcx hcy hs1 hs2 HS
            obtain ⟨s, rfl⟩ := Int.eq_ofNat_of_zero_le hs1
            rw [Int.toNat_natCast] at HS
            have hs3 : s < 256 := by omega
            have ew : IntKind.wrap .u8 (s : Int) = (s : Int) := by rw [IntKind.wrap_u8]; omega
            have hlen : (u8s ((rl.take i).map fun x => x.2.toNat)).length ≤ 200 := by rw [u8s_len, List.length_map, List.length_take]; omega
            clear hc hil hs1 hs2
            go_wp2_with (at_builtin
                         refine wpList_join rfl _ _ 25 rfl elem8 w3.heap.size _ _ rfl ((HO.out.alloc _).alloc _) _ 1 1 (u8s [s]) rfl (one_at _ _ _ _ (by simp)) (u8s_one _) (by omega) (by decide) (Nat.le_trans hz (Nat.le_trans (new_alloc (Below.refl _ wr) _).size (new_alloc (Below.refl _ _) _).size)) ?_
                         intro v2 w2 hown2 hbel2
                         rw [HS.out] at hown2
                         have HO2 := Lib.hid hown2
                         have HB2 := Lib.hid ((new_alloc (new_alloc HB.out _) _).trans hbel2)
                         clear hown2 hbel2)
            go_roundg (gk - 1)
            case measure => omega
            case rel => exact ⟨i + 1, by omega, by go_num, HO2, HB2⟩
          · have ti : decide (i < nl) = false := by simpa using hi
            rw [List.take_of_length_le (by rw [HNl.out]; omega)] at HO
            obtain ⟨A9, c9, hv9, hh9⟩ := HO.out.has
            rw [u8s_len] at hv9 hh9
            subst hv9
            have HH9 := Lib.hid hh9
            clear hh9
            go_wp2
            go_ret2
            exact ⟨A9, c9, rfl, HH9.out, new_call HB3.out HB.out⟩
      · have hnil := HNo.out he
        subst hnil
        have t3 : ((re : Int) == 0) = false := beq_eq_false_iff_ne.2 (by omega)
        have t4 : decide ((re : Int) = 0) = false := by simp; omega
        go_wp2
        go_ret2
        exact ⟨none, 0, rfl, Has.none _ _ _ fun _ => rfl, HB3.out⟩
end Go.Proofs.Ytfkmcjlapigapaa
