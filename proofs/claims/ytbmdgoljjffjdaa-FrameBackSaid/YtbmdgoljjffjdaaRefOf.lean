/- lapidaryref02.Of: the document's division of a row of bits gives the checksum. -/
import Derived.Test.YtbmdgoljjffjdaaCrcBits
import Derived.Deep.LoopGhost
import Derived.Deep.RegionHeld3
namespace Go.Proofs.Ytbmdgoljjffjdaa
open Go.RowKit

def bls (l : List Bool) : List Value := l.map Value.bool
theorem bls_len (l : List Bool) : (bls l).length = l.length := by simp [bls]
theorem bls_app (l r : List Bool) : bls (l ++ r) = bls l ++ bls r := by simp [bls]
theorem bls_at {l : List Bool} {j : Nat} (h : j < l.length) : (bls l)[j]? = some (.bool l[j]) := by simp [bls, h]
theorem elemB : Elem Try.prog 77 4 1 := by
  have h : (Try.prog.info? 4).map (fun i => (i.zero, i.size, i.bytes)) = some (some (.bool false), 1, 1) := by kernel_rfl
  obtain ⟨i, h1, h2, h3, h4⟩ := info_parts h
  exact ⟨Try.underlying77, i, _, h1, h2, h3, h4, rfl⟩
theorem bit_nat (c : Nat) : ((c : Int) % 2 == 1).toNat = c % 2 := by
  rcases Nat.mod_two_eq_zero_or_one c with h | h
  · have : ((c : Int) % 2 == 1) = false := beq_eq_false_iff_ne.2 (by omega)
    rw [this, h]; rfl
  · have : ((c : Int) % 2 == 1) = true := by rw [beq_iff_eq]; omega
    rw [this, h]; rfl

/-- The first loops: the bits of all bytes. -/
def Laid (w : World) (B L : Nat) (v : Value) (wx : World) : Prop := ∃ l : List Bool, Own wx w.heap.size 4 v (bls l) ∧ l.length = L ∧ num l = B ∧ Below w.heap.size w wx

/-- While it divides: the row of bits, and the table of places beside it. -/
structure Divs (w : World) (g cap L ga : Nat) (wx : World) (l : List Bool) : Prop where
  own : Own wx w.heap.size 4 (.slice (some ⟨g, 0, none⟩) L cap) (bls l)
  len : l.length = L
  bel : Below w.heap.size w wx
  ats : ∀ k (h : k < crcAts.length), wx.cell? ⟨ga, k, none⟩ = some (.int .i64 (crcAts[k] : Int))
theorem Divs.flip {w wx : World} {g cap L ga : Nat} {l : List Bool} (h : Divs w g cap L ga wx l) (hne : g ≠ ga) (p : Nat) (b : Bool) : Divs w g cap L ga (wx.setCell ⟨g, p, none⟩ (.bool b)) (l.set p b) := by
  have hs := h.own.stored (by rw [bls_len]; exact h.len) p (.bool b)
  refine ⟨?_, by rw [List.length_set]; exact h.len, h.bel.trans hs.2, fun k hk => ?_⟩
  · have e : (bls l).set p (.bool b) = bls (l.set p b) := by simp [bls, List.map_set]
    rw [← e]; exact hs.1
  · rw [World.cell?_setCell_other _ _ _ _ (by intro e; cases e; exact hne rfl)]
    exact h.ats k hk
theorem Divs.drew {w wx : World} {g cap L ga : Nat} {l : List Bool} (h : Divs w g cap L ga wx l) : Divs w g cap L ga wx.drew l := ⟨h.own, h.len, ⟨h.bel.os, h.bel.tape, h.bel.output, h.bel.size, h.bel.block⟩, h.ats⟩
theorem Divs.at_ {w wx : World} {g cap L ga : Nat} {l : List Bool} (h : Divs w g cap L ga wx l) {p : Nat} (hp : p < l.length) : wx.cell? ⟨g, p, none⟩ = some (.bool l[p]) ∧ wx.frozen? ⟨g, p, none⟩ = false := by
  have := h.own.cellAt (by rw [bls_len]; exact h.len) p (by rw [← h.len]; exact hp)
  rw [bls_at hp] at this
  exact this

set_option maxRecDepth 100000 in
set_option maxHeartbeats 2000000 in
theorem refOf_any (A : Option Addr) (n c : Nat) (bs : List Nat) (w : World) (h : Has w A n c (u8s bs)) (hb : ∀ x ∈ bs, x < 256) (hn : n ≤ 100000) :
    Calls Try.prog 33 #[.slice A n c] w fun e w' => e = .returned (.int .u32 (crcOf bs : Int)) ∧ Below w.heap.size w w' := by
  have HL : Aside (bs.length = n) := by have := h.len; rw [u8s_len] at this; exact this
  have HB : Aside (∀ x ∈ bs, x < 256) := hb
  have HH : Aside (Has w A n c (u8s bs)) := h
  clear h hb
  go_enter Try.func33, Try.ntmps33
  go_wp2
  go_loopg [3, 4] (n + 4) (fun g s3 s4 wx => ∃ i : Nat, i + g = n + 4 ∧ s4 = .int .i64 i ∧ Laid w (val8 ((adjBytes bs).take i)) (8 * i) s3 wx)
  case atStart => exact ⟨0, by omega, rfl, [], Own.nil _ _ _, rfl, rfl, Below.refl _ _⟩
  case round =>
    obtain ⟨i, hig, rfl, l, hown, hll, hnum, hbel⟩ := hrel
    have HO := Lib.hid hown
    have HBl := Lib.hid hbel
    have HLL := Lib.hid hll
    have HNU := Lib.hid hnum
    clear hown hbel hll hnum
    by_cases hi : i < n + 4
    · have hia : i < (adjBytes bs).length := by rw [adj_len, HL.out]; exact hi
      obtain ⟨C, hC⟩ : ∃ C, (adjBytes bs)[i] = C := ⟨_, rfl⟩
      have hC8 : C < 256 := by rw [← hC]; exact adj_byte HB.out _ (List.getElem_mem hia)
      have HT : Hid (val8 ((adjBytes bs).take (i + 1)) = val8 ((adjBytes bs).take i) + C * 256 ^ i) := by
        show _ = _
        rw [take_snoc hia, val8_snoc, hC, List.length_take, Nat.min_eq_left (by omega)]
      have hadj := adj_at hia
      rw [hC] at hadj
      have hcase : (∃ b off x, A = some ⟨b, off, none⟩ ∧ wr.cell? ⟨b, off + i, none⟩ = some (.int .u8 (x : Int)) ∧ i < n ∧ decide ((i : Int) < 4) = true ∧ bits .xor .u8 (x : Int) 255 = (C : Int)) ∨
          (∃ b off, A = some ⟨b, off, none⟩ ∧ wr.cell? ⟨b, off + i, none⟩ = some (.int .u8 (C : Int)) ∧ i < n ∧ decide ((i : Int) < 4) = false) ∨
          (¬ i < n ∧ decide ((i : Int) < 4) = true ∧ bits .xor .u8 0 255 = (C : Int)) ∨ (¬ i < n ∧ decide ((i : Int) < 4) = false ∧ Hid ((C : Int) = 0)) := by
        by_cases hin : i < n
        · obtain ⟨b, off, hA, _, hc⟩ := (HH.out.kept HBl.out).spot (by omega)
          have hil : i < bs.length := by rw [HL.out]; exact hin
          have hcl := hc i _ (u8s_at hil)
          have hx8 := HB.out _ (List.getElem_mem hil)
          rw [List.getElem?_eq_getElem hil] at hadj
          by_cases h4 : i < 4
          · refine Or.inl ⟨b, off, bs[i], hA, hcl, hin, by simp; omega, ?_⟩
            rw [if_pos h4] at hadj
            have := u8_xor_nat bs[i] 255 hx8 (by decide)
            rw [hadj]; exact this
          · refine Or.inr (Or.inl ⟨b, off, hA, ?_, hin, by simp; omega⟩)
            rw [if_neg h4, Nat.xor_zero] at hadj
            rw [hcl, hadj]; rfl
        · rw [List.getElem?_eq_none (by rw [HL.out]; omega)] at hadj
          by_cases h4 : i < 4
          · refine Or.inr (Or.inr (Or.inl ⟨hin, by simp; omega, ?_⟩))
            rw [if_pos h4] at hadj
            rw [hadj]; decide
          · refine Or.inr (Or.inr (Or.inr ⟨hin, by simp; omega, ?_⟩))
            rw [if_neg h4] at hadj
            show (C : Int) = 0
            rw [hadj]; rfl
      clear hC hadj hia
      have ti : decide ((i : Int) < (n : Int) + 4) = true := by simp; omega
      rcases hcase with ⟨b, off, x, rfl, hcl, hin, t4, hx⟩ | ⟨b, off, rfl, hcl, hin, t4⟩ | ⟨hin, t4, hx⟩ | ⟨hin, t4, hx⟩
      all_goals
        go_wp2
        go_loopg [3, 5, 6] 8 (fun g s3 s5 s6 wx => ∃ (j cc : Nat) (l : List Bool), j + g = 8 ∧ s6 = .int .i64 j ∧ s5 = .int .u8 cc ∧ cc < 2 ^ g ∧ cc < 256 ∧ Own wx w.heap.size 4 s3 (bls l) ∧ Below w.heap.size w wx ∧ Hid (l.length = 8 * i + j) ∧
          Hid (num l + 2 ^ (8 * i + j) * cc = val8 ((adjBytes bs).take (i + 1))))
        case atStart =>
          refine ⟨0, C, l, by omega, rfl, by first | rfl | (rw [hx]) | (rw [hx.out]), by omega, hC8, HO.out, HBl.out, HLL.out, ?_⟩
          show _ = _
          rw [HNU.out, HT.out, Nat.add_zero, pow8, Nat.mul_comm]
        case round =>
          obtain ⟨j, cc, l2, hjg, rfl, rfl, hcg, hc8, hown2, hbel2, HL2, HN2⟩ := hrel
          by_cases hj : j < 8
          · have tj : decide ((j : Int) < 8) = true := by simp; omega
            have hsz := hbel2.size
            have HO2 := Lib.hid hown2
            have HB2 := Lib.hid hbel2
            have hll2 : l2.length ≤ 10000000 := by rw [HL2.out]; omega
            clear hown2 hbel2
            go_wp2_with (at_builtin; refine wpList_join rfl _ _ 77 rfl elemB w.heap.size _ _ rfl (HO2.out.alloc _) _ 1 1 [_] rfl (Has.one _ _ _) (by intro u hu; simp at hu; subst hu; rfl) (by rw [bls_len]; omega) (by decide) (by simp; omega) ?_; intro v' w' hown' hbel')
            have R1 : Own w' w.heap.size 4 v' (bls (l2 ++ [((cc : Int) % 2 == 1)])) := by rw [bls_app]; exact hown'
            have R2 : Below w.heap.size w w' := (new_alloc HB2.out _).trans hbel'
            have R3 : Hid ((l2 ++ [((cc : Int) % 2 == 1)]).length = 8 * i + (j + 1)) := by
              show _ = _
              rw [List.length_append, HL2.out]; rfl
            have R4 : Hid (num (l2 ++ [((cc : Int) % 2 == 1)]) + 2 ^ (8 * i + (j + 1)) * (cc / 2) = val8 ((adjBytes bs).take (i + 1))) := by
              show _ = _
              rw [← HN2.out, num_snoc, bit_nat, HL2.out, ← Nat.add_assoc (8 * i), Nat.pow_succ, Nat.add_assoc]
              congr 1
              generalize 2 ^ (8 * i + j) = P
              have e : cc = cc % 2 + 2 * (cc / 2) := by omega
              rw [Nat.mul_comm (cc % 2), Nat.mul_assoc, ← Nat.mul_add, ← e]
            have hcg2 : cc / 2 < 2 ^ (gk - 1) := by
              rw [show gk = gk - 1 + 1 by omega, Nat.pow_succ] at hcg
              omega
            clear hown' hbel'
            go_wp2
            go_roundg (gk - 1)
            case measure => omega
            case rel => exact ⟨j + 1, cc / 2, _, by omega, by go_num, by go_num, hcg2, by omega, R1, R2, R3, R4⟩
          · have tj : decide ((j : Int) < 8) = false := by simp; omega
            have hc0 : cc = 0 := by
              have : gk = 0 := by omega
              subst this
              omega
            have HN3 : Hid (num l2 = val8 ((adjBytes bs).take (i + 1))) := by show _ = _; rw [← HN2.out, hc0]; simp
            have HL3 : Hid (l2.length = 8 * (i + 1)) := by show _ = _; rw [HL2.out]; omega
            have HO2 := Lib.hid hown2
            have HB2 := Lib.hid hbel2
            clear hc0 hown2 hbel2
            go_wp2
            go_roundg (n + 4 - (i + 1))
            case measure => omega
            case rel => exact ⟨i + 1, by omega, by go_num, l2, HO2.out, HL3.out, HN3.out, HB2.out⟩
    · have hin : i = n + 4 := by omega
      have hB0 : num l = val8 bs ^^^ 4294967295 := by
        rw [HNU.out, List.take_of_length_le (by rw [adj_len, HL.out]; omega), adj_val HB.out]
      have hLL : l.length = 8 * n + 32 := by rw [HLL.out]; omega
      obtain ⟨g, cap, hv, hg1, hg2⟩ := HO.out.form (by rw [bls_len, hLL]; omega)
      rw [bls_len, hLL] at hv
      subst hv
      have ti : decide ((i : Int) < (n : Int) + 4) = false := by simp; omega
      have hats : ∀ k (h : k < crcAts.length), (wr.alloc (.cells #[.int .i64 0, .int .i64 6, .int .i64 9, .int .i64 10, .int .i64 16, .int .i64 20, .int .i64 21, .int .i64 22, .int .i64 24, .int .i64 25, .int .i64 27, .int .i64 28, .int .i64 30, .int .i64 31, .int .i64 32] 3)).cell? ⟨wr.heap.size, k, none⟩ = some (.int .i64 (crcAts[k] : Int)) := by
        intro k hk
        rw [World.cell?_alloc_at _ _ _ _ rfl]
        have : ∀ k (h : k < crcAts.length), (#[.int .i64 0, .int .i64 6, .int .i64 9, .int .i64 10, .int .i64 16, .int .i64 20, .int .i64 21, .int .i64 22, .int .i64 24, .int .i64 25, .int .i64 27, .int .i64 28, .int .i64 30, .int .i64 31, .int .i64 32] : Array Value)[k]? = some (.int .i64 (crcAts[k] : Int)) := by
          intro k hk
          match k, hk with
          | 0, _ | 1, _ | 2, _ | 3, _ | 4, _ | 5, _ | 6, _ | 7, _ | 8, _ | 9, _ | 10, _ | 11, _ | 12, _ | 13, _ | 14, _ => rfl
        exact this k hk
      have HAT := Lib.hid hats
      have HB0 := Lib.hid hB0
      have HLN := Lib.hid hLL
      have hsz := HBl.out.size
      have HO2 := Lib.hid (HO.out.alloc (.cells #[.int .i64 0, .int .i64 6, .int .i64 9, .int .i64 10, .int .i64 16, .int .i64 20, .int .i64 21, .int .i64 22, .int .i64 24, .int .i64 25, .int .i64 27, .int .i64 28, .int .i64 30, .int .i64 31, .int .i64 32] 3))
      have HB2 := Lib.hid (new_alloc HBl.out (.cells #[.int .i64 0, .int .i64 6, .int .i64 9, .int .i64 10, .int .i64 16, .int .i64 20, .int .i64 21, .int .i64 22, .int .i64 24, .int .i64 25, .int .i64 27, .int .i64 28, .int .i64 30, .int .i64 31, .int .i64 32] 3))
      clear hats hB0 hLL HO HBl HLL HNU hin
      obtain ⟨ga, hga⟩ : ∃ ga, wr.heap.size = ga := ⟨_, rfl⟩
      have hne : g ≠ ga := by omega
      rw [hga] at HAT
      have HD : Hid (Divs w g cap (8 * n + 32) ga (wr.alloc (.cells #[.int .i64 0, .int .i64 6, .int .i64 9, .int .i64 10, .int .i64 16, .int .i64 20, .int .i64 21, .int .i64 22, .int .i64 24, .int .i64 25, .int .i64 27, .int .i64 28, .int .i64 30, .int .i64 31, .int .i64 32] 3)) l) :=
        ⟨HO2.out, HLN.out, HB2.out, HAT.out⟩
      clear HAT HO2 HB2 HLN hsz hg1 hg2
      go_wp2
      go_loopg [8] (8 * n) (fun g' s8 wx => ∃ (i : Nat) (l : List Bool), i + g' = 8 * n ∧ s8 = .int .i64 i ∧ Hid (Divs w g cap (8 * n + 32) ga wx l) ∧ Hid (num l / 2 ^ i = crcN i (val8 bs ^^^ 4294967295)))
      case atStart => exact ⟨0, l, by omega, rfl, HD, by show _ = _; rw [HB0.out]; simp [crcN]⟩
      case round =>
        obtain ⟨j, l3, hjg, rfl, HD3, HX3⟩ := hrel
        clear hga
        by_cases hj : j < 8 * n
        · have hjl : j < l3.length := by rw [HD3.out.len]; omega
          obtain ⟨hc, hf⟩ := HD3.out.at_ hjl
          have hbit := num_bit hjl
          rw [HX3.out] at hbit
          have tj : decide ((j : Int) < 8 * (n : Int)) = true := by simp; omega
          cases hb : l3[j] with
          | false =>
            rw [hb] at hc hbit
            have HX4 : Hid (num l3 / 2 ^ (j + 1) = crcN (j + 1) (val8 bs ^^^ 4294967295)) := by
              show _ = _
              rw [crcN_succ]; exact crc_even HX3.out (by simpa using hbit.symm)
            clear hbit hb hjl hf
            go_wp2
            go_roundg (gk - 1)
            case measure => omega
            case rel => exact ⟨j + 1, l3, by omega, by go_num, HD3, HX4⟩
          | true =>
            rw [hb] at hc hbit
            have HX4 : Hid ((num l3 ^^^ crcG 15 * 2 ^ j) / 2 ^ (j + 1) = crcN (j + 1) (val8 bs ^^^ 4294967295)) := by
              show _ = _
              rw [crcN_succ]; exact crc_odd HX3.out (by simpa using hbit.symm)
            clear hbit hb hjl hf
            have HN3 := Lib.hid (rfl : num l3 = num l3)
            obtain ⟨B, hB⟩ : ∃ B, num l3 = B := ⟨_, rfl⟩
            rw [hB] at HX4
            have HBe := Lib.hid hB
            clear hB HN3
            go_wp2
            clear hc
            go_loopg [9] 15 (fun g' s9 wx => ∃ (k : Nat) (l : List Bool), k + g' = 15 ∧ s9 = .int .i64 k ∧ Hid (Divs w g cap (8 * n + 32) ga wx l) ∧ Hid (num l = B ^^^ crcG k * 2 ^ j))
            case atStart => exact ⟨0, l3, by omega, rfl, HD3, by show _ = _; rw [HBe.out]; simp [crcG]⟩
            case round =>
              obtain ⟨k, l4, hkg, rfl, HD4, HX5⟩ := hrel
              by_cases hk : k < 15
              · have hka : k < crcAts.length := hk
                obtain ⟨a, ha⟩ : ∃ a, crcAts[k] = a := ⟨_, rfl⟩
                have ha32 : a ≤ 32 := by rw [← ha]; exact crcAts_le k hka
                have hca := HD4.out.ats k hka
                rw [ha] at hca
                have hpl : j + a < l4.length := by rw [HD4.out.len]; omega
                obtain ⟨hcb, hfb⟩ := HD4.out.at_ hpl
                have HG : Hid (crcG (k + 1) = crcG k ^^^ 2 ^ a) := by show _ = _; rw [crcG_step k hka, ha]
                have HF := Lib.hid (HD4.out.flip hne (j + a) (!l4[j + a]))
                have HX6 : Hid (num (l4.set (j + a) (!l4[j + a])) = B ^^^ crcG (k + 1) * 2 ^ j) := by
                  show _ = _
                  rw [num_flip hpl, HX5.out, HG.out, xor_scale, ← Nat.xor_assoc, Nat.pow_add, Nat.mul_comm (2 ^ j)]
                obtain ⟨bb, hbb⟩ : ∃ bb, l4[j + a] = bb := ⟨_, rfl⟩
                rw [hbb] at hcb HF HX6
                have tk : decide ((k : Int) < 15) = true := by simp; omega
                clear hbb ha hka hpl
                go_wp2
                go_region
                go_wp2
                go_roundg (gk - 1)
                case measure => omega
                case rel => exact ⟨k + 1, _, by omega, by go_num, HF.out.drew, HX6⟩
              · have tk : decide ((k : Int) < 15) = false := by simp; omega
                obtain rfl : k = 15 := by omega
                have HX7 : Hid (num l4 / 2 ^ (j + 1) = crcN (j + 1) (val8 bs ^^^ 4294967295)) := by show _ = _; rw [HX5.out]; exact HX4.out
                go_wp2
                go_roundg (8 * n - (j + 1))
                case measure => omega
                case rel => exact ⟨j + 1, l4, by omega, by go_num, HD4, HX7⟩
        · have hj8 : j = 8 * n := by omega
          have tj : decide ((j : Int) < 8 * (n : Int)) = false := by simp; omega
          obtain ⟨T, hT⟩ : ∃ T, l3.drop (8 * n) = T := ⟨_, rfl⟩
          have hTl : T.length = 32 := by rw [← hT, List.length_drop, HD3.out.len]; omega
          have hTn : num T = crcN (8 * n) (val8 bs ^^^ 4294967295) := by rw [← hT, num_drop, ← hj8, HX3.out]
          have hTc : ∀ t (ht : t < T.length), wr.cell? ⟨g, 8 * n + t, none⟩ = some (.bool T[t]) := by
            intro t ht
            have hp : 8 * n + t < l3.length := by rw [HD3.out.len]; omega
            rw [(HD3.out.at_ hp).1]
            simp only [← hT, List.getElem_drop]
          have HR : Hid (crcOf bs = num (T.map (!·))) := by
            show _ = _
            rw [num_not32 hTl, hTn, crcOf_whole HB.out, HL.out, Nat.xor_comm (val8 bs)]
          have HTC := Lib.hid hTc
          have HTL := Lib.hid hTl
          have HBL := Lib.hid HD3.out.bel
          clear hT hTl hTn hTc HD3 HX3 hj8
          obtain ⟨W3, hW3⟩ : ∃ W3, wr = W3 := ⟨_, rfl⟩
          subst hW3
          go_wp2
          go_loopg [10, 11] 32 (fun g' s10 s11 wx => ∃ (t v : Nat) (i : Int), t = g' ∧ t ≤ 32 ∧ i + 1 = (t : Int) ∧ s11 = .int .i64 i ∧ s10 = .int .u32 v ∧ v < 2 ^ (32 - t) ∧ Hid (v = num ((T.drop t).map (!·))) ∧ Hid (wr = wx))
          case atStart => exact ⟨32, 0, 31, rfl, by omega, by omega, rfl, rfl, by simp, by show _ = _; rw [List.drop_eq_nil_of_le (by rw [HTL.out]; omega)]; rfl, rfl⟩
          case round =>
            obtain ⟨t, v, i2, rfl, ht32, hi2, rfl, rfl, hv, HV, HW⟩ := hrel
            cases t with
            | zero =>
              have ti2 : decide ((0 : Int) ≤ i2) = false := by simp; omega
              have HI2 := Lib.hid hi2
              clear hi2
              go_wp2
              go_ret
              refine ⟨ret_int ?_, by rw [← HW.out]; exact HBL.out⟩
              rw [HR.out, HV.out]; rfl
            | succ t =>
              obtain rfl : i2 = (t : Int) := by omega
              have htT : t < T.length := by rw [HTL.out]; omega
              have hc := HTC.out t htT
              rw [HW.out] at hc
              have hv31 : v < 2147483648 := by
                have : 2 ^ (32 - (t + 1)) ≤ 2 ^ 31 := Nat.pow_le_pow_right (by decide) (by omega)
                omega
              have HV2 : Hid (num ((T.drop t).map (!·)) = (!T[t]).toNat + 2 * v) := by
                show _ = _
                rw [List.drop_eq_getElem_cons htT, List.map_cons, num, HV.out]
              have hv2 : 2 * v + 1 < 2 ^ (32 - t) := by
                rw [show 32 - t = 32 - (t + 1) + 1 by omega, Nat.pow_succ]
                omega
              cases hb : T[t] with
              | false =>
                rw [hb] at hc HV2
                clear hb htT hi2
                go_wp2
                go_roundg t
                case measure => omega
                case rel => exact ⟨t, 2 * v + 1, (t : Int) - 1, rfl, by omega, by omega, by go_num, by go_num, hv2, by show _ = _; rw [HV2.out]; simp; omega, HW⟩
              | true =>
                rw [hb] at hc HV2
                clear hb htT hi2
                go_wp2
                go_roundg t
                case measure => omega
                case rel => exact ⟨t, 2 * v, (t : Int) - 1, rfl, by omega, by omega, by go_num, by go_num, by omega, by show _ = _; rw [HV2.out]; simp, HW⟩
end Go.Proofs.Ytbmdgoljjffjdaa
