/- Of any number of symbols, any symbols and any number ModelMany answers true: symbols that are counted together are as if counted one behind the other; with one that is none nothing is counted. Conditions: none. -/
import Derived.Test.YtpflaejojfoeaaaKnown05
import Derived.Test.YtpflaejojfoeaaaLaw
namespace Go.Proofs.Ytpflaejojfoeaaa.modelMany
open Go.ChangeShapes Go.WideShapes Go.ChangeAt Go.RowKit

theorem all_ok {K : Nat} (h1 : 1 ≤ K) (l : List Nat) : countAll (List.replicate K 1) (l.map fun x => ((x % K : Nat) : Int)) = (cntd K l, 0) := by
  rw [countAll_ok fun x hx => by
    obtain ⟨y, _, rfl⟩ := List.mem_map.1 hx
    have := Nat.mod_lt y (show 0 < K by omega)
    rw [List.length_replicate]; omega]
  unfold cntd
  rw [List.map_map]
  rfl
theorem all_bad {cs : List Nat} {l : List Int} {b : Int} (h : b < 0 ∨ (cs.length : Int) ≤ b) : countAll cs (l ++ [b]) = (cs, 2) := by
  unfold countAll
  rw [if_neg fun h' => by have := h' b (by simp); omega]
set_option maxRecDepth 100000 in
set_option maxHeartbeats 1000000 in
theorem walk (a0 : Int) (A : Option Addr) (m c : Nat) (l : List Nat) (s : Int) (w : World) (ha : 0 ≤ a0 ∧ a0 ≤ 255) (hh : Has w A m c (u16s l)) (hl : ∀ x ∈ l, x < 65536) (hm : m ≤ 9223372036854775807) (_hs : -9223372036854775808 ≤ s ∧ s ≤ 9223372036854775807) :
    Calls Try.prog 6 #[.int .u8 a0, .slice A m c, .int .i64 s] w fun e w' => e = .returned (.bool true) ∧ Below w.heap.size w w' := by
  obtain ⟨N, rfl⟩ := Int.eq_ofNat_of_zero_le ha.1
  by_cases hlo : 900 < m
  · have t : decide ((900 : Int) < (m : Int)) = true := by simp; omega
    clear hh hl
    go_enter Try.func6, Try.ntmps6
    go_wp2_with (go_at_call 10; refine (known05 _).mono ?_; rintro e w' ⟨rfl, hb⟩)
    go_ret
    exact ⟨rfl, hb⟩
  have t : decide ((900 : Int) < (m : Int)) = false := by simp; omega
  obtain ⟨K, hK⟩ : ∃ K : Nat, (1 : Int) + (N : Int) = (K : Int) := ⟨1 + N, by simp⟩
  have hK1 : 1 ≤ K := by omega
  have hK2 : K ≤ 256 := by omega
  have HCt := Lib.hid (counted_any K A m c l w hh hl (by omega) hK1 hK2)
  have HH := Lib.hid hh
  have HL : Hid (l.length = m) := by have := hh.len; rw [u16s_len] at this; exact this
  have HLb := Lib.hid hl
  have HCs := Lib.hid (cntd_ok hK1 hK2 l)
  have HCl := Lib.hid (cntd_len K l)
  clear hh hl
  go_enter Try.func6, Try.ntmps6
  go_wp2_with fail
  refine HCt.out.mono ?_
  rintro e w1 ⟨p, S, A1, c1, rfl, hf1, hr1, hS1, hb1⟩
  have HF1 := Lib.hid hf1
  have HR1 := Lib.hid hr1
  have HS1 := Lib.hid hS1
  have HB1 := Lib.hid hb1
  clear hf1 hr1 hS1 hb1 HCt
  clear HR1
  have HAo := Lib.hid (all_ok hK1 l)
  have HAb := Lib.hid (fun h => all_bad (cs := cntd K l) (l := l.map fun x => ((x % K : Nat) : Int)) (b := s) h)
  rw [HCl.out] at HAb
  have HRp := Lib.hid (Cnts.new hK1 hK2)
  generalize cntd K l = cs at *
  go_wp2_with fail
  refine (modelNew_any K w1 hK1 hK2).mono ?_
  rintro e w2 ⟨q, T, rfl, hg2, hT2, hb2⟩
  have HG2 := Lib.hid hg2
  have HF2 := Lib.hid (HF1.out.chg (D := fun _ => False) (Chg.of_below hb2) (fun _ _ h => h))
  have HB2 := Lib.hid (new_call HB1.out hb2)
  have hz1 := HB1.out.size
  have hz12 := hb2.size
  have HT : Hid (∀ k, T k → w.heap.size ≤ k) := fun k hk => by have := hT2 k hk; omega
  have HN : Hid (∀ k, S k → ¬ T k) := fun k hk h => by have := hT2 k h; have := HF1.out.sit k hk; omega
  clear hg2 hT2 hb2 HF1 HB1
  have hn0 : ¬ (K : Int) = 0 := by omega
  go_wp2
  go_loopg [12, 13] m (fun g s12 s13 wx => ∃ i : Nat, i + g = m ∧ s13 = .int .i64 i ∧ Hid (Own wx w2.heap.size 3 s12 (intVs ((l.take i).map fun x => ((x % K : Nat) : Int)))) ∧ Hid (Below w2.heap.size w2 wx))
  case atStart => exact ⟨0, by omega, rfl, Own.nil _ _ _, Below.refl _ _⟩
  case round =>
    obtain ⟨i, hig, rfl, HO, HBx⟩ := hrel
    have hzx := HBx.out.size
    by_cases hi : i < m
    · have hil : i < l.length := by rw [HL.out]; exact hi
      have ti : decide ((i : Int) < (m : Int)) = true := by simp; omega
      obtain ⟨b, off, rfl, hlt, hc⟩ := HH.out.spot (by omega)
      have hc0 := hc i _ (u16s_at hil)
      have hcell := ((new_call HB2.out HBx.out).cell (p := ⟨b, off + i, none⟩) hlt).trans hc0
      have hx := HLb.out _ (List.getElem_mem hil)
      have HSn : Hid (intVs ((l.take i).map fun x => ((x % K : Nat) : Int)) ++ intVs [((l[i] % K : Nat) : Int)] = intVs ((l.take (i + 1)).map fun x => ((x % K : Nat) : Int))) := by
        show _ = _
        rw [← intVs_app, List.take_succ_eq_append_getElem hil, List.map_append]; rfl
      obtain ⟨k, hk⟩ : ∃ k, l[i] % K = k := ⟨_, rfl⟩
      have hq : ((l[i] : Nat) : Int) % (K : Int) = (k : Int) := by rw [← hk, Int.natCast_emod]
      rw [hk] at HSn
      clear hc hk hc0
      generalize l[i] = x at *
      go_wp2_with (at_builtin
                   refine wpList_join rfl _ _ 25 rfl elemI w2.heap.size _ _ rfl (HO.out.alloc _) _ 1 1 (intVs [(k : Int)]) rfl (Has.one _ _ _) (intVs_one _) (by simp [intVs_len, List.length_take]; omega) (by decide) (by simp; omega) ?_
                   intro v3 w3 hown3 hbel3
                   rw [HSn.out] at hown3
                   have HO3 := Lib.hid hown3
                   have HB3 := Lib.hid ((new_alloc HBx.out _).trans hbel3)
                   clear hown3 hbel3)
      go_roundg (gk - 1)
      case measure => omega
      case rel => exact ⟨i + 1, by omega, by go_num, HO3, HB3⟩
    · have ti : decide ((i : Int) < (m : Int)) = false := by simp; omega
      rw [List.take_of_length_le (by rw [HL.out]; omega)] at HO
      have hlx : (l.map fun x => ((x % K : Nat) : Int)).length = m := by rw [List.length_map, HL.out]
      generalize (l.map fun x => ((x % K : Nat) : Int)) = xs at *
      obtain ⟨A3, c3, hv, hh3⟩ := HO.out.has
      subst hv
      rw [intVs_len, hlx] at HO hh3
      simp only [intVs_len, hlx]
      have HF3 := Lib.hid (HF2.out.chg (D := fun _ => False) (Chg.of_below HBx.out) (fun _ _ h => h))
      have HG3 := Lib.hid (HG2.out.chg (D := fun _ => False) (Chg.of_below HBx.out) (fun _ _ h => h))
      have HB3 := Lib.hid (new_call HB2.out HBx.out)
      have HRo := Lib.hid (Rob.row (D := T) HO.out HG2.out.sit)
      have HRh : Hid (Rob T wr fun W => Has W A3 m c3 (intVs xs)) := HRo.out.map fun W h => by
        obtain ⟨A4, c4, e4, h4⟩ := h.has
        rw [intVs_len, hlx] at e4 h4
        cases e4
        exact h4
      have HLt := Lib.hid (World.ownsRow.lt HO.out)
      have hsW : ∀ k, S k → k < w2.heap.size := HF2.out.sit
      have htW : ∀ k, T k → k < w2.heap.size := HG2.out.sit
      clear HF2 HG2 HB2 hh3
      go_wp2_with fail
      refine (modelCount_any q T _ A3 m c3 xs wr HG3.out HRp.out HRh.out (by omega)).mono ?_
      rintro e w4 ⟨T4, rfl, hg4, hc4, ht4⟩
      rw [HAo.out] at hg4 ⊢
      have HG4 := Lib.hid hg4
      have HF4 := Lib.hid (HF3.out.chg hc4 HN.out)
      have HO4 := Lib.hid (Rob.chg (G' := fun _ => False) (fun _ _ hb h => Own.keep h hb) HRo.out hc4 fun _ _ h => h.elim).here
      have HB4 : Hid (Below w.heap.size w w4) := HB3.out.trans (hc4.below HT.out HB3.out.size)
      have hz34 := hc4.size
      have HT4 : Hid (∀ k, T4 k → k < w2.heap.size ∨ wr.heap.size ≤ k) := fun k hk => by
        rcases ht4 k hk with h | h
        · exact Or.inl (htW k h)
        · exact Or.inr h
      have HT4w : Hid (∀ k, T4 k → w.heap.size ≤ k) := fun k hk => by
        rcases ht4 k hk with h | h
        · exact HT.out k h
        · have := HB3.out.size; omega
      have HNT : Hid (∀ k, S k → ¬ T4 k) := fun k hk h => by
        rcases ht4 k h with h' | h'
        · exact HN.out k hk h'
        · have := hsW k hk; omega
      clear hg4 hc4 ht4 HRo HRh HG3 HF3 HB3 HO
      by_cases hb : s < 0 ∨ (K : Int) ≤ s
      · have HAb2 := Lib.hid (HAb.out hb)
        have tb : (decide (s < 0) = true) ∨ (decide (s < 0) = false ∧ decide ((K : Int) ≤ s) = true) := by
          by_cases h : s < 0
          · exact Or.inl (by simpa using h)
          · exact Or.inr ⟨by simpa using h, by simp; omega⟩
        clear HAb hb
        rcases tb with t1 | ⟨t1, t2⟩
        all_goals
          go_wp2_with (at_builtin
                       refine wpList_joinG rfl _ _ 25 rfl elemI w2.heap.size _ _ rfl (HO4.out.alloc _) _ 1 1 (intVs [s]) rfl (Has.one _ _ _) (intVs_one _) (by rw [intVs_len, hlx]; omega) (by decide) (by simp; omega) ?_
                       intro v5 w5 hown5 hbel5 hgr5 hwh5
                       rw [← intVs_app] at hown5
                       have hA : Below w4.heap.size w4 (w4.alloc (.cells #[.int .i64 s] 3)) := new_alloc (Below.refl _ _) _
                       have hG5 := (HG4.out.chg (D := fun _ => False) (Chg.of_below hA) (fun _ _ h => h)).chg (Chg.of_grown hgr5) fun k hk h => by
                         have := HLt.out k h
                         rcases HT4.out k hk with h' | h' <;> omega
                       have hF5 := (HF4.out.chg (D := fun _ => False) (Chg.of_below hA) (fun _ _ h => h)).chg (Chg.of_grown hgr5) fun k hk h => by
                         have := HLt.out k h
                         have := hsW k hk
                         omega
                       have HG5 := Lib.hid hG5
                       have HF5 := Lib.hid hF5
                       have HO5 := Lib.hid hown5
                       have HW5 : Hid (∀ g, v5.ownBlock = some g → ¬ T4 g) := fun g hg ht => by
                         have h6 := HG4.out.sit g ht
                         rcases hwh5 g hg with h | h
                         · have := HLt.out g h
                           rcases HT4.out g ht with h' | h' <;> omega
                         · have := hA.size; omega
                       have HB5 : Hid (Below w.heap.size w w5) := (new_alloc HB4.out _).trans (hbel5.mono (by omega))
                       clear hown5 hbel5 hgr5 hwh5 hA hG5 hF5 HG4 HF4 HO4 HB4)
          obtain ⟨A5, c5, hv5, hh5⟩ := HO5.out.has
          subst hv5
          have hl5 : (intVs (xs ++ [s])).length = m + 1 := by rw [intVs_len, List.length_append, hlx]; rfl
          rw [hl5] at hh5 HO5
          simp only [hl5]
          have HRb : Hid (Rob T4 w5 fun W => Has W A5 (m + 1) c5 (intVs (xs ++ [s]))) := fun W hW => by
            refine ⟨hh5.len, hh5.cap, hh5.bare, fun hn => ?_⟩
            obtain ⟨b, off, hA, hlt, hc⟩ := hh5.spot hn
            subst hA
            refine ⟨b, off, rfl, by rw [hW.size]; exact hlt, fun j u hu => ?_⟩
            have hbk := hW.block b (HW5.out b rfl)
            exact (World.cell?_of_block (w := w5) (a := ⟨b, off + j, none⟩) hbk).trans (hc j u hu)
          clear hh5 HO5
          have HCo := Lib.hid (modelCount_any q T4 cs A5 (m + 1) c5 (xs ++ [s]) w5 HG5.out HCs.out HRb.out (by omega))
          rw [HAb2.out] at HCo
          refine HCo.out.mono ?_
          rintro e w6 ⟨T6, rfl, hg6, hc6, ht6⟩
          have HGx := Lib.hid hg6
          have HFx := Lib.hid (HF5.out.chg hc6 fun k hk h => by
            have := hsW k hk
            rcases HT4.out k h with h' | h'
            · exact HNT.out k hk h
            · omega)
          have HBx : Hid (Below w.heap.size w w6) := HB5.out.trans (hc6.below HT4w.out HB5.out.size)
          clear hg6 hc6 ht6 HG5 HF5 HB5
          go_wp2
          go_loopg [16] K (fun g s16 wx => ∃ i : Nat, i + g = K ∧ s16 = .int .i64 i ∧ Hid (Mdl wx p S cs) ∧ Hid (Mdl wx q T6 cs) ∧ Hid (Below w.heap.size w wx))
          case atStart => exact ⟨0, by omega, rfl, HFx, HGx, HBx⟩
          case round =>
            obtain ⟨i, hig, rfl, HF6, HG6, HB6⟩ := hrel
            clear HFx HGx HBx
            by_cases hi : i < K
            · have ti : decide ((i : Int) < (K : Int)) = true := by simp; omega
              go_wp2_with fail
              refine (modelShare_any p S cs _ wr HF6.out HCs.out).mono ?_
              rintro e w7 ⟨rfl, hb7⟩
              have HF7 := Lib.hid (HF6.out.chg (D := fun _ => False) (Chg.of_below hb7) (fun _ _ h => h))
              have HG7 := Lib.hid (HG6.out.chg (D := fun _ => False) (Chg.of_below hb7) (fun _ _ h => h))
              have HB7 := Lib.hid (new_call HB6.out hb7)
              clear hb7 HF6 HG6 HB6
              go_wp2_with fail
              refine (modelShare_any q T6 cs _ w7 HG7.out HCs.out).mono ?_
              rintro e w8 ⟨rfl, hb8⟩
              have HF8 := Lib.hid (HF7.out.chg (D := fun _ => False) (Chg.of_below hb8) (fun _ _ h => h))
              have HG8 := Lib.hid (HG7.out.chg (D := fun _ => False) (Chg.of_below hb8) (fun _ _ h => h))
              have HB8 := Lib.hid (new_call HB7.out hb8)
              clear hb8 HF7 HG7 HB7
              generalize shareN cs (i : Int) = r at *
              go_wp2
              go_roundg (gk - 1)
              case measure => omega
              case rel => exact ⟨i + 1, by omega, by go_num, HF8, HG8, HB8⟩
            · have ti : decide ((i : Int) < (K : Int)) = false := by simp; omega
              go_wp2_with (go_at_call 10; refine (known05 _).mono ?_; rintro e w' ⟨rfl, hb⟩)
              go_ret
              exact ⟨rfl, new_call HB6.out hb⟩
      · have t1 : decide (s < 0) = false := by simp; omega
        have t2 : decide ((K : Int) ≤ s) = false := by simp; omega
        clear HAb hb
        go_wp2_with (at_builtin
                     refine wpList_joinG rfl _ _ 25 rfl elemI w2.heap.size _ _ rfl (HO4.out.alloc _) _ 1 1 (intVs [s]) rfl (Has.one _ _ _) (intVs_one _) (by rw [intVs_len, hlx]; omega) (by decide) (by simp; omega) ?_
                     intro v5 w5 hown5 hbel5 hgr5 hwh5
                     rw [← intVs_app] at hown5
                     have hA : Below w4.heap.size w4 (w4.alloc (.cells #[.int .i64 s] 3)) := new_alloc (Below.refl _ _) _
                     have hG5 := (HG4.out.chg (D := fun _ => False) (Chg.of_below hA) (fun _ _ h => h)).chg (Chg.of_grown hgr5) fun k hk h => by
                       have := HLt.out k h
                       rcases HT4.out k hk with h' | h' <;> omega
                     have hF5 := (HF4.out.chg (D := fun _ => False) (Chg.of_below hA) (fun _ _ h => h)).chg (Chg.of_grown hgr5) fun k hk h => by
                       have := HLt.out k h
                       have := hsW k hk
                       omega
                     have HG5 := Lib.hid hG5
                     have HF5 := Lib.hid hF5
                     have HO5 := Lib.hid hown5
                     have HW5 : Hid (∀ g, v5.ownBlock = some g → ¬ T4 g) := fun g hg ht => by
                       have h6 := HG4.out.sit g ht
                       rcases hwh5 g hg with h | h
                       · have := HLt.out g h
                         rcases HT4.out g ht with h' | h' <;> omega
                       · have := hA.size; omega
                     have HB5 : Hid (Below w.heap.size w w5) := (new_alloc HB4.out _).trans (hbel5.mono (by omega))
                     clear hown5 hbel5 hgr5 hwh5 hA hG5 hF5 HG4 HF4 HO4 HB4)
        obtain ⟨A5, c5, hv5, hh5⟩ := HO5.out.has
        subst hv5
        have hl5 : (intVs (xs ++ [s])).length = m + 1 := by rw [intVs_len, List.length_append, hlx]; rfl
        rw [hl5] at hh5 HO5
        simp only [hl5]
        have HRb : Hid (Rob T4 w5 fun W => Has W A5 (m + 1) c5 (intVs (xs ++ [s]))) := fun W hW => by
          refine ⟨hh5.len, hh5.cap, hh5.bare, fun hn => ?_⟩
          obtain ⟨b, off, hA, hlt, hc⟩ := hh5.spot hn
          subst hA
          refine ⟨b, off, rfl, by rw [hW.size]; exact hlt, fun j u hu => ?_⟩
          have hbk := hW.block b (HW5.out b rfl)
          exact (World.cell?_of_block (w := w5) (a := ⟨b, off + j, none⟩) hbk).trans (hc j u hu)
        clear hh5 HO5
        have HFx := HF5
        have HGx := HG5
        have HBx := HB5
        clear HF5 HG5 HB5
        go_loopg [16] K (fun g s16 wx => ∃ i : Nat, i + g = K ∧ s16 = .int .i64 i ∧ Hid (Mdl wx p S cs) ∧ Hid (Mdl wx q T4 cs) ∧ Hid (Below w.heap.size w wx))
        case atStart => exact ⟨0, by omega, rfl, HFx, HGx, HBx⟩
        case round =>
          obtain ⟨i, hig, rfl, HF6, HG6, HB6⟩ := hrel
          clear HFx HGx HBx
          by_cases hi : i < K
          · have ti : decide ((i : Int) < (K : Int)) = true := by simp; omega
            go_wp2_with fail
            refine (modelShare_any p S cs _ wr HF6.out HCs.out).mono ?_
            rintro e w7 ⟨rfl, hb7⟩
            have HF7 := Lib.hid (HF6.out.chg (D := fun _ => False) (Chg.of_below hb7) (fun _ _ h => h))
            have HG7 := Lib.hid (HG6.out.chg (D := fun _ => False) (Chg.of_below hb7) (fun _ _ h => h))
            have HB7 := Lib.hid (new_call HB6.out hb7)
            clear hb7 HF6 HG6 HB6
            go_wp2_with fail
            refine (modelShare_any q T4 cs _ w7 HG7.out HCs.out).mono ?_
            rintro e w8 ⟨rfl, hb8⟩
            have HF8 := Lib.hid (HF7.out.chg (D := fun _ => False) (Chg.of_below hb8) (fun _ _ h => h))
            have HG8 := Lib.hid (HG7.out.chg (D := fun _ => False) (Chg.of_below hb8) (fun _ _ h => h))
            have HB8 := Lib.hid (new_call HB7.out hb8)
            clear hb8 HF7 HG7 HB7
            generalize shareN cs (i : Int) = r at *
            go_wp2
            go_roundg (gk - 1)
            case measure => omega
            case rel => exact ⟨i + 1, by omega, by go_num, HF8, HG8, HB8⟩
          · have ti : decide ((i : Int) < (K : Int)) = false := by simp; omega
            go_wp2_with (go_at_call 10; refine (known05 _).mono ?_; rintro e w' ⟨rfl, hb⟩)
            go_ret
            exact ⟨rfl, new_call HB6.out hb⟩

set_option maxRecDepth 100000 in
theorem lifted (os : Os) (started : os.Started) (H : Type) (enc : TypeId × Value → H) :
    ReturnsInHanded {} Try.checked os 6 .any (Rows.modelManySpec.pre6 enc Try.prog Try.f6 Rows.modelManyRow.domain false) (Rows.modelManySpec.post enc Try.prog Try.f6 false true false false) := by
  refine returnsInHanded_of_change (C := Try.checked) Try.own started (by kernel_rfl) Try.func6
    (ChangeSpec.witness6 (enc := enc) (C := Try.checked) false ⟨#[], #[.int .u8 0, .slice none 0 0, .int .i64 0], []⟩ 8 (by kernel_rfl) (by kernel_rfl) (by kernel_rfl) (by kernel_rfl)) ?_
  intro W base args ds gs before hval0 hW _ _
  have hval : ∀ (j : Nat) t v, Try.f6.params[j]? = some t → args[j]? = some v → Value.okWide Try.prog W .any base t v := hval0
  have hW' := hW
  obtain ⟨p, q, hA0, hV, rfl, _, _⟩ := hW
  have hA : DataW.TrodAll enc Try.prog W 0 (fun _ => true) true Try.f6.params.toList args.toList ds p := hA0
  rw [Try.params6] at hA hval
  obtain ⟨v0, v1, v2, d0, d1, d2, p0, p1, p2, rfl, rfl, rfl, h0, h1, h2⟩ := trodAll_three hA
  obtain ⟨rfl, rfl⟩ := trodVars_none hV
  obtain ⟨a0, rfl, rfl, rfl, w0⟩ := open_int Try.underlying5 (hval 0 5 v0 rfl rfl) h0
  obtain ⟨A1, n1, c1, bs1, rfl, hh1, hb1, hn1⟩ := open_shorts (hval 1 22 v1 rfl rfl) h1
  obtain ⟨a2, rfl, rfl, rfl, w2⟩ := open_int Try.underlying3 (hval 2 3 v2 rfl rfl) h2
  exact (walk a0 A1 n1 c1 bs1 a2 W (wf_u8 w0) hh1 hb1 hn1 (wf_i64 w2)).mono fun e W' he =>
    law_post rfl rfl (by rw [Try.params6]; intro t ht; simp at ht; rcases ht with rfl | rfl | rfl <;> exact ⟨by kernel_rfl, of_decide_eq_true (by kernel_rfl)⟩) hW' rfl he

theorem proved : Rows.ModelManySaid :=
  OpenClaim.holds_of_wide 6 Try.f6 rfl rfl rfl rfl rfl rfl rfl ⟨rfl, rfl, rfl, rfl, rfl⟩ rfl rfl rfl rfl rfl (by kernel_rfl) Try.func6 (by kernel_rfl)
    (of_decide_eq_true (by kernel_rfl)) (by unfold Func.isWrapper; first | (rw [if_pos (by decide +kernel)]; kernel_rfl) | (rw [if_neg (by decide +kernel)]; exact ⟨rfl, rfl⟩))
    (fun os started H enc _ => lifted os started H enc)
end Go.Proofs.Ytpflaejojfoeaaa.modelMany
