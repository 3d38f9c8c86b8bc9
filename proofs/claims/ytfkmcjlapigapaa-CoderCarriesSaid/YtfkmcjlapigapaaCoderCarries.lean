/- Of any bytes and any number of bits CoderCarries answers true: plain symbols are read as they were, however often they carry. Conditions: none. -/
import Derived.Test.YtfkmcjlapigapaaKnown06
import Derived.Test.YtfkmcjlapigapaaLawCodes
import Derived.Test.YtfkmcjlapigapaaCoderLaw
namespace Go.Proofs.Ytfkmcjlapigapaa.coderCarries
open Go.ChangeShapes Go.WideShapes Go.ChangeAt Go.RowKit

theorem OwnK.chg6 {k : Nat} {w w' : World} {base : Nat} {e : TypeId} {v : Value} {n : Nat} {xs : List Value} {D : Nat → Prop} (h : OwnK k w base e v n xs) (hc : Chg D w w') (hd : ∀ g, v.ownBlock = some g → ¬ D g) : OwnK k w' base e v n xs := by
  refine ⟨h.1, ?_⟩
  rcases h.2 with h1 | ⟨g', cap, cur, h1, h2, h3, h4⟩
  · exact Or.inl h1
  · refine Or.inr ⟨g', cap, cur, h1, h2, (hc.block g' (World.ownsRow.lt h g' (by rw [h1]; rfl)).2 (hd g' (by rw [h1]; rfl))).trans h3, h4⟩
/-- The symbols of the law. -/
def symsC (k : Nat) (l : List Nat) : List Cod := l.map fun (x : Nat) => (-(k : Int), ((x * 257 % 2 ^ k : Nat) : Int))
theorem symsC_app (k : Nat) (l r : List Nat) : symsC k (l ++ r) = symsC k l ++ symsC k r := by simp [symsC]
set_option maxRecDepth 100000 in
set_option maxHeartbeats 2000000 in
theorem walk (A : Option Addr) (n c : Nat) (l : List Nat) (a1 : Int) (w : World) (hh : Has w A n c (u8s l)) (hb0 : ∀ x ∈ l, x < 256) (hn : n ≤ 9223372036854775807) (ha : 0 ≤ a1 ∧ a1 ≤ 255) :
    Calls Try.prog 7 #[.slice A n c, .int .u8 a1] w fun e w' => e = .returned (.bool true) ∧ Below w.heap.size w w' := by
  by_cases h1 : 200 < n
  · have t : decide ((200 : Int) < (n : Int)) = true := by simp; omega
    clear hh hb0
    go_enter Try.func7, Try.ntmps7
    go_wp2_with (go_at_call 11; refine (known06 _).mono ?_; rintro e w' ⟨rfl, hb⟩)
    go_ret
    exact ⟨rfl, hb⟩
  have t1 : decide ((200 : Int) < (n : Int)) = false := by simp; omega
  obtain ⟨N, rfl⟩ := Int.eq_ofNat_of_zero_le ha.1
  obtain ⟨k, hk⟩ : ∃ k : Nat, (1 : Int) + (N : Int) % 16 = (k : Int) := ⟨1 + N % 16, by omega⟩
  have hk1 : 1 ≤ k := by omega
  have hk2 : k ≤ 16 := by omega
  have HL : Hid (l.length = n) := by have := hh.len; rw [u8s_len] at this; exact this
  have HH := Lib.hid hh
  have HBy := Lib.hid hb0
  clear hh hb0
  go_enter Try.func7, Try.ntmps7
  go_wp2
  go_loopg [6, 7, 8] n (fun g s6 s7 s8 wx => ∃ (i : Nat) (A6 : Option Addr) (c6 : Nat) (A7 : Option Addr) (c7 : Nat), i + g = n ∧ s8 = .int .i64 i ∧ s6 = .slice A6 i c6 ∧ s7 = .slice A7 i c7 ∧ Hid (OwnK 2 wx w.heap.size 41 (.slice A6 i c6) i (codCells (symsC k (l.take i)))) ∧ Hid (OwnK 1 wx w.heap.size 3 (.slice A7 i c7) i (intVs (List.replicate i (-(k : Int))))) ∧ Hid (∀ g, (Value.slice A6 i c6).ownBlock = some g → (Value.slice A7 i c7).ownBlock ≠ some g) ∧ Hid (Below w.heap.size w wx))
  case atStart => exact ⟨0, none, 0, none, 0, by omega, rfl, rfl, rfl, OwnK.nil _ _ _ _, OwnK.nil _ _ _ _, (fun g hg => by cases hg), Below.refl _ _⟩
  case round =>
    obtain ⟨i, A6, c6, A7, c7, hig, rfl, rfl, rfl, HO, HM, HDj, HB⟩ := hrel
    have hz := HB.out.size
    by_cases hi : i < n
    · have ti : decide ((i : Int) < (n : Int)) = true := by simp; omega
      have hil : i < l.length := by rw [HL.out]; exact hi
      obtain ⟨b, off, rfl, hlt, hc⟩ := (HH.out.kept HB.out).spot (by omega)
      have hcell := hc i _ (u8s_at hil)
      have hx := HBy.out _ (List.getElem_mem hil)
      have HS : Hid (codCells (symsC k (l.take i)) ++ codCells (symsC k [l[i]]) = codCells (symsC k (l.take (i + 1)))) := by
        show _ = _
        rw [← codCells_app, ← symsC_app, List.take_succ_eq_append_getElem hil]
      clear hc
      generalize l[i] = x at *
      clear hil
      obtain ⟨p, hp⟩ : ∃ p, 2 ^ k = p := ⟨_, rfl⟩
      have hpl : p ≤ 65536 := by rw [← hp]; exact Nat.pow_le_pow_right (by decide) hk2
      have hpg : 0 < p := by rw [← hp]; exact Nat.two_pow_pos k
      obtain ⟨s, hs⟩ : ∃ s, x * 257 % p = s := ⟨_, rfl⟩
      have hsl : s < p := by rw [← hs]; exact Nat.mod_lt _ hpg
      have HSy : Hid (symsC k [x] = [(-(k : Int), (s : Int))]) := by show _ = _; unfold symsC; rw [hp]; simp only [List.map_cons, List.map_nil]; rw [hs]
      rw [HSy.out] at HS
      have g1 : IntKind.wrap .i64 (-(k : Int)) = -(k : Int) := by rw [IntKind.wrap_i64]; omega
      have g2 : IntKind.wrap .i64 (x : Int) = (x : Int) := by rw [IntKind.wrap_i64]; omega
      have g3 : IntKind.wrap .i64 ((x : Int) * 257) = (x : Int) * 257 := by rw [IntKind.wrap_i64]; omega
      have g4 : IntKind.wrap .i64 ((2 : Int) ^ k) = (p : Int) := by
        rw [show ((2 : Int) ^ k) = (p : Int) by rw [← hp]; simp, IntKind.wrap_i64]; omega
      have g5 : ¬ (p : Int) = 0 := by omega
      have g7 : ¬ p = 0 := by omega
      have g6 : ((x : Int) * 257).tmod (p : Int) = (s : Int) := by
        rw [show ((x : Int) * 257) = ((x * 257 : Nat) : Int) by simp, ← Int.ofNat_tmod, hs]
      have HO1 : Hid (OwnK 2 (wr.alloc (.cells #[.int .i64 (-(k : Int)), .int .i64 (s : Int)] 41)).drew w.heap.size 41 (.slice A6 i c6) i (codCells (symsC k (l.take i)))) := HO.out.alloc (.cells #[.int .i64 (-(k : Int)), .int .i64 (s : Int)] 41)
      have HN1 : Hid (HasK 2 (wr.alloc (.cells #[.int .i64 (-(k : Int)), .int .i64 (s : Int)] 41)).drew (some ⟨wr.heap.size, 0, none⟩) 1 1 (codCells [(-(k : Int), (s : Int))])) := (HasK.new_at 2 wr #[.int .i64 (-(k : Int)), .int .i64 (s : Int)] 41 _ 1 rfl rfl).kept (Below.refl _ _).drew
      have hz1 : w.heap.size ≤ (wr.alloc (.cells #[.int .i64 (-(k : Int)), .int .i64 (s : Int)] 41)).drew.heap.size := by show _ ≤ (wr.heap.push _).size; simp; omega
      clear hp hs
      go_wp2
      go_region_law (first
        | (refine step_joinGK rfl _ _ 23 rfl elemCod (by decide) w.heap.size _ i (codCells (symsC k (l.take i))) rfl HO1.out _ 1 1 (codCells [(-(k : Int), (s : Int))]) rfl HN1.out ?_ (by omega) (by decide) hz1 ?_
           · intro u hu; simp [codCells, secCells] at hu; rcases hu with rfl | rfl <;> rfl
           intro v5 w5 hown5 hgr5 hwh5
           rw [HS.out] at hown5
           obtain ⟨A5, c5, hv5, _⟩ := hown5.has
           subst hv5
           have HO5 := Lib.hid hown5
           have HG5 := Lib.hid hgr5
           have HW5 := Lib.hid hwh5
           clear hown5 hgr5 hwh5))
      have hal : Below wr.heap.size wr (wr.alloc (.cells #[.int .i64 (-(k : Int)), .int .i64 (s : Int)] 41)).drew := (new_alloc (Below.refl _ wr) (.cells #[.int .i64 (-(k : Int)), .int .i64 (s : Int)] 41)).drew
      have hc5 := Chg.of_grown HG5.out
      have HM5 := Lib.hid (OwnK.chg6 (HM.out.keep hal) hc5 fun g hg e => HDj.out g e hg)
      have HD5 : Hid (∀ g, (Value.slice A5 (i + 1) c5).ownBlock = some g → (Value.slice A7 i c7).ownBlock ≠ some g) := fun g hg h7 => by
        rcases HW5.out g hg with h | h
        · exact HDj.out g h h7
        · have h2 := (World.ownsRow.lt HM.out g h7).2
          have h3 := hal.size
          omega
      have HB5 : Hid (Below w.heap.size w w5) := (new_call HB.out hal).trans (hc5.below (fun g e => OwnK.ge HO.out g e) (Nat.le_trans HB.out.size hal.size))
      have hz5 := HB5.out.size
      have HR : Hid (intVs (List.replicate i (-(k : Int))) ++ intVs [-(k : Int)] = intVs (List.replicate (i + 1) (-(k : Int)))) := by
        show _ = _
        rw [← intVs_app, ← List.replicate_succ']
      clear hc5 hal HO HM HDj HB HO1 HN1 hz1 hz HG5 HW5
      go_wp2_with (at_builtin
                   refine wpList_joinGK rfl _ _ 22 rfl elemI.toK (by decide) w.heap.size _ i _ rfl (HM5.out.alloc _) _ 1 1 (intVs [-(k : Int)]) rfl (Has.toK (Has.one _ _ _)) (intVs_one _) (by omega) (by decide) (by simp; omega) ?_
                   intro v7 w7 hown7 hgr7 hwh7
                   rw [HR.out] at hown7
                   obtain ⟨A8, c8, hv8, _⟩ := hown7.has
                   subst hv8
                   have hal7 : Below w5.heap.size w5 (w5.alloc (.cells #[.int .i64 (-(k : Int))] 3)) := new_alloc (Below.refl _ w5) _
                   have hc7 := Chg.of_grown hgr7
                   have HO7 := Lib.hid (OwnK.chg6 (HO5.out.keep hal7) hc7 fun g hg e => HD5.out g hg e)
                   have HM7 := Lib.hid hown7
                   have HD7 : Hid (∀ g, (Value.slice A5 (i + 1) c5).ownBlock = some g → (Value.slice A8 (i + 1) c8).ownBlock ≠ some g) := fun g hg h8 => by
                     rcases hwh7 g h8 with h | h
                     · exact HD5.out g hg h
                     · have h2 := (World.ownsRow.lt HO5.out g hg).2
                       have h3 := hal7.size
                       omega
                   have HB7 : Hid (Below w.heap.size w w7) := (new_call HB5.out hal7).trans (hc7.below (fun g e => OwnK.ge HM5.out g e) (Nat.le_trans HB5.out.size hal7.size))
                   clear hown7 hgr7 hwh7 hal7 hc7)
      go_roundg (gk - 1)
      case measure => omega
      case rel => exact ⟨i + 1, A5, c5, A8, c8, by omega, by go_num, rfl, rfl, HO7, HM7, HD7, HB7⟩
    · have ti : decide ((i : Int) < (n : Int)) = false := by simp; omega
      obtain rfl : i = n := by omega
      rw [List.take_of_length_le (by rw [HL.out]; exact Nat.le_refl _)] at HO
      have hsl : (symsC k l).length = i := by simp [symsC, HL.out]
      obtain ⟨b, hb⟩ := enc_plain hk1 hk2 (l := symsC k l) (by omega) (fun x hx => by
        obtain ⟨y, _, rfl⟩ := List.mem_map.1 hx
        have := Nat.mod_lt (y * 257) (Nat.two_pow_pos k)
        exact ⟨rfl, by simp only; omega, by simp only; omega⟩)
      have hlong := enc_long hb
      have hdec := dec_hit6 hb
      rw [show (symsC k l).map (·.1) = List.replicate i (-(k : Int)) by
        rw [← hsl]
        unfold symsC
        rw [List.map_map, List.length_map]
        exact List.eq_replicate_iff.2 ⟨by simp, fun x hx => by obtain ⟨y, _, rfl⟩ := List.mem_map.1 hx; rfl⟩] at hdec
      have HBt : Hid (∀ x ∈ b, x < 256) := by have := enc_bytes [] (symsC k l); rw [hb] at this; exact this
      have hbl : b.length ≤ 605 := by have := hlong.2.1; omega
      have hb5 := hlong.1
      have HZ : Hid (b[0]? = some 0) := by
        show _ = _
        have h0 := hlong.2.2
        cases b with
        | nil => simp at hb5
        | cons y r => simp at h0; simp [h0]
      have HE := Lib.hid hb
      have HD := Lib.hid hdec
      have HSl := Lib.hid hsl
      clear hb hdec hlong hsl
      obtain ⟨_, _, e6, hh6⟩ := HO.out.has
      cases e6
      obtain ⟨_, _, e7, hh7⟩ := HM.out.has
      cases e7
      have HC := Lib.hid hh6
      have HMo := Lib.hid hh7.ofK
      clear hh6 hh7 HO HM HDj hz
      have HEn := Lib.hid (coderEnc_any none 0 0 [] A6 i c6 (symsC k l) wr (Has.none _ _ _ fun _ => rfl) HC.out (by omega) (by omega))
      rw [HE.out] at HEn
      go_wp2_with fail
      refine HEn.out.mono ?_
      rintro e w2 ⟨A2, c2, rfl, hh2, hb2⟩
      have HH2 := Lib.hid hh2
      have HC2 := Lib.hid (HC.out.kept hb2)
      have HM2 := Lib.hid (HMo.out.kept hb2)
      have HB2 := Lib.hid (new_call HB.out hb2)
      clear hh2 hb2 HC HMo HB HEn
      have HDc := Lib.hid (coderDec_any none 0 0 [] A7 i c7 (List.replicate i (-(k : Int))) A2 b.length c2 b w2 (Has.none _ _ _ fun _ => rfl) HM2.out HH2.out HBt.out (by omega) (by omega) (by omega))
      rw [HD.out] at HDc
      go_wp2_with fail
      refine HDc.out.mono ?_
      rintro e w3 ⟨A3, c3, rfl, hh3, hb3⟩
      have HSm := Lib.hid (ref6Same_any A3 _ c3 _ A6 i c6 _ w3 hh3 (HC2.out.kept hb3) (by simp only [HSl.out]; omega))
      rw [decide_eq_true (rfl : symsC k l = symsC k l)] at HSm
      have HH3 := Lib.hid (HH2.out.kept hb3)
      have HB3 := Lib.hid (new_call HB2.out hb3)
      clear hh3 hb3 HDc HC2 HM2 HH2 HB2
      obtain ⟨g2, o2, rfl, hlt2, hc2⟩ := HH3.out.spot (show 0 < b.length by omega)
      have hcell := hc2 0 (.int .u8 0) (by simp [u8s, HZ.out])
      rw [Nat.add_zero] at hcell
      have t5 : decide ((5 : Int) ≤ (b.length : Int)) = true := by simp; omega
      clear hc2 HH3
      go_wp2_with fail
      refine HSm.out.mono ?_
      rintro e w4 ⟨rfl, q, rfl⟩
      have HB4 := Lib.hid (new_call HB3.out (quiet_below w3 q))
      have hcell4 : (w3.drewN q).cell? ⟨g2, o2, none⟩ = some (.int .u8 0) := hcell
      generalize w3.drewN q = w4 at *
      go_wp2_with (go_at_call 11; refine (known06 _).mono ?_; rintro e w' ⟨rfl, hb⟩)
      go_ret
      exact ⟨rfl, new_call HB4.out hb⟩

set_option maxRecDepth 100000 in
theorem lifted (os : Os) (started : os.Started) (H : Type) (enc : TypeId × Value → H) :
    ReturnsInHanded {} Try.checked os 7 .any (Rows.coderCarriesSpec.pre6 enc Try.prog Try.f7 Rows.coderCarriesRow.domain false) (Rows.coderCarriesSpec.post enc Try.prog Try.f7 false true false false) := by
  refine returnsInHanded_of_change (C := Try.checked) Try.own started (by kernel_rfl) Try.func7
    (ChangeSpec.witness6 (enc := enc) (C := Try.checked) false ⟨#[], #[.slice none 0 0, .int .u8 0], []⟩ 8 (by kernel_rfl) (by kernel_rfl) (by kernel_rfl) (by kernel_rfl)) ?_
  intro W base args ds gs before hval0 hW _ _
  have hval : ∀ (j : Nat) t v, Try.f7.params[j]? = some t → args[j]? = some v → Value.okWide Try.prog W .any base t v := hval0
  have hW' := hW
  obtain ⟨p, q, hA0, hV, rfl, _, _⟩ := hW
  have hA : DataW.TrodAll enc Try.prog W 0 (fun _ => true) true Try.f7.params.toList args.toList ds p := hA0
  rw [Try.params7] at hA hval
  obtain ⟨v0, v1, d0, d1, p0, p1, rfl, rfl, rfl, h0, h1⟩ := trodAll_two hA
  obtain ⟨rfl, rfl⟩ := trodVars_none hV
  obtain ⟨A0, n0, c0, bs0, rfl, hh0, hb0, hn0⟩ := open_bytes (hval 0 25 v0 rfl rfl) h0
  obtain ⟨a1, rfl, rfl, rfl, w1⟩ := open_int Try.underlying5 (hval 1 5 v1 rfl rfl) h1
  exact (walk A0 n0 c0 bs0 a1 W hh0 hb0 hn0 (wf_u8 w1)).mono fun e W' he =>
    law_post rfl rfl (by rw [Try.params7]; intro t ht; simp at ht; rcases ht with rfl | rfl <;> exact ⟨by kernel_rfl, of_decide_eq_true (by kernel_rfl)⟩) hW' rfl he

theorem proved : Rows.CoderCarriesSaid :=
  OpenClaim.holds_of_wide 7 Try.f7 rfl rfl rfl rfl rfl rfl rfl ⟨rfl, rfl, rfl, rfl, rfl⟩ rfl rfl rfl rfl rfl (by kernel_rfl) Try.func7 (by kernel_rfl)
    (of_decide_eq_true (by kernel_rfl)) (by unfold Func.isWrapper; first | (rw [if_pos (by decide +kernel)]; kernel_rfl) | (rw [if_neg (by decide +kernel)]; exact ⟨rfl, rfl⟩))
    (fun os started H enc _ => lifted os started H enc)
end Go.Proofs.Ytfkmcjlapigapaa.coderCarries
