/- Of any number of bits and any two numbers CoderPlain answers true: one plain symbol of so many bits is read as it was, and of any two that are not the same the bytes are not. Conditions: none. -/
import Derived.Test.YtfkmcjlapigapaaKnown06
import Derived.Test.YtfkmcjlapigapaaLawCodes
import Derived.Test.YtfkmcjlapigapaaCoderLaw
namespace Go.Proofs.Ytfkmcjlapigapaa.coderPlain
open Go.ChangeShapes Go.WideShapes Go.ChangeAt Go.RowKit

/-- Two plain symbols of as many bits. -/
theorem plain_two {k : Nat} (h1 : 1 ≤ k) (h2 : k ≤ 16) {s t : Nat} (hs : s < 2 ^ k) (ht : t < 2 ^ k) : ∃ (p q : List Nat) (lx ly : List Cod), Hid (lx = [(-(k : Int), (s : Int))]) ∧ Hid (ly = [(-(k : Int), (t : Int))]) ∧ Hid (encC [] lx = (p, 0)) ∧ Hid (encC [] ly = (q, 0)) ∧ Hid (decAll [] [-(k : Int)] p = (lx, 0)) ∧ p.length ≤ 8 ∧ q.length ≤ 8 ∧ Hid (∀ x ∈ p, x < 256) ∧ Hid (∀ x ∈ q, x < 256) ∧ Hid (p = q ↔ s = t) := by
  obtain ⟨lx, hlx⟩ : ∃ lx : List Cod, lx = [(-(k : Int), (s : Int))] := ⟨_, rfl⟩
  obtain ⟨ly, hly⟩ : ∃ ly : List Cod, ly = [(-(k : Int), (t : Int))] := ⟨_, rfl⟩
  have l1 : lx.length = 1 := by rw [hlx]; rfl
  have l2 : ly.length = 1 := by rw [hly]; rfl
  have m1 : lx.map (·.1) = [-(k : Int)] := by rw [hlx]; rfl
  have m2 : ly.map (·.1) = [-(k : Int)] := by rw [hly]; rfl
  obtain ⟨p, hp⟩ := enc_plain h1 h2 (l := lx) (by omega) (fun x hx => by
    rw [hlx] at hx
    rw [List.mem_singleton.1 hx]
    exact ⟨rfl, Int.natCast_nonneg s, Int.ofNat_lt.2 hs⟩)
  obtain ⟨q, hq⟩ := enc_plain h1 h2 (l := ly) (by omega) (fun x hx => by
    rw [hly] at hx
    rw [List.mem_singleton.1 hx]
    exact ⟨rfl, Int.natCast_nonneg t, Int.ofNat_lt.2 ht⟩)
  have hd := dec_hit6 hp
  rw [m1] at hd
  have hpl := (enc_long hp).2.1
  have hql := (enc_long hq).2.1
  have b1 := enc_bytes [] lx
  have b2 := enc_bytes [] ly
  rw [hp] at b1
  rw [hq] at b2
  refine ⟨p, q, lx, ly, hlx, hly, hp, hq, hd, by omega, by omega, b1, b2, ?_⟩
  constructor
  · intro e
    rw [← e] at hq
    have h3 := enc_one hp hq (by rw [m1, m2])
    rw [hlx, hly] at h3
    have h4 : ((s : Nat) : Int) = (t : Int) := by
      have := congrArg (fun l : List Cod => l.map (·.2)) h3
      simp only [List.map_cons, List.map_nil, List.cons.injEq, and_true] at this
      exact this
    omega
  · intro e
    have h3 : lx = ly := by rw [hlx, hly, e]
    rw [h3, hq] at hp
    exact (congrArg Prod.fst hp).symm
set_option maxRecDepth 100000 in
set_option maxHeartbeats 2000000 in
theorem walk (a0 a1 a2 : Int) (w : World) (ha0 : 0 ≤ a0 ∧ a0 ≤ 255) (ha1 : 0 ≤ a1 ∧ a1 ≤ 65535) (ha2 : 0 ≤ a2 ∧ a2 ≤ 65535) :
    Calls Try.prog 8 #[.int .u8 a0, .int .u16 a1, .int .u16 a2] w fun e w' => e = .returned (.bool true) ∧ Below w.heap.size w w' := by
  obtain ⟨N, rfl⟩ := Int.eq_ofNat_of_zero_le ha0.1
  obtain ⟨x, rfl⟩ := Int.eq_ofNat_of_zero_le ha1.1
  obtain ⟨y, rfl⟩ := Int.eq_ofNat_of_zero_le ha2.1
  obtain ⟨k, hk⟩ : ∃ k : Nat, (1 : Int) + (N : Int) % 16 = (k : Int) := ⟨1 + N % 16, by omega⟩
  have hk1 : 1 ≤ k := by omega
  have hk2 : k ≤ 16 := by omega
  obtain ⟨p2, hp2⟩ : ∃ p, 2 ^ k = p := ⟨_, rfl⟩
  have hpl : p2 ≤ 65536 := by rw [← hp2]; exact Nat.pow_le_pow_right (by decide) hk2
  have hpg : 0 < p2 := by rw [← hp2]; exact Nat.two_pow_pos k
  obtain ⟨s, hs⟩ : ∃ s, x % p2 = s := ⟨_, rfl⟩
  obtain ⟨t, ht⟩ : ∃ t, y % p2 = t := ⟨_, rfl⟩
  have hsl : s < p2 := by rw [← hs]; exact Nat.mod_lt _ hpg
  have htl : t < p2 := by rw [← ht]; exact Nat.mod_lt _ hpg
  obtain ⟨p, q, lx, ly, Hlx, Hly, HP, HQ, HD, hpl8, hql8, HBp, HBq, HPQ⟩ := plain_two hk1 hk2 (s := s) (t := t) (by rw [hp2]; exact hsl) (by rw [hp2]; exact htl)
  have g1 : IntKind.wrap .i64 (-(k : Int)) = -(k : Int) := by rw [IntKind.wrap_i64]; omega
  have g2 : IntKind.wrap .i64 (x : Int) = (x : Int) := by rw [IntKind.wrap_i64]; omega
  have g3 : IntKind.wrap .i64 (y : Int) = (y : Int) := by rw [IntKind.wrap_i64]; omega
  have g4 : IntKind.wrap .i64 ((2 : Int) ^ k) = (p2 : Int) := by
    rw [show ((2 : Int) ^ k) = (p2 : Int) by rw [← hp2]; simp, IntKind.wrap_i64]; omega
  have g5 : ¬ (p2 : Int) = 0 := by omega
  have g7 : ¬ p2 = 0 := by omega
  have g6 : (x : Int).tmod (p2 : Int) = (s : Int) := by rw [← Int.ofNat_tmod, hs]
  have g8 : (y : Int).tmod (p2 : Int) = (t : Int) := by rw [← Int.ofNat_tmod, ht]
  have g9 : (x : Int) % (p2 : Int) = (s : Int) := by rw [← hs]; rfl
  have g0 : (y : Int) % (p2 : Int) = (t : Int) := by rw [← ht]; rfl
  clear hp2 hs ht
  go_enter Try.func8, Try.ntmps8
  go_wp2_with fail
  have HX0 : Hid (Blk (((w.alloc (.cells #[.int .i64 (-(k : Int)), .int .i64 (s : Int)] 41)).alloc (.cells #[.int .i64 (-(k : Int)), .int .i64 (t : Int)] 41)).alloc (.cells #[.int .i64 (-(k : Int)), .int .i64 (s : Int)] 41)) w.heap.size 41 #[.int .i64 (-(k : Int)), .int .i64 (s : Int)]) := ((Blk.new w _ _).alloc _).alloc _
  have HY0 : Hid (Blk (((w.alloc (.cells #[.int .i64 (-(k : Int)), .int .i64 (s : Int)] 41)).alloc (.cells #[.int .i64 (-(k : Int)), .int .i64 (t : Int)] 41)).alloc (.cells #[.int .i64 (-(k : Int)), .int .i64 (s : Int)] 41)) (w.heap.size + 1) 41 #[.int .i64 (-(k : Int)), .int .i64 (t : Int)]) := (blk_second w _ _ _).alloc _
  have HB0 : Hid (Below w.heap.size w (((w.alloc (.cells #[.int .i64 (-(k : Int)), .int .i64 (s : Int)] 41)).alloc (.cells #[.int .i64 (-(k : Int)), .int .i64 (t : Int)] 41)).alloc (.cells #[.int .i64 (-(k : Int)), .int .i64 (s : Int)] 41))) := below_three w _ _ _
  have HE1 := Lib.hid (coderEnc_any none 0 0 [] (some ⟨w.heap.size + 1 + 1, 0, none⟩) 1 1 lx (((w.alloc (.cells #[.int .i64 (-(k : Int)), .int .i64 (s : Int)] 41)).alloc (.cells #[.int .i64 (-(k : Int)), .int .i64 (t : Int)] 41)).alloc (.cells #[.int .i64 (-(k : Int)), .int .i64 (s : Int)] 41)) (Has.none _ _ _ fun _ => rfl) (by rw [Hlx.out]; exact HasK.new_at 2 _ #[_, _] _ _ 1 (by simp) rfl) (by decide) (by decide))
  rw [HP.out] at HE1
  with_reducible refine Calls.mono HE1.out ?_
  generalize ((w.alloc (.cells #[.int .i64 (-(k : Int)), .int .i64 (s : Int)] 41)).alloc (.cells #[.int .i64 (-(k : Int)), .int .i64 (t : Int)] 41)).alloc (.cells #[.int .i64 (-(k : Int)), .int .i64 (s : Int)] 41) = w0 at *
  rintro e w1 ⟨A1, c1, rfl, hh1, hb1⟩
  simp only at hh1
  have HX1 := Lib.hid (HX0.out.below hb1 HX0.out.lt)
  have HY1 := Lib.hid (HY0.out.below hb1 HY0.out.lt)
  have HH1 := Lib.hid hh1
  have HB1 := Lib.hid (new_call HB0.out hb1)
  have y0 : w1.cell? ⟨w.heap.size + 1, 0, none⟩ = some (.int .i64 (-(k : Int))) := HY1.out.cell 0
  have y1 : w1.cell? ⟨w.heap.size + 1, 1, none⟩ = some (.int .i64 (t : Int)) := HY1.out.cell 1
  have HE2 := Lib.hid (coderEnc_any none 0 0 [] (some ⟨w1.heap.size, 0, none⟩) 1 1 ly (w1.alloc (.cells #[.int .i64 (-(k : Int)), .int .i64 (t : Int)] 41)) (Has.none _ _ _ fun _ => rfl) (by rw [Hly.out]; exact HasK.new_at 2 _ #[_, _] _ _ 1 rfl rfl) (by decide) (by decide))
  rw [HQ.out] at HE2
  clear hh1 hb1 HE1 HX0 HY0 HB0 g1 g2 g3 g4 g5 g6 g7 g8 g9 g0 HP HQ
  go_wp2_with fail
  with_reducible refine Calls.mono HE2.out ?_
  rintro e w2 ⟨A2, c2, rfl, hh2, hb2⟩
  simp only at hh2
  have hb2' := new_call (new_alloc (Below.refl w1.heap.size w1) _) hb2
  have HX2 := Lib.hid (HX1.out.below hb2' HX1.out.lt)
  have HY2 := Lib.hid (HY1.out.below hb2' HY1.out.lt)
  have HH2 := Lib.hid hh2
  have HI2 := Lib.hid (HH1.out.kept hb2')
  have HB2 := Lib.hid (new_call HB1.out hb2')
  have HD2 := Lib.hid (coderDec_any none 0 0 [] (some ⟨w2.heap.size, 0, none⟩) 1 1 [-(k : Int)] A1 p.length c1 p (w2.alloc (.cells #[.int .i64 (-(k : Int))] 3)) (Has.none _ _ _ fun _ => rfl) (Has.one w2 (.int .i64 (-(k : Int))) 3) (HI2.out.alloc _) HBp.out (by decide) (by decide) (by omega))
  rw [HD.out] at HD2
  have gk : IntKind.wrap .i64 (-(k : Int)) = -(k : Int) := by rw [IntKind.wrap_i64]; omega
  clear hh2 hb2 hb2' HE2 HX1 HY1 HB1 HH1 y0 y1 HD
  go_wp2_with fail
  with_reducible refine Calls.mono HD2.out ?_
  rintro e w3 ⟨A3, c3, he3, hh3, hb3⟩
  have hl1 : lx.length = 1 := by rw [Hlx.out]; rfl
  simp only [hl1] at he3 hh3
  subst he3
  have hb3' := new_call (new_alloc (Below.refl w2.heap.size w2) _) hb3
  have HX3 := Lib.hid (HX2.out.below hb3' HX2.out.lt)
  have HY3 := Lib.hid (HY2.out.below hb3' HY2.out.lt)
  have HH3 := Lib.hid hh3
  have HI3 := Lib.hid (HI2.out.kept hb3')
  have HJ3 := Lib.hid (HH2.out.kept hb3')
  have HB3 := Lib.hid (new_call HB2.out hb3')
  clear hh3 hb3 hb3' HD2 HX2 HY2 HB2 HH2 HI2
  have HKp : Hid (∀ W, Below w3.heap.size w3 W → W.cell? ⟨w.heap.size, 0, none⟩ = some (.int .i64 (-(k : Int))) ∧ W.cell? ⟨w.heap.size, 1, none⟩ = some (.int .i64 (s : Int)) ∧ W.cell? ⟨w.heap.size + 1, 0, none⟩ = some (.int .i64 (-(k : Int))) ∧ W.cell? ⟨w.heap.size + 1, 1, none⟩ = some (.int .i64 (t : Int))) := fun W hW => ⟨(HX3.out.below hW HX3.out.lt).cell 0, (HX3.out.below hW HX3.out.lt).cell 1, (HY3.out.below hW HY3.out.lt).cell 0, (HY3.out.below hW HY3.out.lt).cell 1⟩
  have HBa : Hid (Below w3.heap.size w3 (w3.alloc (.cells #[.int .i64 (-(k : Int)), .int .i64 (s : Int)] 41)).drew) := (new_alloc (Below.refl _ w3) _).drew
  have HS1 := Lib.hid (ref6Same_any A3 1 c3 lx (some ⟨w3.heap.size, 0, none⟩) 1 1 lx (w3.alloc (.cells #[.int .i64 (-(k : Int)), .int .i64 (s : Int)] 41)).drew (HH3.out.kept HBa.out) ((show HasK 2 (w3.alloc (.cells #[.int .i64 (-(k : Int)), .int .i64 (s : Int)] 41)) (some ⟨w3.heap.size, 0, none⟩) 1 1 (codCells lx) by rw [Hlx.out]; exact HasK.new_at 2 _ #[_, _] _ _ 1 rfl rfl).kept (Below.refl _ _).drew) (by decide))
  rw [decide_eq_true (rfl : lx = lx)] at HS1
  have HS2 := Lib.hid (fun W (hW : Below w3.heap.size w3 W) => same_any A1 A2 p.length c1 q.length c2 p q W (HI3.out.kept hW) (HJ3.out.kept hW) HBp.out HBq.out)
  obtain ⟨z0, z1, z2, z3⟩ := HKp.out w3 (Below.refl _ _)
  clear HX3 HY3 HH3 HI3 HJ3 hl1
  by_cases hst : s = t
  · subst hst
    rw [decide_eq_true (HPQ.out.2 rfl)] at HS2
    go_wp2
    go_region_held3 (fun W => W.cell? ⟨w.heap.size, 0, none⟩ = some (.int .i64 (-(k : Int))) ∧ W.cell? ⟨w.heap.size, 1, none⟩ = some (.int .i64 (s : Int)) ∧ W.cell? ⟨w.heap.size + 1, 0, none⟩ = some (.int .i64 (-(k : Int))) ∧ W.cell? ⟨w.heap.size + 1, 1, none⟩ = some (.int .i64 (s : Int))) (first | exact ⟨z0, z1, z2, z3⟩ | exact HKp.out _ HBa.out | exact HKp.out _ (new_alloc (Below.refl _ w3) _) | exact HKp.out _ HB4.out | exact HKp.out _ HB5.out) (first
      | (go_at_call 17; (with_reducible refine Calls.mono HS1.out ?_); rintro e w4 ⟨rfl, q4, hq4⟩; have HB4 : Hid (Below w3.heap.size w3 w4) := (by rw [hq4]; exact Lib.hid (new_call HBa.out (quiet_below _ _))); have HS4 := Lib.hid (HS2.out w4 HB4.out); clear hq4)
      | (go_at_call 14; (with_reducible refine Calls.mono HS4.out ?_); rintro e w' ⟨rfl, rfl⟩)
      | (go_at_call 11; refine (known06 _).mono ?_; rintro e w5 ⟨rfl, hb5⟩; have HB5 : Hid (Below w3.heap.size w3 w5) := new_call HB4.out hb5; clear hb5))
    all_goals
      go_wp2
      go_ret
      exact ⟨rfl, new_call HB3.out HB5.out⟩
  · rw [decide_eq_false fun e => hst (HPQ.out.1 e)] at HS2
    have i1 : ¬ (s : Int) = (t : Int) := by omega
    have i2 : ((s : Int) == (t : Int)) = false := beq_eq_false_iff_ne.2 i1
    have i3 : decide ((s : Int) = (t : Int)) = false := decide_eq_false i1
    go_wp2
    go_region_held3 (fun W => W.cell? ⟨w.heap.size, 0, none⟩ = some (.int .i64 (-(k : Int))) ∧ W.cell? ⟨w.heap.size, 1, none⟩ = some (.int .i64 (s : Int)) ∧ W.cell? ⟨w.heap.size + 1, 0, none⟩ = some (.int .i64 (-(k : Int))) ∧ W.cell? ⟨w.heap.size + 1, 1, none⟩ = some (.int .i64 (t : Int))) (first | exact ⟨z0, z1, z2, z3⟩ | exact HKp.out _ HBa.out | exact HKp.out _ (new_alloc (Below.refl _ w3) _) | exact HKp.out _ HB4.out | exact HKp.out _ HB5.out) (first
      | (go_at_call 17; (with_reducible refine Calls.mono HS1.out ?_); rintro e w4 ⟨rfl, q4, hq4⟩; have HB4 : Hid (Below w3.heap.size w3 w4) := (by rw [hq4]; exact Lib.hid (new_call HBa.out (quiet_below _ _))); have HS4 := Lib.hid (HS2.out w4 HB4.out); clear hq4)
      | (go_at_call 14; (with_reducible refine Calls.mono HS4.out ?_); rintro e w' ⟨rfl, rfl⟩)
      | (go_at_call 11; refine (known06 _).mono ?_; rintro e w5 ⟨rfl, hb5⟩; have HB5 : Hid (Below w3.heap.size w3 w5) := new_call HB4.out hb5; clear hb5))
    all_goals
      go_wp2
      go_ret
      exact ⟨rfl, new_call HB3.out HB5.out⟩

set_option maxRecDepth 100000 in
theorem lifted (os : Os) (started : os.Started) (H : Type) (enc : TypeId × Value → H) :
    ReturnsInHanded {} Try.checked os 8 .any (Rows.coderPlainSpec.pre6 enc Try.prog Try.f8 Rows.coderPlainRow.domain false) (Rows.coderPlainSpec.post enc Try.prog Try.f8 false true false false) := by
  refine returnsInHanded_of_change (C := Try.checked) Try.own started (by kernel_rfl) Try.func8
    (ChangeSpec.witness6 (enc := enc) (C := Try.checked) false ⟨#[], #[.int .u8 0, .int .u16 0, .int .u16 0], []⟩ 8 (by kernel_rfl) (by kernel_rfl) (by kernel_rfl) (by kernel_rfl)) ?_
  intro W base args ds gs before hval0 hW _ _
  have hval : ∀ (j : Nat) t v, Try.f8.params[j]? = some t → args[j]? = some v → Value.okWide Try.prog W .any base t v := hval0
  have hW' := hW
  obtain ⟨p, q, hA0, hV, rfl, _, _⟩ := hW
  have hA : DataW.TrodAll enc Try.prog W 0 (fun _ => true) true Try.f8.params.toList args.toList ds p := hA0
  rw [Try.params8] at hA hval
  obtain ⟨v0, v1, v2, d0, d1, d2, p0, p1, p2, rfl, rfl, rfl, h0, h1, h2⟩ := trodAll_three hA
  obtain ⟨rfl, rfl⟩ := trodVars_none hV
  obtain ⟨a0, rfl, rfl, rfl, w0⟩ := open_int Try.underlying5 (hval 0 5 v0 rfl rfl) h0
  obtain ⟨a1, rfl, rfl, rfl, w1⟩ := open_int Try.underlying39 (hval 1 39 v1 rfl rfl) h1
  obtain ⟨a2, rfl, rfl, rfl, w2⟩ := open_int Try.underlying39 (hval 2 39 v2 rfl rfl) h2
  exact (walk a0 a1 a2 W (wf_u8 w0) (wf_u16 w1) (wf_u16 w2)).mono fun e W' he =>
    law_post rfl rfl (by rw [Try.params8]; intro t ht; simp at ht; rcases ht with rfl | rfl | rfl <;> exact ⟨by kernel_rfl, of_decide_eq_true (by kernel_rfl)⟩) hW' rfl he

theorem proved : Rows.CoderPlainSaid :=
  OpenClaim.holds_of_wide 8 Try.f8 rfl rfl rfl rfl rfl rfl rfl ⟨rfl, rfl, rfl, rfl, rfl⟩ rfl rfl rfl rfl rfl (by kernel_rfl) Try.func8 (by kernel_rfl)
    (of_decide_eq_true (by kernel_rfl)) (by unfold Func.isWrapper; first | (rw [if_pos (by decide +kernel)]; kernel_rfl) | (rw [if_neg (by decide +kernel)]; exact ⟨rfl, rfl⟩))
    (fun os started H enc _ => lifted os started H enc)
end Go.Proofs.Ytfkmcjlapigapaa.coderPlain
