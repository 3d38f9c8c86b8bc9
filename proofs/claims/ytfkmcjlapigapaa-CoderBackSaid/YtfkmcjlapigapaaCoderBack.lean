/- Of any sizes, symbols, place and two bytes CoderBack answers true: symbols are read as they were; from bytes that are cut short, or have any behind, or of which anything is changed, not. Conditions: none. -/
import Derived.Test.YtfkmcjlapigapaaKnown06
import Derived.Test.YtfkmcjlapigapaaLawCodes
import Derived.Test.YtfkmcjlapigapaaCoderLaw
import Derived.Laws.BitsAllLaws
namespace Go.Proofs.Ytfkmcjlapigapaa.coderBack
open Go.ChangeShapes Go.WideShapes Go.ChangeAt Go.RowKit

theorem enc_err {sizes : List Int} {l : List Cod} (h : (encC sizes l).2 ≠ 0) : (encC sizes l).1 = [] := by
  unfold encC at h ⊢
  split
  · rfl
  · rename_i h1
    rw [if_neg h1] at h
    cases hr : runC (beginC sizes) l with
    | none => rfl
    | some u =>
      rw [hr] at h
      simp only at h ⊢
      split
      · rfl
      · rename_i h2
        rw [if_neg h2] at h
        exact absurd rfl h
/-- What is held all along. -/
structure BK (W : World) (A : Option Addr) (n c : Nat) (sizes : List Int) (B : Option Addr) (m d : Nat) (l : List Cod) (M : Option Addr) (cm : Nat) (ks : List Int) (P : Option Addr) (cp : Nat) (b : List Nat) : Prop where
  sz : Has W A n c (intVs sizes)
  cd : HasK 2 W B m d (codCells l)
  md : Has W M m cm (intVs ks)
  by_ : Has W P b.length cp (u8s b)
theorem BK.kept {W W' : World} {A : Option Addr} {n c : Nat} {sizes : List Int} {B : Option Addr} {m d : Nat} {l : List Cod} {M : Option Addr} {cm : Nat} {ks : List Int} {P : Option Addr} {cp : Nat} {b : List Nat} (h : BK W A n c sizes B m d l M cm ks P cp b) (hb : Below W.heap.size W W') : BK W' A n c sizes B m d l M cm ks P cp b := ⟨h.sz.kept hb, h.cd.kept hb, h.md.kept hb, h.by_.kept hb⟩
set_option maxRecDepth 100000 in
set_option maxHeartbeats 4000000 in
theorem walk (A : Option Addr) (n c : Nat) (sizes : List Int) (B : Option Addr) (m d : Nat) (l : List Cod) (a2 a3 a4 : Int) (w : World) (hh : Has w A n c (intVs sizes)) (_hs : ∀ x ∈ sizes, -9223372036854775808 ≤ x ∧ x ≤ 9223372036854775807) (hn : n ≤ 9223372036854775807) (hl : HasK 2 w B m d (codCells l)) (_hx : ∀ x ∈ l, (-9223372036854775808 ≤ x.1 ∧ x.1 ≤ 9223372036854775807) ∧ -9223372036854775808 ≤ x.2 ∧ x.2 ≤ 9223372036854775807) (hm : m ≤ 9223372036854775807) (h2 : 0 ≤ a2 ∧ a2 ≤ 65535) (h3 : 0 ≤ a3 ∧ a3 ≤ 255) (h4 : 0 ≤ a4 ∧ a4 ≤ 255) :
    Calls Try.prog 5 #[.slice A n c, .slice B m d, .int .u16 a2, .int .u8 a3, .int .u8 a4] w fun e w' => e = .returned (.bool true) ∧ Below w.heap.size w w' := by
  by_cases h20 : 20 < n
  · have t : decide ((20 : Int) < (n : Int)) = true := by simp; omega
    clear hh hl
    go_enter Try.func5, Try.ntmps5
    go_wp2_with (go_at_call 11; refine (known06 _).mono ?_; rintro e w' ⟨rfl, hb⟩)
    go_ret
    exact ⟨rfl, hb⟩
  have t20 : decide ((20 : Int) < (n : Int)) = false := by simp; omega
  by_cases h150 : 150 < m
  · have t : decide ((150 : Int) < (m : Int)) = true := by simp; omega
    clear hh hl
    go_enter Try.func5, Try.ntmps5
    go_wp2_with (go_at_call 11; refine (known06 _).mono ?_; rintro e w' ⟨rfl, hb⟩)
    go_ret
    exact ⟨rfl, hb⟩
  have t150 : decide ((150 : Int) < (m : Int)) = false := by simp; omega
  obtain ⟨cut, rfl⟩ := Int.eq_ofNat_of_zero_le h2.1
  obtain ⟨more, rfl⟩ := Int.eq_ofNat_of_zero_le h3.1
  obtain ⟨x, rfl⟩ := Int.eq_ofNat_of_zero_le h4.1
  have hLen : l.length = m := by have := hl.len; rw [codCells_len] at this; omega
  have HLen := Lib.hid hLen
  have HH := Lib.hid hh
  have HL := Lib.hid hl
  have HEn := Lib.hid (coderEnc_any A n c sizes B m d l w hh hl (by omega) (by omega))
  clear hh hl hLen _hs _hx
  obtain ⟨r, hr⟩ : ∃ r, encC sizes l = r := ⟨_, rfl⟩
  obtain ⟨b, e0⟩ := r
  rw [hr] at HEn
  by_cases he : e0 = 0
  · subst he
    have hlong := enc_long hr
    rw [HLen.out] at hlong
    have hb5 := hlong.1
    have hbl : b.length ≤ 455 := by have := hlong.2.1; omega
    have HBt : Hid (∀ x ∈ b, x < 256) := by have := enc_bytes sizes l; rw [hr] at this; exact this
    obtain ⟨p, hp⟩ : ∃ p, cut % b.length = p := ⟨_, rfl⟩
    have hpl : p < b.length := by rw [← hp]; exact Nat.mod_lt _ (by omega)
    obtain ⟨ks, hks⟩ : ∃ ks, l.map (·.1) = ks := ⟨_, rfl⟩
    have hD1 := dec_hit6 hr
    have hD2 := dec_cut6 hr hpl
    have hD3 := dec_more6 hr (y := more) (by omega)
    have hD4 := fun (y : List Nat) (hy : y ≠ b) => dec_other6 hr hy
    rw [hks] at hD1 hD2 hD3 hD4
    have HD1 := Lib.hid hD1
    have HD2 := Lib.hid hD2
    have HD3 := Lib.hid hD3
    have HD4 := Lib.hid hD4
    have HKs := Lib.hid hks
    have HE := Lib.hid hr
    have g1 : (cut : Int).tmod (b.length : Int) = (p : Int) := by rw [← Int.ofNat_tmod, hp]
    have g2 : (cut : Int) % (b.length : Int) = (p : Int) := by rw [← hp]; rfl
    have g3 : ¬ (b.length : Int) = 0 := by omega
    have g4 : ¬ b.length = 0 := by omega
    have g5 : IntKind.wrap .i64 (cut : Int) = (cut : Int) := by rw [IntKind.wrap_i64]; omega
    have g6 : ((b.length : Int) == 0) = false := beq_eq_false_iff_ne.2 g3
    clear hlong hD1 hD2 hD3 hD4 hr hks hp
    go_enter Try.func5, Try.ntmps5
    go_wp2_with fail
    refine HEn.out.mono ?_
    rintro e w1 ⟨A1, c1, rfl, hh1, hb1⟩
    simp only at hh1
    have HH1 := Lib.hid hh1
    have HB1 := Lib.hid hb1
    clear hh1 hb1 HEn
    go_wp2
    go_loopg [13, 14] m (fun g s13 s14 wx => ∃ i : Nat, i + g = m ∧ s14 = .int .i64 i ∧ Hid (Own wx w1.heap.size 3 s13 (intVs ((l.take i).map (·.1)))) ∧ Hid (Below w1.heap.size w1 wx))
    case atStart => exact ⟨0, by omega, rfl, Own.nil _ _ _, Below.refl _ _⟩
    case round =>
      obtain ⟨i, hig, rfl, HO, HB⟩ := hrel
      have hz := HB.out.size
      by_cases hi : i < m
      · have ti : decide ((i : Int) < (m : Int)) = true := by simp; omega
        have hil : i < l.length := by rw [HLen.out]; exact hi
        obtain ⟨b0, off, rfl, hlt, hc⟩ := ((HL.out.kept HB1.out).kept HB.out).spot (by omega)
        have hcx := hc _ _ (cod_at hil).1
        have HS : Hid (intVs ((l.take i).map (·.1)) ++ intVs [l[i].1] = intVs ((l.take (i + 1)).map (·.1))) := by
          show _ = _
          rw [← intVs_app, List.take_succ_eq_append_getElem hil, List.map_append]; rfl
        have hlen : (intVs ((l.take i).map (·.1))).length ≤ 200 := by rw [intVs_len, List.length_map, List.length_take]; omega
        generalize l[i].1 = z at *
        clear hc hil
        go_wp2_with (at_builtin
                     refine wpList_join rfl _ _ 22 rfl elemI w1.heap.size _ _ rfl (HO.out.alloc _) _ 1 1 (intVs [z]) rfl (Has.one _ _ _) (intVs_one _) (by omega) (by decide) (Nat.le_trans hz (new_alloc (Below.refl _ wr) _).size) ?_
                     intro v2 w2 hown2 hbel2
                     rw [HS.out] at hown2
                     have HO2 := Lib.hid hown2
                     have HB2 := Lib.hid ((new_alloc HB.out _).trans hbel2)
                     clear hown2 hbel2)
        go_roundg (gk - 1)
        case measure => omega
        case rel => exact ⟨i + 1, by omega, by go_num, HO2, HB2⟩
      · have ti : decide ((i : Int) < (m : Int)) = false := by simp; omega
        rw [List.take_of_length_le (by rw [HLen.out]; omega), HKs.out] at HO
        obtain ⟨A7, c7, hv7, hh7⟩ := HO.out.has
        have hkl : ks.length = m := by rw [← HKs.out, List.length_map, HLen.out]
        rw [intVs_len, hkl] at hv7 hh7
        subst hv7
        have HK : Hid (BK wr A n c sizes B m d l A7 c7 ks A1 c1 b) := ⟨(HH.out.kept HB1.out).kept HB.out, (HL.out.kept HB1.out).kept HB.out, hh7, HH1.out.kept HB.out⟩
        have HBw := Lib.hid (new_call HB1.out HB.out)
        have HDc := Lib.hid (fun W (hW : BK W A n c sizes B m d l A7 c7 ks A1 c1 b) (Q : Option Addr) (nq cq : Nat) (bq : List Nat) (hq : Has W Q nq cq (u8s bq)) (hbq : ∀ x ∈ bq, x < 256) (hnq : nq ≤ 2000) => coderDec_any A n c sizes A7 m c7 ks Q nq cq bq W hW.sz hW.md hq hbq (by omega) (by omega) hnq)
        clear hh7 HO HB HH1 HB1 HH HL hkl hz
        have hcap1 := HK.out.by_.cap
        have hpc : (p : Int) ≤ (c1 : Int) := by omega
        have HDa := Lib.hid (HDc.out wr HK.out A1 b.length c1 b HK.out.by_ HBt.out (by omega))
        rw [HD1.out] at HDa
        go_wp2_with fail
        refine HDa.out.mono ?_
        rintro e w3 ⟨A3, c3, he3, hh3, hb3⟩
        simp only [HLen.out] at he3 hh3
        subst he3
        have HK3 := Lib.hid (HK.out.kept hb3)
        have HH3 := Lib.hid hh3
        have HB3 := Lib.hid (new_call HBw.out hb3)
        have hhd := HK3.out.by_.head (m := p) (by omega)
        rw [show (u8s b).take p = u8s (b.take p) by simp [u8s]] at hhd
        have HDb := Lib.hid (HDc.out w3 HK3.out A1 p c1 (b.take p) hhd (fun x hx => HBt.out x (List.mem_of_mem_take hx)) (by omega))
        rw [HD2.out] at HDb
        clear hh3 hb3 hhd HDa HK HBw
        go_wp2_with fail
        refine HDb.out.mono ?_
        rintro e w4 ⟨A4, c4, he4, hh4, hb4⟩
        simp only [List.length_nil] at he4
        subst he4
        have HK4 := Lib.hid (HK3.out.kept hb4)
        have HH4 := Lib.hid (HH3.out.kept hb4)
        have HB4 := Lib.hid (new_call HB3.out hb4)
        have HCp := Lib.hid (fun W (hW : BK W A n c sizes B m d l A7 c7 ks A1 c1 b) => copy_any A1 b.length c1 b W hW.by_ (by omega))
        have HC4 := Lib.hid (HCp.out w4 HK4.out)
        clear hh4 hb4 HDb HK3 HH3 HB3
        go_wp2_with fail
        refine HC4.out.mono ?_
        rintro e w5 ⟨A5, c5, rfl, _, ho5, hb5⟩
        have HO5 := Lib.hid ho5
        have HB5 := Lib.hid hb5
        have hz5 := hb5.size
        clear ho5 hb5 HC4
        have hm256 : more < 256 := by omega
        go_wp2_with (at_builtin
                     refine wpList_join rfl _ _ 25 rfl elem8 w4.heap.size _ _ rfl (HO5.out.alloc _) _ 1 1 (u8s [more]) rfl (Has.one _ _ _) (u8s_one _) (by rw [u8s_len]; omega) (by decide) (Nat.le_trans hz5 (new_alloc (Below.refl _ w5) _).size) ?_
                     intro v6 w6 hown6 hbel6
                     rw [← u8s_app] at hown6
                     obtain ⟨A6, c6, hv6, hh6⟩ := hown6.has
                     rw [u8s_len, List.length_append, List.length_singleton] at hv6 hh6
                     subst hv6
                     have HH6 := Lib.hid hh6
                     have HB6 : Hid (Below w4.heap.size w4 w6) := (new_alloc HB5.out _).trans hbel6
                     have HK6 := Lib.hid (HK4.out.kept HB6.out)
                     have HDd := Lib.hid (HDc.out w6 HK6.out A6 (b.length + 1) c6 (b ++ [more]) hh6 (fun x hx => (List.mem_append.1 hx).elim (HBt.out x) fun h => by rw [List.mem_singleton.1 h]; exact hm256) (by omega))
                     rw [HD3.out] at HDd
                     clear hown6 hbel6 hh6)
        refine HDd.out.mono ?_
        rintro e w7 ⟨A7', c7', he7, hh7, hb7⟩
        simp only [List.length_nil] at he7
        subst he7
        have HK7 := Lib.hid (HK6.out.kept hb7)
        have HH7 := Lib.hid ((HH4.out.kept HB6.out).kept hb7)
        have HB7 := Lib.hid (new_call (new_call HB4.out HB6.out) hb7)
        have HC7 := Lib.hid (HCp.out w7 HK7.out)
        clear hh7 hb7 HDd HK6 HH6 HB6 HK4 HH4 HB4 HO5 HB5 hz5
        go_wp2_with fail
        refine HC7.out.mono ?_
        rintro e w8 ⟨A8, c8, rfl, _, ho8, hb8⟩
        obtain ⟨g, cap, hv8, hg1, hg2⟩ := ho8.form (by rw [u8s_len]; omega)
        rw [u8s_len] at hv8
        cases hv8
        obtain ⟨k1, k2⟩ := ho8.cellAt (u8s_len b) p hpl
        rw [u8s_at hpl] at k1
        have hbp := HBt.out _ (List.getElem_mem hpl)
        have hxl : x < 256 := by omega
        obtain ⟨y, hy⟩ : ∃ y, b[p] ^^^ x = y := ⟨_, rfl⟩
        have e5 := u8_xor_nat b[p] x hbp hxl
        rw [hy] at e5
        have hyl : y < 256 := by rw [← hy]; exact Nat.xor_lt_two_pow (n := 8) hbp hxl
        have hst := (ho8.stored (u8s_len b) p (.int .u8 (y : Int))).1
        rw [show (u8s b).set p (.int .u8 (y : Int)) = u8s (b.set p y) by simp [u8s, List.map_set]] at hst
        have HO9 := Lib.hid hst
        have HB9 : Hid (Below w7.heap.size w7 (w8.setCell ⟨g, p, none⟩ (.int .u8 (y : Int))).drew) := (hb8.setCell (p := ⟨g, p, none⟩) hg1 _).drew
        have HY : Hid (b[p] ^^^ x = y) := hy
        have HSm : Hid (x = 0 → b.set p y = b) := fun h => by
          have h2 := HY.out
          rw [h, Nat.xor_zero] at h2
          rw [← h2, List.set_getElem_self]
        have HNe : Hid (x ≠ 0 → b.set p y ≠ b) := fun h h' => by
          have h2 : (b.set p y)[p]? = b[p]? := by rw [h']
          rw [List.getElem?_set_self hpl, List.getElem?_eq_getElem hpl] at h2
          have h3 : y = b[p] := Option.some.inj h2
          apply h
          have h4 := HY.out
          rw [h3] at h4
          have h5 : b[p] ^^^ (b[p] ^^^ x) = b[p] ^^^ b[p] := by rw [h4]
          rwa [← Nat.xor_assoc, Nat.xor_self, Nat.zero_xor] at h5
        generalize b[p] = bp at *
        clear ho8 hb8 hst hy HY HC7 HCp
        go_wp2
        go_region
        have HK9 := Lib.hid (HK7.out.kept HB9.out)
        have HH9 := Lib.hid (HH7.out.kept HB9.out)
        have HC9 := Lib.hid (new_call HB7.out HB9.out)
        have HO9' : Hid (Own (w8.setCell ⟨g, p, none⟩ (.int .u8 (y : Int))).drew w7.heap.size 5 (.slice (some ⟨g, 0, none⟩) b.length c8) (u8s (b.set p y))) := HO9.out
        clear HO9 HK7 HH7 HB7 HB9 k1 k2 e5
        generalize (w8.setCell ⟨g, p, none⟩ (.int .u8 (y : Int))).drew = w9 at *
        obtain ⟨A10, c10, hv10, hh10⟩ := HO9'.out.has
        rw [u8s_len, List.length_set] at hv10 hh10
        cases hv10
        have HD9 := Lib.hid (HDc.out w9 HK9.out _ b.length _ (b.set p y) hh10 (fun z hz => (List.mem_or_eq_of_mem_set hz).elim (HBt.out z) fun h => by rw [h]; exact hyl) (by omega))
        have hrl := dec_len6 sizes ks (b.set p y)
        have hkl : ks.length = m := by rw [← HKs.out, List.length_map, HLen.out]
        rw [hkl] at hrl
        have HS2 := Lib.hid (fun W (hW : Below w9.heap.size w9 W) => ref6Same_any A3 m c3 l B m d l W (HH9.out.kept hW) (HK9.out.cd.kept hW) (by omega))
        rw [decide_eq_true (rfl : l = l)] at HS2
        by_cases hx0 : x = 0
        · have hset := HSm.out hx0
          subst hx0
          rw [hset, HD1.out] at HD9
          clear hh10 HO9' hset hrl hkl
          go_wp2_with fail
          refine HD9.out.mono ?_
          rintro e wA ⟨AA, cA, rfl, hhA, hbA⟩
          have HBA := Lib.hid hbA
          have HSA := Lib.hid (HS2.out wA hbA)
          clear hhA hbA HD9
          go_wp2_with fail
          refine HSA.out.mono ?_
          rintro e wB ⟨rfl, q, rfl⟩
          have HBB := Lib.hid (new_call (new_call HC9.out HBA.out) (quiet_below wA q))
          generalize wA.drewN q = wB at *
          go_wp2_with (go_at_call 11; refine (known06 _).mono ?_; rintro e w' ⟨rfl, hb⟩)
          go_ret
          exact ⟨rfl, new_call HBB.out hb⟩
        · have hne := HD4.out _ (HNe.out hx0)
          have i1 : ((x : Int) == 0) = false := beq_eq_false_iff_ne.2 (by omega)
          have i2 : decide ((x : Int) = 0) = false := by simp; omega
          generalize decAll sizes ks (b.set p y) = r at *
          obtain ⟨rl, re⟩ := r
          simp only at hrl
          clear HO9' hh10 hkl
          go_wp2_with fail
          refine HD9.out.mono ?_
          rintro e wA ⟨AA, cA, rfl, hhA, hbA⟩
          simp only at hhA
          have HBA := Lib.hid hbA
          have HSA := Lib.hid (fun W (hW : Below wA.heap.size wA W) => HS2.out W (new_call hbA hW))
          have HHA := Lib.hid hhA
          by_cases hre : re = 0
          · subst hre
            have hrn : rl ≠ l := fun h => hne (by rw [h])
            have HSr := Lib.hid (ref6Same_any AA rl.length cA rl B m d l wA hhA (HK9.out.cd.kept hbA) (by omega))
            rw [decide_eq_false hrn] at HSr
            clear hhA hbA HD9 hne hrn
            go_wp2_with fail
            refine HSr.out.mono ?_
            rintro e wB ⟨rfl, q, rfl⟩
            have HBB := Lib.hid (quiet_below wA q)
            generalize wA.drewN q = wB at *
            have HSB := Lib.hid (HSA.out wB HBB.out)
            go_wp2_with fail
            refine HSB.out.mono ?_
            rintro e wC ⟨rfl, q2, rfl⟩
            have HBC := Lib.hid (new_call (new_call (new_call HC9.out HBA.out) HBB.out) (quiet_below wB q2))
            generalize wB.drewN q2 = wC at *
            go_wp2_with (go_at_call 11; refine (known06 _).mono ?_; rintro e w' ⟨rfl, hb⟩)
            go_ret
            exact ⟨rfl, new_call HBC.out hb⟩
          · have i3 : ((re : Int) == 0) = false := beq_eq_false_iff_ne.2 (by omega)
            have i4 : decide ((re : Int) = 0) = false := by simp; omega
            have HSB := Lib.hid (HSA.out wA (Below.refl _ _))
            clear hhA hbA HD9 hne
            go_wp2_with fail
            refine HSB.out.mono ?_
            rintro e wC ⟨rfl, q2, rfl⟩
            have HBC := Lib.hid (new_call (new_call HC9.out HBA.out) (quiet_below wA q2))
            generalize wA.drewN q2 = wC at *
            go_wp2_with (go_at_call 11; refine (known06 _).mono ?_; rintro e w' ⟨rfl, hb⟩)
            go_ret
            exact ⟨rfl, new_call HBC.out hb⟩
  · have HNil : Hid (b = []) := by have := enc_err (sizes := sizes) (l := l) (by rw [hr]; exact he); rw [hr] at this; exact this
    have hb0 := HNil.out
    subst hb0
    have t3 : ((e0 : Int) == 0) = false := beq_eq_false_iff_ne.2 (by omega)
    have t4 : decide ((e0 : Int) = 0) = false := by simp; omega
    clear hr
    go_enter Try.func5, Try.ntmps5
    go_wp2_with fail
    refine HEn.out.mono ?_
    rintro e w1 ⟨A1, c1, rfl, hh1, hb1⟩
    have HB1 := Lib.hid hb1
    clear hh1 hb1 HEn
    go_wp2_with (go_at_call 11; refine (known06 _).mono ?_; rintro e w' ⟨rfl, hb⟩)
    go_ret
    exact ⟨rfl, new_call HB1.out hb⟩

set_option maxRecDepth 100000 in
theorem lifted (os : Os) (started : os.Started) (H : Type) (enc : TypeId × Value → H) :
    ReturnsInHanded {} Try.checked os 5 .any (Rows.coderBackSpec.pre6 enc Try.prog Try.f5 Rows.coderBackRow.domain false) (Rows.coderBackSpec.post enc Try.prog Try.f5 false true false false) := by
  refine returnsInHanded_of_change (C := Try.checked) Try.own started (by kernel_rfl) Try.func5
    (ChangeSpec.witness6 (enc := enc) (C := Try.checked) false ⟨#[], #[.slice none 0 0, .slice none 0 0, .int .u16 0, .int .u8 0, .int .u8 0], []⟩ 8 (by kernel_rfl) (by kernel_rfl) (by kernel_rfl) (by kernel_rfl)) ?_
  intro W base args ds gs before hval0 hW _ _
  have hval : ∀ (j : Nat) t v, Try.f5.params[j]? = some t → args[j]? = some v → Value.okWide Try.prog W .any base t v := hval0
  have hW' := hW
  obtain ⟨p, q, hA0, hV, rfl, _, _⟩ := hW
  have hA : DataW.TrodAll enc Try.prog W 0 (fun _ => true) true Try.f5.params.toList args.toList ds p := hA0
  rw [Try.params5] at hA hval
  obtain ⟨v0, v1, v2, v3, v4, d0, d1, d2, d3, d4, p0, p1, p2, p3, p4, rfl, rfl, rfl, h0, h1, h2, h3, h4⟩ := trodAll_five hA
  obtain ⟨rfl, rfl⟩ := trodVars_none hV
  obtain ⟨A0, n0, c0, bs0, rfl, hh0, hb0, hn0⟩ := open_intsl (hval 0 22 v0 rfl rfl) h0
  obtain ⟨A1, n1, c1, bs1, rfl, hh1, hb1, hn1⟩ := open_codes (hval 1 23 v1 rfl rfl) h1
  obtain ⟨a2, rfl, rfl, rfl, w2⟩ := open_int Try.underlying39 (hval 2 39 v2 rfl rfl) h2
  obtain ⟨a3, rfl, rfl, rfl, w3⟩ := open_int Try.underlying5 (hval 3 5 v3 rfl rfl) h3
  obtain ⟨a4, rfl, rfl, rfl, w4⟩ := open_int Try.underlying5 (hval 4 5 v4 rfl rfl) h4
  exact (walk A0 n0 c0 bs0 A1 n1 c1 bs1 a2 a3 a4 W hh0 hb0 hn0 hh1 hb1 hn1 (wf_u16 w2) (wf_u8 w3) (wf_u8 w4)).mono fun e W' he =>
    law_post rfl rfl (by rw [Try.params5]; intro t ht; simp at ht; rcases ht with rfl | rfl | rfl | rfl | rfl <;> exact ⟨by kernel_rfl, of_decide_eq_true (by kernel_rfl)⟩) hW' rfl he

theorem proved : Rows.CoderBackSaid :=
  OpenClaim.holds_of_wide 5 Try.f5 rfl rfl rfl rfl rfl rfl rfl ⟨rfl, rfl, rfl, rfl, rfl⟩ rfl rfl rfl rfl rfl (by kernel_rfl) Try.func5 (by kernel_rfl)
    (of_decide_eq_true (by kernel_rfl)) (by unfold Func.isWrapper; first | (rw [if_pos (by decide +kernel)]; kernel_rfl) | (rw [if_neg (by decide +kernel)]; exact ⟨rfl, rfl⟩))
    (fun os started H enc _ => lifted os started H enc)
end Go.Proofs.Ytfkmcjlapigapaa.coderBack
