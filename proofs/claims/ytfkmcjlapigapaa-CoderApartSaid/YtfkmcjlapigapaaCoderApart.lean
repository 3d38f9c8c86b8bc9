/- Of any two rows of bytes CoderApart answers true: bytes that are packed are unpacked as they were; of two rows of as many bytes that are not the same what is packed is not. Conditions: none. -/
import Derived.Test.YtfkmcjlapigapaaKnown06
import Derived.Test.YtfkmcjlapigapaaLawCodes
import Derived.Test.YtfkmcjlapigapaaCoderLaw
namespace Go.Proofs.Ytfkmcjlapigapaa.coderApart
open Go.ChangeShapes Go.WideShapes Go.ChangeAt Go.RowKit

set_option maxRecDepth 100000 in
set_option maxHeartbeats 8000000 in
theorem walk (A : Option Addr) (na ca : Nat) (la : List Nat) (B : Option Addr) (nb cb : Nat) (lb : List Nat) (w : World) (hA : Has w A na ca (u8s la)) (hba : ∀ x ∈ la, x < 256) (_hna : na ≤ 9223372036854775807) (hB : Has w B nb cb (u8s lb)) (hbb : ∀ x ∈ lb, x < 256) (_hnb : nb ≤ 9223372036854775807) :
    Calls Try.prog 10 #[.slice A na ca, .slice B nb cb] w fun e w' => e = .returned (.bool true) ∧ Below w.heap.size w w' := by
  obtain ⟨n, hn⟩ : ∃ n, min na nb = n := ⟨_, rfl⟩
  have em : (if nb < na then (nb : Int) else (na : Int)) = (n : Int) := by split <;> omega
  by_cases h1 : 150 < n
  · have t : decide ((150 : Int) < (n : Int)) = true := by simp; omega
    clear hA hB hba hbb
    go_enter Try.func10, Try.ntmps10
    go_wp2_with (go_at_call 11; refine (known06 _).mono ?_; rintro e w' ⟨rfl, hb⟩)
    go_ret
    exact ⟨rfl, hb⟩
  have t1 : decide ((150 : Int) < (n : Int)) = false := by simp; omega
  have hca := hA.cap
  have hcb := hB.cap
  have hHa : Has w A n ca (u8s (la.take n)) := by
    have := hA.head (m := n) (by omega)
    rw [show (u8s la).take n = u8s (la.take n) by simp [u8s]] at this
    exact this
  have hHb : Has w B n cb (u8s (lb.take n)) := by
    have := hB.head (m := n) (by omega)
    rw [show (u8s lb).take n = u8s (lb.take n) by simp [u8s]] at this
    exact this
  have hna2 : (n : Int) ≤ (ca : Int) := by omega
  have hnb2 : (n : Int) ≤ (cb : Int) := by omega
  have b1 : ∀ x ∈ la.take n, x < 256 := fun x hx => hba x (List.mem_of_mem_take hx)
  have b2 : ∀ x ∈ lb.take n, x < 256 := fun x hx => hbb x (List.mem_of_mem_take hx)
  have l1 : (la.take n).length = n := by have := hHa.len; rw [u8s_len] at this; exact this
  have l2 : (lb.take n).length = n := by have := hHb.len; rw [u8s_len] at this; exact this
  clear hA hB hba hbb
  generalize la.take n = a at *
  generalize lb.take n = d at *
  obtain ⟨p, hp⟩ := enc_codes (bs := a) (by omega) b1
  obtain ⟨q, hq⟩ := enc_codes (bs := d) (by omega) b2
  have hun := unp_hit hp
  rw [l1] at hun
  have hpq : (p = q) ↔ (a = d) := by
    constructor
    · intro e
      rw [← e] at hq
      exact codes_same (enc_one hp hq (by rw [codes_models, codes_models, l1, l2]))
    · intro e
      rw [e, hq] at hp
      cases hp
      rfl
  have hpl := (enc_long hp).2.1
  have hql := (enc_long hq).2.1
  have HBp : Hid (∀ x ∈ p, x < 256) := by have := enc_bytes [256] (codesC a); rw [hp] at this; exact this
  have HBq : Hid (∀ x ∈ q, x < 256) := by have := enc_bytes [256] (codesC d); rw [hq] at this; exact this
  have hpl2 : p.length ≤ 455 := by simp [codesC] at hpl; omega
  have HP := Lib.hid hp
  have HQ := Lib.hid hq
  have HU := Lib.hid hun
  have HPQ := Lib.hid hpq
  have HA := Lib.hid hHa
  have HB := Lib.hid hHb
  have H1 := Lib.hid b1
  have H2 := Lib.hid b2
  have HL1 := Lib.hid l1
  clear hp hq hun hpq hHa hHb b1 b2 l1 l2 hpl hql
  have HPa := Lib.hid (coderPack_any A n ca a w HA.out H1.out (by omega))
  rw [HP.out] at HPa
  have HEq : Hid (decide (p = q) = decide (a = d)) := by
    show _ = _
    by_cases h : a = d
    · rw [decide_eq_true h, decide_eq_true (HPQ.out.2 h)]
    · rw [decide_eq_false h, decide_eq_false fun e => h (HPQ.out.1 e)]
  go_enter Try.func10, Try.ntmps10
  go_wp2_with fail
  refine HPa.out.mono ?_
  rintro e w1 ⟨A1, c1, rfl, hh1, hb1⟩
  have HH1 := Lib.hid hh1
  have HB1 := Lib.hid hb1
  clear hh1 hb1 HPa
  have HPb := Lib.hid (coderPack_any B n cb d w1 (HB.out.kept HB1.out) H2.out (by omega))
  rw [HQ.out] at HPb
  go_wp2_with fail
  refine HPb.out.mono ?_
  rintro e w2 ⟨A2, c2, rfl, hh2, hb2⟩
  have HH2 := Lib.hid hh2
  have HH1b := Lib.hid (HH1.out.kept hb2)
  have HB2 := Lib.hid (new_call HB1.out hb2)
  clear hh2 hb2 HPb HH1 HB1
  have HUn := Lib.hid (coderUnpack_any (n : Int) A1 p.length c1 p w2 (Or.inl (by omega)) HH1b.out HBp.out (by omega))
  rw [HU.out] at HUn
  go_wp2_with fail
  refine HUn.out.mono ?_
  rintro e w3 ⟨A3, c3, rfl, hh3, hb3⟩
  have HB3 := Lib.hid (new_call HB2.out hb3)
  have HS1 := Lib.hid (same_any A3 A a.length c3 n ca a a w3.drew hh3.drew (HA.out.kept HB3.out).drew H1.out H1.out)
  rw [decide_eq_true (rfl : a = a)] at HS1
  have HS2 := Lib.hid (same_any A1 A2 p.length c1 q.length c2 p q w3.drew (HH1b.out.kept hb3).drew (HH2.out.kept hb3).drew HBp.out HBq.out)
  have HS3 := Lib.hid (same_any A B n ca n cb a d w3.drew (HA.out.kept HB3.out).drew (HB.out.kept HB3.out).drew H1.out H2.out)
  rw [HEq.out] at HS2
  clear hh3 hb3 HUn HH1b HH2 HB2
  generalize decide (a = d) = bo at *
  go_wp2
  go_region_held3 (fun _ => True) (trivial) (first
    | (go_at_call 14; with_reducible refine Calls.mono HS1.out ?_; rintro e w' ⟨rfl, rfl⟩)
    | (go_at_call 14; with_reducible refine Calls.mono HS2.out ?_; rintro e w' ⟨rfl, rfl⟩)
    | (go_at_call 14; with_reducible refine Calls.mono HS3.out ?_; rintro e w' ⟨rfl, rfl⟩)
    | (go_at_call 11; refine (known06 _).mono ?_; rintro e w' ⟨rfl, hb⟩))
  all_goals
    go_wp2
    go_ret
    exact ⟨rfl, new_call HB3.out.drew hb⟩

set_option maxRecDepth 100000 in
theorem lifted (os : Os) (started : os.Started) (H : Type) (enc : TypeId × Value → H) :
    ReturnsInHanded {} Try.checked os 10 .any (Rows.coderApartSpec.pre6 enc Try.prog Try.f10 Rows.coderApartRow.domain false) (Rows.coderApartSpec.post enc Try.prog Try.f10 false true false false) := by
  refine returnsInHanded_of_change (C := Try.checked) Try.own started (by kernel_rfl) Try.func10
    (ChangeSpec.witness6 (enc := enc) (C := Try.checked) false ⟨#[], #[.slice none 0 0, .slice none 0 0], []⟩ 8 (by kernel_rfl) (by kernel_rfl) (by kernel_rfl) (by kernel_rfl)) ?_
  intro W base args ds gs before hval0 hW _ _
  have hval : ∀ (j : Nat) t v, Try.f10.params[j]? = some t → args[j]? = some v → Value.okWide Try.prog W .any base t v := hval0
  have hW' := hW
  obtain ⟨p, q, hA0, hV, rfl, _, _⟩ := hW
  have hA : DataW.TrodAll enc Try.prog W 0 (fun _ => true) true Try.f10.params.toList args.toList ds p := hA0
  rw [Try.params10] at hA hval
  obtain ⟨v0, v1, d0, d1, p0, p1, rfl, rfl, rfl, h0, h1⟩ := trodAll_two hA
  obtain ⟨rfl, rfl⟩ := trodVars_none hV
  obtain ⟨A0, n0, c0, bs0, rfl, hh0, hb0, hn0⟩ := open_bytes (hval 0 25 v0 rfl rfl) h0
  obtain ⟨A1, n1, c1, bs1, rfl, hh1, hb1, hn1⟩ := open_bytes (hval 1 25 v1 rfl rfl) h1
  exact (walk A0 n0 c0 bs0 A1 n1 c1 bs1 W hh0 hb0 hn0 hh1 hb1 hn1).mono fun e W' he =>
    law_post rfl rfl (by rw [Try.params10]; intro t ht; simp at ht; subst ht; exact ⟨by kernel_rfl, of_decide_eq_true (by kernel_rfl)⟩) hW' rfl he

theorem proved : Rows.CoderApartSaid :=
  OpenClaim.holds_of_wide 10 Try.f10 rfl rfl rfl rfl rfl rfl rfl ⟨rfl, rfl, rfl, rfl, rfl⟩ rfl rfl rfl rfl rfl (by kernel_rfl) Try.func10 (by kernel_rfl)
    (of_decide_eq_true (by kernel_rfl)) (by unfold Func.isWrapper; first | (rw [if_pos (by decide +kernel)]; kernel_rfl) | (rw [if_neg (by decide +kernel)]; exact ⟨rfl, rfl⟩))
    (fun os started H enc _ => lifted os started H enc)
end Go.Proofs.Ytfkmcjlapigapaa.coderApart
