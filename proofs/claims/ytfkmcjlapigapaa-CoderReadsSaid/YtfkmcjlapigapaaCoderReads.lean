/- Of any sizes, any models and any bytes CoderReads answers true: they are the symbols that the document says, or none. Conditions: none. -/
import Derived.Test.YtfkmcjlapigapaaKnown06
import Derived.Test.YtfkmcjlapigapaaLawCodes
namespace Go.Proofs.Ytfkmcjlapigapaa.coderReads
open Go.ChangeShapes Go.WideShapes Go.ChangeAt Go.RowKit

set_option maxRecDepth 100000 in
set_option maxHeartbeats 1000000 in
theorem walk (A : Option Addr) (n c : Nat) (sizes : List Int) (M : Option Addr) (m d : Nat) (ks : List Int) (B : Option Addr) (nb cb : Nat) (bs : List Nat) (w : World) (hh : Has w A n c (intVs sizes)) (_hs : ∀ x ∈ sizes, -9223372036854775808 ≤ x ∧ x ≤ 9223372036854775807) (hn : n ≤ 9223372036854775807) (hk : Has w M m d (intVs ks)) (_hx : ∀ x ∈ ks, -9223372036854775808 ≤ x ∧ x ≤ 9223372036854775807) (hm : m ≤ 9223372036854775807) (hb : Has w B nb cb (u8s bs)) (hby : ∀ x ∈ bs, x < 256) (hnb : nb ≤ 9223372036854775807) :
    Calls Try.prog 4 #[.slice A n c, .slice M m d, .slice B nb cb] w fun e w' => e = .returned (.bool true) ∧ Below w.heap.size w w' := by
  by_cases h1 : 20 < n
  · have t : decide ((20 : Int) < (n : Int)) = true := by simp; omega
    clear hh hk hb hby
    go_enter Try.func4, Try.ntmps4
    go_wp2_with (go_at_call 11; refine (known06 _).mono ?_; rintro e w' ⟨rfl, hb⟩)
    go_ret
    exact ⟨rfl, hb⟩
  have t1 : decide ((20 : Int) < (n : Int)) = false := by simp; omega
  by_cases h2 : 100 < m
  · have t : decide ((100 : Int) < (m : Int)) = true := by simp; omega
    clear hh hk hb hby
    go_enter Try.func4, Try.ntmps4
    go_wp2_with (go_at_call 11; refine (known06 _).mono ?_; rintro e w' ⟨rfl, hb⟩)
    go_ret
    exact ⟨rfl, hb⟩
  have t2 : decide ((100 : Int) < (m : Int)) = false := by simp; omega
  by_cases h3 : 400 < nb
  · have t : decide ((400 : Int) < (nb : Int)) = true := by simp; omega
    clear hh hk hb hby
    go_enter Try.func4, Try.ntmps4
    go_wp2_with (go_at_call 11; refine (known06 _).mono ?_; rintro e w' ⟨rfl, hb⟩)
    go_ret
    exact ⟨rfl, hb⟩
  have t3 : decide ((400 : Int) < (nb : Int)) = false := by simp; omega
  have HH := Lib.hid hh
  have HK := Lib.hid hk
  have HB := Lib.hid hb
  have HBy := Lib.hid hby
  have HLn : Hid ((decAll sizes ks bs).1.length ≤ 100000) := by
    show _ ≤ _
    have hl : ks.length = m := by have := hk.len; rw [intVs_len] at this; exact this
    have := dec_len sizes ks bs
    omega
  clear hh hk hb hby
  go_enter Try.func4, Try.ntmps4
  go_wp2_with fail
  refine (coderDec_any A n c sizes M m d ks B nb cb bs w HH.out HK.out HB.out HBy.out (by omega) (by omega) (by omega)).mono ?_
  rintro e w1 ⟨A1, c1, rfl, hh1, hb1⟩
  have HH1 := Lib.hid hh1
  have HB1 := Lib.hid hb1
  clear hh1 hb1
  go_wp2_with fail
  refine (ref6Dec_any A n c sizes M m d ks B nb cb bs w1 (HH.out.kept HB1.out) (HK.out.kept HB1.out) (HB.out.kept HB1.out) HBy.out (by omega) (by omega) (by omega)).mono ?_
  rintro e w2 ⟨A2, c2, rfl, hh2, hb2⟩
  have HS := Lib.hid (ref6Same_any A1 _ c1 _ A2 _ c2 _ w2 (HH1.out.kept hb2) hh2 HLn.out)
  have HB2 := Lib.hid (new_call HB1.out hb2)
  rw [decide_eq_true (rfl : (decAll sizes ks bs).1 = (decAll sizes ks bs).1)] at HS
  clear hh2 hb2 HH1 HB1
  generalize decAll sizes ks bs = r at *
  go_wp2_with fail
  refine HS.out.mono ?_
  rintro e w3 ⟨rfl, q, rfl⟩
  have HB3 := Lib.hid (new_call HB2.out (quiet_below w2 q))
  generalize w2.drewN q = w3 at *
  go_wp2_with (go_at_call 11; refine (known06 _).mono ?_; rintro e w' ⟨rfl, hb⟩)
  go_ret
  exact ⟨rfl, new_call HB3.out hb⟩

set_option maxRecDepth 100000 in
theorem lifted (os : Os) (started : os.Started) (H : Type) (enc : TypeId × Value → H) :
    ReturnsInHanded {} Try.checked os 4 .any (Rows.coderReadsSpec.pre6 enc Try.prog Try.f4 Rows.coderReadsRow.domain false) (Rows.coderReadsSpec.post enc Try.prog Try.f4 false true false false) := by
  refine returnsInHanded_of_change (C := Try.checked) Try.own started (by kernel_rfl) Try.func4
    (ChangeSpec.witness6 (enc := enc) (C := Try.checked) false ⟨#[], #[.slice none 0 0, .slice none 0 0, .slice none 0 0], []⟩ 8 (by kernel_rfl) (by kernel_rfl) (by kernel_rfl) (by kernel_rfl)) ?_
  intro W base args ds gs before hval0 hW _ _
  have hval : ∀ (j : Nat) t v, Try.f4.params[j]? = some t → args[j]? = some v → Value.okWide Try.prog W .any base t v := hval0
  have hW' := hW
  obtain ⟨p, q, hA0, hV, rfl, _, _⟩ := hW
  have hA : DataW.TrodAll enc Try.prog W 0 (fun _ => true) true Try.f4.params.toList args.toList ds p := hA0
  rw [Try.params4] at hA hval
  obtain ⟨v0, v1, v2, d0, d1, d2, p0, p1, p2, rfl, rfl, rfl, h0, h1, h2⟩ := trodAll_three hA
  obtain ⟨rfl, rfl⟩ := trodVars_none hV
  obtain ⟨A0, n0, c0, bs0, rfl, hh0, hb0, hn0⟩ := open_intsl (hval 0 22 v0 rfl rfl) h0
  obtain ⟨A1, n1, c1, bs1, rfl, hh1, hb1, hn1⟩ := open_intsl (hval 1 22 v1 rfl rfl) h1
  obtain ⟨A2, n2, c2, bs2, rfl, hh2, hb2, hn2⟩ := open_bytes (hval 2 25 v2 rfl rfl) h2
  exact (walk A0 n0 c0 bs0 A1 n1 c1 bs1 A2 n2 c2 bs2 W hh0 hb0 hn0 hh1 hb1 hn1 hh2 hb2 hn2).mono fun e W' he =>
    law_post rfl rfl (by rw [Try.params4]; intro t ht; simp at ht; rcases ht with rfl | rfl | rfl <;> exact ⟨by kernel_rfl, of_decide_eq_true (by kernel_rfl)⟩) hW' rfl he

theorem proved : Rows.CoderReadsSaid :=
  OpenClaim.holds_of_wide 4 Try.f4 rfl rfl rfl rfl rfl rfl rfl ⟨rfl, rfl, rfl, rfl, rfl⟩ rfl rfl rfl rfl rfl (by kernel_rfl) Try.func4 (by kernel_rfl)
    (of_decide_eq_true (by kernel_rfl)) (by unfold Func.isWrapper; first | (rw [if_pos (by decide +kernel)]; kernel_rfl) | (rw [if_neg (by decide +kernel)]; exact ⟨rfl, rfl⟩))
    (fun os started H enc _ => lifted os started H enc)
end Go.Proofs.Ytfkmcjlapigapaa.coderReads
