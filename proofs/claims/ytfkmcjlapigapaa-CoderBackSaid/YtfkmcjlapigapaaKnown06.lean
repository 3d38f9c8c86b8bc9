/- lapidarylaw06.known. -/
import Derived.Test.YtfkmcjlapigapaaCoderCode
namespace Go.Proofs.Ytfkmcjlapigapaa
open Go.RowKit

theorem enc_none : encC [] [] = ([0, 0, 0, 0, 0], 0) := by decide +kernel
theorem enc_zero : encC [256] (codesC [0]) = ([0, 0, 0, 0, 0, 0], 0) := by decide +kernel
theorem dec_none : decAll [] [0] [] = ([], 2) := by decide +kernel
theorem unp_zero : unpC 1 [0, 0, 0, 0, 0, 0] = ([0], 0) := by decide +kernel
set_option maxRecDepth 100000 in
set_option maxHeartbeats 1000000 in
theorem known06 (w : World) : Calls Try.prog 11 #[] w fun e w' => e = .returned (.bool true) ∧ Below w.heap.size w w' := by
  go_enter Try.func11, Try.ntmps11
  go_wp2_with fail
  refine (coderEnc_any none 0 0 [] none 0 0 [] _ (Has.none _ _ _ fun _ => rfl) (HasK.none _ _ _ _ fun _ => rfl) (by omega) (by omega)).mono ?_
  rw [enc_none]
  rintro e w1 ⟨A1, c1, rfl, hh1, hb1⟩
  have HH1 : Hid (Has w1 A1 5 c1 (u8s [0, 0, 0, 0, 0])) := hh1
  have HB1 := Lib.hid hb1
  clear hh1 hb1
  have HH1b := Lib.hid (HH1.out.kept (new_alloc (Below.refl _ w1) (.cells #[.int .u8 0] 5)))
  have HB1b := Lib.hid (new_alloc HB1.out (.cells #[.int .u8 0] 5))
  go_wp2_with fail
  refine (coderPack_any _ 1 1 [0] _ (Has.one _ _ _) (by simp) (by omega)).mono ?_
  rw [enc_zero]
  rintro e w2 ⟨A2, c2, rfl, hh2, hb2⟩
  have HH2 : Hid (Has w2 A2 6 c2 (u8s [0, 0, 0, 0, 0, 0])) := hh2
  have HH1c := Lib.hid (HH1b.out.kept hb2)
  have HB2 := Lib.hid (new_call HB1b.out hb2)
  clear hh2 hb2 HH1 HH1b HB1 HB1b
  have HH1d := Lib.hid (HH1c.out.kept (new_alloc (Below.refl _ w2) (.cells #[.int .i64 0] 3)))
  have HH2d := Lib.hid (HH2.out.kept (new_alloc (Below.refl _ w2) (.cells #[.int .i64 0] 3)))
  have HB2d := Lib.hid (new_alloc HB2.out (.cells #[.int .i64 0] 3))
  go_wp2_with fail
  refine (coderDec_any none 0 0 [] _ 1 1 [0] none 0 0 [] _ (Has.none _ _ _ fun _ => rfl) (Has.one _ _ _) (Has.none _ _ _ fun _ => rfl) (by simp) (by omega) (by omega) (by omega)).mono ?_
  rw [dec_none]
  rintro e w3 ⟨A3, c3, rfl, _, hb3⟩
  have HH1e := Lib.hid (HH1d.out.kept hb3)
  have HH2e := Lib.hid (HH2d.out.kept hb3)
  have HB3 := Lib.hid (new_call HB2d.out hb3)
  clear hb3 HH1c HH2 HB2 HH1d HH2d HB2d
  have HH1f := Lib.hid (HH1e.out.kept (new_alloc (Below.refl _ w3) (.cells #[.int .u8 0, .int .u8 0, .int .u8 0, .int .u8 0, .int .u8 0, .int .u8 0] 5)))
  have HH2f := Lib.hid (HH2e.out.kept (new_alloc (Below.refl _ w3) (.cells #[.int .u8 0, .int .u8 0, .int .u8 0, .int .u8 0, .int .u8 0, .int .u8 0] 5)))
  have HB3f := Lib.hid (new_alloc HB3.out (.cells #[.int .u8 0, .int .u8 0, .int .u8 0, .int .u8 0, .int .u8 0, .int .u8 0] 5))
  go_wp2_with fail
  refine (coderUnpack_any 1 _ 6 6 [0, 0, 0, 0, 0, 0] _ (Or.inl (by omega)) (Has.new w3 #[.int .u8 0, .int .u8 0, .int .u8 0, .int .u8 0, .int .u8 0, .int .u8 0] 5) (by simp) (by omega)).mono ?_
  rw [unp_zero]
  rintro e w4 ⟨A4, c4, rfl, hh4, hb4⟩
  have HH4 : Hid (Has w4 A4 1 c4 (u8s [0])) := hh4
  have HH1g := Lib.hid (HH1f.out.kept hb4)
  have HH2g := Lib.hid (HH2f.out.kept hb4)
  have HB4 := Lib.hid (new_call HB3f.out hb4)
  clear hh4 hb4 HH1e HH2e HB3 HH1f HH2f HB3f
  have mk5 : ∀ w : World, (Instr.makeSlice 25 (.int .i64 5) (.int .i64 5)).run Try.prog w = .ok (.slice (some ⟨w.heap.size, 0, none⟩) 5 5) (w.alloc (.cells #[.int .u8 0, .int .u8 0, .int .u8 0, .int .u8 0, .int .u8 0] 5)) := fun _ => by kernel_rfl
  have mk6 : ∀ w : World, (Instr.makeSlice 25 (.int .i64 6) (.int .i64 6)).run Try.prog w = .ok (.slice (some ⟨w.heap.size, 0, none⟩) 6 6) (w.alloc (.cells #[.int .u8 0, .int .u8 0, .int .u8 0, .int .u8 0, .int .u8 0, .int .u8 0] 5)) := fun _ => by kernel_rfl
  have HS1 := Lib.hid (same_any A1 _ 5 c1 5 5 [0, 0, 0, 0, 0] [0, 0, 0, 0, 0] _ (HH1g.out.kept (new_alloc (Below.refl _ w4) (.cells #[.int .u8 0, .int .u8 0, .int .u8 0, .int .u8 0, .int .u8 0] 5))) (Has.new w4 #[.int .u8 0, .int .u8 0, .int .u8 0, .int .u8 0, .int .u8 0] 5) (by simp) (by simp))
  have HB5 := Lib.hid (new_alloc HB4.out (.cells #[.int .u8 0, .int .u8 0, .int .u8 0, .int .u8 0, .int .u8 0] 5))
  have HH2h := Lib.hid (HH2g.out.kept (new_alloc (Below.refl _ w4) (.cells #[.int .u8 0, .int .u8 0, .int .u8 0, .int .u8 0, .int .u8 0] 5)))
  have HH4h := Lib.hid (HH4.out.kept (new_alloc (Below.refl _ w4) (.cells #[.int .u8 0, .int .u8 0, .int .u8 0, .int .u8 0, .int .u8 0] 5)))
  go_wp2_with fail
  refine HS1.out.mono ?_
  rintro e w5 ⟨rfl, rfl⟩
  generalize w4.alloc (.cells #[.int .u8 0, .int .u8 0, .int .u8 0, .int .u8 0, .int .u8 0] 5) = w5 at *
  have HS2 := Lib.hid (same_any A2 _ 6 c2 6 6 [0, 0, 0, 0, 0, 0] [0, 0, 0, 0, 0, 0] _ (HH2h.out.kept (new_alloc (Below.refl _ w5) (.cells #[.int .u8 0, .int .u8 0, .int .u8 0, .int .u8 0, .int .u8 0, .int .u8 0] 5))) (Has.new w5 #[.int .u8 0, .int .u8 0, .int .u8 0, .int .u8 0, .int .u8 0, .int .u8 0] 5) (by simp) (by simp))
  have HB6 := Lib.hid (new_alloc HB5.out (.cells #[.int .u8 0, .int .u8 0, .int .u8 0, .int .u8 0, .int .u8 0, .int .u8 0] 5))
  have HH4i := Lib.hid (HH4h.out.kept (new_alloc (Below.refl _ w5) (.cells #[.int .u8 0, .int .u8 0, .int .u8 0, .int .u8 0, .int .u8 0, .int .u8 0] 5)))
  clear HH1g HH2g HH4 HB4 HS1 HH2h HH4h HB5
  go_wp2_with fail
  refine HS2.out.mono ?_
  rintro e w6 ⟨rfl, rfl⟩
  generalize w5.alloc (.cells #[.int .u8 0, .int .u8 0, .int .u8 0, .int .u8 0, .int .u8 0, .int .u8 0] 5) = w6 at *
  have HS3 := Lib.hid (same_any A4 _ 1 c4 1 1 [0] [0] _ (HH4i.out.kept (new_alloc (Below.refl _ w6) (.cells #[.int .u8 0] 5))) (Has.one w6 (.int .u8 0) 5) (by simp) (by simp))
  have HB7 := Lib.hid (new_alloc HB6.out (.cells #[.int .u8 0] 5))
  clear HS2 HH4i HB6
  go_wp2_with fail
  refine HS3.out.mono ?_
  rintro e w7 ⟨rfl, rfl⟩
  go_wp2
  go_ret
  exact ⟨rfl, HB7.out⟩
theorem enc_bytes (sizes : List Int) (l : List Cod) : ∀ x ∈ (encC sizes l).1, x < 256 := by
  intro x hx
  unfold encC at hx
  split at hx
  · cases hx
  · split at hx
    · cases hx
    · split at hx
      · cases hx
      · exact digC_byte _ _ x hx
theorem rdec_len (bs : List Nat) (ks : List Int) {t : Cdr} {r : List Cod × Cdr} (h : rdecC bs t ks = some r) : r.1.length = ks.length := by
  have := (rdec_sound bs ks (l := r.1) (u := r.2) h).2
  rw [← this, List.length_map]
theorem dec_len (sizes ks : List Int) (bs : List Nat) : (decAll sizes ks bs).1.length ≤ ks.length := by
  unfold decAll
  split
  · split
    · simp
    · unfold decodeC
      cases h : rdecC bs (beginC sizes) ks with
      | none => simp
      | some r =>
        simp only
        split
        · exact Nat.le_of_eq (rdec_len bs ks h)
        · simp
  · simp
end Go.Proofs.Ytfkmcjlapigapaa
