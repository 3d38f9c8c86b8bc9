/- vint.GetInt, vint.PutInt and the document's: signed numbers. -/
import Derived.Test.YtkpangelcboklaaZig
import Derived.Test.YtkpangelcboklaaGet
import Derived.Test.YtkpangelcboklaaRefGet
import Derived.Test.YtkpangelcboklaaRefPut
namespace Go.Proofs.Ytkpangelcboklaa
open Go.RowKit

theorem scan_lt : ∀ (bs : List Nat) (i acc : Nat), i ≤ 9 → acc < 128 ^ i → (scan i acc bs).1 < 18446744073709551616
  | [], _, _, _, _ => by simp [scan]
  | c :: cs, i, acc, hi, hacc => by
    unfold scan
    split
    · simp
    · split
      · simp
      · split
        · have h1 : acc + c * 128 ^ i < 18446744073709551616 := by
            by_cases h9 : i = 9
            · subst h9
              have e : (128 : Nat) ^ 9 = 9223372036854775808 := by decide
              rw [e] at hacc ⊢
              omega
            · have h2 := pow128_le (i := i) (by omega)
              have h3 : c * 128 ^ i ≤ 127 * 128 ^ i := Nat.mul_le_mul_right _ (by omega)
              rw [Nat.pow_succ] at h2
              omega
          exact h1
        · rename_i h0 _ _
          exact scan_lt cs (i + 1) _ (by omega) (acc_up hacc)
theorem scan_zero : ∀ (bs : List Nat) (i acc : Nat), (scan i acc bs).2.2 ≠ 0 → (scan i acc bs).1 = 0 ∧ (scan i acc bs).2.1 = 0
  | [], _, _, _ => by simp [scan]
  | c :: cs, i, acc, h => by
    unfold scan at h ⊢
    split
    · simp
    · split
      · simp
      · split
        · simp_all
        · rename_i h1 h2 h3
          rw [if_neg h1, if_neg h2, if_neg h3] at h
          exact scan_zero cs (i + 1) _ h
theorem get_lt (bs : List Nat) (p : Int) : (get bs p).1 < 18446744073709551616 := by
  unfold get
  split
  · simp
  · unfold getAt
    have := scan_lt (bs.drop p.toNat) 0 0 (by omega) (by omega)
    simp only
    split <;> simpa using this
theorem get_zero (bs : List Nat) (p : Int) (h : (get bs p).2.2 ≠ 0) : (get bs p).1 = 0 ∧ (get bs p).2.1 = 0 := by
  unfold get at h ⊢
  split
  · simp
  · rename_i h1
    rw [if_neg h1] at h
    unfold getAt at h ⊢
    simp only at h ⊢
    split
    · rename_i h2
      rw [if_pos h2] at h
      simp at h
    · rename_i h2
      exact scan_zero _ _ _ h2

theorem getInt_any (A : Option Addr) (n c : Nat) (bs : List Nat) (p : Int) (w : World) (h : Has w A n c (u8s bs)) (hb : ∀ x ∈ bs, x < 256) (hn : n ≤ 281474976710656) :
    Calls Try.prog 20 #[.slice A n c, .int .i64 p] w fun e w' =>
      e = .returned (.tuple #[.int .i64 (zag (get bs p).1), .int .i64 (get bs p).2.1, .int .i64 (get bs p).2.2]) ∧ w = w' := by
  have HG := Lib.hid (get_any A n c bs p w h hb hn)
  have hlt := get_lt bs p
  clear h hb hn
  generalize get bs p = r at *
  go_enter Try.func20, Try.ntmps20
  go_wp2_with (first
    | (go_at_call 16; refine HG.out.mono ?_; rintro e w' ⟨rfl, rfl⟩)
    | (go_at_call 26; refine (zag_any _ _ (by omega) (by omega)).mono ?_; rintro e w' ⟨rfl, rfl⟩))
  go_ret3
  exact ⟨rfl, rfl⟩

theorem refGetInt_any (A : Option Addr) (n c : Nat) (bs : List Nat) (p : Int) (w : World) (h : Has w A n c (u8s bs)) (hb : ∀ x ∈ bs, x < 256) (hn : n ≤ 281474976710656) :
    Calls Try.prog 21 #[.slice A n c, .int .i64 p] w fun e w' =>
      e = .returned (.tuple #[.int .i64 (zag (get bs p).1), .int .i64 (get bs p).2.1, .int .i64 (get bs p).2.2]) ∧ w = w' := by
  have HG := Lib.hid (refGet_any A n c bs p w h hb hn)
  have hlt := get_lt bs p
  have HZ := Lib.hid (get_zero bs p)
  clear h hb hn
  generalize get bs p = r at *
  by_cases h0 : r.2.2 = 0
  · have HE := Lib.hid h0
    have t : (((r.2.2 : Nat) : Int) != 0) = false := by rw [h0]; rfl
    clear h0
    go_enter Try.func21, Try.ntmps21
    go_wp2_with (first
      | (go_at_call 17; refine HG.out.mono ?_; rintro e w' ⟨rfl, rfl⟩)
      | (go_at_call 27; refine (refZag_any _ _ (by omega) (by omega)).mono ?_; rintro e w' ⟨rfl, rfl⟩))
    go_ret3
    exact ⟨by rw [HE.out]; rfl, rfl⟩
  · have t : (((r.2.2 : Nat) : Int) != 0) = true := by rw [bne_iff_ne]; omega
    have HE := Lib.hid (HZ.out h0)
    clear h0
    go_enter Try.func21, Try.ntmps21
    go_wp2_with (first
      | (go_at_call 17; refine HG.out.mono ?_; rintro e w' ⟨rfl, rfl⟩)
      | (go_at_call 27; refine (refZag_any _ _ (by omega) (by omega)).mono ?_; rintro e w' ⟨rfl, rfl⟩))
    go_ret3
    exact ⟨by rw [HE.out.1, HE.out.2]; rfl, rfl⟩

theorem putInt_any (n : Int) (w : World) (h0 : -9223372036854775808 ≤ n) (h1 : n ≤ 9223372036854775807) :
    Calls Try.prog 22 #[.int .i64 n] w (Wrote w (putN (zig n).toNat)) := by
  have hr := zig_range h0 h1
  obtain ⟨z, hz⟩ : ∃ z : Nat, zig n = z := ⟨(zig n).toNat, by omega⟩
  have HZ := Lib.hid hz
  have hz64 : z < 18446744073709551616 := by omega
  rw [hz, Int.toNat_natCast]
  clear hz hr
  go_enter Try.func22, Try.ntmps22
  go_wp2_with (first
    | (go_at_call 24; refine (zig_any _ _ h0 h1).mono ?_; rintro e w' ⟨rfl, rfl⟩; rw [HZ.out])
    | (go_at_call 15; refine (put_one z _ hz64 _ rfl).mono ?_; rintro e w1 ⟨A1, c1, rfl, hh1, ho1, hb1⟩))
  go_ret
  exact ⟨A1, c1, rfl, hh1, ho1.less (by simp), new_call (new_alloc (Below.refl _ _) _) hb1⟩

theorem refPutInt_any (n : Int) (w : World) (h0 : -9223372036854775808 ≤ n) (h1 : n ≤ 9223372036854775807) :
    Calls Try.prog 23 #[.int .i64 n] w (Wrote w (putN (zig n).toNat)) := by
  have hr := zig_range h0 h1
  obtain ⟨z, hz⟩ : ∃ z : Nat, zig n = z := ⟨(zig n).toNat, by omega⟩
  have HZ := Lib.hid hz
  have hz64 : z < 18446744073709551616 := by omega
  rw [hz, Int.toNat_natCast]
  clear hz hr
  go_enter Try.func23, Try.ntmps23
  go_wp2_with (first
    | (go_at_call 25; refine (refZig_any _ _ h0 h1).mono ?_; rintro e w' ⟨rfl, rfl⟩; rw [HZ.out])
    | (go_at_call 13; refine (refPut_any z _ hz64).mono ?_; rintro e w1 ⟨A1, c1, rfl, hh1, ho1, hb1⟩))
  go_ret
  exact ⟨A1, c1, rfl, hh1, ho1, hb1⟩
end Go.Proofs.Ytkpangelcboklaa
