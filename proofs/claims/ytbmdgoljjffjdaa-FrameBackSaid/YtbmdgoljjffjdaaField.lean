/- vint.Field, and the document's Fixed and Field. -/
import Derived.Test.YtbmdgoljjffjdaaFixed
import Derived.Deep.LoopGhost
namespace Go.Proofs.Ytbmdgoljjffjdaa
open Go.RowKit

/-- Bytes as a number, the lowest first. -/
def val8 : List Nat → Nat
  | [] => 0
  | c :: cs => c + 256 * val8 cs
theorem val8_snoc (l : List Nat) (c : Nat) : val8 (l ++ [c]) = val8 l + c * 256 ^ l.length := by
  induction l with
  | nil => simp [val8]
  | cons x l ih =>
    simp only [List.cons_append, val8, ih, List.length_cons, Nat.pow_succ]
    rw [Nat.mul_add, ← Nat.add_assoc]
    congr 1
    rw [Nat.mul_left_comm, Nat.mul_comm 256]
theorem val8_lt {l : List Nat} (h : ∀ x ∈ l, x < 256) : val8 l < 256 ^ l.length := by
  induction l with
  | nil => simp [val8]
  | cons x l ih =>
    have h1 := ih fun y hy => h y (List.mem_cons_of_mem _ hy)
    have h2 := h x (List.mem_cons_self ..)
    simp only [val8, List.length_cons, Nat.pow_succ]
    omega
theorem val8_step {l : List Nat} {t : Nat} (h : t < l.length) : val8 (l.drop t) = l[t] + 256 * val8 (l.drop (t + 1)) := by
  rw [List.drop_eq_getElem_cons h]; rfl
theorem pow256_le {i : Nat} (h : i ≤ 8) : 256 ^ i ≤ 18446744073709551616 := by
  have := Nat.pow_le_pow_right (n := 256) (by decide) h
  have e : (256 : Nat) ^ 8 = 18446744073709551616 := by decide
  omega
theorem or_up8 {i acc y : Nat} (hi : i ≤ 7) (h : acc < 256 ^ i) (hy : y < 256) :
    bits .or .u64 (acc : Int) (IntKind.u64.wrap ((y : Int) * 2 ^ (8 * i))) = ((acc + y * 256 ^ i : Nat) : Int) := by
  have e : (y : Int) * 2 ^ (8 * i) = ((y * 256 ^ i : Nat) : Int) := by rw [← pow8]; simp
  have p : ((2 : Int) ^ (8 * i)) = ((256 ^ i : Nat) : Int) := by rw [← pow8]; simp
  have hb : acc + y * 256 ^ i < 18446744073709551616 := by
    have h1 : y * 256 ^ i ≤ 255 * 256 ^ i := Nat.mul_le_mul_right _ (by omega)
    have h2 := pow256_le (i := i + 1) (by omega)
    rw [Nat.pow_succ] at h2
    omega
  rw [e, wraps_u64 _ (by omega) (by omega)]
  rw [bits_join_low .u64 64 (by decide) wraps_u64 (8 * i) (acc : Int) ((y * 256 ^ i : Nat) : Int) (by omega) (by rw [p]; omega) (by omega) (by omega) (by rw [p, ← Int.natCast_emod, Nat.mul_mod_left]; rfl) (by omega)]
  omega

/-- What Field answers. -/
def field (bs : List Nat) (p width : Int) : Nat × Nat :=
  if ¬ (1 ≤ width ∧ width ≤ 8) ∨ p < 0 then (0, 2)
  else if (bs.length : Int) - p < width then (0, 10)
  else (val8 ((bs.drop p.toNat).take width.toNat), 0)
theorem field_arg {bs : List Nat} {p width : Int} (h : ¬ (1 ≤ width ∧ width ≤ 8) ∨ p < 0) : field bs p width = (0, 2) := if_pos h
theorem field_short {bs : List Nat} {p width : Int} (h : 1 ≤ width ∧ width ≤ 8) (h1 : 0 ≤ p) (h2 : (bs.length : Int) - p < width) : field bs p width = (0, 10) := by
  unfold field; rw [if_neg (by omega), if_pos h2]
theorem field_ok {bs : List Nat} {k W : Nat} (h : 1 ≤ W ∧ W ≤ 8) (h2 : k + W ≤ bs.length) : field bs k W = (val8 ((bs.drop k).take W), 0) := by
  unfold field; rw [if_neg (by omega), if_neg (by omega)]; simp

def Told (w : World) (r : Nat × Nat) (e : Ending) (w' : World) : Prop := e = .returned (.tuple #[.int .u64 (r.1 : Int), .int .i64 (r.2 : Int)]) ∧ w = w'

set_option maxRecDepth 100000 in
set_option maxHeartbeats 1000000 in
theorem field_any (A : Option Addr) (n c : Nat) (bs : List Nat) (p width : Int) (w : World) (h : Has w A n c (u8s bs)) (hb : ∀ x ∈ bs, x < 256) (hn : n ≤ 281474976710656) (hp : p ≤ 9223372036854775807) :
    Calls Try.prog 41 #[.slice A n c, .int .i64 p, .int .i64 width] w (Told w (field bs p width)) := by
  have hl : bs.length = n := by have := h.len; rw [u8s_len] at this; exact this
  by_cases hw : widthOk width = true
  · have hw' : 1 ≤ width ∧ width ≤ 8 := by simpa [widthOk] using hw
    by_cases hp0 : p < 0
    · have HF := Lib.hid (field_arg (bs := bs) (width := width) (Or.inr hp0))
      clear h hb
      go_enter Try.func41, Try.ntmps41
      go_wp2_with (go_at_call 43; refine (width_any _ _).mono ?_; rintro e w' ⟨rfl, rfl⟩)
      go_ret2
      rw [HF.out]
      exact ⟨rfl, rfl⟩
    · by_cases hs : (n : Int) - p < width
      · have HF := Lib.hid (field_short (bs := bs) hw' (show 0 ≤ p by omega) (by rw [hl]; exact hs))
        have tp : decide (p < 0) = false := by simpa using hp0
        clear h hb hl
        go_enter Try.func41, Try.ntmps41
        go_wp2_with (go_at_call 43; refine (width_any _ _).mono ?_; rintro e w' ⟨rfl, rfl⟩)
        go_ret2
        rw [HF.out]
        exact ⟨rfl, rfl⟩
      · obtain ⟨k, rfl⟩ := Int.eq_ofNat_of_zero_le (show 0 ≤ p by omega)
        obtain ⟨W, rfl⟩ := Int.eq_ofNat_of_zero_le (show 0 ≤ width by omega)
        have hkW : k + W ≤ n := by omega
        obtain ⟨b, off, rfl, _, hcell⟩ := h.spot (by omega)
        have hcap := h.cap
        have HF := Lib.hid (field_ok (bs := bs) (k := k) (W := W) (by omega) (by omega))
        have tp : decide ((k : Int) < 0) = false := by simp
        have ts : decide ((n : Int) - (k : Int) < (W : Int)) = false := by simp; omega
        have hck : ¬ c = k := by omega
        obtain ⟨S, hS⟩ : ∃ S, (bs.drop k).take W = S := ⟨_, rfl⟩
        rw [hS] at HF
        have hSl : S.length = W := by rw [← hS, List.length_take, List.length_drop]; omega
        have hSat : ∀ t (ht : t < S.length), S[t] < 256 ∧ w.cell? ⟨b, off + k + t, none⟩ = some (.int .u8 (S[t] : Int)) := by
          intro t ht
          have htb : k + t < bs.length := by omega
          have e : S[t] = bs[k + t] := by simp only [← hS, List.getElem_take, List.getElem_drop]
          rw [e, Nat.add_assoc]
          exact ⟨hb _ (List.getElem_mem htb), hcell _ _ (u8s_at htb)⟩
        have HSA := Lib.hid hSat
        have HSL := Lib.hid hSl
        clear h hb hl hcell hS hSat hSl hp0 hs
        go_enter Try.func41, Try.ntmps41
        go_wp2_with (go_at_call 43; refine (width_any _ _).mono ?_; rintro e w' ⟨rfl, rfl⟩)
        go_loopg [8, 31] W (fun g s8 s31 wx => ∃ i acc : Nat, i + g = W ∧ s31 = .int .i64 i ∧ s8 = .int .u64 acc ∧ acc < 256 ^ i ∧ Hid (acc = val8 (S.take i)) ∧ w = wx)
        case atStart => exact ⟨0, 0, by omega, rfl, rfl, by simp, rfl, rfl⟩
        case round =>
          obtain ⟨i, acc, hig, rfl, rfl, hacc, HA, rfl⟩ := hrel
          by_cases hi : i < W
          · have his : i < S.length := by rw [HSL.out]; exact hi
            obtain ⟨hy8, hyc⟩ := HSA.out i his
            have HV : Hid (acc + S[i] * 256 ^ i = val8 (S.take (i + 1))) := by
              show _ = _
              rw [take_snoc his, val8_snoc, ← HA.out, List.length_take, Nat.min_eq_left (by omega)]
            have HO := Lib.hid (or_up8 (show i ≤ 7 by omega) hacc hy8)
            have hacc2 : acc + S[i] * 256 ^ i < 256 ^ (i + 1) := by
              have : S[i] * 256 ^ i ≤ 255 * 256 ^ i := Nat.mul_le_mul_right _ (by omega)
              rw [Nat.pow_succ]; omega
            generalize S[i] = y at *
            clear his
            go_wp2
            go_roundg (gk - 1)
            case measure => omega
            case rel => exact ⟨i + 1, acc + y * 256 ^ i, by omega, by go_num, by rw [HO.out], hacc2, HV, rfl⟩
          · go_wp2
            go_ret2
            rw [HF.out]
            refine ⟨?_, rfl⟩
            have e : acc = val8 S := by rw [HA.out, List.take_of_length_le (by rw [HSL.out]; omega)]
            rw [e]; rfl
  · have hw' : widthOk width = false := by simpa using hw
    have HF := Lib.hid (field_arg (bs := bs) (p := p) (width := width) (Or.inl (by simpa [widthOk] using hw)))
    clear h hb hw
    go_enter Try.func41, Try.ntmps41
    go_wp2_with (go_at_call 43; refine (width_any _ _).mono ?_; rintro e w' ⟨rfl, rfl⟩)
    go_ret2
    rw [HF.out]
    exact ⟨rfl, rfl⟩
end Go.Proofs.Ytbmdgoljjffjdaa
