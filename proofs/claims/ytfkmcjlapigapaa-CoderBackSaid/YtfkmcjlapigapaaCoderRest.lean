/- The landed coder's reader: a number of digits, how far it is beyond, one digit more. -/
import Derived.Test.YtfkmcjlapigapaaCoderOf
import Derived.Laws.BitsAllLaws
namespace Go.Proofs.Ytfkmcjlapigapaa
open Go.RowKit

theorem or8 {h x : Nat} (hh : h < 18446744073709551616) (hm : h % 256 = 0) (hx : x < 256) : bits .or .u64 (h : Int) (x : Int) = ((h + x : Nat) : Int) := by
  rw [u64_or_nat h x hh (by omega)]
  obtain ⟨q, rfl⟩ : ∃ q, h = q * 256 := ⟨h / 256, by omega⟩
  have e := Nat.shiftLeft_add_eq_or_of_lt (b := x) (i := 8) hx q
  rw [Nat.shiftLeft_eq] at e
  rw [show (2 : Nat) ^ 8 = 256 from rfl] at e
  rw [← e]
theorem Has.tail6 {w : World} {A : Option Addr} {n c : Nat} {bs : List Nat} (h : Has w A n c (u8s bs)) {k : Nat} (hk : k ≤ n) : Has w (if c = k then A else A.map (·.add k)) (n - k) (c - k) (u8s (bs.drop k)) := by
  have hp := h.part (k := k) (m := n) hk (Nat.le_refl _)
  have hl := h.len
  rw [List.take_of_length_le (by rw [List.length_drop]; omega), show (u8s bs).drop k = u8s (bs.drop k) by simp [u8s]] at hp
  exact hp
set_option maxRecDepth 100000 in
set_option maxHeartbeats 400000 in
theorem number_any (A : Option Addr) (n c : Nat) (bs : List Nat) (w : World) (h : Has w A n c (u8s bs)) (hb : ∀ x ∈ bs, x < 256) (hn : n ≤ 4) :
    Calls Try.prog 33 #[.slice A n c] w fun e w' => e = .returned (.int .u64 (valC bs : Int)) ∧ w = w' := by
  have HH := Lib.hid h
  have HBy := Lib.hid hb
  have HL : Hid (bs.length = n) := by have := h.len; rw [u8s_len] at this; exact this
  clear h hb
  go_enter Try.func33, Try.ntmps33
  go_wp2
  go_loopg [3, 8] n (fun g s3 s8 wx => ∃ i : Nat, i + g = n ∧ s8 = .int .i64 i ∧ s3 = .int .u64 (valC (bs.take i) : Int) ∧ w = wx)
  case atStart => exact ⟨0, by omega, rfl, rfl, rfl⟩
  case round =>
    obtain ⟨i, hig, rfl, rfl, rfl⟩ := hrel
    by_cases hi : i < n
    · have ti : decide (i < n) = true := by simpa using hi
      have hil : i < bs.length := by rw [HL.out]; exact hi
      obtain ⟨b, off, rfl, hlt, hc⟩ := HH.out.spot (by omega)
      have hcell := hc i _ (u8s_at hil)
      have hx := HBy.out _ (List.getElem_mem hil)
      have HT : Hid (valC (bs.take (i + 1)) = valC (bs.take i) * 256 + bs[i]) := by show _ = _; rw [List.take_succ_eq_append_getElem hil, valC_snoc]
      have hv := valC_lt i (b := bs.take i) (by rw [List.length_take]; omega) (fun x hx => HBy.out x (List.mem_of_mem_take hx))
      have hv2 : 256 ^ i ≤ 256 ^ 3 := Nat.pow_le_pow_right (by decide) (by omega)
      rw [show (256 : Nat) ^ 3 = 16777216 from rfl] at hv2
      clear hc
      generalize bs[i] = x at *
      generalize valC (bs.take i) = v at *
      have e1 : IntKind.wrap .u64 ((v : Int) * 256) = ((v * 256 : Nat) : Int) := by rw [IntKind.wrap_u64]; omega
      have e2 := or8 (h := v * 256) (x := x) (by omega) (by omega) hx
      obtain ⟨h, hh⟩ : ∃ h, v * 256 = h := ⟨_, rfl⟩
      rw [hh] at e1 e2 HT
      obtain ⟨z, hz⟩ : ∃ z, h + x = z := ⟨_, rfl⟩
      rw [hz] at e2 HT
      have hh2 : h < 4294967296 := by omega
      clear hh hz hv hv2
      go_wp2
      go_roundg (gk - 1)
      case measure => omega
      case rel => exact ⟨i + 1, by omega, by go_num, by rw [HT.out], rfl⟩
    · have ti : decide (i < n) = false := by simpa using hi
      rw [List.take_of_length_le (by rw [HL.out]; omega)]
      go_wp2
      go_ret
      exact ⟨rfl, rfl⟩
/-- The reader in memory. -/
def rv (A : Option Addr) (n c lo R last : Nat) (bh : Value) : Array Value := #[.slice A n c, .int .u64 (lo : Int), .int .u64 (R : Int), .int .u64 (last : Int), bh]
set_option maxRecDepth 100000 in
set_option maxHeartbeats 400000 in
theorem rest_q (g : Nat) (lo last : Nat) (w : World) (h1 : w.cell? ⟨g, 1, none⟩ = some (.int .u64 (lo : Int))) (h3 : w.cell? ⟨g, 3, none⟩ = some (.int .u64 (last : Int))) (hlo : lo < 18446744073709551616) (hla : last < 18446744073709551616) :
    Calls Try.prog 51 #[.pointer (some ⟨g, 0, none⟩)] w fun e w' => e = .returned (.int .u64 (((last + 18446744073709551616 - lo) % 4294967296 : Nat) : Int)) ∧ ∃ m, w' = w.drewN m := by
  have e1 : IntKind.wrap .u64 ((last : Int) - (lo : Int)) = (((last + 18446744073709551616 - lo) % 18446744073709551616 : Nat) : Int) := by rw [IntKind.wrap_u64]; omega
  obtain ⟨z, hz⟩ : ∃ z, (last + 18446744073709551616 - lo) % 18446744073709551616 = z := ⟨_, rfl⟩
  rw [hz] at e1
  have HE : Hid ((last + 18446744073709551616 - lo) % 4294967296 = z % 4294967296) := by show _ = _; omega
  have hzl : z < 18446744073709551616 := by omega
  have HF : Hid (((z % 4294967296 : Nat) : Int) = (z : Int) % 4294967296) := by show _ = _; omega
  rw [HE.out, HF.out]
  clear hz
  go_enter Try.func51, Try.ntmps51
  go_wp2
  go_quiet (fail)
  go_wp2
  go_ret
  exact ⟨rfl, _, rfl⟩

set_option maxRecDepth 100000 in
set_option maxHeartbeats 1000000 in
theorem rshift_any (g : Nat) (A : Option Addr) (n c lo R last : Nat) (b off k cb x : Nat) (w : World) (h : Blk w g 78 (rv A n c lo R last (.slice (some ⟨b, off, none⟩) (k + 1) cb))) (hx : w.cell? ⟨b, off, none⟩ = some (.int .u8 (x : Int))) (hx2 : x < 256) (hcb : k + 1 ≤ cb) (hlo : lo < 1099511627776) (hR : R < 16777216) :
    Calls Try.prog 53 #[.pointer (some ⟨g, 0, none⟩)] w fun e w' => e = .returned (.tuple #[]) ∧ Blk w' g 78 (rv A n c (lo * 256 % 4294967296) (R * 256) ((last * 256 + x) % 18446744073709551616) (.slice (if cb = 1 then some ⟨b, off, none⟩ else some ⟨b, off + 1, none⟩) k (cb - 1))) ∧ Chg (fun k => k = g) w w' := by
  have c3 : w.cell? ⟨g, 3, none⟩ = some (.int .u64 (last : Int)) := h.cell 3
  have f3 := h.frozen 3
  have c4 : w.cell? ⟨g, 4, none⟩ = some (.slice (some ⟨b, off, none⟩) (k + 1) cb) := h.cell 4
  have e1 : IntKind.wrap .u64 ((last : Int) * 256) = ((last * 256 % 18446744073709551616 : Nat) : Int) := by rw [IntKind.wrap_u64]; omega
  have e2 := or8 (h := last * 256 % 18446744073709551616) (x := x) (by omega) (by omega) hx2
  obtain ⟨z, hz⟩ : ∃ z, last * 256 % 18446744073709551616 + x = z := ⟨_, rfl⟩
  have hzz : (last * 256 + x) % 18446744073709551616 = z := by omega
  rw [hz] at e2
  rw [hzz]
  generalize last * 256 % 18446744073709551616 = hh at *
  have HB := Lib.hid h
  have HB1 : Hid (Blk (w.setCell ⟨g, 3, none⟩ (.int .u64 (z : Int))) g 78 (rv A n c lo R z (.slice (some ⟨b, off, none⟩) (k + 1) cb))) := h.set_ 3 _
  have HC1 := Lib.hid ((Chg.refl (fun k => k = g) w).setg (g := g) rfl 3 (.int .u64 (z : Int)))
  have HWd := Lib.hid (fun W (bh : Value) (hW : Blk W g 78 (rv A n c lo R z bh)) => coderWiden_any g _ _ lo R W hW rfl rfl hlo hR)
  generalize lo * 256 % 4294967296 = lo2 at *
  clear h hz hzz hlo
  go_enter Try.func53, Try.ntmps53
  go_wp2
  go_region
  have HB2 : Hid (Blk (w.setCell ⟨g, 3, none⟩ (.int .u64 (z : Int))).drew g 78 (rv A n c lo R z (.slice (some ⟨b, off, none⟩) (k + 1) cb))) := HB1.out
  have HC2 : Hid (Chg (fun k => k = g) w (w.setCell ⟨g, 3, none⟩ (.int .u64 (z : Int))).drew) := HC1.out.then_ (Chg.of_below (D := fun k => k = g) (Below.refl _ _).drew) fun _ _ h => h
  clear HB1 HC1 c3 f3 c4 e1 e2 hx HB
  generalize (w.setCell ⟨g, 3, none⟩ (.int .u64 (z : Int))).drew = w2 at *
  have d4 : w2.cell? ⟨g, 4, none⟩ = some (.slice (some ⟨b, off, none⟩) (k + 1) cb) := HB2.out.cell 4
  have f4 := HB2.out.frozen 4
  by_cases h1 : cb = 1
  · obtain rfl : k = 0 := by omega
    subst h1
    have HB3 : Hid (Blk (w2.setCell ⟨g, 4, none⟩ (.slice (some ⟨b, off, none⟩) 0 0)) g 78 (rv A n c lo R z (.slice (some ⟨b, off, none⟩) 0 0))) := HB2.out.set_ 4 _
    have HW3 := Lib.hid (HWd.out _ _ HB3.out)
    have HB4 : Hid (Blk (((w2.setCell ⟨g, 4, none⟩ (.slice (some ⟨b, off, none⟩) 0 0)).setCell ⟨g, 1, none⟩ (.int .u64 (lo2 : Int))).setCell ⟨g, 2, none⟩ (.int .u64 ((R * 256 : Nat) : Int))) g 78 (rv A n c lo2 (R * 256) z (.slice (some ⟨b, off, none⟩) 0 0))) := (HB3.out.set_ 1 _).set_ 2 _
    have HC4 := Lib.hid (((HC2.out.setg (g := g) rfl 4 (.slice (some ⟨b, off, none⟩) 0 0)).setg (g := g) rfl 1 (.int .u64 (lo2 : Int))).setg (g := g) rfl 2 (.int .u64 ((R * 256 : Nat) : Int)))
    clear HWd HB2 HC2
    go_wp2_with (go_at_call 59; refine HW3.out.mono ?_; rintro e w' ⟨rfl, rfl⟩)
    go_end0
    exact ⟨rfl, HB4.out, HC4.out⟩
  · have HB3 : Hid (Blk (w2.setCell ⟨g, 4, none⟩ (.slice (some ⟨b, off + 1, none⟩) k (cb - 1))) g 78 (rv A n c lo R z (.slice (some ⟨b, off + 1, none⟩) k (cb - 1)))) := HB2.out.set_ 4 _
    have HW3 := Lib.hid (HWd.out _ _ HB3.out)
    have HB4 : Hid (Blk (((w2.setCell ⟨g, 4, none⟩ (.slice (some ⟨b, off + 1, none⟩) k (cb - 1))).setCell ⟨g, 1, none⟩ (.int .u64 (lo2 : Int))).setCell ⟨g, 2, none⟩ (.int .u64 ((R * 256 : Nat) : Int))) g 78 (rv A n c lo2 (R * 256) z (.slice (some ⟨b, off + 1, none⟩) k (cb - 1)))) := (HB3.out.set_ 1 _).set_ 2 _
    have HC4 := Lib.hid (((HC2.out.setg (g := g) rfl 4 (.slice (some ⟨b, off + 1, none⟩) k (cb - 1))).setg (g := g) rfl 1 (.int .u64 (lo2 : Int))).setg (g := g) rfl 2 (.int .u64 ((R * 256 : Nat) : Int)))
    clear HWd HB2 HC2
    go_wp2_with (go_at_call 59; refine HW3.out.mono ?_; rintro e w' ⟨rfl, rfl⟩)
    go_end0
    exact ⟨rfl, HB4.out, HC4.out⟩
end Go.Proofs.Ytfkmcjlapigapaa
