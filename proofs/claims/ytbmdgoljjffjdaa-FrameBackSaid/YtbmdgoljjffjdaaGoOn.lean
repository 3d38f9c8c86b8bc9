/- crc.goOn: the checksum of parts, one behind the other. -/
import Derived.Test.YtbmdgoljjffjdaaCrcTab
import Derived.Test.YtbmdgoljjffjdaaCrcBits
namespace Go.Proofs.Ytbmdgoljjffjdaa
open Go.RowKit

/-- Slice values that hold these rows of bytes. -/
def RowsOf (w : World) (vs : List Value) (ls : List (List Nat)) : Prop := vs.length = ls.length ∧ ∀ i (h : i < ls.length), ∃ A n c, vs[i]? = some (.slice A n c) ∧ Has w A n c (u8s ls[i])
/-- The slice (A, n, c) holds the rows ls. -/
def Parts (w : World) (A : Option Addr) (n c : Nat) (ls : List (List Nat)) : Prop := ∃ vs, Has w A n c vs ∧ RowsOf w vs ls
theorem RowsOf.kept {w w' : World} {vs : List Value} {ls : List (List Nat)} (h : RowsOf w vs ls) (hb : Below w.heap.size w w') : RowsOf w' vs ls :=
  ⟨h.1, fun i hi => by obtain ⟨A, n, c, h1, h2⟩ := h.2 i hi; exact ⟨A, n, c, h1, h2.kept hb⟩⟩
theorem Parts.kept {w w' : World} {A : Option Addr} {n c : Nat} {ls : List (List Nat)} (h : Parts w A n c ls) (hb : Below w.heap.size w w') : Parts w' A n c ls := by
  obtain ⟨vs, h1, h2⟩ := h
  exact ⟨vs, h1.kept hb, h2.kept hb⟩
theorem Parts.len {w : World} {A : Option Addr} {n c : Nat} {ls : List (List Nat)} (h : Parts w A n c ls) : ls.length = n := by
  obtain ⟨vs, h1, h2⟩ := h
  rw [← h2.1]; exact h1.len
theorem Parts.at_ {w : World} {A : Option Addr} {n c : Nat} {ls : List (List Nat)} (h : Parts w A n c ls) {i : Nat} (hi : i < ls.length) :
    ∃ b off A' n' c', A = some ⟨b, off, none⟩ ∧ w.cell? ⟨b, off + i, none⟩ = some (.slice A' n' c') ∧ Has w A' n' c' (u8s ls[i]) := by
  have hl := h.len
  obtain ⟨vs, h1, h2⟩ := h
  obtain ⟨b, off, hA, _, hc⟩ := h1.spot (by omega)
  obtain ⟨A', n', c', h3, h4⟩ := h2.2 i hi
  exact ⟨b, off, A', n', c', hA, hc i _ h3, h4⟩
theorem Parts.none (w : World) : Parts w Option.none 0 0 [] := ⟨[], Has.none _ _ _ fun _ => rfl, rfl, fun i hi => absurd hi (by simp)⟩

/-- By the table. -/
theorem crcByte_tab (r c : Nat) : crcByte r c = (r / 256) ^^^ crcN 8 ((r % 256) ^^^ c) := by
  unfold crcByte
  have e : r ^^^ c = ((r % 256) ^^^ c) ^^^ (2 ^ 8 * (r / 256)) := by
    have h := low_join (c := r % 256) (y := r / 256) (by omega)
    have h2 : r % 256 + 256 * (r / 256) = r := by omega
    rw [h2] at h
    rw [show (2 ^ 8 * (r / 256)) = 256 * (r / 256) from rfl]
    conv => lhs; rw [h]
    rw [Nat.xor_assoc, Nat.xor_comm (256 * (r / 256)), ← Nat.xor_assoc]
  rw [e, crcN_xor, crcN_pow, Nat.xor_comm]

theorem u32_not {s : Nat} (h : s < 4294967296) : bits .xor .u32 IntKind.u32.max (s : Int) = ((s ^^^ 4294967295 : Nat) : Int) := by
  have := u32_xor_nat 4294967295 s (by decide) h
  rw [Nat.xor_comm] at this
  exact this
theorem flat_snoc {ls : List (List Nat)} {k : Nat} (h : k < ls.length) : (ls.take (k + 1)).flatten = (ls.take k).flatten ++ ls[k] := by
  rw [List.take_succ_eq_append_getElem h, List.flatten_append]; simp only [List.flatten_cons, List.flatten_nil, List.append_nil]
def goOnN (s : Nat) (ls : List (List Nat)) : Nat := crcAll (s ^^^ 4294967295) ls.flatten ^^^ 4294967295

set_option maxRecDepth 100000 in
set_option maxHeartbeats 400000 in
theorem goOn_any (s : Nat) (A : Option Addr) (n c : Nat) (ls : List (List Nat)) (w : World) (hs : s < 4294967296) (h : Parts w A n c ls) (hb : ∀ l ∈ ls, ∀ x ∈ l, x < 256) (hn : n ≤ 281474976710656) (hm : ∀ l ∈ ls, l.length ≤ 281474976710656) :
    Calls Try.prog 44 #[.int .u32 s, .slice A n c] w fun e w' => e = .returned (.int .u32 (goOnN s ls : Int)) ∧ Below w.heap.size w w' := by
  obtain ⟨kz, ks⟩ := zero_of_info tab_info
  have HS := Lib.hid ks
  have HL := Lib.hid h.len
  have HP := Lib.hid h
  have HB := Lib.hid hb
  have HM := Lib.hid hm
  clear ks h hb hm
  have hone := Lib.hid (tabV_one (crcN 8))
  have HTs := Lib.hid (tabV_size (crcN 8))
  go_enter Try.func44, Try.ntmps44
  go_wp2
  go_step3
  go_wp2_with (first
    | (go_at_call 45; refine (remainders_any _).mono ?_; rintro e w1 ⟨rfl, hb1⟩; have HB1 := Lib.hid hb1; clear hb1)
    | (refine wpList_store_row rfl 82 _ _ rfl w1.heap.size (tabV (crcN 8)) rfl rfl 82 _ (heap_alloc_last _ _) (by rw [HTs.out]; exact HS.out) (by rw [HTs.out]; simp) hone.out ?_))
  go_step3
  rw [World.setRow_alloc_new]
  have HPa : Hid (Parts (w1.alloc (.cells (tabV (crcN 8)) 82)) A n c ls) := HP.out.kept (new_alloc HB1.out _)
  have HTa : Hid (∀ j, j < 256 → (w1.alloc (.cells (tabV (crcN 8)) 82)).cell? ⟨w1.heap.size, j, none⟩ = some (.int .u32 (crcN 8 j : Int))) :=
    fun j hj => by rw [(Blk.new w1 _ _).cell, tabV_at _ hj]
  have HBW := Lib.hid (new_alloc HB1.out (.cells (tabV (crcN 8)) 82))
  obtain ⟨W, hW⟩ : ∃ W, w1.alloc (.cells (tabV (crcN 8)) 82) = W := ⟨_, rfl⟩
  rw [hW] at HPa HTa HBW ⊢
  clear hW HB1 kz HP
  generalize w1.heap.size = gt at *
  go_wp2
  go_loopg [6, 15] n (fun g s6 s15 wx => ∃ k : Nat, k + g = n ∧ s15 = .int .i64 k ∧ s6 = .int .u32 (crcAll (s ^^^ 4294967295) (ls.take k).flatten : Nat) ∧ W = wx)
  case atStart => exact ⟨0, by omega, rfl, by rw [u32_not hs]; simp [crcAll], rfl⟩
  case round =>
    obtain ⟨k, hkg, rfl, rfl, rfl⟩ := hrel
    by_cases hk : k < n
    · have hkl : k < ls.length := by rw [HL.out]; exact hk
      obtain ⟨b, off, A', n', c', rfl, hcell, hhas⟩ := HPa.out.at_ hkl
      have HX : Hid ((ls.take (k + 1)).flatten = (ls.take k).flatten ++ ls[k]) := flat_snoc hkl
      have hrb : crcAll (s ^^^ 4294967295) (ls.take k).flatten < 4294967296 := crcAll_lt _ (Nat.xor_lt_two_pow (n := 32) hs (by decide)) (fun x hx => by
        obtain ⟨l, hl, hx⟩ := List.mem_flatten.1 hx
        exact HB.out l (List.mem_of_mem_take hl) x hx)
      have HLB : Hid (∀ x ∈ ls[k], x < 256) := HB.out _ (List.getElem_mem hkl)
      have hn' : n' ≤ 281474976710656 := by
        have h1 := hhas.len
        rw [u8s_len] at h1
        have h2 := HM.out _ (List.getElem_mem hkl)
        omega
      obtain ⟨l, hl⟩ : ∃ l, ls[k] = l := ⟨_, rfl⟩
      rw [hl] at HX HLB hhas
      obtain ⟨r, hr⟩ : ∃ r, crcAll (s ^^^ 4294967295) (ls.take k).flatten = r := ⟨_, rfl⟩
      rw [hr] at hrb ⊢
      have HR := Lib.hid hr
      have HHs := Lib.hid hhas
      have HLn : Hid (l.length = n') := by have h1 := hhas.len; rw [u8s_len] at h1; exact h1
      have tk : decide ((k : Int) < (n : Int)) = true := by simp; omega
      clear hl hr hhas hkl
      go_wp2
      clear hcell
      go_loopg [6, 9] n' (fun g s6 s9 wx => ∃ j : Nat, j + g = n' ∧ s9 = .int .i64 j ∧ s6 = .int .u32 (crcAll r (l.take j) : Nat) ∧ crcAll r (l.take j) < 4294967296 ∧ W = wx)
      case atStart => exact ⟨0, by omega, rfl, rfl, hrb, rfl⟩
      case round =>
        obtain ⟨j, hjg, rfl, rfl, hq, rfl⟩ := hrel
        by_cases hj : j < n'
        · have hjl : j < l.length := by rw [HLn.out]; exact hj
          obtain ⟨b', off', rfl, _, hc⟩ := HHs.out.spot (by omega)
          have hcl := hc j _ (u8s_at hjl)
          have hx8 := HLB.out _ (List.getElem_mem hjl)
          have HY : Hid (crcAll r (l.take (j + 1)) = crcByte (crcAll r (l.take j)) l[j]) := by
            show _ = _
            rw [List.take_succ_eq_append_getElem hjl, crcAll_app]; rfl
          have hq2 : crcByte (crcAll r (l.take j)) l[j] < 4294967296 := crcByte_lt hq hx8
          generalize crcAll r (l.take j) = q at *
          generalize l[j] = x at *
          have HZ := Lib.hid (crcByte_tab q x)
          have hi8 : (q % 256) ^^^ x < 256 := Nat.xor_lt_two_pow (n := 8) (by omega) hx8
          have hi := u8_xor_nat (q % 256) x (by omega) hx8
          rw [show ((q % 256 : Nat) : Int) = (q : Int) % 256 by omega] at hi
          have htc := HTa.out _ hi8
          generalize (q % 256) ^^^ x = ix at *
          have hxx := u32_xor_nat (q / 256) (crcN 8 ix) (by omega) (crcN_lt 8 (by omega))
          rw [← HZ.out, show ((q / 256 : Nat) : Int) = (q : Int) / 256 by omega] at hxx
          generalize crcN 8 ix = tv at *
          have tj : ((j : Int) == (n' : Int)) = false := by rw [beq_eq_false_iff_ne]; omega
          clear hc hjl HZ
          go_wp2
          go_roundg (gk - 1)
          case measure => omega
          case rel => exact ⟨j + 1, by omega, by go_num, by rw [HY.out], by rw [HY.out]; exact hq2, rfl⟩
        · obtain rfl : j = n' := by omega
          have HY : Hid (crcAll (s ^^^ 4294967295) (ls.take (k + 1)).flatten = crcAll r (l.take j)) := by
            show _ = _
            rw [HX.out, crcAll_app, HR.out, List.take_of_length_le (by rw [HLn.out]; omega)]
          generalize crcAll r (l.take j) = q at *
          go_wp2
          go_roundg (n - (k + 1))
          case measure => omega
          case rel => exact ⟨k + 1, by omega, by go_num, by rw [HY.out], rfl⟩
    · have HE : Hid (goOnN s ls = crcAll (s ^^^ 4294967295) (ls.take k).flatten ^^^ 4294967295) := by
        show _ = _
        unfold goOnN
        rw [List.take_of_length_le (by rw [HL.out]; omega)]
      have hrb : crcAll (s ^^^ 4294967295) (ls.take k).flatten < 4294967296 := crcAll_lt _ (Nat.xor_lt_two_pow (n := 32) hs (by decide)) (fun x hx => by
        obtain ⟨l, hl, hx⟩ := List.mem_flatten.1 hx
        exact HB.out l (List.mem_of_mem_take hl) x hx)
      generalize crcAll (s ^^^ 4294967295) (ls.take k).flatten = q at *
      have hq := u32_not hrb
      have tk : decide ((k : Int) < (n : Int)) = false := by simp; omega
      go_wp2
      try rw [Exit.noGoto_ret]
      go_ret
      exact ⟨ret_int (by rw [HE.out]), HBW.out⟩
end Go.Proofs.Ytbmdgoljjffjdaa
