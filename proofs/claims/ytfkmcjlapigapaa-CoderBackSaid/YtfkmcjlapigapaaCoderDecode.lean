/- The landed coder: Decode. -/
import Derived.Test.YtfkmcjlapigapaaCoderRead
import Derived.Test.YtfkmcjlapigapaaCoderWrite
namespace Go.Proofs.Ytfkmcjlapigapaa
open Go.RowKit

set_option maxRecDepth 100000 in
set_option maxHeartbeats 400000 in
theorem indexI_any (A : Option Addr) (n c : Nat) (ps : List Nat) (C : List (List Nat)) (M : Option Addr) (m d : Nat) (l : List Int) (w : World) (hr : Has w A n c (ptrs ps)) (hm : MS w ps C) (hl : Has w M m d (intVs l)) (hn : m ≤ 100000) :
    Calls Try.prog 49 #[.slice M m d, .func (.func 32) #[.slice A n c] #[]] w fun e w' => ∃ r : Int, e = .returned (.int .i64 r) ∧ (0 ≤ r ↔ ¬ ∀ x ∈ l, sizeC C x ≠ 0) ∧ w = w' := by
  have HR := Lib.hid hr
  have HM := Lib.hid hm
  have HH := Lib.hid hl
  have HL : Hid (l.length = m) := by have := hl.len; rw [intVs_len] at this; exact this
  clear hr hm hl
  go_enter Try.func49, Try.ntmps49
  go_wp2
  go_loopg [8] m (fun g s8 wx => ∃ i : Nat, i + g = m ∧ s8 = .int .i64 i ∧ Hid (∀ x ∈ l.take i, sizeC C x ≠ 0) ∧ w = wx)
  case atStart => exact ⟨0, by omega, rfl, by show ∀ _, _; simp, rfl⟩
  case round =>
    obtain ⟨i, hig, rfl, HA, rfl⟩ := hrel
    by_cases hi : i < m
    · have ti : decide ((i : Int) < (m : Int)) = true := by simp; omega
      have hil : i < l.length := by rw [HL.out]; exact hi
      obtain ⟨b, off, rfl, hlt, hc⟩ := HH.out.spot (by omega)
      have hcell := hc i _ (intVs_at hil)
      have HT : Hid (l.take (i + 1) = l.take i ++ [l[i]]) := List.take_succ_eq_append_getElem hil
      have HMem : Hid (l[i] ∈ l) := List.getElem_mem hil
      generalize l[i] = x at *
      have HLk := Lib.hid (coderLacks_any A n c ps C x w HR.out HM.out)
      clear hc
      by_cases hx : sizeC C x = 0
      · rw [decide_eq_true hx] at HLk
        have HX := Lib.hid hx
        clear hx
        go_wp2_with (go_at_call 32; refine HLk.out.mono ?_; rintro e w' ⟨rfl, rfl⟩)
        go_ret
        exact ⟨i, rfl, ⟨fun _ h => h _ HMem.out HX.out, fun _ => by omega⟩, rfl⟩
      · have HA2 : Hid (∀ y ∈ l.take (i + 1), sizeC C y ≠ 0) := fun y hy => by
          rw [HT.out] at hy
          rcases List.mem_append.1 hy with h | h
          · exact HA.out y h
          · rw [List.mem_singleton.1 h]; exact hx
        rw [decide_eq_false hx] at HLk
        clear hx
        go_wp2_with (go_at_call 32; refine HLk.out.mono ?_; rintro e w' ⟨rfl, rfl⟩)
        go_roundg (gk - 1)
        case measure => omega
        case rel => exact ⟨i + 1, by omega, by go_num, HA2, rfl⟩
    · have ti : decide ((i : Int) < (m : Int)) = false := by simp; omega
      rw [List.take_of_length_le (by rw [HL.out]; omega)] at HA
      go_wp2
      go_ret
      exact ⟨-1, rfl, ⟨fun h => by omega, fun h => absurd HA.out h⟩, rfl⟩
theorem containsI_any (A : Option Addr) (n c : Nat) (ps : List Nat) (C : List (List Nat)) (M : Option Addr) (m d : Nat) (l : List Int) (w : World) (hr : Has w A n c (ptrs ps)) (hm : MS w ps C) (hl : Has w M m d (intVs l)) (hn : m ≤ 100000) :
    Calls Try.prog 31 #[.slice M m d, .func (.func 32) #[.slice A n c] #[]] w fun e w' => ∃ bo : Bool, e = .returned (.bool bo) ∧ (bo = true ↔ ¬ ∀ x ∈ l, sizeC C x ≠ 0) ∧ w = w' := by
  have HI := Lib.hid (indexI_any A n c ps C M m d l w hr hm hl hn)
  clear hr hm hl
  go_enter Try.func31, Try.ntmps31
  go_wp2_with (go_at_call 49; refine HI.out.mono ?_; rintro e w' ⟨r, rfl, hr, rfl⟩; have HR := Lib.hid hr; clear hr)
  go_ret
  exact ⟨_, rfl, by rw [← HR.out]; simp, rfl⟩
theorem size_valid {C : List (List Nat)} (hC : ∀ c ∈ C, Cnts c) (k : Int) : sizeC C k ≠ 0 ↔ -16 ≤ k ∧ k < (C.length : Int) := by
  constructor
  · intro h
    rcases Int.lt_or_le k (-16) with h1 | h1
    · exact absurd (size_out (Or.inl h1)) h
    · rcases Int.lt_or_le k (C.length : Int) with h2 | h2
      · exact ⟨h1, h2⟩
      · exact absurd (size_out (Or.inr h2)) h
  · intro hk
    by_cases h : k < 0
    · obtain ⟨m, rfl⟩ : ∃ m : Nat, k = -(m : Int) := ⟨(-k).toNat, by omega⟩
      rw [size_neg (by omega) (by omega)]
      exact Nat.pos_iff_ne_zero.1 (Nat.pow_pos (by decide))
    · obtain ⟨m, rfl⟩ := Int.eq_ofNat_of_zero_le (show 0 ≤ k by omega)
      have hm : m < C.length := by omega
      rw [size_at hm]
      have := (hC _ (List.getElem_mem hm)).some_
      omega
/-- Bytes that are too few, or do not begin with nought, are those of none. -/
theorem fail_head {bs : List Nat} {t : Cdr} (ht : COk t) {ks : List Int} (h : bs.length < 5 ∨ bs.headD 0 ≠ 0) : Fail bs t ks := by
  intro l _ hb
  unfold bytesC at hb
  cases hr : runC t l with
  | none => rw [hr] at hb; cases hb
  | some u =>
    rw [hr] at hb
    have hb : digC u.D u.N = bs := Option.some.inj hb
    have hu := (run_lies l ht hr).1
    have h5 := hu.dig
    have hl := digC_len u.D u.N
    have hh := head_zero hu
    rw [hb] at hl hh
    rcases h with h | h
    · omega
    · exact h hh
theorem val_zero (l : List Nat) : valC (0 :: l) = valC l := rfl
theorem readerInfo : (Try.prog.info? 78).map (fun i => (i.zero, i.size)) = some (some (.agg #[.slice none 0 0, .int .u64 0, .int .u64 0, .int .u64 0, .slice none 0 0]), 5) := by kernel_rfl
theorem chg_below {D : Nat → Prop} {w w1 w2 : World} (h : Below w.heap.size w w1) (h2 : Chg D w1 w2) (hd : ∀ k, D k → w.heap.size ≤ k) : Below w.heap.size w w2 := h.trans (h2.below hd h.size)
/-- The call of codes behind all tests. -/
theorem dec_codes {w w1 w3 : World} {A1 : Option Addr} {n1 c1 : Nat} {ps : List Nat} {sizes ks : List Int} {bs : List Nat} {B5 : Option Addr} {n5 c5 V : Nat} {M : Option Addr} {m d : Nat} (hmr : MR w (.slice A1 n1 c1) ps (beginC sizes).C w1) (hb3 : Below w1.heap.size w1 w3)
    (hok : COk (beginC sizes)) (hk : Has w M m d (intVs ks)) (hks : ∀ k ∈ ks, -16 ≤ k ∧ k < ((beginC sizes).C.length : Int)) (hby : ∀ x ∈ bs, x < 256) (hm : m ≤ 500) (hb : Has w B5 n5 c5 (u8s (bs.drop 5))) (hl : 5 ≤ bs.length) (hV : valC (bs.take 5) = V) (hv : V < 4294967296) :
    Calls Try.prog 34 #[.pointer (some ⟨w3.heap.size, 0, none⟩), .slice M m d] (w3.alloc (.cells #[.slice A1 n1 c1, .int .u64 0, .int .u64 4294967295, .int .u64 (V : Int), .slice B5 n5 c5] 78)) fun e w' => ∃ A' c', e = .returned (.tuple #[.slice A' (decodeC (beginC sizes) ks bs).1.length c', .int .i64 ((decodeC (beginC sizes) ks bs).2 : Int)]) ∧ HasK 2 w' A' (decodeC (beginC sizes) ks bs).1.length c' (codCells (decodeC (beginC sizes) ks bs).1) ∧ Below w.heap.size w w' := by
  have hm3 := hmr.next hb3
  have hb4 := new_alloc (Below.refl w3.heap.size w3) (.cells #[.slice A1 n1 c1, .int .u64 0, .int .u64 4294967295, .int .u64 (V : Int), .slice B5 n5 c5] 78)
  have hm4 := hm3.next hb4
  have hz3 := hm3.bel.size
  have hlt3 := hm3.ms.lt
  generalize hW : w3.alloc (.cells #[.slice A1 n1 c1, .int .u64 0, .int .u64 4294967295, .int .u64 (V : Int), .slice B5 n5 c5] 78) = W at *
  have hsz : W.heap.size = w3.heap.size + 1 := by rw [← hW]; simp
  have hD : ∀ k, DW w3.heap.size ps W.heap.size k → w.heap.size ≤ k := fun k h => by
    rcases h with h | h | h
    · omega
    · exact hm3.new k h
    · omega
  have hblk : Blk W w3.heap.size 78 (rv A1 n1 c1 0 4294967295 V (.slice B5 n5 c5)) := by rw [← hW]; exact Blk.new w3 _ _
  have hri : RI bs 0 5 4294967295 0 V := ⟨hl, rfl, by decide, by rw [hV], by omega, by omega, by rw [hV]; omega⟩
  refine (codes_any bs w3.heap.size A1 n1 c1 0 V B5 n5 c5 ps (beginC sizes) ks M m d W ⟨hblk, Rob.old Has.stays hb hm4.bel hD, hm4.ms, hri⟩ (fun h => by have := hlt3 _ h; omega)
    (Rob.chg Has.stays hm3.rob (Chg.of_below hb4) fun k hk hd => by
      rcases hd with hd | hd | hd
      · omega
      · exact Or.inl hd
      · omega) (Rob.old Has.stays hk hm4.bel hD) hok hks hby (by omega)).mono ?_
  rintro e w' ⟨A', c', rfl, h1, h2⟩
  exact ⟨A', c', rfl, h1, chg_below hm4.bel h2 hD⟩
set_option maxRecDepth 100000 in
set_option maxHeartbeats 1000000 in
theorem coderDec_any (A : Option Addr) (n c : Nat) (sizes : List Int) (M : Option Addr) (m d : Nat) (ks : List Int) (B : Option Addr) (nb cb : Nat) (bs : List Nat) (w : World) (h : Has w A n c (intVs sizes)) (hk : Has w M m d (intVs ks)) (hb : Has w B nb cb (u8s bs)) (hby : ∀ x ∈ bs, x < 256) (hn : n ≤ 20) (hm : m ≤ 500) (hnb : nb ≤ 2000) : Calls Try.prog 15 #[.slice A n c, .slice M m d, .slice B nb cb] w (Deced w (decAll sizes ks bs)) := by
  have hmf : ∀ (fn : Fn) (first cap : Array Value) (w : World), (Instr.makeFunc fn first cap).run Try.prog w = .ok (.func fn first cap) w := fun _ _ _ _ => rfl
  have HMo := Lib.hid (modelsOf_any A n c sizes w h (by omega))
  have HSl : Hid (sizes.length = n) := by have := h.len; rw [intVs_len] at this; exact this
  have HH := Lib.hid hk
  have HHb := Lib.hid hb
  have HBy := Lib.hid hby
  have HLen : Hid (ks.length = m) := by have := hk.len; rw [intVs_len] at this; exact this
  have HLb : Hid (bs.length = nb) := by have := hb.len; rw [u8s_len] at this; exact this
  have hcap := hb.cap
  obtain ⟨kz, ks'⟩ := zero_of_info readerInfo
  clear h hk hb hby ks'
  have tm : decide ((65536 : Int) < (m : Int)) = false := by simp; omega
  go_enter Try.func15, Try.ntmps15
  go_wp2_with fail
  refine HMo.out.mono ?_
  intro e w1 hmod
  rcases hmod.cases with ⟨hf, rfl, hb1⟩ | ⟨hok, A1, n1, c1, ps, rfl, hmr⟩
  · have HE : Hid (decAll sizes ks bs = ([], 2)) := if_neg (by rw [hf]; simp)
    have HB1 := Lib.hid hb1
    clear hmod hf hb1 HMo
    go_wp2
    go_ret2
    rw [HE.out]
    exact ⟨none, 0, rfl, HasK.none _ _ _ _ fun _ => rfl, HB1.out⟩
  · have HOk := Lib.hid (begin_ok (okS_sizes hok))
    have HMR := Lib.hid hmr
    have HCl : Hid ((beginC sizes).C.length = n) := by show (sizes.map _).length = n; rw [List.length_map, HSl.out]
    have HCo := Lib.hid (containsI_any A1 n1 c1 ps (beginC sizes).C M m d ks w1 hmr.rob.here hmr.ms (HH.out.kept hmr.bel) (by omega))
    have HOs := Lib.hid hok
    clear hmod hok hmr HMo
    go_wp2_with fail
    refine HCo.out.mono ?_
    rintro e w2 ⟨bo, rfl, hbo, rfl⟩
    clear HCo
    cases bo with
    | true =>
      have HE : Hid (decAll sizes ks bs = ([], 2)) := if_neg (fun h => hbo.1 rfl fun k hk => (size_valid HOk.out.cnt k).2 (by rw [HCl.out, ← HSl.out]; exact h.2 k hk))
      clear hbo
      go_wp2
      go_ret2
      rw [HE.out]
      exact ⟨none, 0, rfl, HasK.none _ _ _ _ fun _ => rfl, HMR.out.bel⟩
    | false =>
      have hall : ∀ k ∈ ks, sizeC (beginC sizes).C k ≠ 0 := Classical.byContradiction fun h => by have := hbo.2 h; cases this
      have HKv : Hid (∀ k ∈ ks, -16 ≤ k ∧ k < ((beginC sizes).C.length : Int)) := fun k hk => (size_valid HOk.out.cnt k).1 (hall k hk)
      have HE : Hid (decAll sizes ks bs = decodeC (beginC sizes) ks bs) := by
        show _ = _
        unfold decAll
        rw [if_pos ⟨HOs.out, fun k hk => by have := HKv.out k hk; rw [HCl.out] at this; rw [HSl.out]; exact this⟩, if_neg (by rw [HLen.out]; omega)]
      clear hbo hall
      by_cases h5 : nb < 5
      · have t5 : decide ((nb : Int) < 5) = true := by simp; omega
        have HF := Lib.hid (decode_miss (fail_head (ks := ks) HOk.out (Or.inl (by rw [HLb.out]; exact h5))))
        go_wp2
        go_ret2
        rw [HE.out, HF.out]
        exact ⟨none, 0, rfl, HasK.none _ _ _ _ fun _ => rfl, HMR.out.bel⟩
      · have t5 : decide ((nb : Int) < 5) = false := by simp; omega
        obtain ⟨x0, bt, hbs⟩ : ∃ x0 bt, bs = x0 :: bt := by
          cases bs with
          | nil => have := HLb.out; simp at this; omega
          | cons a l => exact ⟨a, l, rfl⟩
        obtain ⟨b, off, rfl, hlt, hcc⟩ := (HHb.out.kept HMR.out.bel).spot (by omega)
        have hc0 := hcc 0 (.int .u8 (x0 : Int)) (by rw [hbs]; rfl)
        rw [Nat.add_zero] at hc0
        clear hcc
        by_cases hx : x0 = 0
        · subst hx
          have tx : ((0 : Int) == 0) = true := rfl
          have hpt := (HHb.out.kept HMR.out.bel).part (k := 1) (m := 5) (by omega) (by omega)
          rw [if_neg (by omega), show ((u8s bs).drop 1).take (5 - 1) = u8s ((bs.drop 1).take 4) by simp [u8s]] at hpt
          simp only [Option.map_some, Addr.add_mid] at hpt
          have HV : Hid (valC (bs.take 5) = valC ((bs.drop 1).take 4)) := by show _ = _; rw [hbs]; exact val_zero _
          have hvl := valC_lt 4 (b := (bs.drop 1).take 4) (by rw [List.length_take, List.length_drop, HLb.out]; omega) (fun x hx => HBy.out x (List.mem_of_mem_drop (List.mem_of_mem_take hx)))
          rw [show (256 : Nat) ^ 4 = 4294967296 from rfl] at hvl
          have HNum := Lib.hid (fun W (hW : Below w1.heap.size w1 W) => number_any (some ⟨b, off + 1, none⟩) 4 (cb - 1) ((bs.drop 1).take 4) W (hpt.kept hW) (fun x hx => HBy.out x (List.mem_of_mem_drop (List.mem_of_mem_take hx))) (by decide))
          have htl := Has.tail6 HHb.out (k := 5) (by omega)
          simp only [Option.map_some, Addr.add_mid] at htl
          have HHo := Lib.hid (fun W => hold_any A1 n1 c1 W)
          have HCd := Lib.hid (fun w3 B5 n5 c5 (hb : Has w B5 n5 c5 (u8s (bs.drop 5))) (hb3 : Below w1.heap.size w1 w3) => dec_codes HMR.out hb3 HOk.out HH.out HKv.out HBy.out hm hb (by rw [HLb.out]; omega) HV.out hvl)
          generalize valC ((bs.drop 1).take 4) = V at *
          clear hpt hbs
          have b1 : 5 ≤ nb := by omega
          have b2 : 5 ≤ cb := by omega
          have b3 : ¬ cb = 1 := by omega
          have b6 : (5 : Int) ≤ (cb : Int) := by omega
          have b8 : (5 : Int) ≤ (nb : Int) := by omega
          by_cases b5 : cb = 5
          · rw [if_pos b5] at htl
            subst b5
            have HTl : Hid (Has w (some ⟨b, off, none⟩) 0 0 (u8s (bs.drop 5))) := by have h := htl; rw [show nb - 5 = 0 by omega] at h; exact h
            have HNum2 : Hid (∀ W, Below w1.heap.size w1 W → Calls Try.prog 33 #[.slice (some ⟨b, off + 1, none⟩) 4 4] W fun e w' => e = .returned (.int .u64 (V : Int)) ∧ W = w') := HNum.out
            clear htl HNum b2 b3 b6
            go_wp2
            go_region_held3 (fun _ => True) (trivial) (first
              | (go_at_call 25; refine Calls.mono (HHo.out _) ?_; rintro e w3 ⟨rfl, hb3⟩; have HB3 := Lib.hid (new_call (Below.refl w1.heap.size w1).drew hb3); clear hb3)
              | (go_at_call 33; with_reducible refine Calls.mono (HNum2.out _ (Below.refl _ _).drew) ?_; rintro e w4 ⟨rfl, rfl⟩)
              | (go_at_call 33; with_reducible refine Calls.mono (HNum2.out _ HB3.out) ?_; rintro e w4 ⟨rfl, rfl⟩))
            all_goals
              have HCw := Lib.hid (HCd.out w3 _ _ _ HTl.out HB3.out)
              clear HCd HNum2
              go_wp2_with fail
              refine HCw.out.mono ?_
              rintro e w5 ⟨A5, c5, rfl, hh5, hb5⟩
              have HH5 := Lib.hid hh5
              have HB5 := Lib.hid hb5
              clear hh5 hb5
              go_wp2
              go_ret2
              rw [HE.out]
              exact ⟨A5, c5, rfl, HH5.out, HB5.out⟩
          · rw [if_neg b5] at htl
            have HTl := Lib.hid htl
            clear htl
            go_wp2
            go_region_held3 (fun _ => True) (trivial) (first
              | (go_at_call 25; refine Calls.mono (HHo.out _) ?_; rintro e w3 ⟨rfl, hb3⟩; have HB3 := Lib.hid (new_call (Below.refl w1.heap.size w1).drew hb3); clear hb3)
              | (go_at_call 33; with_reducible refine Calls.mono (HNum.out _ (Below.refl _ _).drew) ?_; rintro e w4 ⟨rfl, rfl⟩)
              | (go_at_call 33; with_reducible refine Calls.mono (HNum.out _ HB3.out) ?_; rintro e w4 ⟨rfl, rfl⟩))
            all_goals
              have HCw := Lib.hid (HCd.out w3 _ _ _ HTl.out HB3.out)
              clear HCd HNum
              go_wp2_with fail
              refine HCw.out.mono ?_
              rintro e w5 ⟨A5, c5, rfl, hh5, hb5⟩
              have HH5 := Lib.hid hh5
              have HB5 := Lib.hid hb5
              clear hh5 hb5
              go_wp2
              go_ret2
              rw [HE.out]
              exact ⟨A5, c5, rfl, HH5.out, HB5.out⟩
        · have tx : ((x0 : Int) == 0) = false := beq_eq_false_iff_ne.2 (by omega)
          have tx2 : decide ((x0 : Int) = 0) = false := by simp; omega
          have HF := Lib.hid (decode_miss (fail_head (bs := bs) (ks := ks) HOk.out (Or.inr (by rw [hbs]; exact hx))))
          go_wp2
          go_ret2
          rw [HE.out, HF.out]
          exact ⟨none, 0, rfl, HasK.none _ _ _ _ fun _ => rfl, HMR.out.bel⟩
end Go.Proofs.Ytfkmcjlapigapaa
