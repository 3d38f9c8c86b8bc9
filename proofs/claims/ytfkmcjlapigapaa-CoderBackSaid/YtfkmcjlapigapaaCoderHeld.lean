/- The landed coder: its models, by pointers. -/
import Derived.Test.YtfkmcjlapigapaaCoderDecC
import Derived.Test.YtfkmcjlapigapaaModelCode
import Derived.BigQuiet
namespace Go.Proofs.Ytfkmcjlapigapaa
open Go.RowKit

def ptrs (ps : List Nat) : List Value := ps.map fun p => .pointer (some ⟨p, 0, none⟩)
theorem ptrs_len (ps : List Nat) : (ptrs ps).length = ps.length := by simp [ptrs]
theorem ptrs_app (l r : List Nat) : ptrs (l ++ r) = ptrs l ++ ptrs r := by simp [ptrs]
theorem ptrs_at {l : List Nat} {j : Nat} (h : j < l.length) : (ptrs l)[j]? = some (.pointer (some ⟨l[j], 0, none⟩)) := by simp [ptrs, h]
theorem ptrs_one (l : List Nat) : ∀ u ∈ ptrs l, u.oneCell' = true := by
  intro u hu
  obtain ⟨x, _, rfl⟩ := List.mem_map.1 hu
  rfl
/-- Models in memory. -/
structure MS (w : World) (ps : List Nat) (C : List (List Nat)) : Prop where
  len : ps.length = C.length
  diff : ps.Nodup
  blk : ∀ i (h : i < C.length) (h' : i < ps.length), MB w ps[i] (fun j => C[i].getD j 0) C[i].length C[i].sum
theorem MS.mdl {w : World} {ps : List Nat} {C : List (List Nat)} (h : MS w ps C) {i : Nat} (hi : i < C.length) (hp : i < ps.length) : Mdl w ps[i] (fun k => k = ps[i]) C[i] :=
  ⟨rfl, fun k e => by rw [e]; exact Blk.lt (h.blk i hi hp), h.blk i hi hp⟩
theorem MS.chg {w w' : World} {ps : List Nat} {C : List (List Nat)} {D : Nat → Prop} (h : MS w ps C) (hc : Chg D w w') (hd : ∀ p ∈ ps, ¬ D p) : MS w' ps C :=
  ⟨h.len, h.diff, fun i hi hp => Blk.chg (h.blk i hi hp) hc (hd _ (List.getElem_mem hp))⟩
theorem MS.below {w w' : World} {ps : List Nat} {C : List (List Nat)} (h : MS w ps C) (hb : Below w.heap.size w w') : MS w' ps C := h.chg (Chg.of_below (D := fun _ => False) hb) fun _ _ h => h
/-- How many symbols a model has; 0: there is no such model. -/
def sizeC (C : List (List Nat)) (k : Int) : Nat := if -16 ≤ k ∧ k < 0 then 2 ^ (-k).toNat else if 0 ≤ k ∧ k < (C.length : Int) then (C.getD k.toNat []).length else 0
theorem size_neg {C : List (List Nat)} {n : Nat} (h1 : 1 ≤ n) (h2 : n ≤ 16) : sizeC C (-(n : Int)) = 2 ^ n := by
  unfold sizeC
  rw [if_pos (by omega), show (-(-(n : Int))).toNat = n by omega]
theorem size_at {C : List (List Nat)} {k : Nat} (h : k < C.length) : sizeC C (k : Int) = C[k].length := by
  unfold sizeC
  rw [if_neg (by omega), if_pos (by omega), List.getD_eq_getElem?_getD, Int.toNat_natCast, List.getElem?_eq_getElem h]; rfl
theorem size_out {C : List (List Nat)} {k : Int} (h : k < -16 ∨ (C.length : Int) ≤ k) : sizeC C k = 0 := by
  unfold sizeC
  rw [if_neg (by omega), if_neg (by omega)]
theorem size_le {C : List (List Nat)} (hC : ∀ c ∈ C, Cnts c) (k : Int) : sizeC C k ≤ 65536 := by
  unfold sizeC
  split
  · exact Nat.le_trans (Nat.pow_le_pow_right (by decide) (show (-k).toNat ≤ 16 by omega)) (by decide)
  · split
    · rename_i h
      have hk : k.toNat < C.length := by omega
      rw [List.getD_eq_getElem?_getD, List.getElem?_eq_getElem hk]
      have := (hC _ (List.getElem_mem hk)).few
      simp only [Option.getD_some]
      omega
    · omega
theorem pow_wrap {n : Nat} (h : n ≤ 16) : IntKind.wrap .i64 ((2 : Int) ^ n) = ((2 ^ n : Nat) : Int) := by
  have : 2 ^ n ≤ 2 ^ 16 := Nat.pow_le_pow_right (by decide) h
  rw [show ((2 : Int) ^ n) = ((2 ^ n : Nat) : Int) by simp, IntKind.wrap_i64]
  generalize 2 ^ n = p at *
  omega

set_option maxRecDepth 100000 in
set_option maxHeartbeats 400000 in
theorem coderSize_any (A : Option Addr) (n c : Nat) (ps : List Nat) (C : List (List Nat)) (k : Int) (w : World) (hr : Has w A n c (ptrs ps)) (hm : MS w ps C) :
    Calls Try.prog 40 #[.slice A n c, .int .i64 k] w fun e w' => e = .returned (.int .i64 (sizeC C k : Int)) ∧ w = w' := by
  have hpn : ps.length = n := by have := hr.len; rw [ptrs_len] at this; exact this
  by_cases h0 : 0 ≤ k
  · have t0 : decide (0 ≤ k) = true := by simpa using h0
    have t9 : decide (k < 0) = false := by simp; omega
    obtain ⟨m, rfl⟩ := Int.eq_ofNat_of_zero_le h0
    by_cases h1 : m < n
    · have t1 : decide (m < n) = true := by simpa using h1
      have hmC : m < C.length := by rw [← hm.len, hpn]; exact h1
      have hmp : m < ps.length := by omega
      have HE := Lib.hid (size_at hmC)
      have HS := Lib.hid (modelSize_same _ _ _ w (hm.mdl hmC hmp))
      obtain ⟨b, off, rfl, hlt, hc⟩ := hr.spot (by omega)
      have hcell := hc m _ (ptrs_at hmp)
      rw [HE.out]
      generalize ps[m] = p at *
      generalize C[m] = cs at *
      clear hr hm hc hpn hmC hmp
      go_enter Try.func40, Try.ntmps40
      go_wp2_with (go_at_call 56; refine HS.out.mono ?_; rintro e w' ⟨rfl, rfl⟩)
      go_ret
      exact ⟨rfl, rfl⟩
    · have t1 : decide (m < n) = false := by simpa using h1
      have HE : Hid (sizeC C (m : Int) = 0) := size_out (Or.inr (by rw [← hm.len, hpn]; omega))
      rw [HE.out]
      clear hr hm hpn
      go_enter Try.func40, Try.ntmps40
      go_wp2
      go_ret
      exact ⟨rfl, rfl⟩
  · have t0 : decide (0 ≤ k) = false := by simpa using h0
    have t9 : decide (k < 0) = true := by simp; omega
    by_cases h1 : -16 ≤ k
    · have t1 : decide (-16 ≤ k) = true := by simpa using h1
      obtain ⟨m, rfl⟩ : ∃ m : Nat, k = -(m : Int) := ⟨(-k).toNat, by omega⟩
      have HE := Lib.hid (size_neg (C := C) (n := m) (by omega) (by omega))
      have g4 := pow_wrap (n := m) (by omega)
      have hp : 2 ^ m ≤ 2 ^ 16 := Nat.pow_le_pow_right (by decide) (by omega)
      rw [HE.out]
      clear hr hm hpn
      go_enter Try.func40, Try.ntmps40
      go_wp2
      go_ret
      exact ⟨rfl, rfl⟩
    · have t1 : decide (-16 ≤ k) = false := by simpa using h1
      have HE : Hid (sizeC C k = 0) := size_out (Or.inl (by omega))
      rw [HE.out]
      clear hr hm hpn
      go_enter Try.func40, Try.ntmps40
      go_wp2
      go_ret
      exact ⟨rfl, rfl⟩

set_option maxRecDepth 100000 in
set_option maxHeartbeats 400000 in
theorem coderWhole_any (A : Option Addr) (n c : Nat) (ps : List Nat) (C : List (List Nat)) (k : Int) (w : World) (hr : Has w A n c (ptrs ps)) (hm : MS w ps C) (hk : -16 ≤ k ∧ k < (C.length : Int)) :
    Calls Try.prog 61 #[.slice A n c, .int .i64 k] w fun e w' => e = .returned (.int .i64 (wholeC C k : Int)) ∧ w = w' := by
  have hpn : ps.length = n := by have := hr.len; rw [ptrs_len] at this; exact this
  by_cases h0 : k < 0
  · have t0 : decide (k < 0) = true := by simpa using h0
    obtain ⟨m, rfl⟩ : ∃ m : Nat, k = -(m : Int) := ⟨(-k).toNat, by omega⟩
    have HE := Lib.hid (whole_neg (C := C) (n := m) (by omega) (by omega))
    have g4 := pow_wrap (n := m) (by omega)
    have hp : 2 ^ m ≤ 2 ^ 16 := Nat.pow_le_pow_right (by decide) (by omega)
    rw [HE.out]
    have hm2 : m ≤ 16 := by omega
    clear hr hm hpn hk
    go_enter Try.func61, Try.ntmps61
    go_wp2
    go_ret
    exact ⟨rfl, rfl⟩
  · have t0 : decide (k < 0) = false := by simpa using h0
    obtain ⟨m, rfl⟩ := Int.eq_ofNat_of_zero_le (show 0 ≤ k by omega)
    have hmC : m < C.length := by omega
    have hmp : m < ps.length := by rw [hm.len]; exact hmC
    have h1 : m < n := by omega
    have HE := Lib.hid (whole_at hmC)
    have HS := Lib.hid (modelTotal_same _ _ _ w (hm.mdl hmC hmp))
    obtain ⟨b, off, rfl, hlt, hc⟩ := hr.spot (by omega)
    have hcell := hc m _ (ptrs_at hmp)
    rw [HE.out]
    generalize ps[m] = p at *
    generalize C[m] = cs at *
    clear hr hm hc hpn hmC hmp hk
    go_enter Try.func61, Try.ntmps61
    go_wp2_with (go_at_call 65; refine HS.out.mono ?_; rintro e w' ⟨rfl, rfl⟩)
    go_ret
    exact ⟨rfl, rfl⟩

/-- What find tells of a place in the whole. -/
def findC (C : List (List Nat)) (k : Int) (v : Nat) : Int × Bool := if k < 0 then ((v : Int), decide (v < wholeC C k)) else (((findN (C.getD k.toNat []) (v : Int)).1 : Int), decide ((findN (C.getD k.toNat []) (v : Int)).2 = 0))
set_option maxRecDepth 100000 in
set_option maxHeartbeats 400000 in
theorem coderFind_any (A : Option Addr) (n c : Nat) (ps : List Nat) (C : List (List Nat)) (k : Int) (v : Nat) (w : World) (hr : Has w A n c (ptrs ps)) (hm : MS w ps C) (hC : ∀ c ∈ C, Cnts c) (hk : -16 ≤ k ∧ k < (C.length : Int)) :
    Calls Try.prog 50 #[.slice A n c, .int .i64 k, .int .i64 (v : Int)] w fun e w' => e = .returned (.tuple #[.int .i64 (findC C k v).1, .bool (findC C k v).2]) ∧ w = w' := by
  have hpn : ps.length = n := by have := hr.len; rw [ptrs_len] at this; exact this
  by_cases h0 : k < 0
  · have t0 : decide (k < 0) = true := by simpa using h0
    have HE : Hid (findC C k v = ((v : Int), decide (v < wholeC C k))) := if_pos h0
    have HW := Lib.hid (coderWhole_any A n c ps C k w hr hm hk)
    rw [HE.out]
    clear hr hm hpn hk hC
    go_enter Try.func50, Try.ntmps50
    go_wp2_with (go_at_call 61; refine HW.out.mono ?_; rintro e w' ⟨rfl, rfl⟩)
    go_ret2
    exact ⟨by simp, rfl⟩
  · have t0 : decide (k < 0) = false := by simpa using h0
    have HE : Hid (findC C k v = (((findN (C.getD k.toNat []) (v : Int)).1 : Int), decide ((findN (C.getD k.toNat []) (v : Int)).2 = 0))) := if_neg h0
    obtain ⟨m, rfl⟩ := Int.eq_ofNat_of_zero_le (show 0 ≤ k by omega)
    have hmC : m < C.length := by omega
    have hmp : m < ps.length := by rw [hm.len]; exact hmC
    have h1 : m < n := by omega
    have hg : C.getD (m : Int).toNat [] = C[m] := by rw [List.getD_eq_getElem?_getD, Int.toNat_natCast, List.getElem?_eq_getElem hmC]; rfl
    rw [hg] at HE
    have HS := Lib.hid (modelFind_same _ _ _ (v : Int) w (hm.mdl hmC hmp) (hC _ (List.getElem_mem hmC)))
    obtain ⟨b, off, rfl, hlt, hc⟩ := hr.spot (by omega)
    have hcell := hc m _ (ptrs_at hmp)
    rw [HE.out]
    generalize ps[m] = p at *
    generalize C[m] = cs at *
    obtain ⟨r, hrr⟩ : ∃ r, findN cs (v : Int) = r := ⟨_, rfl⟩
    obtain ⟨r1, r2⟩ := r
    rw [hrr] at HS ⊢
    clear hr hm hc hpn hmC hmp hk hC hg hrr HE
    go_enter Try.func50, Try.ntmps50
    go_wp2_with (go_at_call 62; refine HS.out.mono ?_; rintro e w' ⟨rfl, rfl⟩)
    go_ret2
    refine ⟨?_, rfl⟩
    by_cases h : r2 = 0
    · subst h; rfl
    · simp [h]

/-- A code is a symbol of some model. -/
def okC (C : List (List Nat)) (x : Cod) : Prop := 0 ≤ x.2 ∧ x.2 < (sizeC C x.1 : Int)
set_option maxRecDepth 100000 in
set_option maxHeartbeats 400000 in
theorem coderLacks_any (A : Option Addr) (n c : Nat) (ps : List Nat) (C : List (List Nat)) (k : Int) (w : World) (hr : Has w A n c (ptrs ps)) (hm : MS w ps C) :
    Calls Try.prog 32 #[.slice A n c, .int .i64 k] w fun e w' => e = .returned (.bool (decide (sizeC C k = 0))) ∧ w = w' := by
  have HS := Lib.hid (coderSize_any A n c ps C k w hr hm)
  clear hr hm
  go_enter Try.func32, Try.ntmps32
  go_wp2_with (go_at_call 40; refine HS.out.mono ?_; rintro e w' ⟨rfl, rfl⟩)
  go_ret
  refine ⟨ret_bool ?_, rfl⟩
  by_cases h : sizeC C k = 0
  · rw [h]; rfl
  · rw [decide_eq_false h]; exact beq_eq_false_iff_ne.2 (by omega)
set_option maxRecDepth 100000 in
set_option maxHeartbeats 400000 in
theorem coderLacksCode_any (A : Option Addr) (n c : Nat) (ps : List Nat) (C : List (List Nat)) (x y : Int) (w : World) (hr : Has w A n c (ptrs ps)) (hm : MS w ps C) :
    Calls Try.prog 24 #[.slice A n c, .agg #[.int .i64 x, .int .i64 y]] w fun e w' => e = .returned (.bool (decide (¬ (0 ≤ y ∧ y < (sizeC C x : Int))))) ∧ Below w.heap.size w w' := by
  have HB1 := Lib.hid (new_alloc (Below.refl w.heap.size w) (.cells #[.int .i64 x, .int .i64 y] 41))
  have HS := Lib.hid (fun j => (coderSize_any A n c ps C x ((w.alloc (.cells #[.int .i64 x, .int .i64 y] 41)).drewN j) ((hr.kept HB1.out).kept (quiet_below _ j)) ((hm.below HB1.out).below (quiet_below _ j))).mono fun _ _ ⟨p, q⟩ => And.intro p q.symm)
  clear hr hm
  by_cases h0 : y < 0
  · have t0 : decide (y < 0) = true := by simpa using h0
    have HD : Hid (decide (¬ (0 ≤ y ∧ y < (sizeC C x : Int))) = true) := by show _ = _; simp; omega
    rw [HD.out]
    clear HS
    go_enter Try.func24, Try.ntmps24
    go_wp2
    go_quiet (fail)
    go_wp2
    go_ret
    exact ⟨rfl, new_call HB1.out (quiet_below _ _)⟩
  · have t0 : decide (y < 0) = false := by simpa using h0
    obtain ⟨m, rfl⟩ := Int.eq_ofNat_of_zero_le (show 0 ≤ y by omega)
    generalize sizeC C x = q at *
    have HD : Hid (decide (¬ (0 ≤ (m : Int) ∧ (m : Int) < (q : Int))) = decide (q ≤ m)) := by show _ = _; simp
    rw [HD.out]
    go_enter Try.func24, Try.ntmps24
    go_wp2
    go_quiet ((go_at_call 40; exact Calls.quiet_of_same (HS.out _)))
    go_wp2
    go_ret
    exact ⟨by first | rfl | simp, new_call HB1.out (quiet_below _ _)⟩
end Go.Proofs.Ytfkmcjlapigapaa
