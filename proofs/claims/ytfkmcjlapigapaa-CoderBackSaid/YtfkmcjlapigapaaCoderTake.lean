/- The landed coder: shares, counts, and one step of the range. -/
import Derived.Test.YtfkmcjlapigapaaCoderHeld
import Derived.Deep.RegionHeld3
import Derived.Deep.RegionLaw
import Derived.Lib.SliceRun
namespace Go.Proofs.Ytfkmcjlapigapaa
open Go.RowKit

theorem share_ok {C : List (List Nat)} (hC : ∀ c ∈ C, Cnts c) {x : Cod} : okC C x ↔ (shareC C x).2 ≠ 0 := by
  obtain ⟨k, y⟩ := x
  constructor
  · rintro ⟨h1, h2⟩
    simp only at h1 h2
    by_cases h0 : k < 0
    · by_cases h3 : -16 ≤ k
      · obtain ⟨m, rfl⟩ : ∃ m : Nat, k = -(m : Int) := ⟨(-k).toNat, by omega⟩
        rw [size_neg (by omega) (by omega)] at h2
        rw [share_plain (by omega) (by omega), if_pos ⟨h1, h2⟩]
        simp
      · rw [size_out (Or.inl (by omega))] at h2; omega
    · obtain ⟨m, rfl⟩ := Int.eq_ofNat_of_zero_le (show 0 ≤ k by omega)
      by_cases h3 : m < C.length
      · rw [size_at h3] at h2
        obtain ⟨s, rfl⟩ := Int.eq_ofNat_of_zero_le h1
        have hs : s < C[m].length := by omega
        rw [share_at h3, share_in hs, if_pos rfl]
        have := (hC _ (List.getElem_mem h3)).pos _ (List.getElem_mem hs)
        simp only
        omega
      · rw [size_out (Or.inr (by omega))] at h2; omega
  · intro h
    rcases share_model h with ⟨h1, h2, h3, h4, _⟩ | h5
    · obtain ⟨m, rfl⟩ : ∃ m : Nat, k = -(m : Int) := ⟨(-k).toNat, by simp only at h2; omega⟩
      refine ⟨h3, ?_⟩
      simp only at *
      rw [size_neg (by omega) (by omega)]
      rw [show (-(-(m : Int))).toNat = m by omega] at h4
      exact h4
    · obtain ⟨hm, h1, h2, hs, _⟩ := h5
      obtain ⟨m, rfl⟩ := Int.eq_ofNat_of_zero_le h1
      refine ⟨h2, ?_⟩
      have hm' : m < C.length := hm
      have hs' : y.toNat < C[m].length := hs
      show y < (sizeC C (m : Int) : Int)
      rw [size_at hm']
      omega
theorem okC_model {C : List (List Nat)} {x : Cod} (h : okC C x) : -16 ≤ x.1 ∧ x.1 < (C.length : Int) := by
  rcases Int.lt_or_le x.1 (-16) with h1 | h1
  · have := h.2; have h0 := h.1; rw [size_out (Or.inl h1)] at this; omega
  · rcases Int.lt_or_le x.1 (C.length : Int) with h2 | h2
    · exact ⟨h1, h2⟩
    · have := h.2; have h0 := h.1; rw [size_out (Or.inr h2)] at this; omega

set_option maxRecDepth 100000 in
set_option maxHeartbeats 400000 in
theorem coderShare_any (A : Option Addr) (n c : Nat) (ps : List Nat) (C : List (List Nat)) (x y : Int) (w : World) (hr : Has w A n c (ptrs ps)) (hm : MS w ps C) (hC : ∀ c ∈ C, Cnts c) (hk : okC C (x, y)) :
    Calls Try.prog 57 #[.slice A n c, .agg #[.int .i64 x, .int .i64 y]] w fun e w' => e = .returned (.tuple #[.int .i64 ((shareC C (x, y)).1 : Int), .int .i64 ((shareC C (x, y)).2 : Int)]) ∧ Below w.heap.size w w' := by
  have hpn : ps.length = n := by have := hr.len; rw [ptrs_len] at this; exact this
  have hmo := okC_model hk
  have hsh := (share_ok hC).1 hk
  simp only at hmo
  have HB1 := Lib.hid (new_alloc (Below.refl w.heap.size w) (.cells #[.int .i64 x, .int .i64 y] 41))
  by_cases h0 : x < 0
  · have t0 : decide (x < 0) = true := by simpa using h0
    obtain ⟨m, rfl⟩ : ∃ m : Nat, x = -(m : Int) := ⟨(-x).toNat, by omega⟩
    have hE := share_plain (C := C) (n := m) (y := y) (by omega) (by omega)
    have hy0 : 0 ≤ y := hk.1
    rw [if_pos ⟨hy0, by have := hk.2; simp only at this; rw [size_neg (by omega) (by omega)] at this; exact this⟩] at hE
    have HE : Hid (shareC C (-(m : Int), y) = (y.toNat, 1)) := hE
    rw [HE.out]
    obtain ⟨s, rfl⟩ := Int.eq_ofNat_of_zero_le hy0
    clear hr hm hpn hk hmo hE hsh
    go_enter Try.func57, Try.ntmps57
    go_wp2
    go_ret2
    exact ⟨rfl, HB1.out⟩
  · have t0 : decide (x < 0) = false := by simpa using h0
    obtain ⟨m, rfl⟩ := Int.eq_ofNat_of_zero_le (show 0 ≤ x by omega)
    have hmC : m < C.length := by omega
    have hmp : m < ps.length := by rw [hm.len]; exact hmC
    have h1 : m < n := by omega
    have hE := share_at (C := C) (k := m) (y := y) hmC
    have h2 : (shareN C[m] y).2.2 = 0 := by
      rcases Nat.eq_zero_or_pos (shareN C[m] y).2.2 with h | h
      · exact h
      · rw [hE, if_neg (by omega)] at hsh; exact absurd rfl hsh
    rw [if_pos h2] at hE
    have HE := Lib.hid hE
    have HS := Lib.hid (fun j => modelShare_q _ _ _ y ((w.alloc (.cells #[.int .i64 (m : Int), .int .i64 y] 41)).drewN j) (((hm.below HB1.out).below (quiet_below _ j)).mdl hmC hmp) (hC _ (List.getElem_mem hmC)))
    obtain ⟨b, off, rfl, hlt, hc⟩ := (hr.kept HB1.out).spot (by omega)
    have hcell := hc m _ (ptrs_at hmp)
    rw [HE.out]
    generalize ps[m] = p at *
    generalize C[m] = cs at *
    obtain ⟨r, hrr⟩ : ∃ r, shareN cs y = r := ⟨_, rfl⟩
    obtain ⟨r1, r2, r3⟩ := r
    rw [hrr] at HS ⊢
    clear hr hm hc hpn hmC hmp hk hmo hE hsh h2 hrr HE
    go_enter Try.func57, Try.ntmps57
    go_wp2
    go_quiet ((go_at_call 63; exact quiet_more (HS.out _)))
    go_wp2
    go_ret2
    exact ⟨rfl, new_call HB1.out (quiet_below _ _)⟩

theorem Rob.new1 {D : Nat → Prop} {w : World} (u : Value) (e : TypeId) (hD : Sit D w.heap.size) : Rob D (w.alloc (.cells #[u] e)) fun W => Has W (some ⟨w.heap.size, 0, none⟩) 1 1 [u] :=
  Rob.alloc (fun W hW => by have := Has.one W u e; rw [hW.size] at this; exact this) hD
theorem MS.seen {w w' : World} {ps : List Nat} {C : List (List Nat)} {i : Nat} {cs : List Nat} (h : MS w ps C) (hi : i < C.length) (hp : i < ps.length) (hc : Chg (fun k => k = ps[i]) w w') (hb : MB w' ps[i] (fun j => cs.getD j 0) cs.length cs.sum) : MS w' ps (C.set i cs) := by
  refine ⟨by rw [List.length_set]; exact h.len, h.diff, fun j hj hpj => ?_⟩
  rw [List.length_set] at hj
  by_cases e : j = i
  · subst e
    rw [List.getElem_set_self]
    exact hb
  · rw [List.getElem_set_ne (fun e' => e e'.symm)]
    exact Blk.chg (h.blk j hj hpj) hc fun e' => by
      rcases Nat.lt_or_gt_of_ne e with h1 | h1
      · exact List.pairwise_iff_getElem.1 h.diff j i hpj hp h1 e'
      · exact List.pairwise_iff_getElem.1 h.diff i j hp hpj h1 e'.symm
set_option maxRecDepth 100000 in
set_option maxHeartbeats 400000 in
theorem coderCount_any (A : Option Addr) (n c : Nat) (ps : List Nat) (C : List (List Nat)) (x y : Int) (w : World) (hr : Has w A n c (ptrs ps)) (hm : MS w ps C) (hC : ∀ c ∈ C, Cnts c) (hk : okC C (x, y)) :
    Calls Try.prog 58 #[.slice A n c, .agg #[.int .i64 x, .int .i64 y]] w fun e w' => e = .returned (.tuple #[]) ∧ MS w' ps (seenC C (x, y)) ∧ Chg (fun k => k ∈ ps) w w' := by
  have hpn : ps.length = n := by have := hr.len; rw [ptrs_len] at this; exact this
  have hmo := okC_model hk
  simp only at hmo
  have HB1 := Lib.hid (new_alloc (Below.refl w.heap.size w) (.cells #[.int .i64 x, .int .i64 y] 41))
  by_cases h0 : x < 0
  · have t0 : decide (0 ≤ x) = false := by simp; omega
    have HE : Hid (seenC C (x, y) = C) := if_neg (by simp only; omega)
    have HM := Lib.hid (hm.below HB1.out)
    rw [HE.out]
    clear hr hm hpn hk hmo
    go_enter Try.func58, Try.ntmps58
    go_wp2
    go_end0
    exact ⟨rfl, HM.out, Chg.of_below HB1.out⟩
  · have t0 : decide (0 ≤ x) = true := by simp; omega
    obtain ⟨m, rfl⟩ := Int.eq_ofNat_of_zero_le (show 0 ≤ x by omega)
    have hmC : m < C.length := by omega
    have hmp : m < ps.length := by rw [hm.len]; exact hmC
    have h1 : m < n := by omega
    obtain ⟨s, rfl⟩ := Int.eq_ofNat_of_zero_le hk.1
    have hs : s < C[m].length := by have := hk.2; simp only at this; rw [size_at hmC] at this; omega
    have HE : Hid (seenC C ((m : Int), (s : Int)) = C.set m (countN C[m] s)) := by
      show _ = _
      unfold seenC
      rw [if_pos (by simp only; omega)]
      simp only [Int.toNat_natCast]
      rw [List.getD_eq_getElem?_getD, List.getElem?_eq_getElem hmC]; rfl
    have HCt : Hid (Calls Try.prog 64 #[.pointer (some ⟨ps[m], 0, none⟩), .slice (some ⟨w.heap.size + 1, 0, none⟩) 1 1] ((w.alloc (.cells #[.int .i64 (m : Int), .int .i64 (s : Int)] 41)).alloc (.cells #[.int .i64 (s : Int)] 3)).drew fun e w' => e = .returned (.int .i64 0) ∧ MS w' ps (C.set m (countN C[m] s)) ∧ Chg (fun k => k ∈ ps) w w') := by
      have hb2 : Below w.heap.size w ((w.alloc (.cells #[.int .i64 (m : Int), .int .i64 (s : Int)] 41)).alloc (.cells #[.int .i64 (s : Int)] 3)).drew := (new_alloc HB1.out _).drew
      have hz : (w.alloc (.cells #[.int .i64 (m : Int), .int .i64 (s : Int)] 41)).heap.size = w.heap.size + 1 := by simp
      have hrob := Rob.new1 (.int .i64 (s : Int)) 3 ((hm.below HB1.out).mdl hmC hmp).sit
      rw [hz] at hrob
      have hrob2 := Rob.chg (G' := fun k => k = ps[m]) Has.stays hrob (Chg.of_below (Below.refl _ _).drew) fun _ _ h => h
      have h3 := modelCount_any ps[m] _ C[m] (some ⟨w.heap.size + 1, 0, none⟩) 1 1 [(s : Int)] _ ((hm.below hb2).mdl hmC hmp) (hC _ (List.getElem_mem hmC)) hrob2 (by decide)
      rw [countAll_one hs] at h3
      exact h3.mono fun e w' ⟨S', e1, e2, e3, e4⟩ => ⟨e1, (hm.below hb2).seen hmC hmp e3 e2.blk, (Chg.of_below hb2).then_ e3 fun k _ h => by rw [h]; exact List.getElem_mem hmp⟩
    obtain ⟨b, off, rfl, hlt, hc⟩ := (hr.kept HB1.out).spot (by omega)
    have hcell := hc m _ (ptrs_at hmp)
    rw [HE.out]
    generalize ps[m] = p at *
    clear hr hm hc hpn hk hmo hs HE hmp
    generalize C.set m (countN C[m] s) = C2 at *
    have HX : Hid (Blk (w.alloc (.cells #[.int .i64 (m : Int), .int .i64 (s : Int)] 41)) w.heap.size 41 #[.int .i64 (m : Int), .int .i64 (s : Int)]) := Blk.new w _ _
    have x0 : (w.alloc (.cells #[.int .i64 (m : Int), .int .i64 (s : Int)] 41)).cell? ⟨w.heap.size, 0, none⟩ = some (.int .i64 (m : Int)) := HX.out.cell 0
    have x1 : (w.alloc (.cells #[.int .i64 (m : Int), .int .i64 (s : Int)] 41)).cell? ⟨w.heap.size, 1, none⟩ = some (.int .i64 (s : Int)) := HX.out.cell 1
    have HX2 := Lib.hid (HX.out.alloc (.cells #[.int .i64 (s : Int)] 3))
    have y0 : ((w.alloc (.cells #[.int .i64 (m : Int), .int .i64 (s : Int)] 41)).alloc (.cells #[.int .i64 (s : Int)] 3)).cell? ⟨w.heap.size, 0, none⟩ = some (.int .i64 (m : Int)) := HX2.out.cell 0
    have y1 : ((w.alloc (.cells #[.int .i64 (m : Int), .int .i64 (s : Int)] 41)).alloc (.cells #[.int .i64 (s : Int)] 3)).cell? ⟨w.heap.size, 1, none⟩ = some (.int .i64 (s : Int)) := HX2.out.cell 1
    have hcell2 : ((w.alloc (.cells #[.int .i64 (m : Int), .int .i64 (s : Int)] 41)).alloc (.cells #[.int .i64 (s : Int)] 3)).cell? ⟨b, off + m, none⟩ = some (.pointer (some ⟨p, 0, none⟩)) := Lib.cell?_alloc_some _ hcell
    go_enter Try.func58, Try.ntmps58
    go_wp2
    go_region_law (first
      | (go_simp; go_at_call 64; with_reducible refine Calls.mono HCt.out ?_; rintro e w' ⟨rfl, hms, hch⟩; have HM := Lib.hid hms; have HC := Lib.hid hch; clear hms hch))
    all_goals
      go_wp2
      go_end0
      exact ⟨rfl, HM.out, HC.out⟩
end Go.Proofs.Ytfkmcjlapigapaa
