/- The landed coder: Encode. -/
import Derived.Test.YtfkmcjlapigapaaCoderOf
namespace Go.Proofs.Ytfkmcjlapigapaa
open Go.RowKit

theorem Modd.cases {w w' : World} {sizes : List Int} {e : Ending} (h : Modd w sizes e w') : (okS sizes = false ∧ e = .returned (.tuple #[.slice none 0 0, .int .i64 2]) ∧ Below w.heap.size w w') ∨
  (okS sizes = true ∧ ∃ A n c ps, e = .returned (.tuple #[.slice A n c, .int .i64 0]) ∧ MR w (.slice A n c) ps (beginC sizes).C w') := by
  rcases h with h | ⟨h1, v, ps, e1, h2⟩
  · exact Or.inl h
  · obtain ⟨A, n, c, rfl⟩ := own_slice h2.own
    exact Or.inr ⟨h1, A, n, c, ps, e1, h2⟩
theorem okS_sizes {sizes : List Int} (h : okS sizes = true) : ∀ s ∈ sizes, 1 ≤ s ∧ s ≤ 256 := (of_decide_eq_true h).1
set_option maxRecDepth 100000 in
set_option maxHeartbeats 1000000 in
theorem coderEnc_any (A : Option Addr) (n c : Nat) (sizes : List Int) (B : Option Addr) (m d : Nat) (l : List Cod) (w : World) (h : Has w A n c (intVs sizes)) (hl : HasK 2 w B m d (codCells l)) (hn : n ≤ 20) (hm : m ≤ 500) : Calls Try.prog 12 #[.slice A n c, .slice B m d] w (Coded w (encC sizes l)) := by
  have hmf : ∀ (fn : Fn) (first cap : Array Value) (w : World), (Instr.makeFunc fn first cap).run Try.prog w = .ok (.func fn first cap) w := fun _ _ _ _ => rfl
  have HMo := Lib.hid (modelsOf_any A n c sizes w h (by omega))
  have HH := Lib.hid hl
  have HLen : Hid (l.length = m) := by have := hl.len; rw [codCells_len] at this; show _ = _; omega
  obtain ⟨kz, ks⟩ := zero_of_info writerInfo
  clear h hl ks
  have tm : decide ((65536 : Int) < (m : Int)) = false := by simp; omega
  go_enter Try.func12, Try.ntmps12
  go_wp2_with fail
  refine HMo.out.mono ?_
  intro e w1 hmod
  rcases hmod.cases with ⟨hf, rfl, hb1⟩ | ⟨hk, A1, n1, c1, ps, rfl, hmr⟩
  · have HE : Hid (encC sizes l = ([], 2)) := if_pos hf
    have HB1 := Lib.hid hb1
    clear hmod hf hb1 HMo
    go_wp2
    go_ret2
    rw [HE.out]
    exact ⟨none, 0, rfl, Has.none _ _ _ fun _ => rfl, HB1.out⟩
  · have HOk := Lib.hid (begin_ok (okS_sizes hk))
    have HMR := Lib.hid hmr
    have HEn : Hid (encC sizes l = match runC (beginC sizes) l with | none => ([], 2) | some u => if 65536 < l.length then ([], 3) else (digC u.D u.N, 0)) := if_neg (by rw [hk]; decide)
    have HCo := Lib.hid (containsC_any A1 n1 c1 ps (beginC sizes).C B m d l w1 hmr.rob.here hmr.ms (HH.out.kept hmr.bel) (by omega))
    clear hmod hk hmr HMo
    go_wp2_with fail
    refine HCo.out.mono ?_
    rintro e w2 ⟨bo, rfl, hbo, hb2⟩
    have HB2 := Lib.hid hb2
    have HM2 := Lib.hid (HMR.out.next hb2)
    clear HCo hb2
    cases bo with
    | true =>
      have HE : Hid (encC sizes l = ([], 2)) := by show _ = _; rw [HEn.out, run_none l HOk.out (hbo.1 rfl)]
      clear hbo
      go_wp2
      go_ret2
      rw [HE.out]
      exact ⟨none, 0, rfl, Has.none _ _ _ fun _ => rfl, HM2.out.bel⟩
    | false =>
      have hall : ∀ x ∈ l, okC (beginC sizes).C x := Classical.byContradiction fun h => by have := hbo.2 h; cases this
      obtain ⟨u, hu, hD⟩ := run_some l HOk.out hall
      rw [HLen.out] at hD
      have HU := Lib.hid hu
      have HE : Hid (encC sizes l = (digC u.D u.N, 0)) := by show _ = _; rw [HEn.out, hu]; simp only; rw [if_neg (by rw [HLen.out]; omega)]
      have HUk := Lib.hid (run_lies l HOk.out hu).1
      have hD3 : u.D ≤ 5 + 3 * m := hD
      have HHo := Lib.hid (hold_any A1 n1 c1 w2)
      clear hbo hall hu hD HEn
      go_wp2_with fail
      refine HHo.out.mono ?_
      rintro e w3 ⟨rfl, hb3⟩
      have HM3 := Lib.hid (HM2.out.next hb3)
      have HRb : Hid (Rob (fun k => k ∈ ps ∨ w3.heap.size ≤ k) w3 fun W => Has W A1 n1 c1 (ptrs ps)) := HM3.out.rob
      clear HHo hb3 HM2 HMR HB2
      have HB4 := Lib.hid (new_alloc (Below.refl w3.heap.size w3) (.cells #[.slice A1 n1 c1, .int .u64 0, .int .u64 4294967295, .slice none 0 0, .int .u8 0, .int .i64 0] 63))
      have HW4 : Hid (WM (w3.alloc (.cells #[.slice A1 n1 c1, .int .u64 0, .int .u64 4294967295, .slice none 0 0, .int .u8 0, .int .i64 0] 63)) w3.heap.size (w3.heap.size + 1) A1 n1 c1 0 4294967295 (.slice none 0 0) [] 0 0) := ⟨Blk.new w3 _ _, Own.nil _ _ _, by omega, by simp⟩
      have HM4 := Lib.hid (HM3.out.next HB4.out)
      have hlt3 := HM3.out.ms.lt
      have HPu := Lib.hid (put_any w3.heap.size (w3.heap.size + 1) A1 n1 c1 0 (.slice none 0 0) [] 0 0 ps (beginC sizes) u l B m d _ HW4.out ⟨rfl, rfl, (show 0 + 4294967295 ≤ 8589934592 by decide), (fun _ => show 0 + 4294967295 ≤ 4294967296 by decide), by simp, by decide⟩ HM4.out.ms (fun h => by have := hlt3 _ h; omega) (fun p hp => by have := hlt3 p hp; omega)
        (Rob.chg Has.stays HRb.out (Chg.of_below HB4.out) fun k hk hd => by
          rcases hd with hd | hd | hd
          · omega
          · exact Or.inl hd
          · omega)
        (Rob.old (fun _ _ hb h => h.kept hb) HH.out HM4.out.bel fun k hd => by
          have := HM3.out.bel.size
          rcases hd with hd | hd | hd
          · omega
          · exact HM3.out.new k hd
          · omega) HOk.out HU.out (by omega) (by show 5 ≤ 1000; decide))
      go_wp2_with fail
      refine HPu.out.mono ?_
      rintro e w5 ⟨lo5, sv5, s5, a5, r5, rfl, hw5, hi5, hm5, hc5⟩
      have HDg := Lib.hid (digits_any w3.heap.size (w3.heap.size + 1) A1 n1 c1 lo5 u.R u.N u.D sv5 s5 a5 r5 w5 hw5 hi5 (by have := HUk.out.big; omega) (by omega))
      have HB5 : Hid (Below w.heap.size w w5) := HM4.out.bel.trans (hc5.below (fun k hd => by
          have := HM3.out.bel.size
          rcases hd with hd | hd | hd
          · omega
          · exact HM3.out.new k hd
          · omega) HM4.out.bel.size)
      have hz5 := HB5.out.size
      clear hw5 hi5 hm5 hc5 HPu
      go_wp2_with fail
      refine HDg.out.mono ?_
      rintro e w6 ⟨v6, rfl, ho6, hc6⟩
      obtain ⟨A6, c6, hv6, hh6⟩ := ho6.has
      rw [u8s_len] at hv6 hh6
      subst hv6
      have HH6 := Lib.hid hh6
      have HB6 : Hid (Below w.heap.size w w6) := HB5.out.trans (hc6.below (fun k hd => by
          have := HM3.out.bel.size
          rcases hd with hd | hd
          · omega
          · omega) hz5)
      clear ho6 hc6 hh6 HDg
      go_wp2
      go_ret2
      rw [HE.out]
      exact ⟨A6, c6, rfl, HH6.out, HB6.out⟩
end Go.Proofs.Ytfkmcjlapigapaa
