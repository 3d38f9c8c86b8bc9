import Derived.Test.YtdheppfooapneaaFeedA
/- The landed feeder's small calls. -/
namespace Go.Proofs.Ytdheppfooapneaa
open Go.RowKit

section
variable {w : World} {p : Nat} {m tk hd : Int} {pv : Value} {a b : Int} {rv : Value} {e : Int} {cl : Bool}
theorem FB.c0 (h : FB w p m tk hd pv a b rv e cl) : w.cell? ⟨p, 0, none⟩ = some (.int .i64 m) := Blk.cell h 0
theorem FB.c1 (h : FB w p m tk hd pv a b rv e cl) : w.cell? ⟨p, 1, none⟩ = some (.int .i64 tk) := Blk.cell h 1
theorem FB.c2 (h : FB w p m tk hd pv a b rv e cl) : w.cell? ⟨p, 2, none⟩ = some (.int .i64 hd) := Blk.cell h 2
theorem FB.c3 (h : FB w p m tk hd pv a b rv e cl) : w.cell? ⟨p, 3, none⟩ = some pv := Blk.cell h 3
theorem FB.c4 (h : FB w p m tk hd pv a b rv e cl) : w.cell? ⟨p, 4, none⟩ = some (.int .i64 a) := Blk.cell h 4
theorem FB.c5 (h : FB w p m tk hd pv a b rv e cl) : w.cell? ⟨p, 5, none⟩ = some (.int .i64 b) := Blk.cell h 5
theorem FB.c6 (h : FB w p m tk hd pv a b rv e cl) : w.cell? ⟨p, 6, none⟩ = some rv := Blk.cell h 6
theorem FB.c7 (h : FB w p m tk hd pv a b rv e cl) : w.cell? ⟨p, 7, none⟩ = some (.int .i64 e) := Blk.cell h 7
theorem FB.c8 (h : FB w p m tk hd pv a b rv e cl) : w.cell? ⟨p, 8, none⟩ = some (.bool cl) := Blk.cell h 8
theorem FB.fz (h : FB w p m tk hd pv a b rv e cl) (i : Nat) : w.frozen? ⟨p, i, none⟩ = false := Blk.frozen h i
theorem FB.s0 (h : FB w p m tk hd pv a b rv e cl) (m' : Int) : FB (w.setCell ⟨p, 0, none⟩ (.int .i64 m')) p m' tk hd pv a b rv e cl := Blk.set_ h 0 _
theorem FB.s1 (h : FB w p m tk hd pv a b rv e cl) (tk' : Int) : FB (w.setCell ⟨p, 1, none⟩ (.int .i64 tk')) p m tk' hd pv a b rv e cl := Blk.set_ h 1 _
theorem FB.s2 (h : FB w p m tk hd pv a b rv e cl) (hd' : Int) : FB (w.setCell ⟨p, 2, none⟩ (.int .i64 hd')) p m tk hd' pv a b rv e cl := Blk.set_ h 2 _
theorem FB.s3 (h : FB w p m tk hd pv a b rv e cl) (pv' : Value) : FB (w.setCell ⟨p, 3, none⟩ pv') p m tk hd pv' a b rv e cl := Blk.set_ h 3 _
theorem FB.s4 (h : FB w p m tk hd pv a b rv e cl) (a' : Int) : FB (w.setCell ⟨p, 4, none⟩ (.int .i64 a')) p m tk hd pv a' b rv e cl := Blk.set_ h 4 _
theorem FB.s5 (h : FB w p m tk hd pv a b rv e cl) (b' : Int) : FB (w.setCell ⟨p, 5, none⟩ (.int .i64 b')) p m tk hd pv a b' rv e cl := Blk.set_ h 5 _
theorem FB.s6 (h : FB w p m tk hd pv a b rv e cl) (rv' : Value) : FB (w.setCell ⟨p, 6, none⟩ rv') p m tk hd pv a b rv' e cl := Blk.set_ h 6 _
theorem FB.s7 (h : FB w p m tk hd pv a b rv e cl) (e' : Int) : FB (w.setCell ⟨p, 7, none⟩ (.int .i64 e')) p m tk hd pv a b rv e' cl := Blk.set_ h 7 _
theorem FB.s8 (h : FB w p m tk hd pv a b rv e cl) (cl' : Bool) : FB (w.setCell ⟨p, 8, none⟩ (.bool cl')) p m tk hd pv a b rv e cl' := Blk.set_ h 8 _
theorem FB.chg {D : Nat → Prop} {w' : World} (h : FB w p m tk hd pv a b rv e cl) (hc : Chg D w w') (hx : ¬ D p) : FB w' p m tk hd pv a b rv e cl := Blk.chg h hc hx
end
theorem Chg.more {D : Nat → Prop} {w w' : World} (h : Chg D w w') (g o : Nat) (u : Value) (hg : D g) : Chg D w (w'.setCell ⟨g, o, none⟩ u) := h.then_ (Chg.set w' g o u) fun k _ hk => by rw [hk]; exact hg
/-- New memory in which nothing but the feeder's cells and the row that grew has turned. -/
def Held (w : World) (p : Nat) (m tk hd : Int) (pv : Value) (a b : Int) (rv : Value) (e : Int) (cl : Bool) (t : List Nat) (w' : World) : Prop :=
  ∃ pv', FB w' p m tk hd pv' a b rv e cl ∧ Own w' 0 5 pv' (u8s t) ∧ Chg (fun k => k = p ∨ pv.ownBlock = some k) w w' ∧ ∀ g, pv'.ownBlock = some g → pv.ownBlock = some g ∨ w.heap.size ≤ g

set_option maxRecDepth 100000 in
set_option maxHeartbeats 1000000 in
theorem hold_any (p : Nat) (m tk : Int) (hd : Nat) (pv : Value) (a b : Int) (rv : Value) (e : Int) (cl : Bool) (t : List Nat) (A : Option Addr) (n c : Nat) (bs : List Nat) (w : World)
    (hB : FB w p m tk hd pv a b rv e cl) (hO : Own w 0 5 pv (u8s t)) (hp : pv.ownBlock ≠ some p) (h : Has w A n c (u8s bs)) (hn : n ≤ 1000000) (ht : t.length ≤ 1000000) (hh : hd ≤ 1000000) :
    Calls Try.prog 45 #[.pointer (some ⟨p, 0, none⟩), .slice A n c] w fun e' w' => e' = .returned (.tuple #[]) ∧ Held w p m tk (hd + n : Nat) pv a b rv e cl (t ++ bs) w' := by
  have h3 := hB.c3
  have HB := Lib.hid hB
  have HO := Lib.hid hO
  have HP := Lib.hid hp
  have HH := Lib.hid h
  clear hB hO hp h
  go_enter Try.func45, Try.ntmps45
  go_wp2_with (at_builtin; go_loud (
               refine wpList_joinG rfl _ _ 22 rfl elem8 0 pv (u8s t) rfl HO.out _ n c (u8s bs) rfl HH.out (u8s_one _) (by rw [u8s_len]; omega) (by decide) (by omega) ?_
               intro v1 w1 hown1 hbel1 hgr1 hwh1
               have hc1 : Chg (fun k => k = p ∨ pv.ownBlock = some k) w w1 := (Chg.of_grown hgr1).wide fun k _ hk => Or.inr hk
               have k1 : FB w1 p m tk hd pv a b rv e cl := HB.out.chg (Chg.of_grown hgr1) HP.out
               obtain ⟨A1, N, c1, rfl⟩ : ∃ A N c, v1 = .slice A N c := by obtain ⟨A1, c1, hv, _⟩ := hown1.has; exact ⟨_, _, _, hv⟩
               have k2 := k1.s3 (.slice A1 N c1)
               have k3 := k2.s2 ((hd : Int) + (n : Int))
               have HW1 := Lib.hid hwh1
               have f1 := k1.fz 3
               have f2 := k2.fz 2
               have x2 := k2.c2
               have x1 := k1.c2
               have x3 := k1.c3
               have f3 := k1.fz 2
               have HO1 := Lib.hid hown1
               have HC1 := Lib.hid hc1
               have K3 := Lib.hid k3
               clear hwh1 hown1 hc1 k1 k2 k3 hbel1 hgr1))
  go_end0
  refine ⟨rfl, _, ?_, ?_, ?_, HW1.out⟩
  · have := K3.out
    rw [← Int.natCast_add] at this
    exact this
  · rw [u8s_app]
    refine (HO1.out.chg (Chg.set _ _ _ _) ?_).chg (Chg.set _ _ _ _) ?_
    all_goals
      intro g hg e
      subst e
      rcases HW1.out _ hg with h | h
      · exact HP.out h
      · have := HB.out.lt; omega
  · exact (HC1.out.more _ _ _ (Or.inl rfl)).more _ _ _ (Or.inl rfl)

set_option maxRecDepth 100000 in
theorem letGo_any (p : Nat) (m tk hd : Int) (pv : Value) (a b : Int) (rv : Value) (e : Int) (cl : Bool) (w : World) (hB : FB w p m tk hd pv a b rv e cl) :
    Calls Try.prog 21 #[.pointer (some ⟨p, 0, none⟩)] w fun e' w' => e' = .returned (.tuple #[]) ∧ FB w' p m tk hd (.slice none 0 0) a b (.slice none 0 0) e cl ∧ Chg (fun k => k = p) w w' := by
  have k2 := hB.s3 (.slice none 0 0)
  have k3 := k2.s6 (.slice none 0 0)
  have h3 := hB.c3
  have h6 := hB.c6
  have g6 := k2.c6
  have f3 := hB.fz 3
  have f6 := hB.fz 6
  have f6' := k2.fz 6
  have K3 := Lib.hid k3
  clear hB k2 k3
  go_enter Try.func21, Try.ntmps21
  go_wp2
  go_end0
  exact ⟨rfl, K3.out, ((Chg.refl (fun k => k = p) w).more p _ _ rfl).more p _ _ rfl⟩
set_option maxRecDepth 100000 in
theorem outcome_any (p : Nat) (m tk : Nat) (hd : Int) (pv : Value) (a b : Int) (rv : Value) (e : Nat) (cl : Bool) (w : World) (hB : FB w p m tk hd pv a b rv e cl) :
    Calls Try.prog 23 #[.pointer (some ⟨p, 0, none⟩)] w fun e' w' => e' = .returned (.int .i64 ((if e ≠ 0 then e else if m ≠ 4 then 10 else if 1048576 < tk then 3 else 0 : Nat) : Int)) ∧ w = w' := by
  have h0 := hB.c0
  have h1 := hB.c1
  have h7 := hB.c7
  clear hB
  by_cases he : e = 0
  · subst he
    by_cases hm : m = 4
    · subst hm
      by_cases ht : 1048576 < tk
      · have t : decide ((1048576 : Int) < (tk : Int)) = true := decide_eq_true (by omega)
        rw [if_neg (by simp), if_neg (by simp), if_pos ht]
        go_enter Try.func23, Try.ntmps23
        go_wp2
        go_ret
        exact ⟨rfl, rfl⟩
      · have t : decide ((1048576 : Int) < (tk : Int)) = false := decide_eq_false (by omega)
        rw [if_neg (by simp), if_neg (by simp), if_neg ht]
        go_enter Try.func23, Try.ntmps23
        go_wp2
        go_ret
        exact ⟨rfl, rfl⟩
    · have t : ((m : Int) != 4) = true := by rw [bne_iff_ne]; omega
      rw [if_neg (by simp), if_pos hm]
      go_enter Try.func23, Try.ntmps23
      go_wp2
      go_ret
      exact ⟨rfl, rfl⟩
  · have t : ((e : Int) != 0) = true := by rw [bne_iff_ne]; omega
    rw [if_pos he]
    go_enter Try.func23, Try.ntmps23
    go_wp2
    go_ret
    exact ⟨rfl, rfl⟩
set_option maxRecDepth 100000 in
theorem taken_any (p : Nat) (m tk hd : Int) (pv : Value) (a b : Int) (rv : Value) (e : Int) (cl : Bool) (w : World) (hB : FB w p m tk hd pv a b rv e cl) :
    Calls Try.prog 12 #[.pointer (some ⟨p, 0, none⟩)] w fun e' w' => e' = .returned (.int .i64 tk) ∧ w = w' := by
  have h1 := hB.c1
  clear hB
  go_enter Try.func12, Try.ntmps12
  go_wp2
  go_ret
  exact ⟨rfl, rfl⟩
set_option maxRecDepth 100000 in
theorem held_any (p : Nat) (m tk hd : Int) (pv : Value) (a b : Int) (rv : Value) (e : Int) (cl : Bool) (w : World) (hB : FB w p m tk hd pv a b rv e cl) :
    Calls Try.prog 13 #[.pointer (some ⟨p, 0, none⟩)] w fun e' w' => e' = .returned (.int .i64 hd) ∧ w = w' := by
  have h1 := hB.c2
  clear hB
  go_enter Try.func13, Try.ntmps13
  go_wp2
  go_ret
  exact ⟨rfl, rfl⟩
theorem feedTaken_any (p : Nat) (S : Nat → Prop) (s : St) (cl : Bool) (w : World) (h : Fdr w p S s cl) : Calls Try.prog 12 #[.pointer (some ⟨p, 0, none⟩)] w fun e w' => e = .returned (.int .i64 (s.all : Int)) ∧ Below w.heap.size w w' := by
  obtain ⟨m, x, pv, a, b, rv, h1, h2⟩ := h.blk
  refine (taken_any p _ _ _ _ _ _ _ _ _ w h1).mono ?_
  rintro e w' ⟨rfl, rfl⟩
  exact ⟨rfl, Below.refl _ _⟩
theorem feedHeld_any (p : Nat) (S : Nat → Prop) (s : St) (w : World) (h : Fdr w p S s false) (he : s.e = 0) : Calls Try.prog 13 #[.pointer (some ⟨p, 0, none⟩)] w fun e w' => e = .returned (.int .i64 (heldN s : Int)) ∧ Below w.heap.size w w' := by
  obtain ⟨m, x, pv, a, b, rv, h1, h2⟩ := h.blk
  refine (held_any p _ _ _ _ _ _ _ _ _ w h1).mono ?_
  rintro e w' ⟨rfl, rfl⟩
  exact ⟨by rw [(h2 he rfl).held], Below.refl _ _⟩
set_option maxRecDepth 100000 in
theorem feedNew_any (w : World) : Calls Try.prog 8 #[] w fun e w' => ∃ p S, e = .returned (.pointer (some ⟨p, 0, none⟩)) ∧ Fdr w' p S st0 false ∧ (∀ k, S k → w.heap.size ≤ k) ∧ Below w.heap.size w w' := by
  go_enter Try.func8, Try.ntmps8
  go_wp2
  go_ret
  refine ⟨w.heap.size, fun k => k = w.heap.size, rfl, ⟨rfl, fun k hk => by simp [hk], 0, 0, .slice none 0 0, 0, 0, .slice none 0 0, Blk.new _ _ _, fun _ _ => ⟨st0_at, st0_inv, rfl, [], fun _ => False, ?_⟩⟩, fun k hk => by omega, new_alloc (Below.refl _ _) _⟩
  exact ⟨Own.nil _ _ _, OwnK.nil _ _ _ _, fun W _ => ⟨rfl, fun i hi => absurd hi (by simp [st0])⟩, fun g hg => (by cases hg), fun g hg => (by cases hg), fun g hg => hg.elim⟩
set_option maxRecDepth 100000 in
theorem feedFeed_nil (w : World) : Calls Try.prog 10 #[.pointer none, .slice none 0 0] w fun e w' => e = .returned (.int .i64 1) ∧ Below w.heap.size w w' := by
  go_enter Try.func10, Try.ntmps10
  go_wp2
  go_step3
  go_wp2
  rw [Exit.noGoto_ret]
  go_ret
  exact ⟨rfl, Below.refl _ _⟩
set_option maxRecDepth 100000 in
theorem feedFeed_closed (p : Nat) (S : Nat → Prop) (s : St) (w : World) (h : Fdr w p S s true) :
    Calls Try.prog 10 #[.pointer (some ⟨p, 0, none⟩), .slice none 0 0] w fun e w' => ∃ S', e = .returned (.int .i64 40) ∧ Fdr w' p S' s true ∧ Chg S w w' ∧ ∀ k, S' k → S k ∨ w.heap.size ≤ k := by
  obtain ⟨m, x, pv, a, b, rv, h1, _⟩ := h.blk
  have h8 := h1.c8
  have H := Lib.hid h
  clear h1 h
  go_enter Try.func10, Try.ntmps10
  go_wp2
  go_step3
  go_wp2
  rw [Exit.noGoto_ret]
  go_ret
  exact ⟨S, rfl, H.out, Chg.refl _ _, fun k hk => Or.inl hk⟩
end Go.Proofs.Ytdheppfooapneaa
