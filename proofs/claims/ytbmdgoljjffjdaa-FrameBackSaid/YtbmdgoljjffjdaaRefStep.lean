/- lapidaryref03.Step. -/
import Derived.Test.YtbmdgoljjffjdaaFrameSt
import Derived.Test.YtbmdgoljjffjdaaCrcTab
import Derived.Outline
namespace Go.Proofs.Ytbmdgoljjffjdaa
open Go.RowKit

theorem st_info : (Try.prog.info? 58).map (·.size) = some 6 := by kernel_rfl
theorem st_load {W : World} {g : Nat} {c0 c1 c2 c3 c4 c5 : Value} (h : Blk W g 58 #[c0, c1, c2, c3, c4, c5]) : (loadVar 58 ⟨g, 0, none⟩).run Try.prog W = .ok (.agg #[c0, c1, c2, c3, c4, c5]) W :=
  run_loadVar_row _ _ _ _ _ _ _ h Try.underlying58 rfl (by rw [st_info]; rfl)
theorem step_end {w W : World} {a : Act} {g : Nat} {c0 c1 c2 c3 c4 c5 : Value} {s : St} {G : Nat} (hb : Blk W g 58 #[c0, c1, c2, c3, c4, c5]) (hp : a.tmps.getD 4 undef = .pointer (some ⟨g, 0, none⟩)) (hd : a.defers = [])
    (hv : StV G W s (.agg #[c0, c1, c2, c3, c4, c5])) (hB : Below w.heap.size w W) : bodyPost Try.prog Try.f28 (Stepd G w s) Exit.ret a W :=
  bodyPost_ret (results_cell Try.results28 hp (st_load hb)) hd ⟨_, rfl, hv, hB⟩
theorem blk2 (w : World) (o : Obj) (t : TypeId) (cs : Array Value) : Blk ((w.alloc o).alloc (.cells cs t)) (w.heap.size + 1) t cs := by
  have := Blk.new (w.alloc o) t cs
  rw [show (w.alloc o).heap.size = w.heap.size + 1 by simp] at this
  exact this
theorem ne_lit {a b : Nat} (h : ¬ a = b) : ((a : Int) != (b : Int)) = true := by rw [bne_iff_ne]; omega
theorem below2 (w : World) (o o' : Obj) : Below w.heap.size w ((w.alloc o).alloc o') := new_alloc (new_alloc (Below.refl _ _) _) _

set_option maxRecDepth 100000 in
set_option maxHeartbeats 1000000 in
theorem refStep_err (A : Option Addr) (n c : Nat) (B : Option Addr) (m d : Nat) (s : St) (ch : Nat) (w : World) (G : Nat) (hG : G < w.heap.size) (h : Rob G w fun W => Has W A n c (u8s s.took)) (h2 : SecsR G w B m d s.l) (he : s.e ≠ 0) :
    Calls Try.prog 28 #[.agg #[.slice A n c, .int .i64 (s.last : Int), .bool s.fin, .int .i64 (s.all : Int), .slice B m d, .int .i64 (s.e : Int)], .int .u8 (ch : Int)] w (Stepd G w (stepN s ch)) := by
  have HF : Hid (stepN s ch = s) := by show _ = _; unfold stepN; rw [if_pos he]
  have HH := Lib.hid h
  have HH2 := Lib.hid h2
  have te : ((s.e : Int) != 0) = true := by rw [bne_iff_ne]; omega
  clear h h2 he
  obtain ⟨took, last, fin, all, l, e⟩ := s
  simp only at *
  go_enter Try.func28, Try.ntmps28
  go_wp2
  rw [HF.out]
  exact step_end (blk2 _ _ _ _) rfl rfl ⟨_, _, _, _, _, _, rfl, HH.out.has hG (below2 _ _ _), HH2.out.secs hG (below2 _ _ _)⟩ (below2 _ _ _)

set_option maxRecDepth 100000 in
set_option maxHeartbeats 1000000 in
theorem refStep_fin (A : Option Addr) (n c : Nat) (B : Option Addr) (m d : Nat) (s : St) (ch : Nat) (w : World) (G : Nat) (hG : G < w.heap.size) (h : Rob G w fun W => Has W A n c (u8s s.took)) (h2 : SecsR G w B m d s.l) (he : s.e = 0) (hf : s.fin = true) (ha : s.all ≤ 1000000000) :
    Calls Try.prog 28 #[.agg #[.slice A n c, .int .i64 (s.last : Int), .bool s.fin, .int .i64 (s.all : Int), .slice B m d, .int .i64 (s.e : Int)], .int .u8 (ch : Int)] w (Stepd G w (stepN s ch)) := by
  have HF : Hid (stepN s ch = { s with all := s.all + 1, e := 11 }) := by show _ = _; unfold stepN; rw [if_neg (by simp [he]), if_pos hf]
  have HH := Lib.hid h
  have HH2 := Lib.hid h2
  clear h h2
  obtain ⟨took, last, fin, all, l, e⟩ := s
  simp only at *
  subst he hf
  go_enter Try.func28, Try.ntmps28
  go_wp2
  rw [HF.out]
  exact step_end (blk2 _ _ _ _) rfl rfl ⟨_, _, _, _, _, _, by simp, HH.out.has hG (below2 _ _ _), HH2.out.secs hG (below2 _ _ _)⟩ (below2 _ _ _)

set_option maxRecDepth 100000 in
set_option maxHeartbeats 1000000 in
theorem refStep_head (A : Option Addr) (n c : Nat) (B : Option Addr) (m d : Nat) (s : St) (ch : Nat) (w : World) (G : Nat) (hG : G < w.heap.size) (h : Rob G w fun W => Has W A n c (u8s s.took)) (h2 : SecsR G w B m d s.l) (he : s.e = 0) (hf : s.fin = false) (ha : s.all < 5) :
    Calls Try.prog 28 #[.agg #[.slice A n c, .int .i64 (s.last : Int), .bool s.fin, .int .i64 (s.all : Int), .slice B m d, .int .i64 (s.e : Int)], .int .u8 (ch : Int)] w (Stepd G w (stepN s ch)) := by
  have HF : Hid (stepN s ch = if ch ≠ headN.getD s.all 0 then { s with all := s.all + 1, e := 11 } else { s with all := s.all + 1 }) := by show _ = _; unfold stepN; rw [if_neg (by simp [he]), if_neg (by simp [hf]), if_pos ha]
  have HH := Lib.hid h
  have HH2 := Lib.hid h2
  clear h h2
  obtain ⟨took, last, fin, all, l, e⟩ := s
  simp only at *
  subst he hf
  by_cases hc : ch = headN.getD all 0
  · rw [if_neg (by simp [hc])] at HF
    match all, ha with
    | 0, _ | 1, _ | 2, _ | 3, _ | 4, _ =>
      simp only [headN, List.getD_cons_zero, List.getD_cons_succ] at hc
      subst hc
      go_enter Try.func28, Try.ntmps28
      go_wp2
      rw [HF.out]
      exact step_end ((blk2 _ _ _ _).alloc _) rfl rfl ⟨_, _, _, _, _, _, by simp, HH.out.has hG (new_alloc (below2 _ _ _) _), HH2.out.secs hG (new_alloc (below2 _ _ _) _)⟩ (new_alloc (below2 _ _ _) _)
  · rw [if_pos hc] at HF
    match all, ha with
    | 0, _ | 1, _ | 2, _ | 3, _ | 4, _ =>
      simp only [headN, List.getD_cons_zero, List.getD_cons_succ] at hc
      have hc' := ne_lit hc
      go_enter Try.func28, Try.ntmps28
      go_wp2
      rw [HF.out]
      exact step_end ((blk2 _ _ _ _).alloc _) rfl rfl ⟨_, _, _, _, _, _, by simp, HH.out.has hG (new_alloc (below2 _ _ _) _), HH2.out.secs hG (new_alloc (below2 _ _ _) _)⟩ (new_alloc (below2 _ _ _) _)
end Go.Proofs.Ytbmdgoljjffjdaa
