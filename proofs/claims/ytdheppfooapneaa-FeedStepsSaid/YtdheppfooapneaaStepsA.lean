import Derived.Test.YtdheppfooapneaaFrameRef
import Derived.Test.YtdheppfooapneaaCrc
import Derived.Outline
/- lapidaryref03.Step. -/
namespace Go.Proofs.Ytdheppfooapneaa
open Go.RowKit

theorem st_info : (Try.prog.info? 28).map (·.size) = some 6 := by kernel_rfl
theorem st_load {W : World} {g : Nat} {c0 c1 c2 c3 c4 c5 : Value} (h : Blk W g 28 #[c0, c1, c2, c3, c4, c5]) : (loadVar 28 ⟨g, 0, none⟩).run Try.prog W = .ok (.agg #[c0, c1, c2, c3, c4, c5]) W :=
  run_loadVar_row _ _ _ _ _ _ _ h Try.underlying28 rfl (by rw [st_info]; rfl)
theorem step_end {w W : World} {a : Act} {g : Nat} {c0 c1 c2 c3 c4 c5 : Value} {s : St} {G : Nat → Prop} (hb : Blk W g 28 #[c0, c1, c2, c3, c4, c5]) (hp : a.tmps.getD 4 undef = .pointer (some ⟨g, 0, none⟩)) (hd : a.defers = [])
    (hv : StV G W s (.agg #[c0, c1, c2, c3, c4, c5])) (hB : Below w.heap.size w W) : bodyPost Try.prog Try.f22 (Stepd G w s) Exit.ret a W :=
  bodyPost_ret (results_cell Try.results22 hp (st_load hb)) hd ⟨_, rfl, hv, hB⟩
theorem blk2 (w : World) (o : Obj) (t : TypeId) (cs : Array Value) : Blk ((w.alloc o).alloc (.cells cs t)) (w.heap.size + 1) t cs := by
  have := Blk.new (w.alloc o) t cs
  rw [show (w.alloc o).heap.size = w.heap.size + 1 by simp] at this
  exact this
theorem ne_lit {a b : Nat} (h : ¬ a = b) : ((a : Int) != (b : Int)) = true := by rw [bne_iff_ne]; omega
theorem below2 (w : World) (o o' : Obj) : Below w.heap.size w ((w.alloc o).alloc o') := new_alloc (new_alloc (Below.refl _ _) _) _

set_option maxRecDepth 100000 in
set_option maxHeartbeats 1000000 in
theorem refStep_err (A : Option Addr) (n c : Nat) (B : Option Addr) (m d : Nat) (s : St) (ch : Nat) (w : World) (G : Nat → Prop) (hG : Sit G w.heap.size) (h : Rob G w fun W => Has W A n c (u8s s.took)) (h2 : SecsR G w B m d s.l) (he : s.e ≠ 0) :
    Calls Try.prog 22 #[.agg #[.slice A n c, .int .i64 (s.last : Int), .bool s.fin, .int .i64 (s.all : Int), .slice B m d, .int .i64 (s.e : Int)], .int .u8 (ch : Int)] w (Stepd G w (stepN s ch)) := by
  have HF : Hid (stepN s ch = s) := by show _ = _; unfold stepN; rw [if_pos he]
  have HH := Lib.hid h
  have HH2 := Lib.hid h2
  have te : ((s.e : Int) != 0) = true := by rw [bne_iff_ne]; omega
  clear h h2 he
  obtain ⟨took, last, fin, all, l, e⟩ := s
  simp only at *
  go_enter Try.func22, Try.ntmps22
  go_wp2
  rw [HF.out]
  exact step_end (blk2 _ _ _ _) rfl rfl ⟨_, _, _, _, _, _, rfl, HH.out.has hG (below2 _ _ _), HH2.out.secs hG (below2 _ _ _)⟩ (below2 _ _ _)

set_option maxRecDepth 100000 in
set_option maxHeartbeats 1000000 in
theorem refStep_fin (A : Option Addr) (n c : Nat) (B : Option Addr) (m d : Nat) (s : St) (ch : Nat) (w : World) (G : Nat → Prop) (hG : Sit G w.heap.size) (h : Rob G w fun W => Has W A n c (u8s s.took)) (h2 : SecsR G w B m d s.l) (he : s.e = 0) (hf : s.fin = true) (ha : s.all ≤ 1000000000) :
    Calls Try.prog 22 #[.agg #[.slice A n c, .int .i64 (s.last : Int), .bool s.fin, .int .i64 (s.all : Int), .slice B m d, .int .i64 (s.e : Int)], .int .u8 (ch : Int)] w (Stepd G w (stepN s ch)) := by
  have HF : Hid (stepN s ch = { s with all := s.all + 1, e := 11 }) := by show _ = _; unfold stepN; rw [if_neg (by simp [he]), if_pos hf]
  have HH := Lib.hid h
  have HH2 := Lib.hid h2
  clear h h2
  obtain ⟨took, last, fin, all, l, e⟩ := s
  simp only at *
  subst he hf
  go_enter Try.func22, Try.ntmps22
  go_wp2
  rw [HF.out]
  exact step_end (blk2 _ _ _ _) rfl rfl ⟨_, _, _, _, _, _, by simp, HH.out.has hG (below2 _ _ _), HH2.out.secs hG (below2 _ _ _)⟩ (below2 _ _ _)

set_option maxRecDepth 100000 in
set_option maxHeartbeats 1000000 in
theorem refStep_head (A : Option Addr) (n c : Nat) (B : Option Addr) (m d : Nat) (s : St) (ch : Nat) (w : World) (G : Nat → Prop) (hG : Sit G w.heap.size) (h : Rob G w fun W => Has W A n c (u8s s.took)) (h2 : SecsR G w B m d s.l) (he : s.e = 0) (hf : s.fin = false) (ha : s.all < 5) :
    Calls Try.prog 22 #[.agg #[.slice A n c, .int .i64 (s.last : Int), .bool s.fin, .int .i64 (s.all : Int), .slice B m d, .int .i64 (s.e : Int)], .int .u8 (ch : Int)] w (Stepd G w (stepN s ch)) := by
  have HF : Hid (stepN s ch = if ch ≠ headN.getD s.all 0 then { s with all := s.all + 1, e := 11 } else { s with all := s.all + 1 }) := by show _ = _; unfold stepN; rw [if_neg (by simp [he]), if_neg (by simp [hf]), if_pos ha]
  have HH := Lib.hid h
  have HH2 := Lib.hid h2
  clear h h2
  obtain ⟨took, last, fin, all, l, e⟩ := s
  simp only at *
  subst he hf
  by_cases hc : ch = headN.getD all 0
  · rw [if_neg (by simp [hc])] at HF
    match all, ha with
    | 0, _ | 1, _ | 2, _ | 3, _ | 4, _ =>
      simp only [headN, List.getD_cons_zero, List.getD_cons_succ] at hc
      subst hc
      go_enter Try.func22, Try.ntmps22
      go_wp2
      rw [HF.out]
      exact step_end ((blk2 _ _ _ _).alloc _) rfl rfl ⟨_, _, _, _, _, _, by simp, HH.out.has hG (new_alloc (below2 _ _ _) _), HH2.out.secs hG (new_alloc (below2 _ _ _) _)⟩ (new_alloc (below2 _ _ _) _)
  · rw [if_pos hc] at HF
    match all, ha with
    | 0, _ | 1, _ | 2, _ | 3, _ | 4, _ =>
      simp only [headN, List.getD_cons_zero, List.getD_cons_succ] at hc
      have hc' := ne_lit hc
      go_enter Try.func22, Try.ntmps22
      go_wp2
      rw [HF.out]
      exact step_end ((blk2 _ _ _ _).alloc _) rfl rfl ⟨_, _, _, _, _, _, by simp, HH.out.has hG (new_alloc (below2 _ _ _) _), HH2.out.secs hG (new_alloc (below2 _ _ _) _)⟩ (new_alloc (below2 _ _ _) _)
end Go.Proofs.Ytdheppfooapneaa

/- lapidaryref03.Step: a section's bytes. -/
namespace Go.Proofs.Ytdheppfooapneaa
open Go.RowKit

/-- Nothing but the blocks g and g + 1 has turned. -/
structure Far2 (g : Nat) (W W' : World) : Prop where
  os : W'.os = W.os
  tape : W'.tape = W.tape
  output : W'.output = W.output
  size : W'.heap.size = W.heap.size
  block : ∀ k, k ≠ g → k ≠ g + 1 → W'.heap[k]? = W.heap[k]?
theorem Far2.refl (g : Nat) (W : World) : Far2 g W W := ⟨rfl, rfl, rfl, rfl, fun _ _ _ => rfl⟩
theorem Far2.set {g : Nat} {W W' : World} (h : Far2 g W W') {p : Addr} (hp : p.block = g ∨ p.block = g + 1) (u : Value) : Far2 g W (W'.setCell p u) :=
  ⟨h.os, h.tape, h.output, by rw [← h.size]; simp [World.setCell], fun k h1 h2 => (Below.heap_setCell W' p u k (by rcases hp with e | e <;> rw [e] <;> assumption)).trans (h.block k h1 h2)⟩
theorem Far2.set0 {g : Nat} {W W' : World} (h : Far2 g W W') (o : Nat) (u : Value) : Far2 g W (W'.setCell ⟨g, o, none⟩ u) := h.set (Or.inl rfl) u
theorem Far2.set1 {g : Nat} {W W' : World} (h : Far2 g W W') (o : Nat) (u : Value) : Far2 g W (W'.setCell ⟨g + 1, o, none⟩ u) := h.set (Or.inr rfl) u
theorem Blk.far0 {g : Nat} {W : World} {t : TypeId} {cs : Array Value} (h : Blk W (g + 1) t cs) (o : Nat) (u : Value) : Blk (W.setCell ⟨g, o, none⟩ u) (g + 1) t cs := h.far (p := ⟨g, o, none⟩) (by simp) u
theorem Far2.below {w W W' : World} (h : Far2 w.heap.size W W') (hb : Below w.heap.size w W) : Below w.heap.size w W' :=
  ⟨h.os.trans hb.os, h.tape.trans hb.tape, h.output.trans hb.output, by rw [h.size]; exact hb.size, fun k hk => (h.block k (by omega) (by omega)).trans (hb.block k hk)⟩
theorem Far2.own {g : Nat} {W W' : World} {e : TypeId} {v : Value} {xs : List Value} (h : Far2 g W W') (ho : Own W (g + 2) e v xs) : Own W' (g + 2) e v xs := by
  refine ⟨ho.1, ?_⟩
  rcases ho.2 with h1 | ⟨g', cap, cur, h1, h2, h3, h4⟩
  · exact Or.inl h1
  · exact Or.inr ⟨g', cap, cur, h1, h2, (h.block g' (by omega) (by omega)).trans h3, h4⟩
theorem set6 {W : World} {g : Nat} {t : TypeId} {c0 c1 c2 c3 c4 c5 : Value} (h : Blk W g t #[.slice none 0 0, .int .i64 0, .bool false, .int .i64 0, .slice none 0 0, .int .i64 0]) :
    Blk ((((((W.setCell ⟨g, 0, none⟩ c0).setCell ⟨g, 1, none⟩ c1).setCell ⟨g, 2, none⟩ c2).setCell ⟨g, 3, none⟩ c3).setCell ⟨g, 4, none⟩ c4).setCell ⟨g, 5, none⟩ c5) g t #[c0, c1, c2, c3, c4, c5] :=
  (((((h.set_ 0 c0).set_ 1 c1).set_ 2 c2).set_ 3 c3).set_ 4 c4).set_ 5 c5
theorem step_close {w w3 W' : World} {a : Act} {A B : Option Addr} {N c m d : Nat} {tk : List Nat} {s : St} {li ai ei : Int} {fi : Bool} {G : Nat → Prop} (hG : Sit G w.heap.size) (hB : Below w.heap.size w w3) (hO : Own w3 (w.heap.size + 2) 5 (.slice A (u8s tk).length c) (u8s tk)) (hS : SecsR G w B m d s.l)
    (hfar : Far2 w.heap.size w3 W') (hb : Blk W' (w.heap.size + 1) 28 #[.slice A N c, .int .i64 li, .bool fi, .int .i64 ai, .slice B m d, .int .i64 ei]) (hp : a.tmps.getD 4 undef = .pointer (some ⟨w.heap.size + 1, 0, none⟩)) (hd : a.defers = [])
    (hN : N = tk.length) (ht : s.took = tk) (h1 : li = (s.last : Int)) (h2 : fi = s.fin) (h3 : ai = (s.all : Int)) (h4 : ei = (s.e : Int)) : bodyPost Try.prog Try.f22 (Stepd G w s) Exit.ret a W' := by
  subst h1 h2 h3 h4 ht hN
  have hbw := hfar.below hB
  have hO' := hfar.own hO
  rw [u8s_len] at hO'
  exact step_end hb hp hd ⟨_, _, _, _, _, _, rfl, Rob.own hO' (hG.le (by omega)), hS.secs hG hbw⟩ hbw

set_option maxRecDepth 100000 in
set_option maxHeartbeats 1000000 in
theorem refStep_first (A : Option Addr) (n c : Nat) (B : Option Addr) (m d : Nat) (s : St) (ch : Nat) (w : World) (G : Nat → Prop) (hG : Sit G w.heap.size) (h : Rob G w fun W => Has W A n c (u8s s.took)) (h2 : SecsR G w B m d s.l) (he : s.e = 0) (hf : s.fin = false) (ha : 5 ≤ s.all) (ha2 : s.all ≤ 1000000000) (hn : n ≤ 1000000000) (hn0 : n = 0) (hch : ch < 256) :
    Calls Try.prog 22 #[.agg #[.slice A n c, .int .i64 (s.last : Int), .bool s.fin, .int .i64 (s.all : Int), .slice B m d, .int .i64 (s.e : Int)], .int .u8 (ch : Int)] w (Stepd G w (stepN s ch)) := by
  have HF : Hid (stepN s ch = takeN { s with all := s.all + 1, took := s.took ++ [ch] } ch) := by show _ = _; unfold stepN; rw [if_neg (by simp [he]), if_neg (by simp [hf]), if_neg (by omega)]
  have HH := Lib.hid h
  have HH2 := Lib.hid h2
  have HL : Hid (s.took.length = n) := by have := h.here.len; rw [u8s_len] at this; exact this
  clear h h2
  obtain ⟨took, last, fin, all, l, e⟩ := s
  simp only at *
  subst he hf
  have ta : decide ((all : Int) + 1 ≤ 5) = false := decide_eq_false (by omega)
  have t1 : ((n : Int) + 1 == 1) = true := by rw [beq_iff_eq]; omega
  have hl1 : (took ++ [ch]).length = 1 := by rw [List.length_append, HL.out, hn0]; rfl
  clear hn0
  by_cases hc0 : ch = 0
  · have t0 : ((ch : Int) == 0) = true := by rw [beq_iff_eq]; omega
    have HF2 : Hid (takeN { took := took ++ [ch], last := last, fin := false, all := all + 1, l := l, e := 0 } ch = { took := took ++ [ch], last := last, fin := true, all := all + 1, l := l, e := 0 }) := by
      show _ = _
      unfold takeN; rw [if_pos hl1, if_pos hc0]
    clear hl1 hc0
    go_enter Try.func22, Try.ntmps22
    go_wp2_with (first
        | (at_builtin
           refine wpList_join rfl _ _ 22 rfl elem8 (w.heap.size + 2) _ [] rfl (Own.nil _ _ _) _ _ _ _ rfl (HH.out.here.kept (below2 _ _ _)) (u8s_one _) (by simp <;> omega) (by decide) (by simp) ?_
           intro v2 w2 hown2 hbel2
           rw [List.nil_append] at hown2
           have HO2 := Lib.hid hown2
           have HB2 := Lib.hid ((below2 w _ _).trans (hbel2.mono (by omega)))
           have HX2 : Hid (Blk w2 w.heap.size 28 #[.slice A n c, .int .i64 (last : Int), .bool false, .int .i64 ((all : Int) + 1), .slice B m d, .int .i64 0]) := Blk.below ((Blk.new w 28 _).alloc _) hbel2 (by omega)
           have HR2 : Hid (Blk w2 (w.heap.size + 1) 28 #[.slice none 0 0, .int .i64 0, .bool false, .int .i64 0, .slice none 0 0, .int .i64 0]) := Blk.below (blk2 w _ _ _) hbel2 (by omega)
           have hz2 := hbel2.size
           simp at hz2
           clear hown2 hbel2)
        | (at_builtin
           refine wpList_join rfl _ _ 22 rfl elem8 (w.heap.size + 2) _ _ rfl (HO2.out.alloc _) _ 1 1 (u8s [ch]) rfl (Has.one _ _ _) (u8s_one _) (by rw [u8s_len, HL.out]; omega) (by decide) (by simp <;> omega) ?_
           intro v3 w3 hown3 hbel3
           rw [← u8s_app] at hown3
           have HO3 := Lib.hid hown3
           have HB3 := Lib.hid ((new_alloc HB2.out _).trans (hbel3.mono (by omega)))
           have HX3 : Hid (Blk w3 w.heap.size 28 #[.slice A n c, .int .i64 (last : Int), .bool false, .int .i64 ((all : Int) + 1), .slice B m d, .int .i64 0]) := Blk.below (HX2.out.alloc _) hbel3 (by omega)
           have HR3 : Hid (Blk w3 (w.heap.size + 1) 28 #[.slice none 0 0, .int .i64 0, .bool false, .int .i64 0, .slice none 0 0, .int .i64 0]) := Blk.below (HR2.out.alloc _) hbel3 (by omega)
           obtain ⟨A3, c3, rfl, hh3⟩ := hown3.has
           simp only [u8s_len, List.length_append, List.length_cons, List.length_nil, HL.out] at hh3
           simp only [u8s_len, List.length_append, List.length_cons, List.length_nil, HL.out]
           have HH3 := Lib.hid hh3
           have x0 : w3.cell? ⟨w.heap.size, 0, none⟩ = some (.slice A n c) := HX3.out.cell 0
           have x1 : w3.cell? ⟨w.heap.size, 1, none⟩ = some (.int .i64 (last : Int)) := HX3.out.cell 1
           have x2 : w3.cell? ⟨w.heap.size, 2, none⟩ = some (.bool false) := HX3.out.cell 2
           have x3 : w3.cell? ⟨w.heap.size, 3, none⟩ = some (.int .i64 ((all : Int) + 1)) := HX3.out.cell 3
           have x4 : w3.cell? ⟨w.heap.size, 4, none⟩ = some (.slice B m d) := HX3.out.cell 4
           have x5 : w3.cell? ⟨w.heap.size, 5, none⟩ = some (.int .i64 0) := HX3.out.cell 5
           have f0 := HX3.out.frozen 0
           have f1 := HX3.out.frozen 1
           have f2 := HX3.out.frozen 2
           have f4 := HX3.out.frozen 4
           have f5 := HX3.out.frozen 5
           have r0 : w3.cell? ⟨w.heap.size + 1, 0, none⟩ = some (.slice none 0 0) := HR3.out.cell 0
           have r1 : w3.cell? ⟨w.heap.size + 1, 1, none⟩ = some (.int .i64 0) := HR3.out.cell 1
           have r2 : w3.cell? ⟨w.heap.size + 1, 2, none⟩ = some (.bool false) := HR3.out.cell 2
           have r3 : w3.cell? ⟨w.heap.size + 1, 3, none⟩ = some (.int .i64 0) := HR3.out.cell 3
           have r4 : w3.cell? ⟨w.heap.size + 1, 4, none⟩ = some (.slice none 0 0) := HR3.out.cell 4
           have r5 : w3.cell? ⟨w.heap.size + 1, 5, none⟩ = some (.int .i64 0) := HR3.out.cell 5
           have q0 := HR3.out.frozen 0
           have q1 := HR3.out.frozen 1
           have q2 := HR3.out.frozen 2
           have q3 := HR3.out.frozen 3
           have q4 := HR3.out.frozen 4
           have q5 := HR3.out.frozen 5
           clear hown3 hbel3 HO2 HX2 HR2 hh3))
    rw [HF.out, HF2.out]
    refine step_close hG HB3.out HO3.out HH2.out ?_ (set6 ?_) rfl rfl (by rw [List.length_append, HL.out]; rfl) rfl (by simp) rfl (by simp) (by simp)
    · repeat (first | with_reducible exact Far2.refl _ _ | with_reducible refine Far2.set1 ?_ _ _ | with_reducible refine Far2.set0 ?_ _ _)
    · repeat (first | with_reducible exact HR3.out | with_reducible refine Blk.far0 ?_ _ _)
  · have t0 : ((ch : Int) == 0) = false := by rw [beq_eq_false_iff_ne]; omega
    by_cases hlt : ch ≤ last
    · have tl : decide (ch ≤ last) = true := by simpa using hlt
      have HF2 : Hid (takeN { took := took ++ [ch], last := last, fin := false, all := all + 1, l := l, e := 0 } ch = { took := took ++ [ch], last := last, fin := false, all := all + 1, l := l, e := 11 }) := by
        show _ = _
        unfold takeN; rw [if_pos hl1, if_neg hc0, if_pos (Or.inl hlt)]
      clear hl1 hc0 hlt
      go_enter Try.func22, Try.ntmps22
      go_wp2_with (first
          | (at_builtin
             refine wpList_join rfl _ _ 22 rfl elem8 (w.heap.size + 2) _ [] rfl (Own.nil _ _ _) _ _ _ _ rfl (HH.out.here.kept (below2 _ _ _)) (u8s_one _) (by simp <;> omega) (by decide) (by simp) ?_
             intro v2 w2 hown2 hbel2
             rw [List.nil_append] at hown2
             have HO2 := Lib.hid hown2
             have HB2 := Lib.hid ((below2 w _ _).trans (hbel2.mono (by omega)))
             have HX2 : Hid (Blk w2 w.heap.size 28 #[.slice A n c, .int .i64 (last : Int), .bool false, .int .i64 ((all : Int) + 1), .slice B m d, .int .i64 0]) := Blk.below ((Blk.new w 28 _).alloc _) hbel2 (by omega)
             have HR2 : Hid (Blk w2 (w.heap.size + 1) 28 #[.slice none 0 0, .int .i64 0, .bool false, .int .i64 0, .slice none 0 0, .int .i64 0]) := Blk.below (blk2 w _ _ _) hbel2 (by omega)
             have hz2 := hbel2.size
             simp at hz2
             clear hown2 hbel2)
          | (at_builtin
             refine wpList_join rfl _ _ 22 rfl elem8 (w.heap.size + 2) _ _ rfl (HO2.out.alloc _) _ 1 1 (u8s [ch]) rfl (Has.one _ _ _) (u8s_one _) (by rw [u8s_len, HL.out]; omega) (by decide) (by simp <;> omega) ?_
             intro v3 w3 hown3 hbel3
             rw [← u8s_app] at hown3
             have HO3 := Lib.hid hown3
             have HB3 := Lib.hid ((new_alloc HB2.out _).trans (hbel3.mono (by omega)))
             have HX3 : Hid (Blk w3 w.heap.size 28 #[.slice A n c, .int .i64 (last : Int), .bool false, .int .i64 ((all : Int) + 1), .slice B m d, .int .i64 0]) := Blk.below (HX2.out.alloc _) hbel3 (by omega)
             have HR3 : Hid (Blk w3 (w.heap.size + 1) 28 #[.slice none 0 0, .int .i64 0, .bool false, .int .i64 0, .slice none 0 0, .int .i64 0]) := Blk.below (HR2.out.alloc _) hbel3 (by omega)
             obtain ⟨A3, c3, rfl, hh3⟩ := hown3.has
             simp only [u8s_len, List.length_append, List.length_cons, List.length_nil, HL.out] at hh3
             simp only [u8s_len, List.length_append, List.length_cons, List.length_nil, HL.out]
             have HH3 := Lib.hid hh3
             have x0 : w3.cell? ⟨w.heap.size, 0, none⟩ = some (.slice A n c) := HX3.out.cell 0
             have x1 : w3.cell? ⟨w.heap.size, 1, none⟩ = some (.int .i64 (last : Int)) := HX3.out.cell 1
             have x2 : w3.cell? ⟨w.heap.size, 2, none⟩ = some (.bool false) := HX3.out.cell 2
             have x3 : w3.cell? ⟨w.heap.size, 3, none⟩ = some (.int .i64 ((all : Int) + 1)) := HX3.out.cell 3
             have x4 : w3.cell? ⟨w.heap.size, 4, none⟩ = some (.slice B m d) := HX3.out.cell 4
             have x5 : w3.cell? ⟨w.heap.size, 5, none⟩ = some (.int .i64 0) := HX3.out.cell 5
             have f0 := HX3.out.frozen 0
             have f1 := HX3.out.frozen 1
             have f2 := HX3.out.frozen 2
             have f4 := HX3.out.frozen 4
             have f5 := HX3.out.frozen 5
             have r0 : w3.cell? ⟨w.heap.size + 1, 0, none⟩ = some (.slice none 0 0) := HR3.out.cell 0
             have r1 : w3.cell? ⟨w.heap.size + 1, 1, none⟩ = some (.int .i64 0) := HR3.out.cell 1
             have r2 : w3.cell? ⟨w.heap.size + 1, 2, none⟩ = some (.bool false) := HR3.out.cell 2
             have r3 : w3.cell? ⟨w.heap.size + 1, 3, none⟩ = some (.int .i64 0) := HR3.out.cell 3
             have r4 : w3.cell? ⟨w.heap.size + 1, 4, none⟩ = some (.slice none 0 0) := HR3.out.cell 4
             have r5 : w3.cell? ⟨w.heap.size + 1, 5, none⟩ = some (.int .i64 0) := HR3.out.cell 5
             have q0 := HR3.out.frozen 0
             have q1 := HR3.out.frozen 1
             have q2 := HR3.out.frozen 2
             have q3 := HR3.out.frozen 3
             have q4 := HR3.out.frozen 4
             have q5 := HR3.out.frozen 5
             clear hown3 hbel3 HO2 HX2 HR2 hh3))
      rw [HF.out, HF2.out]
      refine step_close hG HB3.out HO3.out HH2.out ?_ (set6 ?_) rfl rfl (by rw [List.length_append, HL.out]; rfl) rfl (by simp) rfl (by simp) (by simp)
      · repeat (first | with_reducible exact Far2.refl _ _ | with_reducible refine Far2.set1 ?_ _ _ | with_reducible refine Far2.set0 ?_ _ _)
      · repeat (first | with_reducible exact HR3.out | with_reducible refine Blk.far0 ?_ _ _)
    · have tl : decide (ch ≤ last) = false := by simpa using hlt
      by_cases h9 : 9 < ch
      · have t9 : decide ((9 : Int) < (ch : Int)) = true := decide_eq_true (by omega)
        have HF2 : Hid (takeN { took := took ++ [ch], last := last, fin := false, all := all + 1, l := l, e := 0 } ch = { took := took ++ [ch], last := last, fin := false, all := all + 1, l := l, e := 11 }) := by
          show _ = _
          unfold takeN; rw [if_pos hl1, if_neg hc0, if_pos (Or.inr h9)]
        clear hl1 hc0 hlt h9
        go_enter Try.func22, Try.ntmps22
        go_wp2_with (first
            | (at_builtin
               refine wpList_join rfl _ _ 22 rfl elem8 (w.heap.size + 2) _ [] rfl (Own.nil _ _ _) _ _ _ _ rfl (HH.out.here.kept (below2 _ _ _)) (u8s_one _) (by simp <;> omega) (by decide) (by simp) ?_
               intro v2 w2 hown2 hbel2
               rw [List.nil_append] at hown2
               have HO2 := Lib.hid hown2
               have HB2 := Lib.hid ((below2 w _ _).trans (hbel2.mono (by omega)))
               have HX2 : Hid (Blk w2 w.heap.size 28 #[.slice A n c, .int .i64 (last : Int), .bool false, .int .i64 ((all : Int) + 1), .slice B m d, .int .i64 0]) := Blk.below ((Blk.new w 28 _).alloc _) hbel2 (by omega)
               have HR2 : Hid (Blk w2 (w.heap.size + 1) 28 #[.slice none 0 0, .int .i64 0, .bool false, .int .i64 0, .slice none 0 0, .int .i64 0]) := Blk.below (blk2 w _ _ _) hbel2 (by omega)
               have hz2 := hbel2.size
               simp at hz2
               clear hown2 hbel2)
            | (at_builtin
               refine wpList_join rfl _ _ 22 rfl elem8 (w.heap.size + 2) _ _ rfl (HO2.out.alloc _) _ 1 1 (u8s [ch]) rfl (Has.one _ _ _) (u8s_one _) (by rw [u8s_len, HL.out]; omega) (by decide) (by simp <;> omega) ?_
               intro v3 w3 hown3 hbel3
               rw [← u8s_app] at hown3
               have HO3 := Lib.hid hown3
               have HB3 := Lib.hid ((new_alloc HB2.out _).trans (hbel3.mono (by omega)))
               have HX3 : Hid (Blk w3 w.heap.size 28 #[.slice A n c, .int .i64 (last : Int), .bool false, .int .i64 ((all : Int) + 1), .slice B m d, .int .i64 0]) := Blk.below (HX2.out.alloc _) hbel3 (by omega)
               have HR3 : Hid (Blk w3 (w.heap.size + 1) 28 #[.slice none 0 0, .int .i64 0, .bool false, .int .i64 0, .slice none 0 0, .int .i64 0]) := Blk.below (HR2.out.alloc _) hbel3 (by omega)
               obtain ⟨A3, c3, rfl, hh3⟩ := hown3.has
               simp only [u8s_len, List.length_append, List.length_cons, List.length_nil, HL.out] at hh3
               simp only [u8s_len, List.length_append, List.length_cons, List.length_nil, HL.out]
               have HH3 := Lib.hid hh3
               have x0 : w3.cell? ⟨w.heap.size, 0, none⟩ = some (.slice A n c) := HX3.out.cell 0
               have x1 : w3.cell? ⟨w.heap.size, 1, none⟩ = some (.int .i64 (last : Int)) := HX3.out.cell 1
               have x2 : w3.cell? ⟨w.heap.size, 2, none⟩ = some (.bool false) := HX3.out.cell 2
               have x3 : w3.cell? ⟨w.heap.size, 3, none⟩ = some (.int .i64 ((all : Int) + 1)) := HX3.out.cell 3
               have x4 : w3.cell? ⟨w.heap.size, 4, none⟩ = some (.slice B m d) := HX3.out.cell 4
               have x5 : w3.cell? ⟨w.heap.size, 5, none⟩ = some (.int .i64 0) := HX3.out.cell 5
               have f0 := HX3.out.frozen 0
               have f1 := HX3.out.frozen 1
               have f2 := HX3.out.frozen 2
               have f4 := HX3.out.frozen 4
               have f5 := HX3.out.frozen 5
               have r0 : w3.cell? ⟨w.heap.size + 1, 0, none⟩ = some (.slice none 0 0) := HR3.out.cell 0
               have r1 : w3.cell? ⟨w.heap.size + 1, 1, none⟩ = some (.int .i64 0) := HR3.out.cell 1
               have r2 : w3.cell? ⟨w.heap.size + 1, 2, none⟩ = some (.bool false) := HR3.out.cell 2
               have r3 : w3.cell? ⟨w.heap.size + 1, 3, none⟩ = some (.int .i64 0) := HR3.out.cell 3
               have r4 : w3.cell? ⟨w.heap.size + 1, 4, none⟩ = some (.slice none 0 0) := HR3.out.cell 4
               have r5 : w3.cell? ⟨w.heap.size + 1, 5, none⟩ = some (.int .i64 0) := HR3.out.cell 5
               have q0 := HR3.out.frozen 0
               have q1 := HR3.out.frozen 1
               have q2 := HR3.out.frozen 2
               have q3 := HR3.out.frozen 3
               have q4 := HR3.out.frozen 4
               have q5 := HR3.out.frozen 5
               clear hown3 hbel3 HO2 HX2 HR2 hh3))
        rw [HF.out, HF2.out]
        refine step_close hG HB3.out HO3.out HH2.out ?_ (set6 ?_) rfl rfl (by rw [List.length_append, HL.out]; rfl) rfl (by simp) rfl (by simp) (by simp)
        · repeat (first | with_reducible exact Far2.refl _ _ | with_reducible refine Far2.set1 ?_ _ _ | with_reducible refine Far2.set0 ?_ _ _)
        · repeat (first | with_reducible exact HR3.out | with_reducible refine Blk.far0 ?_ _ _)
      · have t9 : decide ((9 : Int) < (ch : Int)) = false := decide_eq_false (by omega)
        have HF2 : Hid (takeN { took := took ++ [ch], last := last, fin := false, all := all + 1, l := l, e := 0 } ch = { took := took ++ [ch], last := last, fin := false, all := all + 1, l := l, e := 0 }) := by
          show _ = _
          unfold takeN; rw [if_pos hl1, if_neg hc0, if_neg (by show ¬ (ch ≤ last ∨ 9 < ch); omega)]
        clear hl1 hc0 hlt h9
        go_enter Try.func22, Try.ntmps22
        go_wp2_with (first
            | (at_builtin
               refine wpList_join rfl _ _ 22 rfl elem8 (w.heap.size + 2) _ [] rfl (Own.nil _ _ _) _ _ _ _ rfl (HH.out.here.kept (below2 _ _ _)) (u8s_one _) (by simp <;> omega) (by decide) (by simp) ?_
               intro v2 w2 hown2 hbel2
               rw [List.nil_append] at hown2
               have HO2 := Lib.hid hown2
               have HB2 := Lib.hid ((below2 w _ _).trans (hbel2.mono (by omega)))
               have HX2 : Hid (Blk w2 w.heap.size 28 #[.slice A n c, .int .i64 (last : Int), .bool false, .int .i64 ((all : Int) + 1), .slice B m d, .int .i64 0]) := Blk.below ((Blk.new w 28 _).alloc _) hbel2 (by omega)
               have HR2 : Hid (Blk w2 (w.heap.size + 1) 28 #[.slice none 0 0, .int .i64 0, .bool false, .int .i64 0, .slice none 0 0, .int .i64 0]) := Blk.below (blk2 w _ _ _) hbel2 (by omega)
               have hz2 := hbel2.size
               simp at hz2
               clear hown2 hbel2)
            | (at_builtin
               refine wpList_join rfl _ _ 22 rfl elem8 (w.heap.size + 2) _ _ rfl (HO2.out.alloc _) _ 1 1 (u8s [ch]) rfl (Has.one _ _ _) (u8s_one _) (by rw [u8s_len, HL.out]; omega) (by decide) (by simp <;> omega) ?_
               intro v3 w3 hown3 hbel3
               rw [← u8s_app] at hown3
               have HO3 := Lib.hid hown3
               have HB3 := Lib.hid ((new_alloc HB2.out _).trans (hbel3.mono (by omega)))
               have HX3 : Hid (Blk w3 w.heap.size 28 #[.slice A n c, .int .i64 (last : Int), .bool false, .int .i64 ((all : Int) + 1), .slice B m d, .int .i64 0]) := Blk.below (HX2.out.alloc _) hbel3 (by omega)
               have HR3 : Hid (Blk w3 (w.heap.size + 1) 28 #[.slice none 0 0, .int .i64 0, .bool false, .int .i64 0, .slice none 0 0, .int .i64 0]) := Blk.below (HR2.out.alloc _) hbel3 (by omega)
               obtain ⟨A3, c3, rfl, hh3⟩ := hown3.has
               simp only [u8s_len, List.length_append, List.length_cons, List.length_nil, HL.out] at hh3
               simp only [u8s_len, List.length_append, List.length_cons, List.length_nil, HL.out]
               have HH3 := Lib.hid hh3
               have x0 : w3.cell? ⟨w.heap.size, 0, none⟩ = some (.slice A n c) := HX3.out.cell 0
               have x1 : w3.cell? ⟨w.heap.size, 1, none⟩ = some (.int .i64 (last : Int)) := HX3.out.cell 1
               have x2 : w3.cell? ⟨w.heap.size, 2, none⟩ = some (.bool false) := HX3.out.cell 2
               have x3 : w3.cell? ⟨w.heap.size, 3, none⟩ = some (.int .i64 ((all : Int) + 1)) := HX3.out.cell 3
               have x4 : w3.cell? ⟨w.heap.size, 4, none⟩ = some (.slice B m d) := HX3.out.cell 4
               have x5 : w3.cell? ⟨w.heap.size, 5, none⟩ = some (.int .i64 0) := HX3.out.cell 5
               have f0 := HX3.out.frozen 0
               have f1 := HX3.out.frozen 1
               have f2 := HX3.out.frozen 2
               have f4 := HX3.out.frozen 4
               have f5 := HX3.out.frozen 5
               have r0 : w3.cell? ⟨w.heap.size + 1, 0, none⟩ = some (.slice none 0 0) := HR3.out.cell 0
               have r1 : w3.cell? ⟨w.heap.size + 1, 1, none⟩ = some (.int .i64 0) := HR3.out.cell 1
               have r2 : w3.cell? ⟨w.heap.size + 1, 2, none⟩ = some (.bool false) := HR3.out.cell 2
               have r3 : w3.cell? ⟨w.heap.size + 1, 3, none⟩ = some (.int .i64 0) := HR3.out.cell 3
               have r4 : w3.cell? ⟨w.heap.size + 1, 4, none⟩ = some (.slice none 0 0) := HR3.out.cell 4
               have r5 : w3.cell? ⟨w.heap.size + 1, 5, none⟩ = some (.int .i64 0) := HR3.out.cell 5
               have q0 := HR3.out.frozen 0
               have q1 := HR3.out.frozen 1
               have q2 := HR3.out.frozen 2
               have q3 := HR3.out.frozen 3
               have q4 := HR3.out.frozen 4
               have q5 := HR3.out.frozen 5
               clear hown3 hbel3 HO2 HX2 HR2 hh3))
        rw [HF.out, HF2.out]
        refine step_close hG HB3.out HO3.out HH2.out ?_ (set6 ?_) rfl rfl (by rw [List.length_append, HL.out]; rfl) rfl (by simp) rfl (by simp) (by simp)
        · repeat (first | with_reducible exact Far2.refl _ _ | with_reducible refine Far2.set1 ?_ _ _ | with_reducible refine Far2.set0 ?_ _ _)
        · repeat (first | with_reducible exact HR3.out | with_reducible refine Blk.far0 ?_ _ _)
end Go.Proofs.Ytdheppfooapneaa

/- lapidaryref03.Step: a section's bytes, on. -/
namespace Go.Proofs.Ytdheppfooapneaa
open Go.RowKit

theorem takeN_more (took : List Nat) (ch last all : Nat) (l : List Sec) (hl1 : ¬ (took ++ [ch]).length = 1) : takeN { took := took ++ [ch], last := last, fin := false, all := all + 1, l := l, e := 0 } ch =
    if (get (took ++ [ch]) 1).2.2 = 10 then { took := took ++ [ch], last := last, fin := false, all := all + 1, l := l, e := 0 } else if (get (took ++ [ch]) 1).2.2 ≠ 0 then { took := took ++ [ch], last := last, fin := false, all := all + 1, l := l, e := (get (took ++ [ch]) 1).2.2 }
    else if 1048576 < (get (took ++ [ch]) 1).1 then { took := took ++ [ch], last := last, fin := false, all := all + 1, l := l, e := 3 } else if (took ++ [ch]).length < (get (took ++ [ch]) 1).2.1 + (get (took ++ [ch]) 1).1 + 4 then { took := took ++ [ch], last := last, fin := false, all := all + 1, l := l, e := 0 }
    else if (checkN (took ++ [ch])).2 ≠ 0 then { took := took ++ [ch], last := last, fin := false, all := all + 1, l := l, e := (checkN (took ++ [ch])).2 }
    else { took := [], last := (took ++ [ch]).headD 0, fin := false, all := all + 1, l := l ++ [(((took ++ [ch]).headD 0 : Int), (checkN (took ++ [ch])).1.drop (get (took ++ [ch]) 1).2.1)], e := 0 } := by
  unfold takeN
  rw [if_neg hl1]

set_option maxRecDepth 100000 in
set_option maxHeartbeats 1000000 in
theorem refStep_stay (A : Option Addr) (n c : Nat) (B : Option Addr) (m d : Nat) (s : St) (ch : Nat) (w : World) (G : Nat → Prop) (hG : Sit G w.heap.size) (h : Rob G w fun W => Has W A n c (u8s s.took)) (h2 : SecsR G w B m d s.l) (he : s.e = 0) (hf : s.fin = false) (ha : 5 ≤ s.all) (ha2 : s.all ≤ 1000000000) (hn : n ≤ 90000) (hn0 : 1 ≤ n) (hch : ch < 256) (hby : ∀ x ∈ s.took, x < 256)
    (hstay : (get (s.took ++ [ch]) 1).2.2 ≠ 0 ∨ 1048576 < (get (s.took ++ [ch]) 1).1 ∨ (s.took ++ [ch]).length < (get (s.took ++ [ch]) 1).2.1 + (get (s.took ++ [ch]) 1).1 + 4) :
    Calls Try.prog 22 #[.agg #[.slice A n c, .int .i64 (s.last : Int), .bool s.fin, .int .i64 (s.all : Int), .slice B m d, .int .i64 (s.e : Int)], .int .u8 (ch : Int)] w (Stepd G w (stepN s ch)) := by
  have HBy : Hid (∀ x ∈ s.took ++ [ch], x < 256) := fun x hx => by
    rcases List.mem_append.1 hx with hx | hx
    · exact hby x hx
    · simp at hx; omega
  clear hby
  have HF : Hid (stepN s ch = takeN { s with all := s.all + 1, took := s.took ++ [ch] } ch) := by show _ = _; unfold stepN; rw [if_neg (by simp [he]), if_neg (by simp [hf]), if_neg (by omega)]
  have HH := Lib.hid h
  have HH2 := Lib.hid h2
  have HL : Hid (s.took.length = n) := by have := h.here.len; rw [u8s_len] at this; exact this
  clear h h2
  obtain ⟨took, last, fin, all, l, e⟩ := s
  simp only at *
  subst he hf
  have ta : decide ((all : Int) + 1 ≤ 5) = false := decide_eq_false (by omega)
  have t1 : ((n : Int) + 1 == 1) = false := by rw [beq_eq_false_iff_ne]; omega
  have hlen : (took ++ [ch]).length = n + 1 := by rw [List.length_append, HL.out]; rfl
  have HTk := Lib.hid (takeN_more took ch last all l (by omega))
  have HMv := Lib.hid (get_moves (bs := took ++ [ch]) (k := 1))
  have hgl := get_lt (took ++ [ch]) 1
  have HGet : Hid (∀ (W : World) (A3 : Option Addr) (c3 : Nat), Has W A3 (n + 1) c3 (u8s (took ++ [ch])) → Calls Try.prog 35 #[.slice A3 (n + 1) c3, .int .i64 1] W fun e w' => e = .returned (.tuple #[.int .u64 (get (took ++ [ch]) 1).1, .int .i64 (get (took ++ [ch]) 1).2.1, .int .i64 (get (took ++ [ch]) 1).2.2]) ∧ W = w') :=
    fun W A3 c3 hh => refGet_any A3 _ c3 (took ++ [ch]) 1 W hh HBy.out (by omega)
  generalize (get (took ++ [ch]) 1) = gg at *
  obtain ⟨gn, gto, ge⟩ := gg
  simp only at *
  by_cases h10 : ge = 10
  · have te : ((ge : Int) == 10) = true := by rw [h10]; rfl
    have HF2 : Hid (takeN { took := took ++ [ch], last := last, fin := false, all := all + 1, l := l, e := 0 } ch = { took := took ++ [ch], last := last, fin := false, all := all + 1, l := l, e := 0 }) := by
      show _ = _
      rw [HTk.out, if_pos h10]
    clear hlen h10 HTk HMv hstay hn0
    go_enter Try.func22, Try.ntmps22
    go_wp2_with (first
        | (at_builtin
           refine wpList_join rfl _ _ 22 rfl elem8 (w.heap.size + 2) _ [] rfl (Own.nil _ _ _) _ _ _ _ rfl (HH.out.here.kept (below2 _ _ _)) (u8s_one _) (by simp <;> omega) (by decide) (by simp) ?_
           intro v2 w2 hown2 hbel2
           rw [List.nil_append] at hown2
           have HO2 := Lib.hid hown2
           have HB2 := Lib.hid ((below2 w _ _).trans (hbel2.mono (by omega)))
           have HX2 : Hid (Blk w2 w.heap.size 28 #[.slice A n c, .int .i64 (last : Int), .bool false, .int .i64 ((all : Int) + 1), .slice B m d, .int .i64 0]) := Blk.below ((Blk.new w 28 _).alloc _) hbel2 (by omega)
           have HR2 : Hid (Blk w2 (w.heap.size + 1) 28 #[.slice none 0 0, .int .i64 0, .bool false, .int .i64 0, .slice none 0 0, .int .i64 0]) := Blk.below (blk2 w _ _ _) hbel2 (by omega)
           have hz2 := hbel2.size
           simp at hz2
           clear hown2 hbel2)
        | (at_builtin
           refine wpList_join rfl _ _ 22 rfl elem8 (w.heap.size + 2) _ _ rfl (HO2.out.alloc _) _ 1 1 (u8s [ch]) rfl (Has.one _ _ _) (u8s_one _) (by rw [u8s_len, HL.out]; omega) (by decide) (by simp <;> omega) ?_
           intro v3 w3 hown3 hbel3
           rw [← u8s_app] at hown3
           have HO3 := Lib.hid hown3
           have HB3 := Lib.hid ((new_alloc HB2.out _).trans (hbel3.mono (by omega)))
           have HX3 : Hid (Blk w3 w.heap.size 28 #[.slice A n c, .int .i64 (last : Int), .bool false, .int .i64 ((all : Int) + 1), .slice B m d, .int .i64 0]) := Blk.below (HX2.out.alloc _) hbel3 (by omega)
           have HR3 : Hid (Blk w3 (w.heap.size + 1) 28 #[.slice none 0 0, .int .i64 0, .bool false, .int .i64 0, .slice none 0 0, .int .i64 0]) := Blk.below (HR2.out.alloc _) hbel3 (by omega)
           obtain ⟨A3, c3, rfl, hh3⟩ := hown3.has
           simp only [u8s_len, List.length_append, List.length_cons, List.length_nil, HL.out] at hh3
           simp only [u8s_len, List.length_append, List.length_cons, List.length_nil, HL.out]
           have HH3 := Lib.hid hh3
           have x0 : w3.cell? ⟨w.heap.size, 0, none⟩ = some (.slice A n c) := HX3.out.cell 0
           have x1 : w3.cell? ⟨w.heap.size, 1, none⟩ = some (.int .i64 (last : Int)) := HX3.out.cell 1
           have x2 : w3.cell? ⟨w.heap.size, 2, none⟩ = some (.bool false) := HX3.out.cell 2
           have x3 : w3.cell? ⟨w.heap.size, 3, none⟩ = some (.int .i64 ((all : Int) + 1)) := HX3.out.cell 3
           have x4 : w3.cell? ⟨w.heap.size, 4, none⟩ = some (.slice B m d) := HX3.out.cell 4
           have x5 : w3.cell? ⟨w.heap.size, 5, none⟩ = some (.int .i64 0) := HX3.out.cell 5
           have f0 := HX3.out.frozen 0
           have f1 := HX3.out.frozen 1
           have f2 := HX3.out.frozen 2
           have f4 := HX3.out.frozen 4
           have f5 := HX3.out.frozen 5
           have r0 : w3.cell? ⟨w.heap.size + 1, 0, none⟩ = some (.slice none 0 0) := HR3.out.cell 0
           have r1 : w3.cell? ⟨w.heap.size + 1, 1, none⟩ = some (.int .i64 0) := HR3.out.cell 1
           have r2 : w3.cell? ⟨w.heap.size + 1, 2, none⟩ = some (.bool false) := HR3.out.cell 2
           have r3 : w3.cell? ⟨w.heap.size + 1, 3, none⟩ = some (.int .i64 0) := HR3.out.cell 3
           have r4 : w3.cell? ⟨w.heap.size + 1, 4, none⟩ = some (.slice none 0 0) := HR3.out.cell 4
           have r5 : w3.cell? ⟨w.heap.size + 1, 5, none⟩ = some (.int .i64 0) := HR3.out.cell 5
           have q0 := HR3.out.frozen 0
           have q1 := HR3.out.frozen 1
           have q2 := HR3.out.frozen 2
           have q3 := HR3.out.frozen 3
           have q4 := HR3.out.frozen 4
           have q5 := HR3.out.frozen 5
           have HHs : Hid (Has (w3.setCell ⟨w.heap.size, 0, none⟩ (.slice A3 (n + 1) c3)) A3 (n + 1) c3 (u8s (took ++ [ch]))) := by
             obtain ⟨A', c', hv, hh⟩ := (((Far2.refl w.heap.size w3).set0 0 (.slice A3 (n + 1) c3)).own hown3).has
             simp only [u8s_len, List.length_append, List.length_cons, List.length_nil, HL.out] at hv hh
             cases hv
             exact hh
           clear hown3 hbel3 HO2 HX2 HR2 hh3)
        | (go_at_call 35
           refine (HGet.out _ _ _ HHs.out).mono ?_
           rintro e w' ⟨rfl, rfl⟩))
    rw [HF.out, HF2.out]
    refine step_close hG HB3.out HO3.out HH2.out ?_ (set6 ?_) rfl rfl (by rw [List.length_append, HL.out]; rfl) rfl (by simp) rfl (by simp) (by simp)
    · repeat (first | with_reducible exact Far2.refl _ _ | with_reducible refine Far2.set1 ?_ _ _ | with_reducible refine Far2.set0 ?_ _ _)
    · repeat (first | with_reducible exact HR3.out | with_reducible refine Blk.far0 ?_ _ _)
  · have te : ((ge : Int) == 10) = false := by rw [beq_eq_false_iff_ne]; omega
    by_cases h0 : ge = 0
    · have te0 : ((ge : Int) != 0) = false := by rw [h0]; rfl
      by_cases hbig : 1048576 < gn
      · have tb : decide ((1048576 : Int) < (gn : Int)) = true := decide_eq_true (by omega)
        have HF2 : Hid (takeN { took := took ++ [ch], last := last, fin := false, all := all + 1, l := l, e := 0 } ch = { took := took ++ [ch], last := last, fin := false, all := all + 1, l := l, e := 3 }) := by
          show _ = _
          rw [HTk.out, if_neg h10, if_neg (by simp [h0]), if_pos hbig]
        clear hlen h10 h0 hbig HTk HMv hstay hn0
        go_enter Try.func22, Try.ntmps22
        go_wp2_with (first
            | (at_builtin
               refine wpList_join rfl _ _ 22 rfl elem8 (w.heap.size + 2) _ [] rfl (Own.nil _ _ _) _ _ _ _ rfl (HH.out.here.kept (below2 _ _ _)) (u8s_one _) (by simp <;> omega) (by decide) (by simp) ?_
               intro v2 w2 hown2 hbel2
               rw [List.nil_append] at hown2
               have HO2 := Lib.hid hown2
               have HB2 := Lib.hid ((below2 w _ _).trans (hbel2.mono (by omega)))
               have HX2 : Hid (Blk w2 w.heap.size 28 #[.slice A n c, .int .i64 (last : Int), .bool false, .int .i64 ((all : Int) + 1), .slice B m d, .int .i64 0]) := Blk.below ((Blk.new w 28 _).alloc _) hbel2 (by omega)
               have HR2 : Hid (Blk w2 (w.heap.size + 1) 28 #[.slice none 0 0, .int .i64 0, .bool false, .int .i64 0, .slice none 0 0, .int .i64 0]) := Blk.below (blk2 w _ _ _) hbel2 (by omega)
               have hz2 := hbel2.size
               simp at hz2
               clear hown2 hbel2)
            | (at_builtin
               refine wpList_join rfl _ _ 22 rfl elem8 (w.heap.size + 2) _ _ rfl (HO2.out.alloc _) _ 1 1 (u8s [ch]) rfl (Has.one _ _ _) (u8s_one _) (by rw [u8s_len, HL.out]; omega) (by decide) (by simp <;> omega) ?_
               intro v3 w3 hown3 hbel3
               rw [← u8s_app] at hown3
               have HO3 := Lib.hid hown3
               have HB3 := Lib.hid ((new_alloc HB2.out _).trans (hbel3.mono (by omega)))
               have HX3 : Hid (Blk w3 w.heap.size 28 #[.slice A n c, .int .i64 (last : Int), .bool false, .int .i64 ((all : Int) + 1), .slice B m d, .int .i64 0]) := Blk.below (HX2.out.alloc _) hbel3 (by omega)
               have HR3 : Hid (Blk w3 (w.heap.size + 1) 28 #[.slice none 0 0, .int .i64 0, .bool false, .int .i64 0, .slice none 0 0, .int .i64 0]) := Blk.below (HR2.out.alloc _) hbel3 (by omega)
               obtain ⟨A3, c3, rfl, hh3⟩ := hown3.has
               simp only [u8s_len, List.length_append, List.length_cons, List.length_nil, HL.out] at hh3
               simp only [u8s_len, List.length_append, List.length_cons, List.length_nil, HL.out]
               have HH3 := Lib.hid hh3
               have x0 : w3.cell? ⟨w.heap.size, 0, none⟩ = some (.slice A n c) := HX3.out.cell 0
               have x1 : w3.cell? ⟨w.heap.size, 1, none⟩ = some (.int .i64 (last : Int)) := HX3.out.cell 1
               have x2 : w3.cell? ⟨w.heap.size, 2, none⟩ = some (.bool false) := HX3.out.cell 2
               have x3 : w3.cell? ⟨w.heap.size, 3, none⟩ = some (.int .i64 ((all : Int) + 1)) := HX3.out.cell 3
               have x4 : w3.cell? ⟨w.heap.size, 4, none⟩ = some (.slice B m d) := HX3.out.cell 4
               have x5 : w3.cell? ⟨w.heap.size, 5, none⟩ = some (.int .i64 0) := HX3.out.cell 5
               have f0 := HX3.out.frozen 0
               have f1 := HX3.out.frozen 1
               have f2 := HX3.out.frozen 2
               have f4 := HX3.out.frozen 4
               have f5 := HX3.out.frozen 5
               have r0 : w3.cell? ⟨w.heap.size + 1, 0, none⟩ = some (.slice none 0 0) := HR3.out.cell 0
               have r1 : w3.cell? ⟨w.heap.size + 1, 1, none⟩ = some (.int .i64 0) := HR3.out.cell 1
               have r2 : w3.cell? ⟨w.heap.size + 1, 2, none⟩ = some (.bool false) := HR3.out.cell 2
               have r3 : w3.cell? ⟨w.heap.size + 1, 3, none⟩ = some (.int .i64 0) := HR3.out.cell 3
               have r4 : w3.cell? ⟨w.heap.size + 1, 4, none⟩ = some (.slice none 0 0) := HR3.out.cell 4
               have r5 : w3.cell? ⟨w.heap.size + 1, 5, none⟩ = some (.int .i64 0) := HR3.out.cell 5
               have q0 := HR3.out.frozen 0
               have q1 := HR3.out.frozen 1
               have q2 := HR3.out.frozen 2
               have q3 := HR3.out.frozen 3
               have q4 := HR3.out.frozen 4
               have q5 := HR3.out.frozen 5
               have HHs : Hid (Has (w3.setCell ⟨w.heap.size, 0, none⟩ (.slice A3 (n + 1) c3)) A3 (n + 1) c3 (u8s (took ++ [ch]))) := by
                 obtain ⟨A', c', hv, hh⟩ := (((Far2.refl w.heap.size w3).set0 0 (.slice A3 (n + 1) c3)).own hown3).has
                 simp only [u8s_len, List.length_append, List.length_cons, List.length_nil, HL.out] at hv hh
                 cases hv
                 exact hh
               clear hown3 hbel3 HO2 HX2 HR2 hh3)
            | (go_at_call 35
               refine (HGet.out _ _ _ HHs.out).mono ?_
               rintro e w' ⟨rfl, rfl⟩))
        rw [HF.out, HF2.out]
        refine step_close hG HB3.out HO3.out HH2.out ?_ (set6 ?_) rfl rfl (by rw [List.length_append, HL.out]; rfl) rfl (by simp) rfl (by simp) (by simp)
        · repeat (first | with_reducible exact Far2.refl _ _ | with_reducible refine Far2.set1 ?_ _ _ | with_reducible refine Far2.set0 ?_ _ _)
        · repeat (first | with_reducible exact HR3.out | with_reducible refine Blk.far0 ?_ _ _)
      · have tb : decide ((1048576 : Int) < (gn : Int)) = false := decide_eq_false (by omega)
        have hsh : (took ++ [ch]).length < gto + gn + 4 := by omega
        have hmv := (HMv.out h0).2
        have hnb : gn ≤ 1048576 := by omega
        have hto : gto ≤ n + 1 := by omega
        have ts : decide ((n : Int) + 1 < (gto : Int) + (gn : Int) + 4) = true := decide_eq_true (by omega)
        have HF2 : Hid (takeN { took := took ++ [ch], last := last, fin := false, all := all + 1, l := l, e := 0 } ch = { took := took ++ [ch], last := last, fin := false, all := all + 1, l := l, e := 0 }) := by
          show _ = _
          rw [HTk.out, if_neg h10, if_neg (by simp [h0]), if_neg hbig, if_pos hsh]
        clear hlen h10 h0 hbig hmv hsh HTk HMv hstay hn0
        go_enter Try.func22, Try.ntmps22
        go_wp2_with (first
            | (at_builtin
               refine wpList_join rfl _ _ 22 rfl elem8 (w.heap.size + 2) _ [] rfl (Own.nil _ _ _) _ _ _ _ rfl (HH.out.here.kept (below2 _ _ _)) (u8s_one _) (by simp <;> omega) (by decide) (by simp) ?_
               intro v2 w2 hown2 hbel2
               rw [List.nil_append] at hown2
               have HO2 := Lib.hid hown2
               have HB2 := Lib.hid ((below2 w _ _).trans (hbel2.mono (by omega)))
               have HX2 : Hid (Blk w2 w.heap.size 28 #[.slice A n c, .int .i64 (last : Int), .bool false, .int .i64 ((all : Int) + 1), .slice B m d, .int .i64 0]) := Blk.below ((Blk.new w 28 _).alloc _) hbel2 (by omega)
               have HR2 : Hid (Blk w2 (w.heap.size + 1) 28 #[.slice none 0 0, .int .i64 0, .bool false, .int .i64 0, .slice none 0 0, .int .i64 0]) := Blk.below (blk2 w _ _ _) hbel2 (by omega)
               have hz2 := hbel2.size
               simp at hz2
               clear hown2 hbel2)
            | (at_builtin
               refine wpList_join rfl _ _ 22 rfl elem8 (w.heap.size + 2) _ _ rfl (HO2.out.alloc _) _ 1 1 (u8s [ch]) rfl (Has.one _ _ _) (u8s_one _) (by rw [u8s_len, HL.out]; omega) (by decide) (by simp <;> omega) ?_
               intro v3 w3 hown3 hbel3
               rw [← u8s_app] at hown3
               have HO3 := Lib.hid hown3
               have HB3 := Lib.hid ((new_alloc HB2.out _).trans (hbel3.mono (by omega)))
               have HX3 : Hid (Blk w3 w.heap.size 28 #[.slice A n c, .int .i64 (last : Int), .bool false, .int .i64 ((all : Int) + 1), .slice B m d, .int .i64 0]) := Blk.below (HX2.out.alloc _) hbel3 (by omega)
               have HR3 : Hid (Blk w3 (w.heap.size + 1) 28 #[.slice none 0 0, .int .i64 0, .bool false, .int .i64 0, .slice none 0 0, .int .i64 0]) := Blk.below (HR2.out.alloc _) hbel3 (by omega)
               obtain ⟨A3, c3, rfl, hh3⟩ := hown3.has
               simp only [u8s_len, List.length_append, List.length_cons, List.length_nil, HL.out] at hh3
               simp only [u8s_len, List.length_append, List.length_cons, List.length_nil, HL.out]
               have HH3 := Lib.hid hh3
               have x0 : w3.cell? ⟨w.heap.size, 0, none⟩ = some (.slice A n c) := HX3.out.cell 0
               have x1 : w3.cell? ⟨w.heap.size, 1, none⟩ = some (.int .i64 (last : Int)) := HX3.out.cell 1
               have x2 : w3.cell? ⟨w.heap.size, 2, none⟩ = some (.bool false) := HX3.out.cell 2
               have x3 : w3.cell? ⟨w.heap.size, 3, none⟩ = some (.int .i64 ((all : Int) + 1)) := HX3.out.cell 3
               have x4 : w3.cell? ⟨w.heap.size, 4, none⟩ = some (.slice B m d) := HX3.out.cell 4
               have x5 : w3.cell? ⟨w.heap.size, 5, none⟩ = some (.int .i64 0) := HX3.out.cell 5
               have f0 := HX3.out.frozen 0
               have f1 := HX3.out.frozen 1
               have f2 := HX3.out.frozen 2
               have f4 := HX3.out.frozen 4
               have f5 := HX3.out.frozen 5
               have r0 : w3.cell? ⟨w.heap.size + 1, 0, none⟩ = some (.slice none 0 0) := HR3.out.cell 0
               have r1 : w3.cell? ⟨w.heap.size + 1, 1, none⟩ = some (.int .i64 0) := HR3.out.cell 1
               have r2 : w3.cell? ⟨w.heap.size + 1, 2, none⟩ = some (.bool false) := HR3.out.cell 2
               have r3 : w3.cell? ⟨w.heap.size + 1, 3, none⟩ = some (.int .i64 0) := HR3.out.cell 3
               have r4 : w3.cell? ⟨w.heap.size + 1, 4, none⟩ = some (.slice none 0 0) := HR3.out.cell 4
               have r5 : w3.cell? ⟨w.heap.size + 1, 5, none⟩ = some (.int .i64 0) := HR3.out.cell 5
               have q0 := HR3.out.frozen 0
               have q1 := HR3.out.frozen 1
               have q2 := HR3.out.frozen 2
               have q3 := HR3.out.frozen 3
               have q4 := HR3.out.frozen 4
               have q5 := HR3.out.frozen 5
               have HHs : Hid (Has (w3.setCell ⟨w.heap.size, 0, none⟩ (.slice A3 (n + 1) c3)) A3 (n + 1) c3 (u8s (took ++ [ch]))) := by
                 obtain ⟨A', c', hv, hh⟩ := (((Far2.refl w.heap.size w3).set0 0 (.slice A3 (n + 1) c3)).own hown3).has
                 simp only [u8s_len, List.length_append, List.length_cons, List.length_nil, HL.out] at hv hh
                 cases hv
                 exact hh
               clear hown3 hbel3 HO2 HX2 HR2 hh3)
            | (go_at_call 35
               refine (HGet.out _ _ _ HHs.out).mono ?_
               rintro e w' ⟨rfl, rfl⟩))
        rw [HF.out, HF2.out]
        refine step_close hG HB3.out HO3.out HH2.out ?_ (set6 ?_) rfl rfl (by rw [List.length_append, HL.out]; rfl) rfl (by simp) rfl (by simp) (by simp)
        · repeat (first | with_reducible exact Far2.refl _ _ | with_reducible refine Far2.set1 ?_ _ _ | with_reducible refine Far2.set0 ?_ _ _)
        · repeat (first | with_reducible exact HR3.out | with_reducible refine Blk.far0 ?_ _ _)
    · have te0 : ((ge : Int) != 0) = true := by rw [bne_iff_ne]; omega
      have HF2 : Hid (takeN { took := took ++ [ch], last := last, fin := false, all := all + 1, l := l, e := 0 } ch = { took := took ++ [ch], last := last, fin := false, all := all + 1, l := l, e := ge }) := by
        show _ = _
        rw [HTk.out, if_neg h10, if_pos h0]
      clear hlen h10 h0 HTk HMv hstay hn0
      go_enter Try.func22, Try.ntmps22
      go_wp2_with (first
          | (at_builtin
             refine wpList_join rfl _ _ 22 rfl elem8 (w.heap.size + 2) _ [] rfl (Own.nil _ _ _) _ _ _ _ rfl (HH.out.here.kept (below2 _ _ _)) (u8s_one _) (by simp <;> omega) (by decide) (by simp) ?_
             intro v2 w2 hown2 hbel2
             rw [List.nil_append] at hown2
             have HO2 := Lib.hid hown2
             have HB2 := Lib.hid ((below2 w _ _).trans (hbel2.mono (by omega)))
             have HX2 : Hid (Blk w2 w.heap.size 28 #[.slice A n c, .int .i64 (last : Int), .bool false, .int .i64 ((all : Int) + 1), .slice B m d, .int .i64 0]) := Blk.below ((Blk.new w 28 _).alloc _) hbel2 (by omega)
             have HR2 : Hid (Blk w2 (w.heap.size + 1) 28 #[.slice none 0 0, .int .i64 0, .bool false, .int .i64 0, .slice none 0 0, .int .i64 0]) := Blk.below (blk2 w _ _ _) hbel2 (by omega)
             have hz2 := hbel2.size
             simp at hz2
             clear hown2 hbel2)
          | (at_builtin
             refine wpList_join rfl _ _ 22 rfl elem8 (w.heap.size + 2) _ _ rfl (HO2.out.alloc _) _ 1 1 (u8s [ch]) rfl (Has.one _ _ _) (u8s_one _) (by rw [u8s_len, HL.out]; omega) (by decide) (by simp <;> omega) ?_
             intro v3 w3 hown3 hbel3
             rw [← u8s_app] at hown3
             have HO3 := Lib.hid hown3
             have HB3 := Lib.hid ((new_alloc HB2.out _).trans (hbel3.mono (by omega)))
             have HX3 : Hid (Blk w3 w.heap.size 28 #[.slice A n c, .int .i64 (last : Int), .bool false, .int .i64 ((all : Int) + 1), .slice B m d, .int .i64 0]) := Blk.below (HX2.out.alloc _) hbel3 (by omega)
             have HR3 : Hid (Blk w3 (w.heap.size + 1) 28 #[.slice none 0 0, .int .i64 0, .bool false, .int .i64 0, .slice none 0 0, .int .i64 0]) := Blk.below (HR2.out.alloc _) hbel3 (by omega)
             obtain ⟨A3, c3, rfl, hh3⟩ := hown3.has
             simp only [u8s_len, List.length_append, List.length_cons, List.length_nil, HL.out] at hh3
             simp only [u8s_len, List.length_append, List.length_cons, List.length_nil, HL.out]
             have HH3 := Lib.hid hh3
             have x0 : w3.cell? ⟨w.heap.size, 0, none⟩ = some (.slice A n c) := HX3.out.cell 0
             have x1 : w3.cell? ⟨w.heap.size, 1, none⟩ = some (.int .i64 (last : Int)) := HX3.out.cell 1
             have x2 : w3.cell? ⟨w.heap.size, 2, none⟩ = some (.bool false) := HX3.out.cell 2
             have x3 : w3.cell? ⟨w.heap.size, 3, none⟩ = some (.int .i64 ((all : Int) + 1)) := HX3.out.cell 3
             have x4 : w3.cell? ⟨w.heap.size, 4, none⟩ = some (.slice B m d) := HX3.out.cell 4
             have x5 : w3.cell? ⟨w.heap.size, 5, none⟩ = some (.int .i64 0) := HX3.out.cell 5
             have f0 := HX3.out.frozen 0
             have f1 := HX3.out.frozen 1
             have f2 := HX3.out.frozen 2
             have f4 := HX3.out.frozen 4
             have f5 := HX3.out.frozen 5
             have r0 : w3.cell? ⟨w.heap.size + 1, 0, none⟩ = some (.slice none 0 0) := HR3.out.cell 0
             have r1 : w3.cell? ⟨w.heap.size + 1, 1, none⟩ = some (.int .i64 0) := HR3.out.cell 1
             have r2 : w3.cell? ⟨w.heap.size + 1, 2, none⟩ = some (.bool false) := HR3.out.cell 2
             have r3 : w3.cell? ⟨w.heap.size + 1, 3, none⟩ = some (.int .i64 0) := HR3.out.cell 3
             have r4 : w3.cell? ⟨w.heap.size + 1, 4, none⟩ = some (.slice none 0 0) := HR3.out.cell 4
             have r5 : w3.cell? ⟨w.heap.size + 1, 5, none⟩ = some (.int .i64 0) := HR3.out.cell 5
             have q0 := HR3.out.frozen 0
             have q1 := HR3.out.frozen 1
             have q2 := HR3.out.frozen 2
             have q3 := HR3.out.frozen 3
             have q4 := HR3.out.frozen 4
             have q5 := HR3.out.frozen 5
             have HHs : Hid (Has (w3.setCell ⟨w.heap.size, 0, none⟩ (.slice A3 (n + 1) c3)) A3 (n + 1) c3 (u8s (took ++ [ch]))) := by
               obtain ⟨A', c', hv, hh⟩ := (((Far2.refl w.heap.size w3).set0 0 (.slice A3 (n + 1) c3)).own hown3).has
               simp only [u8s_len, List.length_append, List.length_cons, List.length_nil, HL.out] at hv hh
               cases hv
               exact hh
             clear hown3 hbel3 HO2 HX2 HR2 hh3)
          | (go_at_call 35
             refine (HGet.out _ _ _ HHs.out).mono ?_
             rintro e w' ⟨rfl, rfl⟩))
      rw [HF.out, HF2.out]
      refine step_close hG HB3.out HO3.out HH2.out ?_ (set6 ?_) rfl rfl (by rw [List.length_append, HL.out]; rfl) rfl (by simp) rfl (by simp) (by simp)
      · repeat (first | with_reducible exact Far2.refl _ _ | with_reducible refine Far2.set1 ?_ _ _ | with_reducible refine Far2.set0 ?_ _ _)
      · repeat (first | with_reducible exact HR3.out | with_reducible refine Blk.far0 ?_ _ _)
end Go.Proofs.Ytdheppfooapneaa
