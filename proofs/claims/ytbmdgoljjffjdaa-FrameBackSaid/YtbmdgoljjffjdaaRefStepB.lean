/- lapidaryref03.Step: a section's bytes. -/
import Derived.Test.YtbmdgoljjffjdaaRefStep
namespace Go.Proofs.Ytbmdgoljjffjdaa
open Go.RowKit

/-- Nothing but the blocks g and g + 1 has turned. -/
structure Far2 (g : Nat) (W W' : World) : Prop where
  os : W'.os = W.os
  tape : W'.tape = W.tape
  output : W'.output = W.output
  size : W'.heap.size = W.heap.size
  block : ∀ k, k ≠ g → k ≠ g + 1 → W'.heap[k]? = W.heap[k]?
theorem Far2.refl (g : Nat) (W : World) : Far2 g W W := ⟨rfl, rfl, rfl, rfl, fun _ _ _ => rfl⟩
theorem Far2.set {g : Nat} {W W' : World} (h : Far2 g W W') {p : Addr} (hp : p.block = g ∨ p.block = g + 1) (u : Value) : Far2 g W (W'.setCell p u) :=
  ⟨h.os, h.tape, h.output, by rw [← h.size]; simp [World.setCell], fun k h1 h2 => (Below.heap_setCell W' p u k (by rcases hp with e | e <;> rw [e] <;> assumption)).trans (h.block k h1 h2)⟩
theorem Far2.set0 {g : Nat} {W W' : World} (h : Far2 g W W') (o : Nat) (u : Value) : Far2 g W (W'.setCell ⟨g, o, none⟩ u) := h.set (Or.inl rfl) u
theorem Far2.set1 {g : Nat} {W W' : World} (h : Far2 g W W') (o : Nat) (u : Value) : Far2 g W (W'.setCell ⟨g + 1, o, none⟩ u) := h.set (Or.inr rfl) u
theorem Blk.far0 {g : Nat} {W : World} {t : TypeId} {cs : Array Value} (h : Blk W (g + 1) t cs) (o : Nat) (u : Value) : Blk (W.setCell ⟨g, o, none⟩ u) (g + 1) t cs := h.far (p := ⟨g, o, none⟩) (by simp) u
theorem Far2.below {w W W' : World} (h : Far2 w.heap.size W W') (hb : Below w.heap.size w W) : Below w.heap.size w W' :=
  ⟨h.os.trans hb.os, h.tape.trans hb.tape, h.output.trans hb.output, by rw [h.size]; exact hb.size, fun k hk => (h.block k (by omega) (by omega)).trans (hb.block k hk)⟩
theorem Far2.own {g : Nat} {W W' : World} {e : TypeId} {v : Value} {xs : List Value} (h : Far2 g W W') (ho : Own W (g + 2) e v xs) : Own W' (g + 2) e v xs := by
  refine ⟨ho.1, ?_⟩
  rcases ho.2 with h1 | ⟨g', cap, cur, h1, h2, h3, h4⟩
  · exact Or.inl h1
  · exact Or.inr ⟨g', cap, cur, h1, h2, (h.block g' (by omega) (by omega)).trans h3, h4⟩
theorem set6 {W : World} {g : Nat} {t : TypeId} {c0 c1 c2 c3 c4 c5 : Value} (h : Blk W g t #[.slice none 0 0, .int .i64 0, .bool false, .int .i64 0, .slice none 0 0, .int .i64 0]) :
    Blk ((((((W.setCell ⟨g, 0, none⟩ c0).setCell ⟨g, 1, none⟩ c1).setCell ⟨g, 2, none⟩ c2).setCell ⟨g, 3, none⟩ c3).setCell ⟨g, 4, none⟩ c4).setCell ⟨g, 5, none⟩ c5) g t #[c0, c1, c2, c3, c4, c5] :=
  (((((h.set_ 0 c0).set_ 1 c1).set_ 2 c2).set_ 3 c3).set_ 4 c4).set_ 5 c5
theorem step_close {w w3 W' : World} {a : Act} {A B : Option Addr} {N c m d : Nat} {tk : List Nat} {s : St} {li ai ei : Int} {fi : Bool} {G : Nat} (hG : G < w.heap.size) (hB : Below w.heap.size w w3) (hO : Own w3 (w.heap.size + 2) 5 (.slice A (u8s tk).length c) (u8s tk)) (hS : SecsR G w B m d s.l)
    (hfar : Far2 w.heap.size w3 W') (hb : Blk W' (w.heap.size + 1) 58 #[.slice A N c, .int .i64 li, .bool fi, .int .i64 ai, .slice B m d, .int .i64 ei]) (hp : a.tmps.getD 4 undef = .pointer (some ⟨w.heap.size + 1, 0, none⟩)) (hd : a.defers = [])
    (hN : N = tk.length) (ht : s.took = tk) (h1 : li = (s.last : Int)) (h2 : fi = s.fin) (h3 : ai = (s.all : Int)) (h4 : ei = (s.e : Int)) : bodyPost Try.prog Try.f28 (Stepd G w s) Exit.ret a W' := by
  subst h1 h2 h3 h4 ht hN
  have hbw := hfar.below hB
  have hO' := hfar.own hO
  rw [u8s_len] at hO'
  exact step_end hb hp hd ⟨_, _, _, _, _, _, rfl, Rob.own hO' (by omega), hS.secs hG hbw⟩ hbw

set_option maxRecDepth 100000 in
set_option maxHeartbeats 1000000 in
theorem refStep_first (A : Option Addr) (n c : Nat) (B : Option Addr) (m d : Nat) (s : St) (ch : Nat) (w : World) (G : Nat) (hG : G < w.heap.size) (h : Rob G w fun W => Has W A n c (u8s s.took)) (h2 : SecsR G w B m d s.l) (he : s.e = 0) (hf : s.fin = false) (ha : 5 ≤ s.all) (ha2 : s.all ≤ 1000000000) (hn : n ≤ 1000000000) (hn0 : n = 0) (hch : ch < 256) :
    Calls Try.prog 28 #[.agg #[.slice A n c, .int .i64 (s.last : Int), .bool s.fin, .int .i64 (s.all : Int), .slice B m d, .int .i64 (s.e : Int)], .int .u8 (ch : Int)] w (Stepd G w (stepN s ch)) := by
  have HF : Hid (stepN s ch = takeN { s with all := s.all + 1, took := s.took ++ [ch] } ch) := by show _ = _; unfold stepN; rw [if_neg (by simp [he]), if_neg (by simp [hf]), if_neg (by omega)]
  have HH := Lib.hid h
  have HH2 := Lib.hid h2
  have HL : Hid (s.took.length = n) := by have := h.here.len; rw [u8s_len] at this; exact this
  clear h h2
  obtain ⟨took, last, fin, all, l, e⟩ := s
  simp only at *
  subst he hf
  have ta : decide ((all : Int) + 1 ≤ 5) = false := decide_eq_false (by omega)
  have t1 : ((n : Int) + 1 == 1) = true := by rw [beq_iff_eq]; omega
  have hl1 : (took ++ [ch]).length = 1 := by rw [List.length_append, HL.out, hn0]; rfl
  clear hn0
  by_cases hc0 : ch = 0
  · have t0 : ((ch : Int) == 0) = true := by rw [beq_iff_eq]; omega
    have HF2 : Hid (takeN { took := took ++ [ch], last := last, fin := false, all := all + 1, l := l, e := 0 } ch = { took := took ++ [ch], last := last, fin := true, all := all + 1, l := l, e := 0 }) := by
      show _ = _
      unfold takeN; rw [if_pos hl1, if_pos hc0]
    clear hl1 hc0
    go_enter Try.func28, Try.ntmps28
    go_wp2_with (first
        | (at_builtin
           refine wpList_join rfl _ _ 25 rfl elem8 (w.heap.size + 2) _ [] rfl (Own.nil _ _ _) _ _ _ _ rfl (HH.out.here.kept (below2 _ _ _)) (u8s_one _) (by simp <;> omega) (by decide) (by simp) ?_
           intro v2 w2 hown2 hbel2
           rw [List.nil_append] at hown2
           have HO2 := Lib.hid hown2
           have HB2 := Lib.hid ((below2 w _ _).trans (hbel2.mono (by omega)))
           have HX2 : Hid (Blk w2 w.heap.size 58 #[.slice A n c, .int .i64 (last : Int), .bool false, .int .i64 ((all : Int) + 1), .slice B m d, .int .i64 0]) := Blk.below ((Blk.new w 58 _).alloc _) hbel2 (by omega)
           have HR2 : Hid (Blk w2 (w.heap.size + 1) 58 #[.slice none 0 0, .int .i64 0, .bool false, .int .i64 0, .slice none 0 0, .int .i64 0]) := Blk.below (blk2 w _ _ _) hbel2 (by omega)
           have hz2 := hbel2.size
           simp at hz2
           clear hown2 hbel2)
        | (at_builtin
           refine wpList_join rfl _ _ 25 rfl elem8 (w.heap.size + 2) _ _ rfl (HO2.out.alloc _) _ 1 1 (u8s [ch]) rfl (Has.one _ _ _) (u8s_one _) (by rw [u8s_len, HL.out]; omega) (by decide) (by simp <;> omega) ?_
           intro v3 w3 hown3 hbel3
           rw [← u8s_app] at hown3
           have HO3 := Lib.hid hown3
           have HB3 := Lib.hid ((new_alloc HB2.out _).trans (hbel3.mono (by omega)))
           have HX3 : Hid (Blk w3 w.heap.size 58 #[.slice A n c, .int .i64 (last : Int), .bool false, .int .i64 ((all : Int) + 1), .slice B m d, .int .i64 0]) := Blk.below (HX2.out.alloc _) hbel3 (by omega)
           have HR3 : Hid (Blk w3 (w.heap.size + 1) 58 #[.slice none 0 0, .int .i64 0, .bool false, .int .i64 0, .slice none 0 0, .int .i64 0]) := Blk.below (HR2.out.alloc _) hbel3 (by omega)
           obtain ⟨A3, c3, rfl, hh3⟩ := hown3.has
           simp only [u8s_len, List.length_append, List.length_cons, List.length_nil, HL.out] at hh3
           simp only [u8s_len, List.length_append, List.length_cons, List.length_nil, HL.out]
           have HH3 := Lib.hid hh3
           have x0 : w3.cell? ⟨w.heap.size, 0, none⟩ = some (.slice A n c) := HX3.out.cell 0
           have x1 : w3.cell? ⟨w.heap.size, 1, none⟩ = some (.int .i64 (last : Int)) := HX3.out.cell 1
           have x2 : w3.cell? ⟨w.heap.size, 2, none⟩ = some (.bool false) := HX3.out.cell 2
           have x3 : w3.cell? ⟨w.heap.size, 3, none⟩ = some (.int .i64 ((all : Int) + 1)) := HX3.out.cell 3
           have x4 : w3.cell? ⟨w.heap.size, 4, none⟩ = some (.slice B m d) := HX3.out.cell 4
           have x5 : w3.cell? ⟨w.heap.size, 5, none⟩ = some (.int .i64 0) := HX3.out.cell 5
           have f0 := HX3.out.frozen 0
           have f1 := HX3.out.frozen 1
           have f2 := HX3.out.frozen 2
           have f4 := HX3.out.frozen 4
           have f5 := HX3.out.frozen 5
           have r0 : w3.cell? ⟨w.heap.size + 1, 0, none⟩ = some (.slice none 0 0) := HR3.out.cell 0
           have r1 : w3.cell? ⟨w.heap.size + 1, 1, none⟩ = some (.int .i64 0) := HR3.out.cell 1
           have r2 : w3.cell? ⟨w.heap.size + 1, 2, none⟩ = some (.bool false) := HR3.out.cell 2
           have r3 : w3.cell? ⟨w.heap.size + 1, 3, none⟩ = some (.int .i64 0) := HR3.out.cell 3
           have r4 : w3.cell? ⟨w.heap.size + 1, 4, none⟩ = some (.slice none 0 0) := HR3.out.cell 4
           have r5 : w3.cell? ⟨w.heap.size + 1, 5, none⟩ = some (.int .i64 0) := HR3.out.cell 5
           have q0 := HR3.out.frozen 0
           have q1 := HR3.out.frozen 1
           have q2 := HR3.out.frozen 2
           have q3 := HR3.out.frozen 3
           have q4 := HR3.out.frozen 4
           have q5 := HR3.out.frozen 5
           clear hown3 hbel3 HO2 HX2 HR2 hh3))
    rw [HF.out, HF2.out]
    refine step_close hG HB3.out HO3.out HH2.out ?_ (set6 ?_) rfl rfl (by rw [List.length_append, HL.out]; rfl) rfl (by simp) rfl (by simp) (by simp)
    · repeat (first | with_reducible exact Far2.refl _ _ | with_reducible refine Far2.set1 ?_ _ _ | with_reducible refine Far2.set0 ?_ _ _)
    · repeat (first | with_reducible exact HR3.out | with_reducible refine Blk.far0 ?_ _ _)
  · have t0 : ((ch : Int) == 0) = false := by rw [beq_eq_false_iff_ne]; omega
    by_cases hlt : ch ≤ last
    · have tl : decide (ch ≤ last) = true := by simpa using hlt
      have HF2 : Hid (takeN { took := took ++ [ch], last := last, fin := false, all := all + 1, l := l, e := 0 } ch = { took := took ++ [ch], last := last, fin := false, all := all + 1, l := l, e := 11 }) := by
        show _ = _
        unfold takeN; rw [if_pos hl1, if_neg hc0, if_pos (Or.inl hlt)]
      clear hl1 hc0 hlt
      go_enter Try.func28, Try.ntmps28
      go_wp2_with (first
          | (at_builtin
             refine wpList_join rfl _ _ 25 rfl elem8 (w.heap.size + 2) _ [] rfl (Own.nil _ _ _) _ _ _ _ rfl (HH.out.here.kept (below2 _ _ _)) (u8s_one _) (by simp <;> omega) (by decide) (by simp) ?_
             intro v2 w2 hown2 hbel2
             rw [List.nil_append] at hown2
             have HO2 := Lib.hid hown2
             have HB2 := Lib.hid ((below2 w _ _).trans (hbel2.mono (by omega)))
             have HX2 : Hid (Blk w2 w.heap.size 58 #[.slice A n c, .int .i64 (last : Int), .bool false, .int .i64 ((all : Int) + 1), .slice B m d, .int .i64 0]) := Blk.below ((Blk.new w 58 _).alloc _) hbel2 (by omega)
             have HR2 : Hid (Blk w2 (w.heap.size + 1) 58 #[.slice none 0 0, .int .i64 0, .bool false, .int .i64 0, .slice none 0 0, .int .i64 0]) := Blk.below (blk2 w _ _ _) hbel2 (by omega)
             have hz2 := hbel2.size
             simp at hz2
             clear hown2 hbel2)
          | (at_builtin
             refine wpList_join rfl _ _ 25 rfl elem8 (w.heap.size + 2) _ _ rfl (HO2.out.alloc _) _ 1 1 (u8s [ch]) rfl (Has.one _ _ _) (u8s_one _) (by rw [u8s_len, HL.out]; omega) (by decide) (by simp <;> omega) ?_
             intro v3 w3 hown3 hbel3
             rw [← u8s_app] at hown3
             have HO3 := Lib.hid hown3
             have HB3 := Lib.hid ((new_alloc HB2.out _).trans (hbel3.mono (by omega)))
             have HX3 : Hid (Blk w3 w.heap.size 58 #[.slice A n c, .int .i64 (last : Int), .bool false, .int .i64 ((all : Int) + 1), .slice B m d, .int .i64 0]) := Blk.below (HX2.out.alloc _) hbel3 (by omega)
             have HR3 : Hid (Blk w3 (w.heap.size + 1) 58 #[.slice none 0 0, .int .i64 0, .bool false, .int .i64 0, .slice none 0 0, .int .i64 0]) := Blk.below (HR2.out.alloc _) hbel3 (by omega)
             obtain ⟨A3, c3, rfl, hh3⟩ := hown3.has
             simp only [u8s_len, List.length_append, List.length_cons, List.length_nil, HL.out] at hh3
             simp only [u8s_len, List.length_append, List.length_cons, List.length_nil, HL.out]
             have HH3 := Lib.hid hh3
             have x0 : w3.cell? ⟨w.heap.size, 0, none⟩ = some (.slice A n c) := HX3.out.cell 0
             have x1 : w3.cell? ⟨w.heap.size, 1, none⟩ = some (.int .i64 (last : Int)) := HX3.out.cell 1
             have x2 : w3.cell? ⟨w.heap.size, 2, none⟩ = some (.bool false) := HX3.out.cell 2
             have x3 : w3.cell? ⟨w.heap.size, 3, none⟩ = some (.int .i64 ((all : Int) + 1)) := HX3.out.cell 3
             have x4 : w3.cell? ⟨w.heap.size, 4, none⟩ = some (.slice B m d) := HX3.out.cell 4
             have x5 : w3.cell? ⟨w.heap.size, 5, none⟩ = some (.int .i64 0) := HX3.out.cell 5
             have f0 := HX3.out.frozen 0
             have f1 := HX3.out.frozen 1
             have f2 := HX3.out.frozen 2
             have f4 := HX3.out.frozen 4
             have f5 := HX3.out.frozen 5
             have r0 : w3.cell? ⟨w.heap.size + 1, 0, none⟩ = some (.slice none 0 0) := HR3.out.cell 0
             have r1 : w3.cell? ⟨w.heap.size + 1, 1, none⟩ = some (.int .i64 0) := HR3.out.cell 1
             have r2 : w3.cell? ⟨w.heap.size + 1, 2, none⟩ = some (.bool false) := HR3.out.cell 2
             have r3 : w3.cell? ⟨w.heap.size + 1, 3, none⟩ = some (.int .i64 0) := HR3.out.cell 3
             have r4 : w3.cell? ⟨w.heap.size + 1, 4, none⟩ = some (.slice none 0 0) := HR3.out.cell 4
             have r5 : w3.cell? ⟨w.heap.size + 1, 5, none⟩ = some (.int .i64 0) := HR3.out.cell 5
             have q0 := HR3.out.frozen 0
             have q1 := HR3.out.frozen 1
             have q2 := HR3.out.frozen 2
             have q3 := HR3.out.frozen 3
             have q4 := HR3.out.frozen 4
             have q5 := HR3.out.frozen 5
             clear hown3 hbel3 HO2 HX2 HR2 hh3))
      rw [HF.out, HF2.out]
      refine step_close hG HB3.out HO3.out HH2.out ?_ (set6 ?_) rfl rfl (by rw [List.length_append, HL.out]; rfl) rfl (by simp) rfl (by simp) (by simp)
      · repeat (first | with_reducible exact Far2.refl _ _ | with_reducible refine Far2.set1 ?_ _ _ | with_reducible refine Far2.set0 ?_ _ _)
      · repeat (first | with_reducible exact HR3.out | with_reducible refine Blk.far0 ?_ _ _)
    · have tl : decide (ch ≤ last) = false := by simpa using hlt
      by_cases h9 : 9 < ch
      · have t9 : decide ((9 : Int) < (ch : Int)) = true := decide_eq_true (by omega)
        have HF2 : Hid (takeN { took := took ++ [ch], last := last, fin := false, all := all + 1, l := l, e := 0 } ch = { took := took ++ [ch], last := last, fin := false, all := all + 1, l := l, e := 11 }) := by
          show _ = _
          unfold takeN; rw [if_pos hl1, if_neg hc0, if_pos (Or.inr h9)]
        clear hl1 hc0 hlt h9
        go_enter Try.func28, Try.ntmps28
        go_wp2_with (first
            | (at_builtin
               refine wpList_join rfl _ _ 25 rfl elem8 (w.heap.size + 2) _ [] rfl (Own.nil _ _ _) _ _ _ _ rfl (HH.out.here.kept (below2 _ _ _)) (u8s_one _) (by simp <;> omega) (by decide) (by simp) ?_
               intro v2 w2 hown2 hbel2
               rw [List.nil_append] at hown2
               have HO2 := Lib.hid hown2
               have HB2 := Lib.hid ((below2 w _ _).trans (hbel2.mono (by omega)))
               have HX2 : Hid (Blk w2 w.heap.size 58 #[.slice A n c, .int .i64 (last : Int), .bool false, .int .i64 ((all : Int) + 1), .slice B m d, .int .i64 0]) := Blk.below ((Blk.new w 58 _).alloc _) hbel2 (by omega)
               have HR2 : Hid (Blk w2 (w.heap.size + 1) 58 #[.slice none 0 0, .int .i64 0, .bool false, .int .i64 0, .slice none 0 0, .int .i64 0]) := Blk.below (blk2 w _ _ _) hbel2 (by omega)
               have hz2 := hbel2.size
               simp at hz2
               clear hown2 hbel2)
            | (at_builtin
               refine wpList_join rfl _ _ 25 rfl elem8 (w.heap.size + 2) _ _ rfl (HO2.out.alloc _) _ 1 1 (u8s [ch]) rfl (Has.one _ _ _) (u8s_one _) (by rw [u8s_len, HL.out]; omega) (by decide) (by simp <;> omega) ?_
               intro v3 w3 hown3 hbel3
               rw [← u8s_app] at hown3
               have HO3 := Lib.hid hown3
               have HB3 := Lib.hid ((new_alloc HB2.out _).trans (hbel3.mono (by omega)))
               have HX3 : Hid (Blk w3 w.heap.size 58 #[.slice A n c, .int .i64 (last : Int), .bool false, .int .i64 ((all : Int) + 1), .slice B m d, .int .i64 0]) := Blk.below (HX2.out.alloc _) hbel3 (by omega)
               have HR3 : Hid (Blk w3 (w.heap.size + 1) 58 #[.slice none 0 0, .int .i64 0, .bool false, .int .i64 0, .slice none 0 0, .int .i64 0]) := Blk.below (HR2.out.alloc _) hbel3 (by omega)
               obtain ⟨A3, c3, rfl, hh3⟩ := hown3.has
               simp only [u8s_len, List.length_append, List.length_cons, List.length_nil, HL.out] at hh3
               simp only [u8s_len, List.length_append, List.length_cons, List.length_nil, HL.out]
               have HH3 := Lib.hid hh3
               have x0 : w3.cell? ⟨w.heap.size, 0, none⟩ = some (.slice A n c) := HX3.out.cell 0
               have x1 : w3.cell? ⟨w.heap.size, 1, none⟩ = some (.int .i64 (last : Int)) := HX3.out.cell 1
               have x2 : w3.cell? ⟨w.heap.size, 2, none⟩ = some (.bool false) := HX3.out.cell 2
               have x3 : w3.cell? ⟨w.heap.size, 3, none⟩ = some (.int .i64 ((all : Int) + 1)) := HX3.out.cell 3
               have x4 : w3.cell? ⟨w.heap.size, 4, none⟩ = some (.slice B m d) := HX3.out.cell 4
               have x5 : w3.cell? ⟨w.heap.size, 5, none⟩ = some (.int .i64 0) := HX3.out.cell 5
               have f0 := HX3.out.frozen 0
               have f1 := HX3.out.frozen 1
               have f2 := HX3.out.frozen 2
               have f4 := HX3.out.frozen 4
               have f5 := HX3.out.frozen 5
               have r0 : w3.cell? ⟨w.heap.size + 1, 0, none⟩ = some (.slice none 0 0) := HR3.out.cell 0
               have r1 : w3.cell? ⟨w.heap.size + 1, 1, none⟩ = some (.int .i64 0) := HR3.out.cell 1
               have r2 : w3.cell? ⟨w.heap.size + 1, 2, none⟩ = some (.bool false) := HR3.out.cell 2
               have r3 : w3.cell? ⟨w.heap.size + 1, 3, none⟩ = some (.int .i64 0) := HR3.out.cell 3
               have r4 : w3.cell? ⟨w.heap.size + 1, 4, none⟩ = some (.slice none 0 0) := HR3.out.cell 4
               have r5 : w3.cell? ⟨w.heap.size + 1, 5, none⟩ = some (.int .i64 0) := HR3.out.cell 5
               have q0 := HR3.out.frozen 0
               have q1 := HR3.out.frozen 1
               have q2 := HR3.out.frozen 2
               have q3 := HR3.out.frozen 3
               have q4 := HR3.out.frozen 4
               have q5 := HR3.out.frozen 5
               clear hown3 hbel3 HO2 HX2 HR2 hh3))
        rw [HF.out, HF2.out]
        refine step_close hG HB3.out HO3.out HH2.out ?_ (set6 ?_) rfl rfl (by rw [List.length_append, HL.out]; rfl) rfl (by simp) rfl (by simp) (by simp)
        · repeat (first | with_reducible exact Far2.refl _ _ | with_reducible refine Far2.set1 ?_ _ _ | with_reducible refine Far2.set0 ?_ _ _)
        · repeat (first | with_reducible exact HR3.out | with_reducible refine Blk.far0 ?_ _ _)
      · have t9 : decide ((9 : Int) < (ch : Int)) = false := decide_eq_false (by omega)
        have HF2 : Hid (takeN { took := took ++ [ch], last := last, fin := false, all := all + 1, l := l, e := 0 } ch = { took := took ++ [ch], last := last, fin := false, all := all + 1, l := l, e := 0 }) := by
          show _ = _
          unfold takeN; rw [if_pos hl1, if_neg hc0, if_neg (by show ¬ (ch ≤ last ∨ 9 < ch); omega)]
        clear hl1 hc0 hlt h9
        go_enter Try.func28, Try.ntmps28
        go_wp2_with (first
            | (at_builtin
               refine wpList_join rfl _ _ 25 rfl elem8 (w.heap.size + 2) _ [] rfl (Own.nil _ _ _) _ _ _ _ rfl (HH.out.here.kept (below2 _ _ _)) (u8s_one _) (by simp <;> omega) (by decide) (by simp) ?_
               intro v2 w2 hown2 hbel2
               rw [List.nil_append] at hown2
               have HO2 := Lib.hid hown2
               have HB2 := Lib.hid ((below2 w _ _).trans (hbel2.mono (by omega)))
               have HX2 : Hid (Blk w2 w.heap.size 58 #[.slice A n c, .int .i64 (last : Int), .bool false, .int .i64 ((all : Int) + 1), .slice B m d, .int .i64 0]) := Blk.below ((Blk.new w 58 _).alloc _) hbel2 (by omega)
               have HR2 : Hid (Blk w2 (w.heap.size + 1) 58 #[.slice none 0 0, .int .i64 0, .bool false, .int .i64 0, .slice none 0 0, .int .i64 0]) := Blk.below (blk2 w _ _ _) hbel2 (by omega)
               have hz2 := hbel2.size
               simp at hz2
               clear hown2 hbel2)
            | (at_builtin
               refine wpList_join rfl _ _ 25 rfl elem8 (w.heap.size + 2) _ _ rfl (HO2.out.alloc _) _ 1 1 (u8s [ch]) rfl (Has.one _ _ _) (u8s_one _) (by rw [u8s_len, HL.out]; omega) (by decide) (by simp <;> omega) ?_
               intro v3 w3 hown3 hbel3
               rw [← u8s_app] at hown3
               have HO3 := Lib.hid hown3
               have HB3 := Lib.hid ((new_alloc HB2.out _).trans (hbel3.mono (by omega)))
               have HX3 : Hid (Blk w3 w.heap.size 58 #[.slice A n c, .int .i64 (last : Int), .bool false, .int .i64 ((all : Int) + 1), .slice B m d, .int .i64 0]) := Blk.below (HX2.out.alloc _) hbel3 (by omega)
               have HR3 : Hid (Blk w3 (w.heap.size + 1) 58 #[.slice none 0 0, .int .i64 0, .bool false, .int .i64 0, .slice none 0 0, .int .i64 0]) := Blk.below (HR2.out.alloc _) hbel3 (by omega)
               obtain ⟨A3, c3, rfl, hh3⟩ := hown3.has
               simp only [u8s_len, List.length_append, List.length_cons, List.length_nil, HL.out] at hh3
               simp only [u8s_len, List.length_append, List.length_cons, List.length_nil, HL.out]
               have HH3 := Lib.hid hh3
               have x0 : w3.cell? ⟨w.heap.size, 0, none⟩ = some (.slice A n c) := HX3.out.cell 0
               have x1 : w3.cell? ⟨w.heap.size, 1, none⟩ = some (.int .i64 (last : Int)) := HX3.out.cell 1
               have x2 : w3.cell? ⟨w.heap.size, 2, none⟩ = some (.bool false) := HX3.out.cell 2
               have x3 : w3.cell? ⟨w.heap.size, 3, none⟩ = some (.int .i64 ((all : Int) + 1)) := HX3.out.cell 3
               have x4 : w3.cell? ⟨w.heap.size, 4, none⟩ = some (.slice B m d) := HX3.out.cell 4
               have x5 : w3.cell? ⟨w.heap.size, 5, none⟩ = some (.int .i64 0) := HX3.out.cell 5
               have f0 := HX3.out.frozen 0
               have f1 := HX3.out.frozen 1
               have f2 := HX3.out.frozen 2
               have f4 := HX3.out.frozen 4
               have f5 := HX3.out.frozen 5
               have r0 : w3.cell? ⟨w.heap.size + 1, 0, none⟩ = some (.slice none 0 0) := HR3.out.cell 0
               have r1 : w3.cell? ⟨w.heap.size + 1, 1, none⟩ = some (.int .i64 0) := HR3.out.cell 1
               have r2 : w3.cell? ⟨w.heap.size + 1, 2, none⟩ = some (.bool false) := HR3.out.cell 2
               have r3 : w3.cell? ⟨w.heap.size + 1, 3, none⟩ = some (.int .i64 0) := HR3.out.cell 3
               have r4 : w3.cell? ⟨w.heap.size + 1, 4, none⟩ = some (.slice none 0 0) := HR3.out.cell 4
               have r5 : w3.cell? ⟨w.heap.size + 1, 5, none⟩ = some (.int .i64 0) := HR3.out.cell 5
               have q0 := HR3.out.frozen 0
               have q1 := HR3.out.frozen 1
               have q2 := HR3.out.frozen 2
               have q3 := HR3.out.frozen 3
               have q4 := HR3.out.frozen 4
               have q5 := HR3.out.frozen 5
               clear hown3 hbel3 HO2 HX2 HR2 hh3))
        rw [HF.out, HF2.out]
        refine step_close hG HB3.out HO3.out HH2.out ?_ (set6 ?_) rfl rfl (by rw [List.length_append, HL.out]; rfl) rfl (by simp) rfl (by simp) (by simp)
        · repeat (first | with_reducible exact Far2.refl _ _ | with_reducible refine Far2.set1 ?_ _ _ | with_reducible refine Far2.set0 ?_ _ _)
        · repeat (first | with_reducible exact HR3.out | with_reducible refine Blk.far0 ?_ _ _)
end Go.Proofs.Ytbmdgoljjffjdaa
