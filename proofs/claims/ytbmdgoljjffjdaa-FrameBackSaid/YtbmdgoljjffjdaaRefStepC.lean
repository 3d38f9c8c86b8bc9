/- lapidaryref03.Step: a section's bytes, on. -/
import Derived.Test.YtbmdgoljjffjdaaRefStepB
namespace Go.Proofs.Ytbmdgoljjffjdaa
open Go.RowKit

theorem takeN_more (took : List Nat) (ch last all : Nat) (l : List Sec) (hl1 : ¬ (took ++ [ch]).length = 1) : takeN { took := took ++ [ch], last := last, fin := false, all := all + 1, l := l, e := 0 } ch =
    if (get (took ++ [ch]) 1).2.2 = 10 then { took := took ++ [ch], last := last, fin := false, all := all + 1, l := l, e := 0 } else if (get (took ++ [ch]) 1).2.2 ≠ 0 then { took := took ++ [ch], last := last, fin := false, all := all + 1, l := l, e := (get (took ++ [ch]) 1).2.2 }
    else if 1048576 < (get (took ++ [ch]) 1).1 then { took := took ++ [ch], last := last, fin := false, all := all + 1, l := l, e := 3 } else if (took ++ [ch]).length < (get (took ++ [ch]) 1).2.1 + (get (took ++ [ch]) 1).1 + 4 then { took := took ++ [ch], last := last, fin := false, all := all + 1, l := l, e := 0 }
    else if (checkN (took ++ [ch])).2 ≠ 0 then { took := took ++ [ch], last := last, fin := false, all := all + 1, l := l, e := (checkN (took ++ [ch])).2 }
    else { took := [], last := (took ++ [ch]).headD 0, fin := false, all := all + 1, l := l ++ [(((took ++ [ch]).headD 0 : Int), (checkN (took ++ [ch])).1.drop (get (took ++ [ch]) 1).2.1)], e := 0 } := by
  unfold takeN
  rw [if_neg hl1]

set_option maxRecDepth 100000 in
set_option maxHeartbeats 1000000 in
theorem refStep_stay (A : Option Addr) (n c : Nat) (B : Option Addr) (m d : Nat) (s : St) (ch : Nat) (w : World) (G : Nat) (hG : G < w.heap.size) (h : Rob G w fun W => Has W A n c (u8s s.took)) (h2 : SecsR G w B m d s.l) (he : s.e = 0) (hf : s.fin = false) (ha : 5 ≤ s.all) (ha2 : s.all ≤ 1000000000) (hn : n ≤ 90000) (hn0 : 1 ≤ n) (hch : ch < 256) (hby : ∀ x ∈ s.took, x < 256)
    (hstay : (get (s.took ++ [ch]) 1).2.2 ≠ 0 ∨ 1048576 < (get (s.took ++ [ch]) 1).1 ∨ (s.took ++ [ch]).length < (get (s.took ++ [ch]) 1).2.1 + (get (s.took ++ [ch]) 1).1 + 4) :
    Calls Try.prog 28 #[.agg #[.slice A n c, .int .i64 (s.last : Int), .bool s.fin, .int .i64 (s.all : Int), .slice B m d, .int .i64 (s.e : Int)], .int .u8 (ch : Int)] w (Stepd G w (stepN s ch)) := by
  have HBy : Hid (∀ x ∈ s.took ++ [ch], x < 256) := fun x hx => by
    rcases List.mem_append.1 hx with hx | hx
    · exact hby x hx
    · simp at hx; omega
  clear hby
  have HF : Hid (stepN s ch = takeN { s with all := s.all + 1, took := s.took ++ [ch] } ch) := by show _ = _; unfold stepN; rw [if_neg (by simp [he]), if_neg (by simp [hf]), if_neg (by omega)]
  have HH := Lib.hid h
  have HH2 := Lib.hid h2
  have HL : Hid (s.took.length = n) := by have := h.here.len; rw [u8s_len] at this; exact this
  clear h h2
  obtain ⟨took, last, fin, all, l, e⟩ := s
  simp only at *
  subst he hf
  have ta : decide ((all : Int) + 1 ≤ 5) = false := decide_eq_false (by omega)
  have t1 : ((n : Int) + 1 == 1) = false := by rw [beq_eq_false_iff_ne]; omega
  have hlen : (took ++ [ch]).length = n + 1 := by rw [List.length_append, HL.out]; rfl
  have HTk := Lib.hid (takeN_more took ch last all l (by omega))
  have HMv := Lib.hid (get_moves (bs := took ++ [ch]) (k := 1))
  have hgl := get_lt (took ++ [ch]) 1
  have HGet : Hid (∀ (W : World) (A3 : Option Addr) (c3 : Nat), Has W A3 (n + 1) c3 (u8s (took ++ [ch])) → Calls Try.prog 36 #[.slice A3 (n + 1) c3, .int .i64 1] W fun e w' => e = .returned (.tuple #[.int .u64 (get (took ++ [ch]) 1).1, .int .i64 (get (took ++ [ch]) 1).2.1, .int .i64 (get (took ++ [ch]) 1).2.2]) ∧ W = w') :=
    fun W A3 c3 hh => refGet_any A3 _ c3 (took ++ [ch]) 1 W hh HBy.out (by omega)
  generalize (get (took ++ [ch]) 1) = gg at *
  obtain ⟨gn, gto, ge⟩ := gg
  simp only at *
  by_cases h10 : ge = 10
  · have te : ((ge : Int) == 10) = true := by rw [h10]; rfl
    have HF2 : Hid (takeN { took := took ++ [ch], last := last, fin := false, all := all + 1, l := l, e := 0 } ch = { took := took ++ [ch], last := last, fin := false, all := all + 1, l := l, e := 0 }) := by
      show _ = _
      rw [HTk.out, if_pos h10]
    clear hlen h10 HTk HMv hstay hn0
    go_enter Try.func28, Try.ntmps28
    go_wp2_with (first
        | (at_builtin
           refine wpList_join rfl _ _ 25 rfl elem8 (w.heap.size + 2) _ [] rfl (Own.nil _ _ _) _ _ _ _ rfl (HH.out.here.kept (below2 _ _ _)) (u8s_one _) (by simp <;> omega) (by decide) (by simp) ?_
           intro v2 w2 hown2 hbel2
           rw [List.nil_append] at hown2
           have HO2 := Lib.hid hown2
           have HB2 := Lib.hid ((below2 w _ _).trans (hbel2.mono (by omega)))
           have HX2 : Hid (Blk w2 w.heap.size 58 #[.slice A n c, .int .i64 (last : Int), .bool false, .int .i64 ((all : Int) + 1), .slice B m d, .int .i64 0]) := Blk.below ((Blk.new w 58 _).alloc _) hbel2 (by omega)
           have HR2 : Hid (Blk w2 (w.heap.size + 1) 58 #[.slice none 0 0, .int .i64 0, .bool false, .int .i64 0, .slice none 0 0, .int .i64 0]) := Blk.below (blk2 w _ _ _) hbel2 (by omega)
           have hz2 := hbel2.size
           simp at hz2
           clear hown2 hbel2)
        | (at_builtin
           refine wpList_join rfl _ _ 25 rfl elem8 (w.heap.size + 2) _ _ rfl (HO2.out.alloc _) _ 1 1 (u8s [ch]) rfl (Has.one _ _ _) (u8s_one _) (by rw [u8s_len, HL.out]; omega) (by decide) (by simp <;> omega) ?_
           intro v3 w3 hown3 hbel3
           rw [← u8s_app] at hown3
           have HO3 := Lib.hid hown3
           have HB3 := Lib.hid ((new_alloc HB2.out _).trans (hbel3.mono (by omega)))
           have HX3 : Hid (Blk w3 w.heap.size 58 #[.slice A n c, .int .i64 (last : Int), .bool false, .int .i64 ((all : Int) + 1), .slice B m d, .int .i64 0]) := Blk.below (HX2.out.alloc _) hbel3 (by omega)
           have HR3 : Hid (Blk w3 (w.heap.size + 1) 58 #[.slice none 0 0, .int .i64 0, .bool false, .int .i64 0, .slice none 0 0, .int .i64 0]) := Blk.below (HR2.out.alloc _) hbel3 (by omega)
           obtain ⟨A3, c3, rfl, hh3⟩ := hown3.has
           simp only [u8s_len, List.length_append, List.length_cons, List.length_nil, HL.out] at hh3
           simp only [u8s_len, List.length_append, List.length_cons, List.length_nil, HL.out]
           have HH3 := Lib.hid hh3
           have x0 : w3.cell? ⟨w.heap.size, 0, none⟩ = some (.slice A n c) := HX3.out.cell 0
           have x1 : w3.cell? ⟨w.heap.size, 1, none⟩ = some (.int .i64 (last : Int)) := HX3.out.cell 1
           have x2 : w3.cell? ⟨w.heap.size, 2, none⟩ = some (.bool false) := HX3.out.cell 2
           have x3 : w3.cell? ⟨w.heap.size, 3, none⟩ = some (.int .i64 ((all : Int) + 1)) := HX3.out.cell 3
           have x4 : w3.cell? ⟨w.heap.size, 4, none⟩ = some (.slice B m d) := HX3.out.cell 4
           have x5 : w3.cell? ⟨w.heap.size, 5, none⟩ = some (.int .i64 0) := HX3.out.cell 5
           have f0 := HX3.out.frozen 0
           have f1 := HX3.out.frozen 1
           have f2 := HX3.out.frozen 2
           have f4 := HX3.out.frozen 4
           have f5 := HX3.out.frozen 5
           have r0 : w3.cell? ⟨w.heap.size + 1, 0, none⟩ = some (.slice none 0 0) := HR3.out.cell 0
           have r1 : w3.cell? ⟨w.heap.size + 1, 1, none⟩ = some (.int .i64 0) := HR3.out.cell 1
           have r2 : w3.cell? ⟨w.heap.size + 1, 2, none⟩ = some (.bool false) := HR3.out.cell 2
           have r3 : w3.cell? ⟨w.heap.size + 1, 3, none⟩ = some (.int .i64 0) := HR3.out.cell 3
           have r4 : w3.cell? ⟨w.heap.size + 1, 4, none⟩ = some (.slice none 0 0) := HR3.out.cell 4
           have r5 : w3.cell? ⟨w.heap.size + 1, 5, none⟩ = some (.int .i64 0) := HR3.out.cell 5
           have q0 := HR3.out.frozen 0
           have q1 := HR3.out.frozen 1
           have q2 := HR3.out.frozen 2
           have q3 := HR3.out.frozen 3
           have q4 := HR3.out.frozen 4
           have q5 := HR3.out.frozen 5
           have HHs : Hid (Has (w3.setCell ⟨w.heap.size, 0, none⟩ (.slice A3 (n + 1) c3)) A3 (n + 1) c3 (u8s (took ++ [ch]))) := by
             obtain ⟨A', c', hv, hh⟩ := (((Far2.refl w.heap.size w3).set0 0 (.slice A3 (n + 1) c3)).own hown3).has
             simp only [u8s_len, List.length_append, List.length_cons, List.length_nil, HL.out] at hv hh
             cases hv
             exact hh
           clear hown3 hbel3 HO2 HX2 HR2 hh3)
        | (go_at_call 36
           refine (HGet.out _ _ _ HHs.out).mono ?_
           rintro e w' ⟨rfl, rfl⟩))
    rw [HF.out, HF2.out]
    refine step_close hG HB3.out HO3.out HH2.out ?_ (set6 ?_) rfl rfl (by rw [List.length_append, HL.out]; rfl) rfl (by simp) rfl (by simp) (by simp)
    · repeat (first | with_reducible exact Far2.refl _ _ | with_reducible refine Far2.set1 ?_ _ _ | with_reducible refine Far2.set0 ?_ _ _)
    · repeat (first | with_reducible exact HR3.out | with_reducible refine Blk.far0 ?_ _ _)
  · have te : ((ge : Int) == 10) = false := by rw [beq_eq_false_iff_ne]; omega
    by_cases h0 : ge = 0
    · have te0 : ((ge : Int) != 0) = false := by rw [h0]; rfl
      by_cases hbig : 1048576 < gn
      · have tb : decide ((1048576 : Int) < (gn : Int)) = true := decide_eq_true (by omega)
        have HF2 : Hid (takeN { took := took ++ [ch], last := last, fin := false, all := all + 1, l := l, e := 0 } ch = { took := took ++ [ch], last := last, fin := false, all := all + 1, l := l, e := 3 }) := by
          show _ = _
          rw [HTk.out, if_neg h10, if_neg (by simp [h0]), if_pos hbig]
        clear hlen h10 h0 hbig HTk HMv hstay hn0
        go_enter Try.func28, Try.ntmps28
        go_wp2_with (first
            | (at_builtin
               refine wpList_join rfl _ _ 25 rfl elem8 (w.heap.size + 2) _ [] rfl (Own.nil _ _ _) _ _ _ _ rfl (HH.out.here.kept (below2 _ _ _)) (u8s_one _) (by simp <;> omega) (by decide) (by simp) ?_
               intro v2 w2 hown2 hbel2
               rw [List.nil_append] at hown2
               have HO2 := Lib.hid hown2
               have HB2 := Lib.hid ((below2 w _ _).trans (hbel2.mono (by omega)))
               have HX2 : Hid (Blk w2 w.heap.size 58 #[.slice A n c, .int .i64 (last : Int), .bool false, .int .i64 ((all : Int) + 1), .slice B m d, .int .i64 0]) := Blk.below ((Blk.new w 58 _).alloc _) hbel2 (by omega)
               have HR2 : Hid (Blk w2 (w.heap.size + 1) 58 #[.slice none 0 0, .int .i64 0, .bool false, .int .i64 0, .slice none 0 0, .int .i64 0]) := Blk.below (blk2 w _ _ _) hbel2 (by omega)
               have hz2 := hbel2.size
               simp at hz2
               clear hown2 hbel2)
            | (at_builtin
               refine wpList_join rfl _ _ 25 rfl elem8 (w.heap.size + 2) _ _ rfl (HO2.out.alloc _) _ 1 1 (u8s [ch]) rfl (Has.one _ _ _) (u8s_one _) (by rw [u8s_len, HL.out]; omega) (by decide) (by simp <;> omega) ?_
               intro v3 w3 hown3 hbel3
               rw [← u8s_app] at hown3
               have HO3 := Lib.hid hown3
               have HB3 := Lib.hid ((new_alloc HB2.out _).trans (hbel3.mono (by omega)))
               have HX3 : Hid (Blk w3 w.heap.size 58 #[.slice A n c, .int .i64 (last : Int), .bool false, .int .i64 ((all : Int) + 1), .slice B m d, .int .i64 0]) := Blk.below (HX2.out.alloc _) hbel3 (by omega)
               have HR3 : Hid (Blk w3 (w.heap.size + 1) 58 #[.slice none 0 0, .int .i64 0, .bool false, .int .i64 0, .slice none 0 0, .int .i64 0]) := Blk.below (HR2.out.alloc _) hbel3 (by omega)
               obtain ⟨A3, c3, rfl, hh3⟩ := hown3.has
               simp only [u8s_len, List.length_append, List.length_cons, List.length_nil, HL.out] at hh3
               simp only [u8s_len, List.length_append, List.length_cons, List.length_nil, HL.out]
               have HH3 := Lib.hid hh3
               have x0 : w3.cell? ⟨w.heap.size, 0, none⟩ = some (.slice A n c) := HX3.out.cell 0
               have x1 : w3.cell? ⟨w.heap.size, 1, none⟩ = some (.int .i64 (last : Int)) := HX3.out.cell 1
               have x2 : w3.cell? ⟨w.heap.size, 2, none⟩ = some (.bool false) := HX3.out.cell 2
               have x3 : w3.cell? ⟨w.heap.size, 3, none⟩ = some (.int .i64 ((all : Int) + 1)) := HX3.out.cell 3
               have x4 : w3.cell? ⟨w.heap.size, 4, none⟩ = some (.slice B m d) := HX3.out.cell 4
               have x5 : w3.cell? ⟨w.heap.size, 5, none⟩ = some (.int .i64 0) := HX3.out.cell 5
               have f0 := HX3.out.frozen 0
               have f1 := HX3.out.frozen 1
               have f2 := HX3.out.frozen 2
               have f4 := HX3.out.frozen 4
               have f5 := HX3.out.frozen 5
               have r0 : w3.cell? ⟨w.heap.size + 1, 0, none⟩ = some (.slice none 0 0) := HR3.out.cell 0
               have r1 : w3.cell? ⟨w.heap.size + 1, 1, none⟩ = some (.int .i64 0) := HR3.out.cell 1
               have r2 : w3.cell? ⟨w.heap.size + 1, 2, none⟩ = some (.bool false) := HR3.out.cell 2
               have r3 : w3.cell? ⟨w.heap.size + 1, 3, none⟩ = some (.int .i64 0) := HR3.out.cell 3
               have r4 : w3.cell? ⟨w.heap.size + 1, 4, none⟩ = some (.slice none 0 0) := HR3.out.cell 4
               have r5 : w3.cell? ⟨w.heap.size + 1, 5, none⟩ = some (.int .i64 0) := HR3.out.cell 5
               have q0 := HR3.out.frozen 0
               have q1 := HR3.out.frozen 1
               have q2 := HR3.out.frozen 2
               have q3 := HR3.out.frozen 3
               have q4 := HR3.out.frozen 4
               have q5 := HR3.out.frozen 5
               have HHs : Hid (Has (w3.setCell ⟨w.heap.size, 0, none⟩ (.slice A3 (n + 1) c3)) A3 (n + 1) c3 (u8s (took ++ [ch]))) := by
                 obtain ⟨A', c', hv, hh⟩ := (((Far2.refl w.heap.size w3).set0 0 (.slice A3 (n + 1) c3)).own hown3).has
                 simp only [u8s_len, List.length_append, List.length_cons, List.length_nil, HL.out] at hv hh
                 cases hv
                 exact hh
               clear hown3 hbel3 HO2 HX2 HR2 hh3)
            | (go_at_call 36
               refine (HGet.out _ _ _ HHs.out).mono ?_
               rintro e w' ⟨rfl, rfl⟩))
        rw [HF.out, HF2.out]
        refine step_close hG HB3.out HO3.out HH2.out ?_ (set6 ?_) rfl rfl (by rw [List.length_append, HL.out]; rfl) rfl (by simp) rfl (by simp) (by simp)
        · repeat (first | with_reducible exact Far2.refl _ _ | with_reducible refine Far2.set1 ?_ _ _ | with_reducible refine Far2.set0 ?_ _ _)
        · repeat (first | with_reducible exact HR3.out | with_reducible refine Blk.far0 ?_ _ _)
      · have tb : decide ((1048576 : Int) < (gn : Int)) = false := decide_eq_false (by omega)
        have hsh : (took ++ [ch]).length < gto + gn + 4 := by omega
        have hmv := (HMv.out h0).2
        have hnb : gn ≤ 1048576 := by omega
        have hto : gto ≤ n + 1 := by omega
        have ts : decide ((n : Int) + 1 < (gto : Int) + (gn : Int) + 4) = true := decide_eq_true (by omega)
        have HF2 : Hid (takeN { took := took ++ [ch], last := last, fin := false, all := all + 1, l := l, e := 0 } ch = { took := took ++ [ch], last := last, fin := false, all := all + 1, l := l, e := 0 }) := by
          show _ = _
          rw [HTk.out, if_neg h10, if_neg (by simp [h0]), if_neg hbig, if_pos hsh]
        clear hlen h10 h0 hbig hmv hsh HTk HMv hstay hn0
        go_enter Try.func28, Try.ntmps28
        go_wp2_with (first
            | (at_builtin
               refine wpList_join rfl _ _ 25 rfl elem8 (w.heap.size + 2) _ [] rfl (Own.nil _ _ _) _ _ _ _ rfl (HH.out.here.kept (below2 _ _ _)) (u8s_one _) (by simp <;> omega) (by decide) (by simp) ?_
               intro v2 w2 hown2 hbel2
               rw [List.nil_append] at hown2
               have HO2 := Lib.hid hown2
               have HB2 := Lib.hid ((below2 w _ _).trans (hbel2.mono (by omega)))
               have HX2 : Hid (Blk w2 w.heap.size 58 #[.slice A n c, .int .i64 (last : Int), .bool false, .int .i64 ((all : Int) + 1), .slice B m d, .int .i64 0]) := Blk.below ((Blk.new w 58 _).alloc _) hbel2 (by omega)
               have HR2 : Hid (Blk w2 (w.heap.size + 1) 58 #[.slice none 0 0, .int .i64 0, .bool false, .int .i64 0, .slice none 0 0, .int .i64 0]) := Blk.below (blk2 w _ _ _) hbel2 (by omega)
               have hz2 := hbel2.size
               simp at hz2
               clear hown2 hbel2)
            | (at_builtin
               refine wpList_join rfl _ _ 25 rfl elem8 (w.heap.size + 2) _ _ rfl (HO2.out.alloc _) _ 1 1 (u8s [ch]) rfl (Has.one _ _ _) (u8s_one _) (by rw [u8s_len, HL.out]; omega) (by decide) (by simp <;> omega) ?_
               intro v3 w3 hown3 hbel3
               rw [← u8s_app] at hown3
               have HO3 := Lib.hid hown3
               have HB3 := Lib.hid ((new_alloc HB2.out _).trans (hbel3.mono (by omega)))
               have HX3 : Hid (Blk w3 w.heap.size 58 #[.slice A n c, .int .i64 (last : Int), .bool false, .int .i64 ((all : Int) + 1), .slice B m d, .int .i64 0]) := Blk.below (HX2.out.alloc _) hbel3 (by omega)
               have HR3 : Hid (Blk w3 (w.heap.size + 1) 58 #[.slice none 0 0, .int .i64 0, .bool false, .int .i64 0, .slice none 0 0, .int .i64 0]) := Blk.below (HR2.out.alloc _) hbel3 (by omega)
               obtain ⟨A3, c3, rfl, hh3⟩ := hown3.has
               simp only [u8s_len, List.length_append, List.length_cons, List.length_nil, HL.out] at hh3
               simp only [u8s_len, List.length_append, List.length_cons, List.length_nil, HL.out]
               have HH3 := Lib.hid hh3
               have x0 : w3.cell? ⟨w.heap.size, 0, none⟩ = some (.slice A n c) := HX3.out.cell 0
               have x1 : w3.cell? ⟨w.heap.size, 1, none⟩ = some (.int .i64 (last : Int)) := HX3.out.cell 1
               have x2 : w3.cell? ⟨w.heap.size, 2, none⟩ = some (.bool false) := HX3.out.cell 2
               have x3 : w3.cell? ⟨w.heap.size, 3, none⟩ = some (.int .i64 ((all : Int) + 1)) := HX3.out.cell 3
               have x4 : w3.cell? ⟨w.heap.size, 4, none⟩ = some (.slice B m d) := HX3.out.cell 4
               have x5 : w3.cell? ⟨w.heap.size, 5, none⟩ = some (.int .i64 0) := HX3.out.cell 5
               have f0 := HX3.out.frozen 0
               have f1 := HX3.out.frozen 1
               have f2 := HX3.out.frozen 2
               have f4 := HX3.out.frozen 4
               have f5 := HX3.out.frozen 5
               have r0 : w3.cell? ⟨w.heap.size + 1, 0, none⟩ = some (.slice none 0 0) := HR3.out.cell 0
               have r1 : w3.cell? ⟨w.heap.size + 1, 1, none⟩ = some (.int .i64 0) := HR3.out.cell 1
               have r2 : w3.cell? ⟨w.heap.size + 1, 2, none⟩ = some (.bool false) := HR3.out.cell 2
               have r3 : w3.cell? ⟨w.heap.size + 1, 3, none⟩ = some (.int .i64 0) := HR3.out.cell 3
               have r4 : w3.cell? ⟨w.heap.size + 1, 4, none⟩ = some (.slice none 0 0) := HR3.out.cell 4
               have r5 : w3.cell? ⟨w.heap.size + 1, 5, none⟩ = some (.int .i64 0) := HR3.out.cell 5
               have q0 := HR3.out.frozen 0
               have q1 := HR3.out.frozen 1
               have q2 := HR3.out.frozen 2
               have q3 := HR3.out.frozen 3
               have q4 := HR3.out.frozen 4
               have q5 := HR3.out.frozen 5
               have HHs : Hid (Has (w3.setCell ⟨w.heap.size, 0, none⟩ (.slice A3 (n + 1) c3)) A3 (n + 1) c3 (u8s (took ++ [ch]))) := by
                 obtain ⟨A', c', hv, hh⟩ := (((Far2.refl w.heap.size w3).set0 0 (.slice A3 (n + 1) c3)).own hown3).has
                 simp only [u8s_len, List.length_append, List.length_cons, List.length_nil, HL.out] at hv hh
                 cases hv
                 exact hh
               clear hown3 hbel3 HO2 HX2 HR2 hh3)
            | (go_at_call 36
               refine (HGet.out _ _ _ HHs.out).mono ?_
               rintro e w' ⟨rfl, rfl⟩))
        rw [HF.out, HF2.out]
        refine step_close hG HB3.out HO3.out HH2.out ?_ (set6 ?_) rfl rfl (by rw [List.length_append, HL.out]; rfl) rfl (by simp) rfl (by simp) (by simp)
        · repeat (first | with_reducible exact Far2.refl _ _ | with_reducible refine Far2.set1 ?_ _ _ | with_reducible refine Far2.set0 ?_ _ _)
        · repeat (first | with_reducible exact HR3.out | with_reducible refine Blk.far0 ?_ _ _)
    · have te0 : ((ge : Int) != 0) = true := by rw [bne_iff_ne]; omega
      have HF2 : Hid (takeN { took := took ++ [ch], last := last, fin := false, all := all + 1, l := l, e := 0 } ch = { took := took ++ [ch], last := last, fin := false, all := all + 1, l := l, e := ge }) := by
        show _ = _
        rw [HTk.out, if_neg h10, if_pos h0]
      clear hlen h10 h0 HTk HMv hstay hn0
      go_enter Try.func28, Try.ntmps28
      go_wp2_with (first
          | (at_builtin
             refine wpList_join rfl _ _ 25 rfl elem8 (w.heap.size + 2) _ [] rfl (Own.nil _ _ _) _ _ _ _ rfl (HH.out.here.kept (below2 _ _ _)) (u8s_one _) (by simp <;> omega) (by decide) (by simp) ?_
             intro v2 w2 hown2 hbel2
             rw [List.nil_append] at hown2
             have HO2 := Lib.hid hown2
             have HB2 := Lib.hid ((below2 w _ _).trans (hbel2.mono (by omega)))
             have HX2 : Hid (Blk w2 w.heap.size 58 #[.slice A n c, .int .i64 (last : Int), .bool false, .int .i64 ((all : Int) + 1), .slice B m d, .int .i64 0]) := Blk.below ((Blk.new w 58 _).alloc _) hbel2 (by omega)
             have HR2 : Hid (Blk w2 (w.heap.size + 1) 58 #[.slice none 0 0, .int .i64 0, .bool false, .int .i64 0, .slice none 0 0, .int .i64 0]) := Blk.below (blk2 w _ _ _) hbel2 (by omega)
             have hz2 := hbel2.size
             simp at hz2
             clear hown2 hbel2)
          | (at_builtin
             refine wpList_join rfl _ _ 25 rfl elem8 (w.heap.size + 2) _ _ rfl (HO2.out.alloc _) _ 1 1 (u8s [ch]) rfl (Has.one _ _ _) (u8s_one _) (by rw [u8s_len, HL.out]; omega) (by decide) (by simp <;> omega) ?_
             intro v3 w3 hown3 hbel3
             rw [← u8s_app] at hown3
             have HO3 := Lib.hid hown3
             have HB3 := Lib.hid ((new_alloc HB2.out _).trans (hbel3.mono (by omega)))
             have HX3 : Hid (Blk w3 w.heap.size 58 #[.slice A n c, .int .i64 (last : Int), .bool false, .int .i64 ((all : Int) + 1), .slice B m d, .int .i64 0]) := Blk.below (HX2.out.alloc _) hbel3 (by omega)
             have HR3 : Hid (Blk w3 (w.heap.size + 1) 58 #[.slice none 0 0, .int .i64 0, .bool false, .int .i64 0, .slice none 0 0, .int .i64 0]) := Blk.below (HR2.out.alloc _) hbel3 (by omega)
             obtain ⟨A3, c3, rfl, hh3⟩ := hown3.has
             simp only [u8s_len, List.length_append, List.length_cons, List.length_nil, HL.out] at hh3
             simp only [u8s_len, List.length_append, List.length_cons, List.length_nil, HL.out]
             have HH3 := Lib.hid hh3
             have x0 : w3.cell? ⟨w.heap.size, 0, none⟩ = some (.slice A n c) := HX3.out.cell 0
             have x1 : w3.cell? ⟨w.heap.size, 1, none⟩ = some (.int .i64 (last : Int)) := HX3.out.cell 1
             have x2 : w3.cell? ⟨w.heap.size, 2, none⟩ = some (.bool false) := HX3.out.cell 2
             have x3 : w3.cell? ⟨w.heap.size, 3, none⟩ = some (.int .i64 ((all : Int) + 1)) := HX3.out.cell 3
             have x4 : w3.cell? ⟨w.heap.size, 4, none⟩ = some (.slice B m d) := HX3.out.cell 4
             have x5 : w3.cell? ⟨w.heap.size, 5, none⟩ = some (.int .i64 0) := HX3.out.cell 5
             have f0 := HX3.out.frozen 0
             have f1 := HX3.out.frozen 1
             have f2 := HX3.out.frozen 2
             have f4 := HX3.out.frozen 4
             have f5 := HX3.out.frozen 5
             have r0 : w3.cell? ⟨w.heap.size + 1, 0, none⟩ = some (.slice none 0 0) := HR3.out.cell 0
             have r1 : w3.cell? ⟨w.heap.size + 1, 1, none⟩ = some (.int .i64 0) := HR3.out.cell 1
             have r2 : w3.cell? ⟨w.heap.size + 1, 2, none⟩ = some (.bool false) := HR3.out.cell 2
             have r3 : w3.cell? ⟨w.heap.size + 1, 3, none⟩ = some (.int .i64 0) := HR3.out.cell 3
             have r4 : w3.cell? ⟨w.heap.size + 1, 4, none⟩ = some (.slice none 0 0) := HR3.out.cell 4
             have r5 : w3.cell? ⟨w.heap.size + 1, 5, none⟩ = some (.int .i64 0) := HR3.out.cell 5
             have q0 := HR3.out.frozen 0
             have q1 := HR3.out.frozen 1
             have q2 := HR3.out.frozen 2
             have q3 := HR3.out.frozen 3
             have q4 := HR3.out.frozen 4
             have q5 := HR3.out.frozen 5
             have HHs : Hid (Has (w3.setCell ⟨w.heap.size, 0, none⟩ (.slice A3 (n + 1) c3)) A3 (n + 1) c3 (u8s (took ++ [ch]))) := by
               obtain ⟨A', c', hv, hh⟩ := (((Far2.refl w.heap.size w3).set0 0 (.slice A3 (n + 1) c3)).own hown3).has
               simp only [u8s_len, List.length_append, List.length_cons, List.length_nil, HL.out] at hv hh
               cases hv
               exact hh
             clear hown3 hbel3 HO2 HX2 HR2 hh3)
          | (go_at_call 36
             refine (HGet.out _ _ _ HHs.out).mono ?_
             rintro e w' ⟨rfl, rfl⟩))
      rw [HF.out, HF2.out]
      refine step_close hG HB3.out HO3.out HH2.out ?_ (set6 ?_) rfl rfl (by rw [List.length_append, HL.out]; rfl) rfl (by simp) rfl (by simp) (by simp)
      · repeat (first | with_reducible exact Far2.refl _ _ | with_reducible refine Far2.set1 ?_ _ _ | with_reducible refine Far2.set0 ?_ _ _)
      · repeat (first | with_reducible exact HR3.out | with_reducible refine Blk.far0 ?_ _ _)
end Go.Proofs.Ytbmdgoljjffjdaa
