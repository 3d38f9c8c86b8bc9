/- lapidaryref03.Step in one; Close; Decode. -/
import Derived.Test.YtbmdgoljjffjdaaRefStepE
import Derived.Deep.LoopGhost
import Derived.Deep.QuietTactic
import Derived.BigQuiet
import Derived.StillTailTactics
import Derived.Outline
namespace Go.Proofs.Ytbmdgoljjffjdaa
open Go.RowKit

theorem refStep_any (v : Value) (s : St) (ch : Nat) (w : World) (G : Nat) (hG : G < w.heap.size) (hv : StV G w s v) (hch : ch < 256) (hby : ∀ x ∈ s.took, x < 256) (ha : s.all ≤ 1000000) (hn : s.took.length ≤ 90000) (hm : s.l.length ≤ 1000000) :
    Calls Try.prog 28 #[v, .int .u8 (ch : Int)] w (Stepd G w (stepN s ch)) := by
  obtain ⟨A, n, c, B, m, d, rfl, h1, h2⟩ := hv
  have hl : s.took.length = n := by have := h1.here.len; rw [u8s_len] at this; exact this
  have hl2 := h2.here.len
  by_cases he : s.e = 0
  · cases hf : s.fin with
    | true => have := refStep_fin A n c B m d s ch w G hG h1 h2 he hf (by omega); rw [hf] at this; exact this
    | false =>
      rw [← hf]
      by_cases h5 : s.all < 5
      · exact refStep_head A n c B m d s ch w G hG h1 h2 he hf h5
      · by_cases h0 : n = 0
        · exact refStep_first A n c B m d s ch w G hG h1 h2 he hf (by omega) (by omega) (by omega) h0 hch
        · by_cases hok : (get (s.took ++ [ch]) 1).2.2 = 0 ∧ (get (s.took ++ [ch]) 1).1 ≤ 1048576 ∧ (get (s.took ++ [ch]) 1).2.1 + (get (s.took ++ [ch]) 1).1 + 4 ≤ (s.took ++ [ch]).length
          · by_cases hck : (checkN (s.took ++ [ch])).2 = 0
            · exact refStep_sec A n c B m d s ch w G hG h1 h2 he hf (by omega) (by omega) (by omega) (by omega) hch hby (by omega) hok hck
            · exact refStep_bad A n c B m d s ch w G hG h1 h2 he hf (by omega) (by omega) (by omega) (by omega) hch hby hok hck
          · exact refStep_stay A n c B m d s ch w G hG h1 h2 he hf (by omega) (by omega) (by omega) (by omega) hch hby (by
              by_cases q1 : (get (s.took ++ [ch]) 1).2.2 = 0
              · right
                by_cases q2 : 1048576 < (get (s.took ++ [ch]) 1).1
                · exact Or.inl q2
                · right
                  rcases Nat.lt_or_ge (s.took ++ [ch]).length ((get (s.took ++ [ch]) 1).2.1 + (get (s.took ++ [ch]) 1).1 + 4) with q | q
                  · exact q
                  · exact absurd ⟨q1, by omega, q⟩ hok
              · exact Or.inl q1)
  · exact refStep_err A n c B m d s ch w G hG h1 h2 he

theorem set6g {W : World} {g : Nat} {t : TypeId} {z0 z1 z2 z3 z4 z5 c0 c1 c2 c3 c4 c5 : Value} (h : Blk W g t #[z0, z1, z2, z3, z4, z5]) :
    Blk ((((((W.setCell ⟨g, 0, none⟩ c0).setCell ⟨g, 1, none⟩ c1).setCell ⟨g, 2, none⟩ c2).setCell ⟨g, 3, none⟩ c3).setCell ⟨g, 4, none⟩ c4).setCell ⟨g, 5, none⟩ c5) g t #[c0, c1, c2, c3, c4, c5] :=
  (((((h.set_ 0 c0).set_ 1 c1).set_ 2 c2).set_ 3 c3).set_ 4 c4).set_ 5 c5
theorem Far1.below {w W W' : World} (h : Far1 w.heap.size W W') (hb : Below w.heap.size w W) : Below w.heap.size w W' :=
  ⟨h.os.trans hb.os, h.tape.trans hb.tape, h.output.trans hb.output, by rw [h.size]; exact hb.size, fun k hk => (h.block k (by omega)).trans (hb.block k hk)⟩
/-- How far a state may have come. -/
structure StOk (s : St) (k : Nat) : Prop where
  all : s.all ≤ k
  took : s.took.length ≤ k
  byte : ∀ x ∈ s.took, x < 256
  l : s.l.length ≤ k
theorem takeN_ok {s : St} {k c : Nat} (h : StOk s k) (hl : s.l.length + 1 ≤ k) : StOk (takeN s c) k := by
  unfold takeN
  repeat' split
  all_goals first
    | exact h
    | exact ⟨h.all, h.took, h.byte, h.l⟩
    | exact ⟨h.all, by simp, by simp, by simp; omega⟩
theorem stepN_ok {s : St} {k c : Nat} (h : StOk s k) (hc : c < 256) : StOk (stepN s c) (k + 1) := by
  have h1 := h.all
  have h2 := h.took
  have h3 := h.l
  unfold stepN
  split
  · exact ⟨by omega, by omega, h.byte, by omega⟩
  · split
    · exact ⟨by simp; omega, by simp; omega, h.byte, by simp; omega⟩
    · split
      · split
        · exact ⟨by simp; omega, by simp; omega, h.byte, by simp; omega⟩
        · exact ⟨by simp; omega, by simp; omega, h.byte, by simp; omega⟩
      · refine takeN_ok ⟨by simp; omega, by simp; omega, ?_, by simp; omega⟩ (by simp; omega)
        intro x hx
        simp only [List.mem_append, List.mem_singleton] at hx
        rcases hx with hx | rfl
        · exact h.byte x hx
        · exact hc
theorem fold_ok {bs : List Nat} (hb : ∀ x ∈ bs, x < 256) {s : St} {k : Nat} (h : StOk s k) : StOk (bs.foldl stepN s) (k + bs.length) := by
  induction bs generalizing s k with
  | nil => exact h
  | cons c bs ih =>
    have := ih (fun x hx => hb x (List.mem_cons_of_mem _ hx)) (stepN_ok h (hb c (List.mem_cons_self ..)))
    rw [List.foldl_cons, List.length_cons, show k + (bs.length + 1) = k + 1 + bs.length by omega]
    exact this
theorem st0_ok : StOk st0 0 := ⟨Nat.le_refl _, Nat.le_refl _, by simp [st0], Nat.le_refl _⟩

/-- A call's answer: sections, or an error. -/
def Secd (w : World) (r : List Sec × Nat) (e : Ending) (w' : World) : Prop := ∃ A c, e = .returned (.tuple #[.slice A r.1.length c, .int .i64 (r.2 : Int)]) ∧ Secs w' A r.1.length c r.1 ∧ Below w.heap.size w w'

set_option maxRecDepth 100000 in
set_option maxHeartbeats 1000000 in
theorem refClose_any (v : Value) (s : St) (w : World) (G : Nat) (hv : StV G w s v) : Calls Try.prog 29 #[v] w (Secd w (closeN s)) := by
  obtain ⟨A, n, c, B, m, d, rfl, h1, h2⟩ := hv
  have HH2 := Lib.hid h2.here
  have HL := Lib.hid h2.here.len
  clear h1 h2
  by_cases he : s.e = 0
  · have te : ((s.e : Int) != 0) = false := by rw [he]; rfl
    cases hf : s.fin with
    | false =>
      have HF : Hid (closeN s = ([], 10)) := by show _ = _; unfold closeN; rw [if_neg (by simp [he]), if_pos hf]
      clear he hf
      go_enter Try.func29, Try.ntmps29
      go_wp2
      go_ret2
      rw [HF.out]
      exact ⟨none, 0, rfl, Secs.none _, new_alloc (Below.refl _ _) _⟩
    | true =>
      by_cases ha : 1048576 < s.all
      · have HF : Hid (closeN s = ([], 3)) := by show _ = _; unfold closeN; rw [if_neg (by simp [he]), if_neg (by simp [hf]), if_pos ha]
        have ta : decide ((1048576 : Int) < (s.all : Int)) = true := decide_eq_true (by omega)
        clear he hf ha
        go_enter Try.func29, Try.ntmps29
        go_wp2
        go_ret2
        rw [HF.out]
        exact ⟨none, 0, rfl, Secs.none _, new_alloc (Below.refl _ _) _⟩
      · have HF : Hid (closeN s = (s.l, 0)) := by show _ = _; unfold closeN; rw [if_neg (by simp [he]), if_neg (by simp [hf]), if_neg ha]
        have ta : decide ((1048576 : Int) < (s.all : Int)) = false := decide_eq_false (by omega)
        clear he hf ha
        go_enter Try.func29, Try.ntmps29
        go_wp2
        go_ret2
        rw [HF.out]
        refine ⟨B, d, by rw [HL.out]; rfl, ?_, new_alloc (Below.refl _ _) _⟩
        rw [HL.out]
        exact HH2.out.kept (new_alloc (Below.refl _ _) _)
  · have HF : Hid (closeN s = ([], s.e)) := by show _ = _; unfold closeN; rw [if_pos he]
    have te : ((s.e : Int) != 0) = true := by rw [bne_iff_ne]; omega
    clear he
    go_enter Try.func29, Try.ntmps29
    go_wp2
    go_quiet (fail)
    go_wp2
    go_ret2
    rw [HF.out]
    have h0 := new_alloc (Below.refl w.heap.size w) (.cells #[.slice A n c, .int .i64 (s.last : Int), .bool s.fin, .int .i64 (s.all : Int), .slice B m d, .int .i64 (s.e : Int)] 58)
    exact ⟨none, 0, rfl, Secs.none _, ⟨h0.os, h0.tape, h0.output, h0.size, h0.block⟩⟩

set_option maxRecDepth 100000 in
set_option maxHeartbeats 1000000 in
theorem refDec_any (A : Option Addr) (n c : Nat) (bs : List Nat) (w : World) (h : Has w A n c (u8s bs)) (hb : ∀ x ∈ bs, x < 256) (hn : n ≤ 90000) :
    Calls Try.prog 16 #[.slice A n c] w (Secd w (decN bs)) := by
  have HL : Hid (bs.length = n) := by have := h.len; rw [u8s_len] at this; exact this
  have HH := Lib.hid h
  have HB := Lib.hid hb
  clear h hb
  go_enter Try.func16, Try.ntmps16
  go_wp2
  go_loopg [5] n (fun g s5 wx => ∃ i : Nat, i + g = n ∧ s5 = .int .i64 i ∧ Hid (∃ v0 v1 v2 v3 v4 v5, Blk wx w.heap.size 58 #[v0, v1, v2, v3, v4, v5] ∧ StV w.heap.size wx ((bs.take i).foldl stepN st0) (.agg #[v0, v1, v2, v3, v4, v5]) ∧ Below w.heap.size w wx))
  case atStart =>
    exact ⟨0, by omega, rfl, _, _, _, _, _, _, Blk.new _ _ _, ⟨none, 0, 0, none, 0, 0, rfl, Rob.nil, SecsR.nil⟩, new_alloc (Below.refl _ _) _⟩
  case round =>
    obtain ⟨i, hig, rfl, HR⟩ := hrel
    obtain ⟨v0, v1, v2, v3, v4, v5, hblk, hst, hbel⟩ := HR.out
    have HBl := Lib.hid hblk
    have HSt := Lib.hid hst
    have HBe := Lib.hid hbel
    clear HR
    have hok := fold_ok (bs := bs.take i) (fun x hx => HB.out x (List.mem_of_mem_take hx)) st0_ok
    have HOk := Lib.hid hok
    have htl : (bs.take i).length ≤ n := by rw [List.length_take, HL.out]; omega
    by_cases hi : i < n
    · have hil : i < bs.length := by rw [HL.out]; exact hi
      obtain ⟨b, off, rfl, hlt, hc⟩ := (HH.out.kept HBe.out).spot (by omega)
      have hcell := hc i _ (u8s_at hil)
      have hx8 := HB.out _ (List.getElem_mem hil)
      have HFd : Hid ((bs.take (i + 1)).foldl stepN st0 = stepN ((bs.take i).foldl stepN st0) bs[i]) := by
        show _ = _
        rw [List.take_succ_eq_append_getElem hil, List.foldl_append]; rfl
      have ti : decide ((i : Int) < (n : Int)) = true := by simp; omega
      have x0 : wr.cell? ⟨w.heap.size, 0, none⟩ = some v0 := hblk.cell 0
      have x1 : wr.cell? ⟨w.heap.size, 1, none⟩ = some v1 := hblk.cell 1
      have x2 : wr.cell? ⟨w.heap.size, 2, none⟩ = some v2 := hblk.cell 2
      have x3 : wr.cell? ⟨w.heap.size, 3, none⟩ = some v3 := hblk.cell 3
      have x4 : wr.cell? ⟨w.heap.size, 4, none⟩ = some v4 := hblk.cell 4
      have x5 : wr.cell? ⟨w.heap.size, 5, none⟩ = some v5 := hblk.cell 5
      have hblt := hblk.lt
      clear hblk hst hbel hok hc
      generalize bs[i] = x at *
      clear hil
      generalize (bs.take i).foldl stepN st0 = s at *
      go_wp2
      go_still_tail 5, (by kernel_rfl)
      have hok := HOk.out
      have hbd : Below wr.heap.size wr wr.drew := (Below.refl _ _).drew
      go_wp2_with fail
      refine (refStep_any (.agg #[v0, v1, v2, v3, v4, v5]) s x wr.drew w.heap.size hblt (HSt.out.kept hblt hbd) hx8 hok.byte (by have := hok.all; omega) (by have := hok.took; omega) (by have := hok.l; omega)).mono ?_
      rintro e w1 ⟨v', rfl, hst1, hb1⟩
      have HB1 : Hid (Below wr.heap.size wr w1) := hbd.trans hb1
      have HS1 := Lib.hid hst1
      obtain ⟨A1, n1, c1, B1, m1, d1, rfl, _, _⟩ := hst1
      have HX1 : Hid (Blk w1 w.heap.size 58 #[v0, v1, v2, v3, v4, v5]) := Blk.below HBl.out HB1.out hblt
      have z0 : w1.cell? ⟨w.heap.size, 0, none⟩ = some v0 := HX1.out.cell 0
      have z1 : w1.cell? ⟨w.heap.size, 1, none⟩ = some v1 := HX1.out.cell 1
      have z2 : w1.cell? ⟨w.heap.size, 2, none⟩ = some v2 := HX1.out.cell 2
      have z3 : w1.cell? ⟨w.heap.size, 3, none⟩ = some v3 := HX1.out.cell 3
      have z4 : w1.cell? ⟨w.heap.size, 4, none⟩ = some v4 := HX1.out.cell 4
      have z5 : w1.cell? ⟨w.heap.size, 5, none⟩ = some v5 := HX1.out.cell 5
      have q0 := HX1.out.frozen 0
      have q1 := HX1.out.frozen 1
      have q2 := HX1.out.frozen 2
      have q3 := HX1.out.frozen 3
      have q4 := HX1.out.frozen 4
      have q5 := HX1.out.frozen 5
      clear hb1 hok
      go_wp2
      go_roundg (gk - 1)
      case measure => omega
      case rel =>
        refine ⟨i + 1, by omega, by go_num, _, _, _, _, _, _, set6g HX1.out, ?_, ?_⟩
        · rw [HFd.out]
          refine HS1.out.far ?_
          repeat (first | with_reducible exact Far1.refl _ _ | with_reducible refine Far1.set ?_ _ _)
        · refine Far1.below (W := w1) ?_ (new_call HBe.out HB1.out)
          repeat (first | with_reducible exact Far1.refl _ _ | with_reducible refine Far1.set ?_ _ _)
    · have ti : decide ((i : Int) < (n : Int)) = false := by simp; omega
      have HE : Hid (decN bs = closeN ((bs.take i).foldl stepN st0)) := by
        show _ = _
        rw [List.take_of_length_le (by rw [HL.out]; omega)]; rfl
      have x0 : wr.cell? ⟨w.heap.size, 0, none⟩ = some v0 := hblk.cell 0
      have x1 : wr.cell? ⟨w.heap.size, 1, none⟩ = some v1 := hblk.cell 1
      have x2 : wr.cell? ⟨w.heap.size, 2, none⟩ = some v2 := hblk.cell 2
      have x3 : wr.cell? ⟨w.heap.size, 3, none⟩ = some v3 := hblk.cell 3
      have x4 : wr.cell? ⟨w.heap.size, 4, none⟩ = some v4 := hblk.cell 4
      have x5 : wr.cell? ⟨w.heap.size, 5, none⟩ = some v5 := hblk.cell 5
      clear hblk hst hbel hok
      generalize (bs.take i).foldl stepN st0 = s at *
      go_wp2_with (go_at_call 29; refine (refClose_any _ s _ w.heap.size HSt.out).mono ?_; rintro e w1 ⟨A1, c1, rfl, hs1, hb1⟩)
      go_ret2
      rw [HE.out]
      exact ⟨A1, c1, rfl, hs1, new_call HBe.out hb1⟩
end Go.Proofs.Ytbmdgoljjffjdaa
