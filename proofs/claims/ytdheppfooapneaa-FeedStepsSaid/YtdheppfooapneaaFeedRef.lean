import Derived.Test.YtdheppfooapneaaFrameRef
import Derived.Test.YtdheppfooapneaaStepsB
import Derived.Deep.LoopGhost
import Derived.StillTailTactics
import Derived.Outline
import Derived.Test.YtdheppfooapneaaCrc
/- Layer 4 in plain lists: chunks, and how many bytes are held. -/
namespace Go.Proofs.Ytdheppfooapneaa
open Go.RowKit

/-- Bytes in chunks, at places. -/
def cutN (bs : List Nat) : List Nat → List (List Nat)
  | [] => [bs]
  | a :: l => bs.take (min a bs.length) :: cutN (bs.drop (min a bs.length)) l
theorem cutN_flat (at_ : List Nat) : ∀ bs, (cutN bs at_).flatten = bs := by
  induction at_ with
  | nil => intro bs; simp [cutN]
  | cons a l ih => intro bs; rw [cutN, List.flatten_cons, ih, List.take_append_drop]
theorem cutN_len (at_ : List Nat) : ∀ bs, (cutN bs at_).length = at_.length + 1 := by
  induction at_ with
  | nil => intro bs; rfl
  | cons a l ih => intro bs; rw [cutN, List.length_cons, ih, List.length_cons]
/-- How many bytes are held. -/
def heldN (s : St) : Nat := (if s.fin = true then 0 else s.took.length) + (s.l.map fun x => x.2.length).sum
theorem check_hold (bs : List Nat) : (checkN bs).1.length ≤ bs.length := by
  unfold checkN
  split
  · simp
  · split
    · simp only [List.length_take]; omega
    · simp
/-- No more is held than was taken; of the head nothing. -/
structure Hold (s : St) : Prop where
  all : s.took.length + (s.l.map fun x => x.2.length).sum ≤ s.all
  head : s.all ≤ 5 → s.took = [] ∧ s.l = []
theorem st0_hold : Hold st0 := ⟨by simp [st0], fun _ => ⟨rfl, rfl⟩⟩
theorem takeN_hold {s : St} {c : Nat} (h : s.took.length + (s.l.map fun x => x.2.length).sum ≤ s.all) (h5 : 5 < s.all) : Hold (takeN s c) := by
  have hc := check_hold s.took
  unfold takeN
  repeat' split
  all_goals first
    | exact ⟨h, fun h' => absurd (show s.all ≤ 5 from h') (by omega)⟩
    | (refine ⟨?_, fun h' => absurd (show s.all ≤ 5 from h') (by omega)⟩
       simp only [List.map_append, List.sum_append, List.map_cons, List.map_nil, List.sum_cons, List.sum_nil, List.length_drop, List.length_nil]
       omega)
theorem stepN_hold {s : St} {c : Nat} (h : Hold s) : Hold (stepN s c) := by
  have h1 := h.all
  unfold stepN
  split
  · exact h
  · split
    · refine ⟨by simp only; omega, fun h' => ?_⟩
      simp only at h' ⊢
      exact h.head (by omega)
    · split
      · split
        all_goals
          refine ⟨by simp only; omega, fun h' => ?_⟩
          simp only at h' ⊢
          exact h.head (by omega)
      · rename_i h5
        exact takeN_hold (by simp only [List.length_append, List.length_cons, List.length_nil]; omega) (by simp only; omega)
theorem fold_hold (bs : List Nat) : ∀ {s : St}, Hold s → Hold (bs.foldl stepN s) := by
  induction bs with
  | nil => intro s h; exact h
  | cons c bs ih => intro s h; exact ih (stepN_hold h)
theorem Hold.le {s : St} (h : Hold s) : heldN s ≤ s.all := by
  have := h.all
  unfold heldN
  split <;> omega
theorem Hold.none {s : St} (h : Hold s) (h5 : s.all ≤ 5) : heldN s = 0 := by
  obtain ⟨h1, h2⟩ := h.head h5
  unfold heldN
  rw [h1, h2]; simp
/-- Without an error all bytes are taken. -/
theorem stepN_all {s : St} {c : Nat} (h : (stepN s c).e = 0) : (stepN s c).all = s.all + 1 ∧ s.e = 0 := by
  by_cases he : s.e = 0
  · refine ⟨?_, he⟩
    unfold stepN takeN
    rw [if_neg (by simp [he])]
    repeat' split
    all_goals rfl
  · unfold stepN at h; rw [if_pos he] at h; exact absurd h he
theorem fold_zero (bs : List Nat) : ∀ {s : St}, (bs.foldl stepN s).e = 0 → (bs.foldl stepN s).all = s.all + bs.length ∧ s.e = 0 := by
  induction bs with
  | nil => intro s h; exact ⟨rfl, h⟩
  | cons c bs ih =>
    intro s h
    obtain ⟨h1, h2⟩ := ih (s := stepN s c) h
    obtain ⟨h3, h4⟩ := stepN_all h2
    exact ⟨by rw [List.foldl_cons, h1, h3, List.length_cons]; omega, h4⟩
/-- What was encoded, behind its last byte. -/
theorem enc_state {l : List Sec} (h : (encN l).2 = 0) : ((encN l).1.foldl stepN st0).e = 0 ∧ ((encN l).1.foldl stepN st0).fin = true ∧ ((encN l).1.foldl stepN st0).l = l := by
  have hd := dec_enc h
  unfold decN closeN at hd
  generalize (encN l).1.foldl stepN st0 = s at *
  by_cases he : s.e = 0
  · rw [if_neg (by simp [he])] at hd
    cases hf : s.fin with
    | false => rw [if_pos hf] at hd; simp at hd
    | true =>
      rw [if_neg (by simp [hf])] at hd
      split at hd
      · simp at hd
      · simp only [Prod.mk.injEq] at hd; exact ⟨he, rfl, hd.1⟩
  · rw [if_pos he] at hd
    simp only [Prod.mk.injEq] at hd
    exact absurd hd.2 he
theorem enc_part {l : List Sec} (h : (encN l).2 = 0) (k : Nat) : (((encN l).1.take k).foldl stepN st0).e = 0 := by
  have h1 := (enc_state h).1
  rw [← List.take_append_drop k (encN l).1, List.foldl_append] at h1
  exact (fold_zero _ h1).2
end Go.Proofs.Ytdheppfooapneaa

/- lapidaryref04.Feed, Held. -/
namespace Go.Proofs.Ytdheppfooapneaa
open Go.RowKit

theorem StV.less {D D' : Nat → Prop} {w : World} {s : St} {v : Value} (h : StV D' w s v) (hd : ∀ k, D k → D' k) : StV D w s v := by
  obtain ⟨A, n, c, B, m, d, e, h1, vs, h2⟩ := h
  exact ⟨A, n, c, B, m, d, e, h1.less hd, vs, h2.less hd⟩
theorem StV.more {D D' : Nat → Prop} {w w' : World} {s : St} {v : Value} (h : StV D w s v) (hb : Below w.heap.size w w') (hd : ∀ k, D' k → D k ∨ w.heap.size ≤ k) : StV D' w' s v := by
  obtain ⟨A, n, c, B, m, d, e, h1, vs, h2⟩ := h
  exact ⟨A, n, c, B, m, d, e, Rob.more (fun _ _ hb h => h.kept hb) h1 hb hd, vs, Rob.more (fun _ _ hb h => ⟨h.1.kept hb, h.2.kept hb⟩) h2 hb hd⟩

theorem feed_end {w W : World} {a : Act} {g : Nat} {c0 c1 c2 c3 c4 c5 : Value} {s : St} {G : Nat → Prop} (hb : Blk W g 28 #[c0, c1, c2, c3, c4, c5]) (hp : a.tmps.getD 4 undef = .pointer (some ⟨g, 0, none⟩)) (hd : a.defers = [])
    (hv : StV G W s (.agg #[c0, c1, c2, c3, c4, c5])) (hB : Below w.heap.size w W) : bodyPost Try.prog Try.f11 (Stepd G w s) Exit.ret a W :=
  bodyPost_ret (results_cell Try.results11 hp (st_load hb)) hd ⟨_, rfl, hv, hB⟩

set_option maxRecDepth 100000 in
set_option maxHeartbeats 1000000 in
theorem refFeed_any (v : Value) (s : St) (A : Option Addr) (n c : Nat) (bs : List Nat) (w : World) (D : Nat → Prop) (hD : Sit D w.heap.size) (hv : StV D w s v) (h : Has w A n c (u8s bs)) (hb : ∀ x ∈ bs, x < 256) (k0 : Nat) (hs : StOk s k0) (hn : k0 + n ≤ 90000) :
    Calls Try.prog 11 #[v, .slice A n c] w (Stepd D w (bs.foldl stepN s)) := by
  have HL : Hid (bs.length = n) := by have := h.len; rw [u8s_len] at this; exact this
  have HH := Lib.hid h
  have HB := Lib.hid hb
  have HS := Lib.hid hs
  have HV := Lib.hid hv
  have HD := Lib.hid hD
  clear h hb hs hD
  obtain ⟨A0, n0, c0, B0, m0, d0, rfl, _, _⟩ := hv
  go_enter Try.func11, Try.ntmps11
  go_wp2
  go_loopg [5] n (fun g s5 wx => ∃ i : Nat, i + g = n ∧ s5 = .int .i64 i ∧ Hid (∃ v0 v1 v2 v3 v4 v5, Blk wx w.heap.size 28 #[v0, v1, v2, v3, v4, v5] ∧ StV (fun k => D k ∨ k = w.heap.size ∨ k = w.heap.size + 1) wx ((bs.take i).foldl stepN s) (.agg #[v0, v1, v2, v3, v4, v5]) ∧ Blk wx (w.heap.size + 1) 28 #[.slice none 0 0, .int .i64 0, .bool false, .int .i64 0, .slice none 0 0, .int .i64 0] ∧ Below w.heap.size w wx))
  case atStart =>
    refine ⟨0, by omega, rfl, _, _, _, _, _, _, (Blk.new _ _ _).alloc _, ?_, blk2 _ _ _ _, below2 _ _ _⟩
    exact HV.out.more (below2 _ _ _) fun k hk => by
      rcases hk with hk | hk | hk
      · exact Or.inl hk
      · exact Or.inr (by omega)
      · exact Or.inr (by omega)
  case round =>
    obtain ⟨i, hig, rfl, HR⟩ := hrel
    obtain ⟨v0, v1, v2, v3, v4, v5, hblk, hst, hbk1, hbel⟩ := HR.out
    have HBl := Lib.hid hblk
    have HB1k := Lib.hid hbk1
    have HSt := Lib.hid hst
    have HBe := Lib.hid hbel
    clear HR
    have hok := fold_ok (bs := bs.take i) (fun x hx => HB.out x (List.mem_of_mem_take hx)) HS.out
    have HOk := Lib.hid hok
    have htl : (bs.take i).length ≤ n := by rw [List.length_take, HL.out]; omega
    have hblt := hbk1.lt
    by_cases hi : i < n
    · have hil : i < bs.length := by rw [HL.out]; exact hi
      obtain ⟨b, off, rfl, hlt, hc⟩ := (HH.out.kept HBe.out).spot (by omega)
      have hcell := hc i _ (u8s_at hil)
      have hx8 := HB.out _ (List.getElem_mem hil)
      have HFd : Hid ((bs.take (i + 1)).foldl stepN s = stepN ((bs.take i).foldl stepN s) bs[i]) := by
        show _ = _
        rw [List.take_succ_eq_append_getElem hil, List.foldl_append]; rfl
      have ti : decide ((i : Int) < (n : Int)) = true := by simp; omega
      have x0 : wr.cell? ⟨w.heap.size, 0, none⟩ = some v0 := hblk.cell 0
      have x1 : wr.cell? ⟨w.heap.size, 1, none⟩ = some v1 := hblk.cell 1
      have x2 : wr.cell? ⟨w.heap.size, 2, none⟩ = some v2 := hblk.cell 2
      have x3 : wr.cell? ⟨w.heap.size, 3, none⟩ = some v3 := hblk.cell 3
      have x4 : wr.cell? ⟨w.heap.size, 4, none⟩ = some v4 := hblk.cell 4
      have x5 : wr.cell? ⟨w.heap.size, 5, none⟩ = some v5 := hblk.cell 5
      clear hblk hst hbel hok hc hbk1
      generalize bs[i] = x at *
      clear hil
      generalize (bs.take i).foldl stepN s = s' at *
      have HSit : Hid (Sit (fun k => D k ∨ k = w.heap.size ∨ k = w.heap.size + 1) wr.heap.size) := fun k hk => by
        rcases hk with hk | hk | hk
        · have := HD.out k hk; omega
        · omega
        · omega
      go_wp2
      go_still_tail 5, (by kernel_rfl)
      have hok := HOk.out
      have hbd : Below wr.heap.size wr wr.drew := (Below.refl _ _).drew
      go_wp2_with fail
      refine (refStep_any (.agg #[v0, v1, v2, v3, v4, v5]) s' x wr.drew _ HSit.out (HSt.out.kept HSit.out hbd) hx8 hok.byte (by have := hok.all; omega) (by have := hok.took; omega) (by have := hok.l; omega)).mono ?_
      rintro e w1 ⟨v', rfl, hst1, hb1⟩
      have HB1 : Hid (Below wr.heap.size wr w1) := hbd.trans hb1
      have HS1 := Lib.hid hst1
      obtain ⟨A1, n1, c1, B1, m1, d1, rfl, _, _⟩ := hst1
      have HX1 : Hid (Blk w1 w.heap.size 28 #[v0, v1, v2, v3, v4, v5]) := Blk.below HBl.out HB1.out (by omega)
      have HY1 : Hid (Blk w1 (w.heap.size + 1) 28 #[.slice none 0 0, .int .i64 0, .bool false, .int .i64 0, .slice none 0 0, .int .i64 0]) := Blk.below HB1k.out HB1.out hblt
      have z0 : w1.cell? ⟨w.heap.size, 0, none⟩ = some v0 := HX1.out.cell 0
      have z1 : w1.cell? ⟨w.heap.size, 1, none⟩ = some v1 := HX1.out.cell 1
      have z2 : w1.cell? ⟨w.heap.size, 2, none⟩ = some v2 := HX1.out.cell 2
      have z3 : w1.cell? ⟨w.heap.size, 3, none⟩ = some v3 := HX1.out.cell 3
      have z4 : w1.cell? ⟨w.heap.size, 4, none⟩ = some v4 := HX1.out.cell 4
      have z5 : w1.cell? ⟨w.heap.size, 5, none⟩ = some v5 := HX1.out.cell 5
      have q0 := HX1.out.frozen 0
      have q1 := HX1.out.frozen 1
      have q2 := HX1.out.frozen 2
      have q3 := HX1.out.frozen 3
      have q4 := HX1.out.frozen 4
      have q5 := HX1.out.frozen 5
      clear hb1 hok
      go_wp2
      go_roundg (gk - 1)
      case measure => omega
      case rel =>
        refine ⟨i + 1, by omega, by go_num, _, _, _, _, _, _, set6g HX1.out, ?_, ?_, ?_⟩
        · rw [HFd.out]
          refine HS1.out.far (Far1.farD (G := w.heap.size) ?_ (Or.inr (Or.inl rfl)))
          repeat (first | with_reducible exact Far1.refl _ _ | with_reducible refine Far1.set ?_ _ _)
        · repeat (first | with_reducible exact HY1.out | with_reducible refine Blk.far0 ?_ _ _)
        · refine Far1.below (W := w1) ?_ (new_call HBe.out HB1.out)
          repeat (first | with_reducible exact Far1.refl _ _ | with_reducible refine Far1.set ?_ _ _)
    · have ti : decide ((i : Int) < (n : Int)) = false := by simp; omega
      have HE : Hid ((bs.take i).foldl stepN s = bs.foldl stepN s) := by
        show _ = _
        rw [List.take_of_length_le (by rw [HL.out]; omega)]
      rw [HE.out] at HSt
      have x0 : wr.cell? ⟨w.heap.size, 0, none⟩ = some v0 := hblk.cell 0
      have x1 : wr.cell? ⟨w.heap.size, 1, none⟩ = some v1 := hblk.cell 1
      have x2 : wr.cell? ⟨w.heap.size, 2, none⟩ = some v2 := hblk.cell 2
      have x3 : wr.cell? ⟨w.heap.size, 3, none⟩ = some v3 := hblk.cell 3
      have x4 : wr.cell? ⟨w.heap.size, 4, none⟩ = some v4 := hblk.cell 4
      have x5 : wr.cell? ⟨w.heap.size, 5, none⟩ = some v5 := hblk.cell 5
      have s0 : wr.cell? ⟨w.heap.size + 1, 0, none⟩ = some (.slice none 0 0) := hbk1.cell 0
      have s1 : wr.cell? ⟨w.heap.size + 1, 1, none⟩ = some (.int .i64 0) := hbk1.cell 1
      have s2 : wr.cell? ⟨w.heap.size + 1, 2, none⟩ = some (.bool false) := hbk1.cell 2
      have s3 : wr.cell? ⟨w.heap.size + 1, 3, none⟩ = some (.int .i64 0) := hbk1.cell 3
      have s4 : wr.cell? ⟨w.heap.size + 1, 4, none⟩ = some (.slice none 0 0) := hbk1.cell 4
      have s5 : wr.cell? ⟨w.heap.size + 1, 5, none⟩ = some (.int .i64 0) := hbk1.cell 5
      have p0 := hbk1.frozen 0
      have p1 := hbk1.frozen 1
      have p2 := hbk1.frozen 2
      have p3 := hbk1.frozen 3
      have p4 := hbk1.frozen 4
      have p5 := hbk1.frozen 5
      clear hblk hbel hok hbk1 hst
      generalize bs.foldl stepN s = s' at *
      obtain ⟨A1, n1, c1, B1, m1, d1, he1, _, _⟩ := HSt.out
      simp only [Value.agg.injEq, Array.mk.injEq, List.cons.injEq, and_true] at he1
      obtain ⟨rfl, rfl, rfl, rfl, rfl, rfl⟩ := he1
      go_wp2
      refine feed_end (set6g HB1k.out) ?_ ?_ (StV.less (StV.far HSt.out (Far1.farD (G := w.heap.size + 1) ?_ (Or.inr (Or.inr rfl)))) fun k hk => Or.inl hk) (Far1.belowAt (G := w.heap.size + 1) (W := wr) ?_ (Nat.le_succ _) HBe.out)
      · rfl
      · rfl
      all_goals repeat (first | with_reducible exact Far1.refl _ _ | with_reducible refine Far1.set ?_ _ _)
end Go.Proofs.Ytdheppfooapneaa

/- lapidaryref04.Cut: bytes in chunks. -/
namespace Go.Proofs.Ytdheppfooapneaa
open Go.RowKit

theorem elemP : Elem Try.prog 29 22 24 := by
  have h : (Try.prog.info? 22).map (fun i => (i.zero, i.size, i.bytes)) = some (some (.slice none 0 0), 1, 24) := by kernel_rfl
  obtain ⟨i, h1, h2, h3, h4⟩ := info_parts h
  exact ⟨Try.underlying29, i, _, h1, h2, h3, h4, rfl⟩
theorem RowsOf.snoc {w : World} {vs : List Value} {ls : List (List Nat)} {A : Option Addr} {n c : Nat} {l : List Nat} (h : RowsOf w vs ls) (h2 : Has w A n c (u8s l)) : RowsOf w (vs ++ [.slice A n c]) (ls ++ [l]) := by
  refine ⟨by rw [List.length_append, List.length_append, h.1]; rfl, fun i hi => ?_⟩
  by_cases hl : i < ls.length
  · obtain ⟨A', n', c', e, hh⟩ := h.2 i hl
    exact ⟨A', n', c', by rw [List.getElem?_append_left (by rw [h.1]; exact hl), e], by rw [List.getElem_append_left hl]; exact hh⟩
  · obtain rfl : i = ls.length := by simp at hi; omega
    exact ⟨A, n, c, by rw [← h.1]; simp, by simpa using h2⟩
theorem RowsOf.one {w : World} {vs : List Value} {ls : List (List Nat)} (h : RowsOf w vs ls) : ∀ u ∈ vs, u.oneCell' = true := by
  intro u hu
  obtain ⟨i, hi, rfl⟩ := List.getElem_of_mem hu
  obtain ⟨A, n, c, e, _⟩ := h.2 i (by rw [← h.1]; exact hi)
  rw [List.getElem?_eq_getElem hi] at e
  simp only [Option.some.injEq] at e
  rw [e]; rfl
/-- A slice's two parts as the machine has them. -/
theorem Has.tail {w : World} {A : Option Addr} {n c : Nat} {bs : List Nat} (h : Has w A n c (u8s bs)) {k : Nat} (hk : k ≤ n) : Has w (if c = k then A else A.map (·.add k)) (n - k) (c - k) (u8s (bs.drop k)) := by
  have hp := h.part (k := k) (m := n) hk (Nat.le_refl _)
  have hl := h.len
  rw [List.take_of_length_le (by rw [List.length_drop]; omega), show (u8s bs).drop k = u8s (bs.drop k) by simp [u8s]] at hp
  exact hp

/-- Rows of bytes, whatever becomes of D's blocks. -/
def PartsR (D : Nat → Prop) (w : World) (A : Option Addr) (n c : Nat) (ls : List (List Nat)) : Prop := ∃ vs, Rob D w fun W => Has W A n c vs ∧ RowsOf W vs ls
theorem PartsR.rob {D : Nat → Prop} {w : World} {A : Option Addr} {n c : Nat} {ls : List (List Nat)} (h : PartsR D w A n c ls) : Rob D w fun W => Parts W A n c ls := by
  obtain ⟨vs, h⟩ := h
  exact h.map fun W h => ⟨vs, h⟩
theorem PartsR.chg {D D' : Nat → Prop} {w w' : World} {A : Option Addr} {n c : Nat} {ls : List (List Nat)} (h : PartsR D w A n c ls) (hc : Chg D w w') (hg : ∀ k, k < w.heap.size → D' k → D k) : PartsR D' w' A n c ls := by
  obtain ⟨vs, h⟩ := h
  exact ⟨vs, Rob.chg (fun _ _ hb h => ⟨h.1.kept hb, h.2.kept hb⟩) h hc hg⟩
theorem PartsR.row {D : Nat → Prop} {w : World} {A : Option Addr} {n c : Nat} {ls : List (List Nat)} (h : PartsR D w A n c ls) {i : Nat} (hi : i < ls.length) :
    ∃ b off A' n' c', A = some ⟨b, off, none⟩ ∧ w.cell? ⟨b, off + i, none⟩ = some (.slice A' n' c') ∧ Rob D w fun W => Has W A' n' c' (u8s ls[i]) := by
  obtain ⟨vs, h⟩ := h
  have h0 := h.here
  have hl : vs.length = ls.length := h0.2.1
  have hln := h0.1.len
  obtain ⟨b, off, hA, _, hc⟩ := h0.1.spot (by omega)
  obtain ⟨A', n', c', e, _⟩ := h0.2.2 i hi
  refine ⟨b, off, A', n', c', hA, hc i _ e, h.map fun W hW => ?_⟩
  obtain ⟨A2, n2, c2, e2, h2⟩ := hW.2.2 i hi
  rw [e] at e2
  cases e2
  exact h2

theorem PartsR.cell {D : Nat → Prop} {w : World} {b off n c : Nat} {ls : List (List Nat)} (h : PartsR D w (some ⟨b, off, none⟩) n c ls) {i : Nat} (hi : i < ls.length) {A' : Option Addr} {n' c' : Nat} (hc : w.cell? ⟨b, off + i, none⟩ = some (.slice A' n' c')) : Rob D w fun W => W.cell? ⟨b, off + i, none⟩ = some (.slice A' n' c') := by
  obtain ⟨vs, h⟩ := h
  have h0 := h.here
  have hl : vs.length = ls.length := h0.2.1
  obtain ⟨b0, off0, hA, _, hc0⟩ := h0.1.spot (by have := h0.1.len; omega)
  cases hA
  have e : vs[i]? = some (.slice A' n' c') := by
    have h1 := hc0 i vs[i] (List.getElem?_eq_getElem (by omega))
    rw [hc] at h1
    rw [List.getElem?_eq_getElem (by omega)]; exact h1.symm
  refine h.map fun W hW => ?_
  obtain ⟨b1, off1, hA1, _, hc1⟩ := hW.1.spot (by have := h0.1.len; omega)
  cases hA1
  exact hc1 i _ e
set_option maxRecDepth 100000 in
set_option maxHeartbeats 1000000 in
theorem refCut_any (A : Option Addr) (n c : Nat) (bs : List Nat) (B : Option Addr) (m d : Nat) (at_ : List Nat) (w : World) (D : Nat → Prop) (hD : Sit D w.heap.size) (h : Rob D w fun W => Has W A n c (u8s bs)) (h2 : Has w B m d (u8s at_)) (ha : ∀ x ∈ at_, x < 256) (hn : n ≤ 1000000) (hm : m ≤ 1000000) :
    Calls Try.prog 9 #[.slice A n c, .slice B m d] w fun e w' => ∃ A' c', e = .returned (.slice A' (cutN bs at_).length c') ∧ PartsR D w' A' (cutN bs at_).length c' (cutN bs at_) ∧ Below w.heap.size w w' := by
  have HL : Hid (at_.length = m) := by have := h2.len; rw [u8s_len] at this; exact this
  have HH := Lib.hid h
  have HH2 := Lib.hid h2
  have HA := Lib.hid ha
  have HD := Lib.hid hD
  clear h h2 ha hD
  go_enter Try.func9, Try.ntmps9
  go_wp2
  go_loopg [0, 5, 6] m (fun g s0 s5 s6 wx => ∃ (i : Nat) (A1 : Option Addr) (n1 c1 : Nat) (rest : List Nat) (vs : List Value) (ls : List (List Nat)), i + g = m ∧ s6 = .int .i64 i ∧ s0 = .slice A1 n1 c1 ∧ n1 ≤ n ∧ vs.length = i ∧ Hid (Rob D w fun W => Has W A1 n1 c1 (u8s rest)) ∧ Hid (Own wx w.heap.size 22 s5 vs) ∧ Hid (Rob D w fun W => RowsOf W vs ls) ∧ Hid (cutN bs at_ = ls ++ cutN rest (at_.drop i)) ∧ Hid (Below w.heap.size w wx))
  case atStart => exact ⟨0, A, n, c, bs, [], [], by omega, rfl, rfl, Nat.le_refl _, rfl, HH, Own.nil _ _ _, fun _ _ => ⟨rfl, fun i hi => absurd hi (by simp)⟩, rfl, Below.refl _ _⟩
  case round =>
    obtain ⟨i, A1, n1, c1, rest, vs, ls, hig, rfl, rfl, hn1, hvl, HR, HO, HRo, HC, HB⟩ := hrel
    have hrl : rest.length = n1 := by have := HR.out.here.len; rw [u8s_len] at this; exact this
    have hcap := HR.out.here.cap
    have hz := HB.out.size
    by_cases hi : i < m
    · have hil : i < at_.length := by rw [HL.out]; exact hi
      obtain ⟨b, off, rfl, _, hc⟩ := (HH2.out.kept HB.out).spot (by omega)
      have hcell := hc i _ (u8s_at hil)
      have hx8 := HA.out _ (List.getElem_mem hil)
      have HC2 : Hid (cutN bs at_ = ls ++ [rest.take (min at_[i] n1)] ++ cutN (rest.drop (min at_[i] n1)) (at_.drop (i + 1))) := by
        show _ = _
        rw [HC.out, List.drop_eq_getElem_cons hil, cutN, hrl]; simp
      have ti : decide ((i : Int) < (m : Int)) = true := by simp; omega
      clear hc hrl HC
      generalize at_[i] = x at *
      have key : ∀ k, k ≤ n1 → min x n1 = k → (Rob D w fun W => Has W (if c1 = k then A1 else A1.map (·.add k)) (n1 - k) (c1 - k) (u8s (rest.drop k))) ∧ (Rob D w fun W => RowsOf W (vs ++ [.slice A1 k c1]) (ls ++ [rest.take k])) ∧ cutN bs at_ = ls ++ [rest.take k] ++ cutN (rest.drop k) (at_.drop (i + 1)) := by
        intro k hkn hk
        refine ⟨HR.out.map fun W h => h.tail hkn, (HRo.out.both HR.out).map fun W h => ?_, by rw [HC2.out, hk]⟩
        have hd := h.2.head (m := k) hkn
        rw [show (u8s rest).take k = u8s (rest.take k) by simp [u8s]] at hd
        exact h.1.snoc hd
      have hA : A1 = none → c1 = 0 := HR.out.here.bare
      clear HR HRo HC2
      by_cases hx : n1 < x
      · obtain ⟨hk2, hk3, hk4⟩ := key n1 (Nat.le_refl _) (by omega)
        have HRo2 := Lib.hid hk3
        have HC2 := Lib.hid hk4
        clear key hk3 hk4
        by_cases hck : c1 = n1
        · rw [if_pos hck] at hk2
          obtain rfl : n1 = c1 := hck.symm
          rw [Nat.sub_self] at hk2
          have HTl := Lib.hid hk2
          clear hk2
          go_wp2_with (at_builtin
                       refine wpList_join rfl _ _ 29 rfl elemP w.heap.size _ _ rfl (HO.out.alloc _) _ 1 1 [.slice A1 n1 n1] rfl (Has.one _ _ _) (by simp; rfl) (by simp; omega) (by decide) (by simp; omega) ?_
                       intro v2 w2 hown2 hbel2
                       have HO2 := Lib.hid hown2
                       have HB2 := Lib.hid ((new_alloc HB.out _).trans hbel2)
                       clear hown2 hbel2)
          go_roundg (gk - 1)
          case measure => omega
          case rel => exact ⟨i + 1, _, _, _, rest.drop n1, _, _, by omega, by go_num, rfl, by omega, by simp [hvl], HTl, HO2, HRo2, HC2, HB2⟩
        · rw [if_neg hck] at hk2
          obtain ⟨a, rfl⟩ : ∃ a, A1 = some a := by
            cases A1 with
            | none => have := hA rfl; omega
            | some a => exact ⟨a, rfl⟩
          simp only [Option.map_some, Nat.sub_self] at hk2
          have HTl := Lib.hid hk2
          clear hk2
          go_wp2_with (at_builtin
                       refine wpList_join rfl _ _ 29 rfl elemP w.heap.size _ _ rfl (HO.out.alloc _) _ 1 1 [.slice (some a) n1 c1] rfl (Has.one _ _ _) (by simp; rfl) (by simp; omega) (by decide) (by simp; omega) ?_
                       intro v2 w2 hown2 hbel2
                       have HO2 := Lib.hid hown2
                       have HB2 := Lib.hid ((new_alloc HB.out _).trans hbel2)
                       clear hown2 hbel2)
          go_roundg (gk - 1)
          case measure => omega
          case rel => exact ⟨i + 1, _, _, _, rest.drop n1, _, _, by omega, by go_num, rfl, by omega, by simp [hvl], HTl, HO2, HRo2, HC2, HB2⟩
      · obtain ⟨hk2, hk3, hk4⟩ := key x (by omega) (by omega)
        have HRo2 := Lib.hid hk3
        have HC2 := Lib.hid hk4
        clear key hk3 hk4
        by_cases hck : c1 = x
        · rw [if_pos hck] at hk2
          obtain rfl : x = c1 := hck.symm
          rw [Nat.sub_self, show n1 - x = 0 by omega] at hk2
          have HTl := Lib.hid hk2
          clear hk2
          go_wp2_with (at_builtin
                       refine wpList_join rfl _ _ 29 rfl elemP w.heap.size _ _ rfl (HO.out.alloc _) _ 1 1 [.slice A1 x x] rfl (Has.one _ _ _) (by simp; rfl) (by simp; omega) (by decide) (by simp; omega) ?_
                       intro v2 w2 hown2 hbel2
                       have HO2 := Lib.hid hown2
                       have HB2 := Lib.hid ((new_alloc HB.out _).trans hbel2)
                       clear hown2 hbel2)
          go_roundg (gk - 1)
          case measure => omega
          case rel => exact ⟨i + 1, _, _, _, rest.drop x, _, _, by omega, by go_num, rfl, by omega, by simp [hvl], HTl, HO2, HRo2, HC2, HB2⟩
        · rw [if_neg hck] at hk2
          obtain ⟨a, rfl⟩ : ∃ a, A1 = some a := by
            cases A1 with
            | none => have := hA rfl; omega
            | some a => exact ⟨a, rfl⟩
          simp only [Option.map_some] at hk2
          have HTl := Lib.hid hk2
          clear hk2
          go_wp2_with (at_builtin
                       refine wpList_join rfl _ _ 29 rfl elemP w.heap.size _ _ rfl (HO.out.alloc _) _ 1 1 [.slice (some a) x c1] rfl (Has.one _ _ _) (by simp; rfl) (by simp; omega) (by decide) (by simp; omega) ?_
                       intro v2 w2 hown2 hbel2
                       have HO2 := Lib.hid hown2
                       have HB2 := Lib.hid ((new_alloc HB.out _).trans hbel2)
                       clear hown2 hbel2)
          go_roundg (gk - 1)
          case measure => omega
          case rel => exact ⟨i + 1, _, _, _, rest.drop x, _, _, by omega, by go_num, rfl, by omega, by simp [hvl], HTl, HO2, HRo2, HC2, HB2⟩
    · have ti : decide ((i : Int) < (m : Int)) = false := by simp; omega
      have HC2 : Hid (cutN bs at_ = ls ++ [rest]) := by show _ = _; rw [HC.out, List.drop_eq_nil_of_le (by rw [HL.out]; omega), cutN]
      clear HC
      go_wp2_with (at_builtin
                   refine wpList_join rfl _ _ 29 rfl elemP w.heap.size _ _ rfl (HO.out.alloc _) _ 1 1 [.slice A1 n1 c1] rfl (Has.one _ _ _) (by simp; rfl) (by simp; omega) (by decide) (by simp; omega) ?_
                   intro v2 w2 hown2 hbel2
                   have HO2 := Lib.hid hown2
                   have HB2 := Lib.hid ((new_alloc HB.out _).trans hbel2)
                   clear hown2 hbel2)
      go_ret
      rw [HC2.out]
      obtain ⟨A3, c3, e3, hh3⟩ := HO2.out.has
      have HRz := (HRo.out.both HR.out).map (G := fun W => RowsOf W (vs ++ [Value.slice A1 n1 c1]) (ls ++ [rest])) fun W h => h.1.snoc h.2
      have hl2 : (vs ++ [Value.slice A1 n1 c1]).length = (ls ++ [rest]).length := HRz.here.1
      have hO := HO2.out
      rw [e3] at hO
      rw [hl2] at e3 hO
      refine ⟨A3, c3, by rw [e3]; rfl, ⟨vs ++ [Value.slice A1 n1 c1], ((Rob.row hO HD.out).both (Rob.kept (fun _ _ hb h => h.kept hb) HRz HD.out HB2.out)).map fun W h => ?_⟩, HB2.out⟩
      obtain ⟨A4, c4, e4, hh4⟩ := h.1.has
      rw [hl2] at e4 hh4
      cases e4
      exact ⟨hh4, h.2⟩
end Go.Proofs.Ytdheppfooapneaa

/- lapidaryref04.Held. -/
namespace Go.Proofs.Ytdheppfooapneaa
open Go.RowKit

theorem sum_next {l : List Sec} {i : Nat} (h : i < l.length) : ((l.take (i + 1)).map fun s => s.2.length).sum = ((l.take i).map fun s => s.2.length).sum + l[i].2.length := by
  rw [List.take_succ_eq_append_getElem h, List.map_append, List.sum_append]; simp
theorem sum_part (l : List Sec) (i : Nat) : ((l.take i).map fun s => s.2.length).sum ≤ (l.map fun s => s.2.length).sum := by
  have e : l.map (fun s => s.2.length) = (l.take i).map (fun s => s.2.length) ++ (l.drop i).map (fun s => s.2.length) := by rw [← List.map_append, List.take_append_drop]
  rw [e, List.sum_append]; omega

set_option maxRecDepth 100000 in
set_option maxHeartbeats 1000000 in
theorem refHeld_any (v : Value) (s : St) (w : World) (D : Nat → Prop) (hv : StV D w s v) (hs : s.took.length + (s.l.map fun x => x.2.length).sum ≤ 90000) (hl : s.l.length ≤ 90000) :
    Calls Try.prog 14 #[v] w fun e w' => e = .returned (.int .i64 (heldN s : Int)) ∧ Below w.heap.size w w' := by
  obtain ⟨A, n, c, B, m, d, rfl, h1, h2⟩ := hv
  have HH2 := Lib.hid h2.here
  have HL := Lib.hid h2.here.len
  have hn : s.took.length = n := by have := h1.here.len; rw [u8s_len] at this; exact this
  rw [hn] at hs
  rw [HL.out] at hl
  obtain ⟨q0, hq0⟩ : ∃ q0, (if s.fin = true then 0 else n) = q0 := ⟨_, rfl⟩
  have hq0n : q0 ≤ n := by rw [← hq0]; split <;> omega
  have HE : Hid (heldN s = q0 + (s.l.map fun x => x.2.length).sum) := by show _ = _; unfold heldN; rw [hn, hq0]
  clear h1 h2 hn
  go_enter Try.func14, Try.ntmps14
  cases hf : s.fin with
  | true =>
    rw [hf] at hq0
    simp only [if_true] at hq0
    subst hq0
    clear hf
    go_wp2
    go_loopg [3, 4] m (fun g s3 s4 wx => ∃ i : Nat, i + g = m ∧ s4 = .int .i64 i ∧ s3 = .int .i64 ((0 + ((s.l.take i).map fun x => x.2.length).sum : Nat) : Int) ∧ Hid (wx.cell? ⟨w.heap.size, 4, none⟩ = some (.slice B m d)) ∧ Hid (Below w.heap.size w wx))
    case atStart =>
      refine ⟨0, by omega, rfl, by simp, ?_, new_alloc (Below.refl _ _) _⟩
      show _ = _
      rw [World.cell?_alloc_at _ _ _ _ rfl]; rfl
    case round =>
      obtain ⟨i, hig, rfl, rfl, HC, HB⟩ := hrel
      have hcl := HC.out
      have hst := sum_part s.l i
      by_cases hi : i < m
      · have hil : i < s.l.length := by rw [HL.out]; exact hi
        obtain ⟨b, off, A', n', c', rfl, _, hl', hrow⟩ := HH2.out.at_ hil
        obtain ⟨hy1, hc2, hy3⟩ := hrow _ HB.out
        have HX := Lib.hid (sum_next hil)
        rw [hl'] at HX
        have hst2 := sum_part s.l (i + 1)
        rw [HX.out] at hst2
        have ti : decide ((i : Int) < (m : Int)) = true := by simp; omega
        clear hrow hl' hy1 hy3 hil
        generalize ((s.l.take i).map fun x => x.2.length).sum = q at *
        generalize (s.l.map fun x => x.2.length).sum = Q at *
        go_wp2
        go_roundg (gk - 1)
        case measure => omega
        case rel => exact ⟨i + 1, by omega, by go_num, by rw [HX.out]; congr 1; omega, HC, HB⟩
      · have ti : decide ((i : Int) < (m : Int)) = false := by simp; omega
        have HE2 : Hid (heldN s = 0 + ((s.l.take i).map fun x => x.2.length).sum) := by
          show _ = _
          rw [HE.out, List.take_of_length_le (by rw [HL.out]; omega)]
        generalize ((s.l.take i).map fun x => x.2.length).sum = q at *
        go_wp2
        go_ret
        rw [HE2.out]
        exact ⟨rfl, HB.out⟩
  | false =>
    rw [hf] at hq0
    simp only [Bool.false_eq_true, if_false] at hq0
    subst hq0
    clear hf
    go_wp2
    go_loopg [3, 4] m (fun g s3 s4 wx => ∃ i : Nat, i + g = m ∧ s4 = .int .i64 i ∧ s3 = .int .i64 ((n + ((s.l.take i).map fun x => x.2.length).sum : Nat) : Int) ∧ Hid (wx.cell? ⟨w.heap.size, 4, none⟩ = some (.slice B m d)) ∧ Hid (Below w.heap.size w wx))
    case atStart =>
      refine ⟨0, by omega, rfl, by simp, ?_, new_alloc (Below.refl _ _) _⟩
      show _ = _
      rw [World.cell?_alloc_at _ _ _ _ rfl]; rfl
    case round =>
      obtain ⟨i, hig, rfl, rfl, HC, HB⟩ := hrel
      have hcl := HC.out
      have hst := sum_part s.l i
      by_cases hi : i < m
      · have hil : i < s.l.length := by rw [HL.out]; exact hi
        obtain ⟨b, off, A', n', c', rfl, _, hl', hrow⟩ := HH2.out.at_ hil
        obtain ⟨hy1, hc2, hy3⟩ := hrow _ HB.out
        have HX := Lib.hid (sum_next hil)
        rw [hl'] at HX
        have hst2 := sum_part s.l (i + 1)
        rw [HX.out] at hst2
        have ti : decide ((i : Int) < (m : Int)) = true := by simp; omega
        clear hrow hl' hy1 hy3 hil
        generalize ((s.l.take i).map fun x => x.2.length).sum = q at *
        generalize (s.l.map fun x => x.2.length).sum = Q at *
        go_wp2
        go_roundg (gk - 1)
        case measure => omega
        case rel => exact ⟨i + 1, by omega, by go_num, by rw [HX.out]; congr 1; omega, HC, HB⟩
      · have ti : decide ((i : Int) < (m : Int)) = false := by simp; omega
        have HE2 : Hid (heldN s = n + ((s.l.take i).map fun x => x.2.length).sum) := by
          show _ = _
          rw [HE.out, List.take_of_length_le (by rw [HL.out]; omega)]
        generalize ((s.l.take i).map fun x => x.2.length).sum = q at *
        go_wp2
        go_ret
        rw [HE2.out]
        exact ⟨rfl, HB.out⟩
end Go.Proofs.Ytdheppfooapneaa

/- Plain lists: what is read has bytes. -/
namespace Go.Proofs.Ytdheppfooapneaa
open Go.RowKit

theorem dec_byte {bs : List Nat} (hb : ∀ x ∈ bs, x < 256) : ∀ s ∈ (decN bs).1, ∀ x ∈ s.2, x < 256 := by
  by_cases h : (decN bs).2 = 0
  · exact (dec_back (res := (decN bs).1) hb (show decN bs = ((decN bs).1, 0) by rw [← h])).2
  · rw [dec_none h]; intro s hs; cases hs
theorem dec_num (bs : List Nat) (hb : ∀ x ∈ bs, x < 256) : (decN bs).1.length ≤ bs.length := by
  have h := (fold_ok hb st0_ok).l
  unfold decN closeN
  repeat' split
  all_goals simp
  omega
end Go.Proofs.Ytdheppfooapneaa

/- Words for a feeder in memory, and for chunks that it does not hold. -/
namespace Go.Proofs.Ytdheppfooapneaa
open Go.RowKit

theorem Parts.stays : ∀ {A : Option Addr} {n c : Nat} {ls : List (List Nat)} (W W' : World), Below W.heap.size W W' → Parts W A n c ls → Parts W' A n c ls := fun _ _ hb h => h.kept hb
theorem Secs.stays : ∀ {A : Option Addr} {n c : Nat} {l : List Sec} (W W' : World), Below W.heap.size W W' → Secs W A n c l → Secs W' A n c l := fun _ _ hb h => h.kept hb
theorem StV.chg {D D' : Nat → Prop} {w w' : World} {s : St} {v : Value} (h : StV D w s v) (hc : Chg D w w') (hd : ∀ k, k < w.heap.size → D' k → D k) : StV D' w' s v := by
  obtain ⟨A, n, c, B, m, d, e, h1, vs, h2⟩ := h
  exact ⟨A, n, c, B, m, d, e, Rob.chg (fun _ _ hb h => h.kept hb) h1 hc hd, vs, Rob.chg (fun _ _ hb h => ⟨h.1.kept hb, h.2.kept hb⟩) h2 hc hd⟩
theorem Rob.parts1 {D : Nat → Prop} {w : World} {A : Option Addr} {n c : Nat} {l : List Nat} (h : Rob D w fun W => Has W A n c (u8s l)) (hD : Sit D w.heap.size) (e : TypeId) (g : Nat) (hg : g = w.heap.size) : Rob D (w.alloc (.cells #[.slice A n c] e)) fun W => Parts W (some ⟨g, 0, none⟩) 1 1 [l] :=
  Rob.alloc (fun W hW => by
    have := Parts.one (h W hW) e
    rw [hW.size, ← hg] at this
    exact this) hD
end Go.Proofs.Ytdheppfooapneaa
