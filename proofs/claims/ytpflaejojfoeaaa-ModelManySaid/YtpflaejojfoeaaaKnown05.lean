/- lapidarylaw05.known, lapidarylaw05.counted. -/
import Derived.Test.YtpflaejojfoeaaaModelCode
import Derived.Outline
namespace Go.Proofs.Ytpflaejojfoeaaa
open Go.RowKit

/-- A number that was boxed for a call, whatever becomes of older blocks. -/
theorem one_rob {D : Nat → Prop} {w : World} (z : Int) (hD : Sit D w.heap.size) (e : TypeId) (g : Nat) (hg : g = w.heap.size) : Rob D (w.alloc (.cells #[.int .i64 z] e)) fun W => Has W (some ⟨g, 0, none⟩) 1 1 (intVs [z]) :=
  Rob.alloc (fun W hW => by
    have := Has.new_at W #[.int .i64 z] e g (by rw [hW.size]; exact hg)
    exact this) hD

set_option maxRecDepth 100000 in
set_option maxHeartbeats 400000 in
theorem known05 (w : World) : Calls Try.prog 10 #[] w fun e w' => e = .returned (.bool true) ∧ Below w.heap.size w w' := by
  have k0 : List.replicate 3 1 = [1, 1, 1] := rfl
  have k1 : countAll [1, 1, 1] [1] = ([1, 33, 1], 0) := by decide
  have k2 : shareN [1, 33, 1] 2 = (34, 1, 0) := by decide
  have k3 : findN [1, 33, 1] 33 = (1, 0) := by decide
  have HC0 : Hid (Cnts [1, 1, 1]) := ⟨by decide, by decide, by decide, by decide⟩
  have HC1 : Hid (Cnts [1, 33, 1]) := ⟨by decide, by decide, by decide, by decide⟩
  go_enter Try.func10, Try.ntmps10
  go_wp2_with fail
  refine (modelNew_any 3 _ (by decide) (by decide)).mono ?_
  rintro e w1 ⟨p, S1, rfl, hf1, hS1, hb1⟩
  rw [k0] at hf1
  have HF1 := Lib.hid hf1
  have HS1 := Lib.hid hS1
  have HB1 := Lib.hid hb1
  have hz1 := hb1.size
  have HO1 := Lib.hid (one_rob (D := S1) (w := w1) 1 hf1.sit 3 _ rfl)
  have HF2 := Lib.hid (hf1.chg (w' := w1.alloc (.cells #[.int .i64 1] 3)) (D := fun _ => False) (Chg.of_below (new_alloc (Below.refl _ _) _)) (fun _ _ h => h))
  clear hf1 hS1 hb1 k0
  go_wp2_with fail
  refine (modelCount_any p S1 [1, 1, 1] _ 1 1 [1] _ HF2.out HC0.out HO1.out (by decide)).mono ?_
  rintro e w3 ⟨S3, rfl, hf3, hc3, hs3⟩
  rw [k1] at hf3 ⊢
  have HF3 := Lib.hid hf3
  have HB3 : Hid (Below w.heap.size w w3) := (new_alloc HB1.out _).trans (hc3.below HS1.out (by simp; omega))
  clear hf3 hc3 hs3 HF2 HO1 k1
  go_wp2_with fail
  refine (modelShare_any p S3 _ 2 _ HF3.out HC1.out).mono ?_
  rintro e w4 ⟨rfl, hb4⟩
  rw [k2]
  have HF4 := Lib.hid (HF3.out.chg (D := fun _ => False) (Chg.of_below hb4) (fun _ _ h => h))
  have HB4 := Lib.hid (new_call HB3.out hb4)
  clear hb4 k2
  go_wp2_with fail
  refine (modelFind_any p S3 _ 33 _ HF4.out HC1.out).mono ?_
  rintro e w5 ⟨rfl, hb5⟩
  rw [k3]
  have HF5 := Lib.hid (HF4.out.chg (D := fun _ => False) (Chg.of_below hb5) (fun _ _ h => h))
  have HB5 := Lib.hid (new_call HB4.out hb5)
  clear hb5 k3
  go_wp2_with fail
  refine (modelTotal_any p S3 _ _ HF5.out HC1.out).mono ?_
  rintro e w6 ⟨rfl, hb6⟩
  have HB6 := Lib.hid (new_call HB5.out hb6)
  clear hb6
  go_wp2_with fail
  refine (modelCount_nil _).mono ?_
  rintro e w7 ⟨rfl, hb7⟩
  have HB7 := Lib.hid (new_call HB6.out hb7)
  clear hb7
  go_wp2
  go_ret
  exact ⟨rfl, HB7.out⟩

/-- Counts behind symbols that came, by their rest. -/
def cntd (n : Nat) (l : List Nat) : List Nat := (l.map (· % n)).foldl countN (List.replicate n 1)
theorem cntd_len (n : Nat) (l : List Nat) : (cntd n l).length = n := by unfold cntd; rw [fold_len5]; simp
theorem cntd_ok {n : Nat} (h1 : 1 ≤ n) (h2 : n ≤ 256) (l : List Nat) : Cnts (cntd n l) :=
  Cnts.fold _ (Cnts.new h1 h2) fun x hx => by
    obtain ⟨y, _, rfl⟩ := List.mem_map.1 hx
    simpa using Nat.mod_lt y (by omega)
theorem cntd_snoc {n : Nat} {l : List Nat} {i : Nat} (h : i < l.length) : cntd n (l.take (i + 1)) = countN (cntd n (l.take i)) (l[i] % n) := by
  unfold cntd
  rw [List.take_succ_eq_append_getElem h, List.map_append, List.foldl_append]; rfl

set_option maxRecDepth 100000 in
set_option maxHeartbeats 1000000 in
theorem counted_any (n : Nat) (A : Option Addr) (m c : Nat) (l : List Nat) (w : World) (h : Has w A m c (u16s l)) (hl : ∀ x ∈ l, x < 65536) (hm : m ≤ 900) (h1 : 1 ≤ n) (h2 : n ≤ 256) :
    Calls Try.prog 11 #[.int .i64 (n : Int), .slice A m c] w fun e w' => ∃ p S A' c', e = .returned (.tuple #[.pointer (some ⟨p, 0, none⟩), .slice A' n c']) ∧ Mdl w' p S (cntd n l) ∧ (Rob S w' fun W => Has W A' n c' (i64s (cntd n l))) ∧ (∀ k, S k → w.heap.size ≤ k) ∧ Below w.heap.size w w' := by
  have HL : Hid (l.length = m) := by have := h.len; rw [u16s_len] at this; exact this
  have HH := Lib.hid h
  have HLb := Lib.hid hl
  clear h hl
  go_enter Try.func11, Try.ntmps11
  go_wp2_with fail
  refine (modelNew_any n _ h1 h2).mono ?_
  rintro e w1 ⟨p, S1, rfl, hf1, hS1, hb1⟩
  have HF1 := Lib.hid hf1
  have HS1 := Lib.hid hS1
  have HB1 := Lib.hid hb1
  clear hf1 hS1 hb1
  go_wp2_with fail
  refine (ref5New_any n w1 (by omega)).mono ?_
  rintro e w2 ⟨v2, rfl, ho2, hb2⟩
  have HF2 := Lib.hid (HF1.out.chg (D := fun _ => False) (Chg.of_below hb2) (fun _ _ h => h))
  have HR2 := Lib.hid (Rob.row (D := S1) ho2 HF1.out.sit)
  have HB2 := Lib.hid (new_call HB1.out hb2)
  clear ho2 hb2 HF1 HB1
  have HR3 : Hid (∃ A' c', v2 = .slice A' n c' ∧ Rob S1 w2 fun W => Has W A' n c' (i64s (cntd n (l.take 0)))) := by
    obtain ⟨A', c', e', _⟩ := HR2.out.here.has
    rw [i64s_len, List.length_replicate] at e'
    refine ⟨A', c', e', HR2.out.map fun W h => ?_⟩
    obtain ⟨A2, c2, e2, h2⟩ := h.has
    rw [i64s_len, List.length_replicate] at e2 h2
    rw [e'] at e2
    cases e2
    exact h2
  clear HR2
  go_wp2
  go_loopg [8, 9] m (fun g s8 s9 wx => ∃ (i : Nat) (S : Nat → Prop) (A' : Option Addr) (c' : Nat), i + g = m ∧ s9 = .int .i64 i ∧ s8 = .slice A' n c' ∧ Hid (Mdl wx p S (cntd n (l.take i))) ∧ Hid (Rob S wx fun W => Has W A' n c' (i64s (cntd n (l.take i)))) ∧ Hid (∀ k, S k → w.heap.size ≤ k) ∧ Hid (Below w.heap.size w wx))
  case atStart =>
    obtain ⟨A', c', rfl, hr⟩ := HR3.out
    exact ⟨0, S1, A', c', by omega, rfl, rfl, HF2, hr, HS1, HB2⟩
  case round =>
    obtain ⟨i, S, A', c', hig, rfl, rfl, HF, HR, HS, HB⟩ := hrel
    clear HF2 HR3 HS1 HB2
    have hz := HB.out.size
    by_cases hi : i < m
    · have hil : i < l.length := by rw [HL.out]; exact hi
      have ti : decide ((i : Int) < (m : Int)) = true := by simp; omega
      obtain ⟨b, off, rfl, hlt, hc⟩ := HH.out.spot (by omega)
      have hc0 := hc i _ (u16s_at hil)
      have hcell := (HB.out.cell (p := ⟨b, off + i, none⟩) hlt).trans hc0
      have hx := HLb.out _ (List.getElem_mem hil)
      have HSn := Lib.hid (cntd_snoc (n := n) hil)
      have HCo := Lib.hid (cntd_ok h1 h2 (l.take i))
      have hle := cntd_len n (l.take i)
      have HLe := Lib.hid hle
      have hsum := HCo.out.sum
      obtain ⟨k, hk⟩ : ∃ k, l[i] % n = k := ⟨_, rfl⟩
      rw [hk] at HSn
      have hkn : k < n := by rw [← hk]; exact Nat.mod_lt _ (by omega)
      have hq : ((l[i] : Nat) : Int) % (n : Int) = (k : Int) := by rw [← hk, Int.natCast_emod]
      have HC1 := Lib.hid (countAll_one (cs := cntd n (l.take i)) (s := k) (by rw [hle]; exact hkn))
      have hn0 : ¬ ((n : Nat) : Int) = 0 := by omega
      clear hc hk hle
      generalize l[i] = x at *
      generalize cntd n (l.take i) = cs at *
      have HO1 := Lib.hid (one_rob (D := S) (w := wr) (k : Int) HF.out.sit 3 _ rfl)
      have HF2 := Lib.hid (HF.out.chg (w' := wr.alloc (.cells #[.int .i64 (k : Int)] 3)) (D := fun _ => False) (Chg.of_below (new_alloc (Below.refl _ _) _)) (fun _ _ h => h))
      go_wp2_with fail
      refine (modelCount_any p S cs _ 1 1 [(k : Int)] _ HF2.out HCo.out HO1.out (by decide)).mono ?_
      rintro e w3 ⟨S3, rfl, hf3, hc3, hs3⟩
      rw [HC1.out] at hf3 ⊢
      have hA : Below wr.heap.size wr (wr.alloc (.cells #[.int .i64 (k : Int)] 3)) := new_alloc (Below.refl _ _) _
      have hcc : Chg S wr w3 := (Chg.of_below hA).then_ hc3 fun _ _ h => h
      have hs3' : ∀ k, S3 k → S k ∨ wr.heap.size ≤ k := fun k hk => by
        rcases hs3 k hk with h | h
        · exact Or.inl h
        · exact Or.inr (Nat.le_trans hA.size h)
      have HF3 := Lib.hid hf3
      have HS3 : Hid (∀ k, S3 k → w.heap.size ≤ k) := fun k hk => by
        rcases hs3' k hk with h | h
        · exact HS.out k h
        · omega
      have HR3 := Lib.hid (Rob.chg (G' := S3) Has.stays HR.out hcc fun k hk h => by
        rcases hs3' k h with h | h
        · exact h
        · omega)
      have HB3 : Hid (Below w.heap.size w w3) := HB.out.trans (hcc.below HS.out hz)
      have hcell3 := (HB3.out.cell (p := ⟨b, off + i, none⟩) hlt).trans hc0
      clear hf3 hc3 hs3 hA hcc hs3' HF2 HO1 HF HR HB HS HC1 hcell hc0
      go_wp2_with fail
      refine (ref5Count_any A' n c' cs k w3 HR3.out.here hkn (by omega) (by omega)).mono ?_
      rintro e w4 ⟨v4, rfl, ho4, hb4⟩
      rw [← HSn.out] at ho4
      have HR4 : Hid (∃ A4 c4, v4 = .slice A4 n c4 ∧ Rob S3 w4 fun W => Has W A4 n c4 (i64s (cntd n (l.take (i + 1))))) := by
        obtain ⟨A4, c4, e4, _⟩ := ho4.has
        rw [i64s_len, cntd_len] at e4
        refine ⟨A4, c4, e4, (Rob.row (D := S3) ho4 HF3.out.sit).map fun W h => ?_⟩
        obtain ⟨A5, c5, e5, h5⟩ := h.has
        rw [i64s_len, cntd_len] at e5 h5
        rw [e4] at e5
        cases e5
        exact h5
      have HF4 : Hid (Mdl w4 p S3 (cntd n (l.take (i + 1)))) := by
        show Mdl _ _ _ _
        rw [HSn.out]; exact HF3.out.chg (D := fun _ => False) (Chg.of_below hb4) (fun _ _ h => h)
      have HB4 := Lib.hid (new_call HB3.out hb4)
      clear ho4 hb4
      obtain ⟨A4, c4, rfl, hr4⟩ := HR4.out
      have HR5 := Lib.hid hr4
      clear hr4 HR4
      go_wp2
      go_roundg (gk - 1)
      case measure => omega
      case rel => exact ⟨i + 1, S3, A4, c4, by omega, by go_num, rfl, HF4, HR5, HS3, HB4⟩
    · have ti : decide ((i : Int) < (m : Int)) = false := by simp; omega
      rw [List.take_of_length_le (by rw [HL.out]; omega)] at HF HR
      go_wp2
      go_ret2
      exact ⟨p, S, A', c', rfl, HF.out, HR.out, HS.out, HB.out⟩
end Go.Proofs.Ytpflaejojfoeaaa
