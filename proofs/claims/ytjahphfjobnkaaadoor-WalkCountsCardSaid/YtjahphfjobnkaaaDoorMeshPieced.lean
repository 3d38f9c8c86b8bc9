/- The landed mesh: Pieces. -/
import Derived.Test.YtjahphfjobnkaaaDoorMeshCodeS
namespace Go.Proofs.YtjahphfjobnkaaaDoor
open Go.RowKit

theorem SidesW.chg {w w' : World} {b : Nat} {T : List P3} {D : Nat → Prop} (h : SidesW w b T) (hc : Chg D w w') (hb : ¬ D b) : SidesW w' b T := by
  have hl := h.lt
  obtain ⟨es, clock, h1, h2⟩ := h
  exact ⟨es, clock, (hc.block b hl hb).trans h1, h2⟩
theorem piece_f {T : List P3} {p : List Nat} (h : PiecesIs T p) : PieceF T fun j => p[j]?.getD 0 := by
  intro j u hj hu
  have hj2 : j < p.length := by rw [h.len]; exact hj
  have hu2 : u < p.length := by rw [h.len]; exact hu
  have := h.same j u hj2 hu2
  simp only [List.getElem?_eq_getElem hj2, List.getElem?_eq_getElem hu2, Option.getD_some]
  exact this
theorem num_le {f : Nat → Nat} {p : List Nat} (hr : ∀ (i : Nat) (hi : i < p.length), p[i] ≤ maxNext (p.take i)) (hf : ∀ (i : Nat) (hi : i < p.length), f i = p[i]) : ∀ i, i ≤ p.length → maxNext (p.take i) ≤ i := by
  intro i
  induction i with
  | zero => intro _; exact Nat.le_refl _
  | succ i ih =>
    intro h
    have := ih (by omega)
    rcases num_step hr (show i < p.length by omega) (hf i (by omega)) with ⟨_, e⟩ | ⟨_, e⟩ <;> omega
theorem has_row {w : World} {g : Nat} {cs : Array Value} {t : TypeId} {n : Nat} (h : Blk w g t cs) (hn : cs.size = n) : Has w (some ⟨g, 0, none⟩) n n cs.toList := by
  subst hn
  refine ⟨by simp, Nat.le_refl _, (fun h => by cases h), fun _ => ⟨g, 0, rfl, h.lt, fun j v hv => ?_⟩⟩
  rw [Nat.zero_add, h.cell j, ← hv]
  simp
set_option maxRecDepth 100000 in
set_option maxHeartbeats 4000000 in
theorem meshPieces_any (A : Option Addr) (n c : Nat) (P : List P3) (B : Option Addr) (m d : Nat) (T : List P3) (r : Int) (p : List Nat) (w : World) (hbe : BehW w) (hp : HasK 3 w A n c (p3Cells P)) (ht : HasK 3 w B m d (p3Cells T)) (hn : n ≤ 100000) (hm : m ≤ 100000) (hr : CheckIs P T r) (hpp : r = 0 → PiecesIs T p) :
    Calls Tryd.prog 25 #[.agg #[.slice A n c, .slice B m d]] w (Piecd w (if r = 0 then p else []) r) := by
  have HL : Hid (P.length = n) := by have := hp.len; rw [p3Cells_len] at this; show _ = _; omega
  have HM : Hid (T.length = m) := by have := ht.len; rw [p3Cells_len] at this; show _ = _; omega
  have HK0 := Lib.hid (MeshAt.new w (.slice A n c) (.slice B m d))
  have m0 := HK0.out.b0.cell 0
  have m1 := HK0.out.b0.cell 1
  have HSd := Lib.hid (sidesOf_any A n c P B m d T r _ (hbe.kept HK0.out.bel) (hp.kept HK0.out.bel) (ht.kept HK0.out.bel) hn hm hr)
  have HBe := Lib.hid hbe
  have HTs := Lib.hid ht
  by_cases h0 : r = 0
  · subst h0
    have HPi := Lib.hid (hpp rfl)
    obtain ⟨_, hpl, hnd, _⟩ := check_zero hr
    have HND := Lib.hid hnd
    have HAl : Hid (T.all (triM n) = true) := by
      unfold plainM at hpl
      rw [HL.out, Bool.and_eq_true] at hpl
      exact hpl.2
    have HPl : Hid (p.length = m) := HPi.out.len.trans HM.out
    have t0 : ((0 : Int) != 0) = false := rfl
    rw [if_pos rfl]
    clear hp ht hbe hr hpp hpl hnd
    go_enter Tryd.func25, Tryd.ntmps25
    go_wp2_with fail
    refine HSd.out.mono ?_
    rintro e w1 ⟨M, rfl, _, hM, hb⟩
    obtain ⟨b, rfl, hs⟩ := hM rfl
    have HK1 := Lib.hid (HK0.out.next hb)
    have HS1 := Lib.hid hs
    clear hb m0 m1 hM hs HSd
    have HK2 := Lib.hid (HK1.out.next (new_alloc (Below.refl _ _) (.cells #[.int .i64 (-1)] 3)))
    have HS2 := Lib.hid (HS1.out.kept (new_alloc (Below.refl _ _) (.cells #[.int .i64 (-1)] 3)))
    have HC2 := Lib.hid ((Blk.new w1 3 #[.int .i64 (-1)]).cell 0)
    have m0 := HK2.out.b0.cell 0
    have m1 := HK2.out.b0.cell 1
    have HRp := Lib.hid (repeat_any w1.heap.size m _ HC2.out hm)
    have hlow : w.heap.size < (w1.alloc (.cells #[.int .i64 (-1)] 3)).heap.size := by
      have := HK1.out.b0.lt
      have e : (w1.alloc (.cells #[.int .i64 (-1)] 3)).heap.size = w1.heap.size + 1 := Array.size_push _
      omega
    have hblt : b < (w1.alloc (.cells #[.int .i64 (-1)] 3)).heap.size := HS2.out.lt
    go_wp2_with fail
    clear m0 m1
    obtain ⟨f, hf⟩ : ∃ f : Nat → Nat, (fun j => p[j]?.getD 0) = f := ⟨_, rfl⟩
    have HF : Hid (PieceF T f) := hf ▸ piece_f HPi.out
    have HFa : Hid (∀ j (hj : j < p.length), f j = p[j]) := fun j hj => by rw [← hf]; simp only [List.getElem?_eq_getElem hj, Option.getD_some]
    clear hf
    generalize hw2 : w1.alloc (.cells #[.int .i64 (-1)] 3) = W2 at *
    clear hw2
    refine HRp.out.mono ?_
    rintro e w3 ⟨rfl, hk3, hb3⟩
    have HK3 := Lib.hid (HK2.out.next hb3)
    have HS3 := Lib.hid (HS2.out.kept hb3)
    rw [rowA_none m f] at hk3
    have HR3 := Lib.hid hk3
    have hz3 := hb3.size
    generalize W2.heap.size = Gp at *
    clear hb3 HRp hk3 HK2 HS2
    have HBel : Hid (∀ W, Chg (fun k => k = Gp) w3 W → Below w.heap.size w W) := fun W hW => HK3.out.bel.trans (hW.below (fun k e => by omega) (by omega))
    have HMe : Hid (∀ W, Chg (fun k => k = Gp) w3 W → W.cell? ⟨w.heap.size, 0, none⟩ = some (.slice A n c) ∧ W.cell? ⟨w.heap.size, 1, none⟩ = some (.slice B m d)) := fun W hW => ⟨(HK3.out.b0.chg hW (by omega)).cell 0, (HK3.out.b0.chg hW (by omega)).cell 1⟩
    have HSx : Hid (∀ W, Chg (fun k => k = Gp) w3 W → SidesW W b T) := fun W hW => HS3.out.chg hW (by omega)
    obtain ⟨m0, m1⟩ := HMe.out w3 (Chg.refl _ _)
    go_wp2
    clear m0 m1
    go_loopg [7, 25] m (fun g s7 s25 wx => ∃ i : Nat, i + g = m ∧ s25 = .int .i64 i ∧ s7 = .int .i64 ((maxNext (p.take i) : Nat) : Int) ∧ Hid (Chg (fun k => k = Gp) w3 wx) ∧ Hid (Blk wx Gp 3 (rowA (numTo f (maxNext (p.take i))) m)))
    case atStart => exact ⟨0, by omega, rfl, rfl, Chg.refl _ _, HR3.out⟩
    case round =>
      clear HR3
      obtain ⟨i, hig, rfl, rfl, HC, HR⟩ := hrel
      by_cases hi : i < m
      · have ti : decide ((i : Int) < (m : Int)) = true := by simp; omega
        have i2 : (i : Int) < (m : Int) := by omega
        have hip : i < p.length := by rw [HPl.out]; exact hi
        have hNi : maxNext (p.take i) ≤ i := num_le HPi.out.rise HFa.out i (by omega)
        have hst := num_step HPi.out.rise hip (HFa.out i hip)
        obtain ⟨m0, m1⟩ := HMe.out wr HC.out
        have c0 := HR.out.cell i
        rw [rowA_at _ hi] at c0
        rcases hst with ⟨h1, h2⟩ | ⟨h1, h2⟩
        · have hnm : numTo f (maxNext (p.take i)) i = (f i : Int) := by unfold numTo; rw [if_pos h1]
          have tn : ((f i : Int) == -1) = false := beq_eq_false_iff_ne.2 (by omega)
          rw [hnm] at c0
          have HR2 := HR
          rw [← h2] at HR2
          generalize f i = fi at *
          clear hnm h1 HR
          go_wp2
          go_roundg (m - (i + 1))
          case measure => omega
          case rel => exact ⟨i + 1, by omega, by go_num, by rw [h2], HC, HR2⟩
        · have hnm : numTo f (maxNext (p.take i)) i = -1 := by unfold numTo; rw [if_neg (by omega)]
          rw [hnm] at c0
          have HSp := Lib.hid (spread_any b B m d n T f (maxNext (p.take i)) i Gp wr
            (fun W hW => HBe.out.kept (HBel.out W (HC.out.then_ hW (fun _ _ e => e)))) (fun W hW => HSx.out W (HC.out.then_ hW (fun _ _ e => e))) (fun W hW => HTs.out.kept (HBel.out W (HC.out.then_ hW (fun _ _ e => e))))
            HAl.out hn hm HND.out HF.out hi h1 HR.out)
          rw [← h2] at HSp
          have hN2 : IntKind.wrap .i64 ((maxNext (p.take i) : Nat) + 1 : Int) = ((maxNext (p.take (i + 1)) : Nat) : Int) := by rw [IntKind.wrap_i64, h2]; omega
          generalize maxNext (p.take i) = N at *
          clear hnm h1 HR h2
          go_wp2_with fail
          refine HSp.out.mono ?_
          rintro e w5 ⟨rfl, hc5, hr5⟩
          have HC5 := Lib.hid (HC.out.then_ hc5 (fun _ _ e => e))
          have HR5 := Lib.hid hr5
          clear hc5 hr5 m0 m1 HSp
          obtain ⟨m0, m1⟩ := HMe.out w5 HC5.out
          go_wp2
          go_roundg (m - (i + 1))
          case measure => omega
          case rel => exact ⟨i + 1, by omega, by go_num, by first | rfl | rw [hN2], HC5, HR5⟩
      · have ti : decide ((i : Int) < (m : Int)) = false := by simp; omega
        obtain rfl : i = m := by omega
        have HRe := HR
        rw [List.take_of_length_le (Nat.le_of_eq HPl.out)] at HRe
        have HHas : Hid (Has wr (some ⟨Gp, 0, none⟩) p.length p.length (natVs p)) := by
          have h := has_row (n := p.length) HRe.out (by unfold rowA; rw [Array.size_ofFn, HPl.out])
          rw [← HPl.out, rowA_nums p HFa.out (fun j hj => by rw [HFa.out j hj]; exact maxNext_mem (List.getElem_mem hj))] at h
          exact h
        go_wp2
        go_ret2
        refine ⟨some ⟨Gp, 0, none⟩, p.length, by rw [HPl.out]; rfl, HHas.out, HBel.out wr HC.out, fun b' off e => ?_⟩
        cases e
        exact Nat.le_of_lt hlow
  · have t0 : (r != 0) = true := bne_iff_ne.2 h0
    rw [if_neg h0]
    clear hp ht hbe hr hpp h0
    go_enter Tryd.func25, Tryd.ntmps25
    go_wp2_with fail
    refine HSd.out.mono ?_
    rintro e w1 ⟨M, rfl, _, _, hb⟩
    have HK1 := Lib.hid (HK0.out.next hb)
    clear hb m0 m1 HSd
    go_wp2
    go_ret2
    exact ⟨none, 0, rfl, Has.none _ _ _ fun _ => rfl, HK1.out.bel, fun b off e => by cases e⟩
end Go.Proofs.YtjahphfjobnkaaaDoor
