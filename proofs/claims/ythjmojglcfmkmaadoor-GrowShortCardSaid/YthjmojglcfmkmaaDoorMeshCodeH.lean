/- The landed mesh: all edges of a surface, or what is wrong; Check. -/
import Derived.Test.YthjmojglcfmkmaaDoorMeshCodeG
namespace Go.Proofs.YthjmojglcfmkmaaDoor
open Go.RowKit

/-- All edges of a surface, or what is wrong. -/
def SidesOut (w : World) (T : List P3) (r : Int) (e : Ending) (w' : World) : Prop := ∃ M : Option Nat, e = .returned (.tuple #[.map M, .int .i64 r]) ∧ (r ≠ 0 → M = none) ∧ (r = 0 → ∃ b, M = some b ∧ SidesW w' b T) ∧ Below w.heap.size w w'
theorem fans_bool (P T : List P3) (n : Nat) (h : P.length = n) : ∃ R : Bool, (R = true ↔ ∀ v : Nat, v < n → Fan T (v : Int)) ∧ (R = true ↔ fansM P T) := by
  subst h
  by_cases hf : fansM P T
  · exact ⟨true, ⟨fun _ => hf, fun _ => rfl⟩, ⟨fun _ => hf, fun _ => rfl⟩⟩
  · exact ⟨false, ⟨fun h => (by cases h), fun h => absurd h hf⟩, ⟨fun h => (by cases h), fun h => absurd h hf⟩⟩
set_option maxRecDepth 100000 in
set_option maxHeartbeats 2000000 in
theorem sidesOf_any (A : Option Addr) (n c : Nat) (P : List P3) (B : Option Addr) (m d : Nat) (T : List P3) (r : Int) (w : World) (hbe : BehW w) (hp : HasK 3 w A n c (p3Cells P)) (ht : HasK 3 w B m d (p3Cells T)) (hn : n ≤ 100000) (hm : m ≤ 100000) (hr : CheckIs P T r) : Calls Tryd.prog 52 #[.agg #[.slice A n c, .slice B m d]] w (SidesOut w T r) := by
  have HL : Hid (P.length = n) := by have := hp.len; rw [p3Cells_len] at this; show _ = _; omega
  have HM : Hid (T.length = m) := by have := ht.len; rw [p3Cells_len] at this; show _ = _; omega
  have HR := Lib.hid hr
  have HK0 := Lib.hid (MeshAt.new w (.slice A n c) (.slice B m d))
  have HPl := Lib.hid (fun W (hW : Below w.heap.size w W) => containsPts_any A n c P W (hp.kept hW) hn)
  have HTl := Lib.hid (fun W (hW : Below w.heap.size w W) => allTri_any B m d T n W (hbe.kept hW) (ht.kept hW) hm hn)
  have HLd := Lib.hid (fun (h : T.all (triM n) = true) W (hW : Below w.heap.size w W) => laid_any B m d T n W (hbe.kept hW) (ht.kept hW) hm hn h)
  have HFn := Lib.hid (fun (h : T.all (triM n) = true) (hnd : (darts T).Nodup) (R : Bool) (hR : R = true ↔ ∀ v : Nat, v < n → Fan T (v : Int)) b W (hs : SidesW W b T) (hW : Below w.heap.size w W) => allFans_any b B m d n T R W (hbe.kept hW) hs (ht.kept hW) h hn hm hnd hR)
  clear hp ht hr hbe
  by_cases h1 : 4000 < n
  · have HE : Hid (r = 3) := check_one HR.out (Or.inl ⟨Or.inl (by have := HL.out; omega), rfl⟩)
    have t1 : decide ((4000 : Int) < (n : Int)) = true := decide_eq_true (by omega)
    have t1' : decide (4000 < n) = true := by simpa using h1
    have m0 := HK0.out.b0.cell 0
    have m1 := HK0.out.b0.cell 1
    have hE := HE.out
    clear HE
    subst hE
    clear h1
    go_enter Tryd.func52, Tryd.ntmps52
    go_wp2
    go_ret2
    exact ⟨none, rfl, fun _ => rfl, fun h => absurd h (by decide), HK0.out.bel⟩
  · have t1 : decide ((4000 : Int) < (n : Int)) = false := decide_eq_false (by omega)
    have t1' : decide (4000 < n) = false := by simpa using h1
    by_cases h2 : 8000 < m
    · have HE : Hid (r = 3) := check_one HR.out (Or.inl ⟨Or.inr (by have := HM.out; omega), rfl⟩)
      have t2 : decide ((8000 : Int) < (m : Int)) = true := decide_eq_true (by omega)
      have t2' : decide (8000 < m) = true := by simpa using h2
      have m0 := HK0.out.b0.cell 0
      have m1 := HK0.out.b0.cell 1
      have hE := HE.out
      clear HE
      subst hE
      clear h1 h2
      go_enter Tryd.func52, Tryd.ntmps52
      go_wp2
      go_ret2
      exact ⟨none, rfl, fun _ => rfl, fun h => absurd h (by decide), HK0.out.bel⟩
    · have t2 : decide ((8000 : Int) < (m : Int)) = false := decide_eq_false (by omega)
      have t2' : decide (8000 < m) = false := by simpa using h2
      have HSh : Hid (¬ longM P T) := fun h => by
        have e1 := HL.out
        have e2 := HM.out
        rcases h with h | h <;> omega
      have m0 := HK0.out.b0.cell 0
      have m1 := HK0.out.b0.cell 1
      have HDef : Hid (plainM P T = (P.all pointM && T.all (triM n))) := by show _ = _; rw [← HL.out]; rfl
      have HPl1 := Lib.hid (HPl.out _ HK0.out.bel)
      clear h1 h2 HPl
      cases hpp : P.all pointM with
      | false =>
        have HE : Hid (r = 2) := check_one HR.out (Or.inr (Or.inl ⟨HSh.out, by rw [HDef.out, hpp]; rfl, rfl⟩))
        rw [hpp] at HPl1
        have hE := HE.out
        clear HE
        subst hE
        clear hpp HDef
        go_enter Tryd.func52, Tryd.ntmps52
        go_wp2_with fail
        refine HPl1.out.mono ?_
        rintro e w1 ⟨rfl, hb1⟩
        have HK1 := Lib.hid (HK0.out.next hb1)
        clear hb1 m0 m1
        go_wp2
        go_ret2
        exact ⟨none, rfl, fun _ => rfl, fun h => absurd h (by decide), HK1.out.bel⟩
      | true =>
        rw [hpp] at HPl1 HDef
        go_enter Tryd.func52, Tryd.ntmps52
        go_wp2_with fail
        refine HPl1.out.mono ?_
        rintro e w1 ⟨rfl, hb1⟩
        have HK1 := Lib.hid (HK0.out.next hb1)
        clear hb1 m0 m1 hpp HPl1
        have m0 := HK1.out.b0.cell 0
        have m1 := HK1.out.b0.cell 1
        have HTl1 := Lib.hid (HTl.out _ HK1.out.bel)
        clear HTl
        cases htt : T.all (triM n) with
        | false =>
          have HE : Hid (r = 2) := check_one HR.out (Or.inr (Or.inl ⟨HSh.out, by rw [HDef.out, htt]; rfl, rfl⟩))
          rw [htt] at HTl1
          have hE := HE.out
          clear HE
          subst hE
          clear htt HDef
          go_wp2_with fail
          refine HTl1.out.mono ?_
          rintro e w2 ⟨rfl, hb2⟩
          have HK2 := Lib.hid (HK1.out.next hb2)
          clear hb2 m0 m1
          go_wp2
          go_ret2
          exact ⟨none, rfl, fun _ => rfl, fun h => absurd h (by decide), HK2.out.bel⟩
        | true =>
          have HPn : Hid (plainM P T = true) := by show _ = _; rw [HDef.out, htt]; rfl
          have HTt := Lib.hid htt
          rw [htt] at HTl1
          clear htt HDef
          go_wp2_with fail
          refine HTl1.out.mono ?_
          rintro e w2 ⟨rfl, hb2⟩
          have HK2 := Lib.hid (HK1.out.next hb2)
          clear hb2 m0 m1 HTl1
          have m0 := HK2.out.b0.cell 0
          have m1 := HK2.out.b0.cell 1
          have HLd1 := Lib.hid (HLd.out HTt.out _ HK2.out.bel)
          clear HLd
          go_wp2_with fail
          refine HLd1.out.mono ?_
          rintro e w3 ⟨b, rfl, _, hs3, hb3⟩
          have HK3 := Lib.hid (HK2.out.next hb3)
          have HS3 := Lib.hid hs3
          clear hb3 m0 m1 hs3 HLd1
          have m0 := HK3.out.b0.cell 0
          have m1 := HK3.out.b0.cell 1
          have hlen := fun ty => World.ownsMap.len HS3.out Tryd.underlying92 ty
          obtain ⟨z1, z2⟩ := sides_size HTt.out hn
          rw [HM.out] at z1 z2
          have HZ := Lib.hid z2
          generalize Maps.size (sidesD T) = z at *
          by_cases hnd : (darts T).Nodup
          · have hz : z = 3 * m := z2.2 hnd
            subst hz
            have t3 : decide ((3 : Int) * (m : Int) < 3 * (m : Int)) = false := by simp
            have t3' : decide (3 * m < 3 * m) = false := by simp
            obtain ⟨R, hR1, hR2⟩ := fans_bool P T n HL.out
            have HR2 := Lib.hid hR2
            have HFn1 := Lib.hid (HFn.out HTt.out hnd R hR1 b w3 HS3.out HK3.out.bel)
            have HND := Lib.hid hnd
            clear z1 z2 HZ hR1 hR2 hnd HFn
            cases R with
            | false =>
              have HE : Hid (r = 81) := check_one HR.out (Or.inr (Or.inr (Or.inr (Or.inl ⟨HSh.out, HPn.out, HND.out, fun h => absurd (HR2.out.2 h) (by decide), rfl⟩))))
              have hE := HE.out
              clear HE
              subst hE
              go_wp2_with fail
              refine HFn1.out.mono ?_
              rintro e w4 ⟨rfl, hb4⟩
              have HK4 := Lib.hid (HK3.out.next hb4)
              clear hb4 m0 m1 hlen
              go_wp2
              go_ret2
              exact ⟨none, rfl, fun _ => rfl, fun h => absurd h (by decide), HK4.out.bel⟩
            | true =>
              have HE : Hid (r = 0) := check_one HR.out (Or.inr (Or.inr (Or.inr (Or.inr ⟨HSh.out, HPn.out, HND.out, HR2.out.1 rfl, rfl⟩))))
              have hE := HE.out
              clear HE
              subst hE
              go_wp2_with fail
              refine HFn1.out.mono ?_
              rintro e w4 ⟨rfl, hb4⟩
              have HK4 := Lib.hid (HK3.out.next hb4)
              have HS4 := Lib.hid (HS3.out.kept hb4)
              clear hb4 m0 m1 hlen
              go_wp2
              go_ret2
              exact ⟨some b, rfl, fun h => absurd rfl h, fun _ => ⟨b, rfl, HS4.out⟩, HK4.out.bel⟩
          · have hz : z < 3 * m := by
              rcases Nat.lt_or_eq_of_le z1 with h | h
              · exact h
              · exact absurd (z2.1 h) hnd
            have HE : Hid (r = 80) := check_one HR.out (Or.inr (Or.inr (Or.inl ⟨HSh.out, HPn.out, hnd, rfl⟩)))
            have t3 : decide ((z : Int) < 3 * (m : Int)) = true := by simp; omega
            have t3' : decide (z < 3 * m) = true := by simpa using hz
            have hE := HE.out
            clear HE
            subst hE
            clear z1 z2 HZ hnd hz
            go_wp2
            go_ret2
            exact ⟨none, rfl, fun _ => rfl, fun h => absurd h (by decide), HK3.out.bel⟩
theorem meshCheck_any (A : Option Addr) (n c : Nat) (P : List P3) (B : Option Addr) (m d : Nat) (T : List P3) (r : Int) (w : World) (hbe : BehW w) (hp : HasK 3 w A n c (p3Cells P)) (ht : HasK 3 w B m d (p3Cells T)) (hn : n ≤ 100000) (hm : m ≤ 100000) (hr : CheckIs P T r) : Calls Tryd.prog 39 #[.agg #[.slice A n c, .slice B m d]] w fun e w' => e = .returned (.int .i64 r) ∧ Below w.heap.size w w' := by
  have HK0 := Lib.hid (MeshAt.new w (.slice A n c) (.slice B m d))
  have m0 := HK0.out.b0.cell 0
  have m1 := HK0.out.b0.cell 1
  have HSd := Lib.hid (sidesOf_any A n c P B m d T r _ (hbe.kept HK0.out.bel) (hp.kept HK0.out.bel) (ht.kept HK0.out.bel) hn hm hr)
  clear hp ht hr hbe
  go_enter Tryd.func39, Tryd.ntmps39
  go_wp2_with fail
  refine HSd.out.mono ?_
  rintro e w1 ⟨M, rfl, _, _, hb⟩
  have HB := Lib.hid (HK0.out.next hb)
  clear hb m0 m1
  go_wp2
  go_ret
  exact ⟨rfl, HB.out.bel⟩
end Go.Proofs.YthjmojglcfmkmaaDoor
