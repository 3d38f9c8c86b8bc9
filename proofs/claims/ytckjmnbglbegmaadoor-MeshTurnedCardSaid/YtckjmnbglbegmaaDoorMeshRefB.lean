/- lapidaryref10: joined, plain. -/
import Derived.Test.YtckjmnbglbegmaaDoorMeshRef
namespace Go.Proofs.YtckjmnbglbegmaaDoor
open Go.RowKit

theorem t3_blk {w : World} {g : Nat} {t : TypeId} {x y z : Int} (h : Blk w g t #[.int .i64 x, .int .i64 y, .int .i64 z]) {k : Nat} (hk : k < 3) : w.cell? ⟨g, k, none⟩ = some (.int .i64 (at3 (x, y, z) k)) := by
  rcases (show k = 0 ∨ k = 1 ∨ k = 2 by omega) with rfl | rfl | rfl
  · exact h.cell 0
  · exact h.cell 1
  · exact h.cell 2
theorem next3 {k : Nat} (hk : k < 3) : ((k : Int) + 1).tmod 3 = (((k + 1) % 3 : Nat) : Int) := by
  rcases (show k = 0 ∨ k = 1 ∨ k = 2 by omega) with rfl | rfl | rfl <;> rfl
theorem join_ways {p q r s v : Int} {b : Bool} (h : ((p == v || q == v) && r == q && s == p) = b) :
    ((p == v) = false ∧ (q == v) = false ∧ b = false) ∨ ((p == v) = true ∧ (r == q) = false ∧ b = false) ∨ ((p == v) = true ∧ (r == q) = true ∧ (s == p) = b) ∨
    ((p == v) = false ∧ (q == v) = true ∧ (r == q) = false ∧ b = false) ∨ ((p == v) = false ∧ (q == v) = true ∧ (r == q) = true ∧ (s == p) = b) := by
  subst h
  cases (p == v) <;> cases (q == v) <;> cases (r == q) <;> simp
set_option maxRecDepth 100000 in
set_option maxHeartbeats 1600000 in
theorem ref10joined_any (ax ay az bx bY bz v : Int) (w : World) : Calls Tryd.prog 49 #[.agg #[.int .i64 ax, .int .i64 ay, .int .i64 az], .agg #[.int .i64 bx, .int .i64 bY, .int .i64 bz], .int .i64 v] w fun e w' => e = .returned (.bool (joinedB v (ax, ay, az) (bx, bY, bz))) ∧ Below w.heap.size w w' := by
  have HA := Lib.hid ((Blk.new w 46 #[.int .i64 ax, .int .i64 ay, .int .i64 az]).alloc (.cells #[.int .i64 bx, .int .i64 bY, .int .i64 bz] 46))
  have HB : Hid (Blk ((w.alloc (.cells #[.int .i64 ax, .int .i64 ay, .int .i64 az] 46)).alloc (.cells #[.int .i64 bx, .int .i64 bY, .int .i64 bz] 46)) (w.heap.size + 1) 46 #[.int .i64 bx, .int .i64 bY, .int .i64 bz]) := by
    have h := Blk.new (w.alloc (.cells #[.int .i64 ax, .int .i64 ay, .int .i64 az] 46)) 46 #[.int .i64 bx, .int .i64 bY, .int .i64 bz]
    rw [show (w.alloc (.cells #[.int .i64 ax, .int .i64 ay, .int .i64 az] 46)).heap.size = w.heap.size + 1 from Array.size_push _] at h
    exact h
  have HBe := Lib.hid (new_alloc (new_alloc (Below.refl w.heap.size w) (.cells #[.int .i64 ax, .int .i64 ay, .int .i64 az] 46)) (.cells #[.int .i64 bx, .int .i64 bY, .int .i64 bz] 46))
  have HJ := Lib.hid (joinAt_iff (v := v) (a := (ax, ay, az)) (b := (bx, bY, bz)))
  generalize joinedB v (ax, ay, az) (bx, bY, bz) = R at *
  go_enter Tryd.func49, Tryd.ntmps49
  go_wp2
  generalize (w.alloc (.cells #[.int .i64 ax, .int .i64 ay, .int .i64 az] 46)).alloc (.cells #[.int .i64 bx, .int .i64 bY, .int .i64 bz] 46) = W at *
  have HCa := Lib.hid (fun k (hk : k < 3) => t3_blk HA.out hk)
  have HCb := Lib.hid (fun k (hk : k < 3) => t3_blk HB.out hk)
  go_loopg [7] 3 (fun g s7 wx => ∃ i : Nat, i + g = 3 ∧ s7 = .int .i64 i ∧ wx = W ∧ Hid (∀ m k, m < i → k < 3 → joinAt v (ax, ay, az) (bx, bY, bz) m k = false))
  case atStart => exact ⟨0, by omega, rfl, rfl, fun m k hm => absurd hm (by omega)⟩
  case round =>
    obtain ⟨i, hig, rfl, rfl, HR⟩ := hrel
    by_cases hi : i < 3
    · have ti : decide ((i : Int) < 3) = true := by simp; omega
      have i2 : (i : Int) < 3 := by omega
      have tm := next3 hi
      have ca := HCa.out i hi
      obtain ⟨i1, hi1⟩ : ∃ j, (i + 1) % 3 = j := ⟨_, rfl⟩
      have hl1 : i1 < 3 := by omega
      have cb := HCa.out i1 hl1
      rw [hi1] at tm
      have hj3 : (i1 : Int) < 3 := by omega
      have HD := Lib.hid (fun k => (show joinAt v (ax, ay, az) (bx, bY, bz) i k = ((at3 (ax, ay, az) i == v || at3 (ax, ay, az) i1 == v) && at3 (bx, bY, bz) k == at3 (ax, ay, az) i1 && at3 (bx, bY, bz) ((k + 1) % 3) == at3 (ax, ay, az) i) by unfold joinAt; rw [hi1]))
      clear hi1
      generalize at3 (ax, ay, az) i = p at *
      generalize at3 (ax, ay, az) i1 = q at *
      go_wp2
      try rw [ti]
      go_loopg [8] 3 (fun g s8 wx => ∃ k : Nat, k + g = 3 ∧ s8 = .int .i64 k ∧ wx = wr ∧ Hid (∀ m, m < k → joinAt v (ax, ay, az) (bx, bY, bz) i m = false))
      case atStart => exact ⟨0, by omega, rfl, rfl, fun m hm => absurd hm (by omega)⟩
      case round =>
        obtain ⟨k, hkg, rfl, rfl, HK⟩ := hrel
        by_cases hk : k < 3
        · have tk : decide ((k : Int) < 3) = true := by simp; omega
          have k2 : (k : Int) < 3 := by omega
          have tn := next3 hk
          have cc := HCb.out k hk
          obtain ⟨k1, hk1⟩ : ∃ j, (k + 1) % 3 = j := ⟨_, rfl⟩
          have hl2 : k1 < 3 := by omega
          have cd := HCb.out k1 hl2
          have HDk := Lib.hid (HD.out k)
          rw [hk1] at tn HDk
          have hk3 : (k1 : Int) < 3 := by omega
          have HN := Lib.hid (fun (h : joinAt v (ax, ay, az) (bx, bY, bz) i k = false) => (show ∀ m, m < k + 1 → joinAt v (ax, ay, az) (bx, bY, bz) i m = false from fun m hm => by
            by_cases e : m = k
            · rw [e]; exact h
            · exact HK.out m (by omega)))
          have HY : Hid (joinAt v (ax, ay, az) (bx, bY, bz) i k = true → R = true) := fun h => HJ.out.2 ⟨i, k, hi, hk, h⟩
          have hw := join_ways HDk.out.symm
          clear hk1 HDk
          generalize at3 (bx, bY, bz) k = r at *
          generalize at3 (bx, bY, bz) k1 = s at *
          generalize joinAt v (ax, ay, az) (bx, bY, bz) i k = jt at *
          cases jt with
          | true =>
            have HZ := Lib.hid (HY.out rfl)
            clear HN HY
            rcases hw with ⟨_, _, h⟩ | ⟨_, _, h⟩ | ⟨e1, e2, e3⟩ | ⟨_, _, _, h⟩ | ⟨e1, e2, e3, e4⟩
            · cases h
            · cases h
            · go_wp2
              go_ret
              exact ⟨by rw [HZ.out]; rfl, HBe.out⟩
            · cases h
            · go_wp2
              go_ret
              exact ⟨by rw [HZ.out]; rfl, HBe.out⟩
          | false =>
            have HN2 := Lib.hid (HN.out rfl)
            clear HN HY
            rcases hw with ⟨e1, e2, _⟩ | ⟨e1, e2, _⟩ | ⟨e1, e2, e3⟩ | ⟨e1, e2, e3, _⟩ | ⟨e1, e2, e3, e4⟩
            all_goals
              go_wp2
              go_roundg (gk - 1)
              case measure => omega
              case rel => exact ⟨k + 1, by omega, by go_num, rfl, HN2⟩
        · have tk : decide ((k : Int) < 3) = false := by simp; omega
          have hk3 : k = 3 := by omega
          have HR2 : Hid (∀ m k, m < i + 1 → k < 3 → joinAt v (ax, ay, az) (bx, bY, bz) m k = false) := fun m j hm hj => by
            by_cases e : m = i
            · rw [e]; exact HK.out j (by omega)
            · exact HR.out m j (by omega) hj
          go_wp2
          go_roundg (3 - (i + 1))
          case measure => omega
          case rel => exact ⟨i + 1, by omega, by go_num, rfl, HR2⟩
    · have ti : decide ((i : Int) < 3) = false := by simp; omega
      have HE : Hid (R = false) := by
        show _ = _
        cases R with
        | false => rfl
        | true =>
          obtain ⟨m, k, hm, hk, h⟩ := HJ.out.1 rfl
          rw [HR.out m k (by omega) hk] at h
          cases h
      go_wp2
      go_ret
      exact ⟨by rw [HE.out]; rfl, HBe.out⟩
theorem mesh_blk (w : World) (a b : Value) : Blk (w.alloc (.cells #[a, b] 25)) w.heap.size 25 #[a, b] := Blk.new w _ _
theorem tri_ways {x y z : Int} {n : Nat} : ((x == y) = true ∧ triM n (x, y, z) = false) ∨ ((x == y) = false ∧ (y == z) = true ∧ triM n (x, y, z) = false) ∨ ((x == y) = false ∧ (y == z) = false ∧ (z == x) = true ∧ triM n (x, y, z) = false) ∨
    ((x == y) = false ∧ (y == z) = false ∧ (z == x) = false ∧ (triM n (x, y, z) = true ↔ ∀ k, k < 3 → 0 ≤ at3 (x, y, z) k ∧ at3 (x, y, z) k < n)) := by
  have hf : ∀ {b : Bool}, ¬ b = true → b = false := fun h => by simpa using h
  by_cases h1 : x = y
  · exact Or.inl ⟨beq_iff_eq.2 h1, hf (fun h => (triM_iff.1 h).1 h1)⟩
  · have e1 := beq_eq_false_iff_ne.2 h1
    by_cases h2 : y = z
    · exact Or.inr (Or.inl ⟨e1, beq_iff_eq.2 h2, hf (fun h => (triM_iff.1 h).2.1 h2)⟩)
    · have e2 := beq_eq_false_iff_ne.2 h2
      by_cases h3 : z = x
      · exact Or.inr (Or.inr (Or.inl ⟨e1, e2, beq_iff_eq.2 h3, hf (fun h => (triM_iff.1 h).2.2.1 h3)⟩))
      · refine Or.inr (Or.inr (Or.inr ⟨e1, e2, beq_eq_false_iff_ne.2 h3, ?_⟩))
        rw [triM_iff]
        constructor
        · rintro ⟨_, _, _, a, b, c⟩ k hk
          rcases (show k = 0 ∨ k = 1 ∨ k = 2 by omega) with rfl | rfl | rfl
          · exact a
          · exact b
          · exact c
        · intro h
          exact ⟨h1, h2, h3, h 0 (by omega), h 1 (by omega), h 2 (by omega)⟩
theorem point_ways (x y z : Int) : (coordM x = false ∧ pointM (x, y, z) = false) ∨ (coordM x = true ∧ coordM y = false ∧ pointM (x, y, z) = false) ∨ (coordM x = true ∧ coordM y = true ∧ coordM z = false ∧ pointM (x, y, z) = false) ∨ (coordM x = true ∧ coordM y = true ∧ coordM z = true ∧ pointM (x, y, z) = true) := by
  unfold pointM
  simp only
  cases coordM x <;> cases coordM y <;> cases coordM z <;> simp
set_option maxRecDepth 100000 in
set_option maxHeartbeats 2000000 in
theorem ref10plain_any (A : Option Addr) (n c : Nat) (P : List P3) (B : Option Addr) (m d : Nat) (T : List P3) (w : World) (hp : HasK 3 w A n c (p3Cells P)) (ht : HasK 3 w B m d (p3Cells T)) (hn : n ≤ 100000) (hm : m ≤ 100000) : Calls Tryd.prog 31 #[.agg #[.slice A n c, .slice B m d]] w fun e w' => e = .returned (.bool (plainM P T)) ∧ Below w.heap.size w w' := by
  have HL : Hid (P.length = n) := by have := hp.len; rw [p3Cells_len] at this; show _ = _; omega
  have HM : Hid (T.length = m) := by have := ht.len; rw [p3Cells_len] at this; show _ = _; omega
  have HP := Lib.hid hp
  have HT := Lib.hid ht
  have HK0 := Lib.hid (mesh_blk w (.slice A n c) (.slice B m d))
  have HB0 := Lib.hid (new_alloc (Below.refl w.heap.size w) (.cells #[.slice A n c, .slice B m d] 25))
  have HDef : Hid (plainM P T = (P.all pointM && T.all (triM P.length))) := rfl
  clear hp ht
  generalize plainM P T = R at *
  go_enter Tryd.func31, Tryd.ntmps31
  go_wp2
  generalize w.alloc (.cells #[.slice A n c, .slice B m d] 25) = W at *
  have m0 : W.cell? ⟨w.heap.size, 0, none⟩ = some (.slice A n c) := HK0.out.cell 0
  have m1 : W.cell? ⟨w.heap.size, 1, none⟩ = some (.slice B m d) := HK0.out.cell 1
  go_loopg [3] n (fun g s3 wx => ∃ i : Nat, i + g = n ∧ s3 = .int .i64 i ∧ wx = W ∧ Hid ((P.take i).all pointM = true))
  case atStart => exact ⟨0, by omega, rfl, rfl, rfl⟩
  case round =>
    obtain ⟨i, hig, rfl, rfl, HR⟩ := hrel
    by_cases hi : i < n
    · have ti : decide ((i : Int) < (n : Int)) = true := by simp; omega
      have i2 : (i : Int) < (n : Int) := by omega
      have hil : i < P.length := by rw [HL.out]; exact hi
      obtain ⟨b, off, rfl, hlt, _⟩ := (HP.out.kept HB0.out).spot (by omega)
      obtain ⟨c0, c1, c2⟩ := p3_at (HP.out.kept HB0.out) hil
      have HNx : Hid (pointM P[i] = true → (P.take (i + 1)).all pointM = true) := fun h => by
        rw [List.take_succ_eq_append_getElem hil, List.all_append, HR.out]
        simp [h]
      have HF : Hid (pointM P[i] = false → R = false) := fun h => by
        rw [HDef.out]
        have : P.all pointM = false := List.all_eq_false.2 ⟨_, List.getElem_mem hil, by rw [h]; decide⟩
        rw [this]; rfl
      generalize P[i] = p at *
      obtain ⟨x, y, z⟩ := p
      simp only at c0 c1 c2
      have HX := Lib.hid (ref10coord_any x)
      have HY := Lib.hid (ref10coord_any y)
      have HZ := Lib.hid (ref10coord_any z)
      clear hil hlt
      rcases point_ways x y z with ⟨d1, hr⟩ | ⟨d1, d2, hr⟩ | ⟨d1, d2, d3, hr⟩ | ⟨d1, d2, d3, hr⟩
      · rw [d1] at HX
        have HE := Lib.hid (HF.out hr)
        clear hr HF HNx d1
        go_wp2_with fail
        refine (HX.out _).mono ?_
        rintro e w1 ⟨rfl, rfl⟩
        go_wp2
        go_ret
        exact ⟨by rw [HE.out]; rfl, HB0.out⟩
      · rw [d1] at HX
        rw [d2] at HY
        have HE := Lib.hid (HF.out hr)
        clear hr HF HNx d1 d2
        go_wp2_with fail
        refine (HX.out _).mono ?_
        rintro e w1 ⟨rfl, rfl⟩
        go_wp2_with fail
        refine (HY.out _).mono ?_
        rintro e w1 ⟨rfl, rfl⟩
        go_wp2
        go_ret
        exact ⟨by rw [HE.out]; rfl, HB0.out⟩
      · rw [d1] at HX
        rw [d2] at HY
        rw [d3] at HZ
        have HE := Lib.hid (HF.out hr)
        clear hr HF HNx d1 d2 d3
        go_wp2_with fail
        refine (HX.out _).mono ?_
        rintro e w1 ⟨rfl, rfl⟩
        go_wp2_with fail
        refine (HY.out _).mono ?_
        rintro e w1 ⟨rfl, rfl⟩
        go_wp2_with fail
        refine (HZ.out _).mono ?_
        rintro e w1 ⟨rfl, rfl⟩
        go_wp2
        go_ret
        exact ⟨by rw [HE.out]; rfl, HB0.out⟩
      · rw [d1] at HX
        rw [d2] at HY
        rw [d3] at HZ
        have HE := Lib.hid (HNx.out hr)
        clear hr HF HNx d1 d2 d3
        go_wp2_with fail
        refine (HX.out _).mono ?_
        rintro e w1 ⟨rfl, rfl⟩
        go_wp2_with fail
        refine (HY.out _).mono ?_
        rintro e w1 ⟨rfl, rfl⟩
        go_wp2_with fail
        refine (HZ.out _).mono ?_
        rintro e w1 ⟨rfl, rfl⟩
        go_wp2
        go_roundg (gk - 1)
        case measure => omega
        case rel => exact ⟨i + 1, by omega, by go_num, rfl, HE⟩
    · have ti : decide ((i : Int) < (n : Int)) = false := by simp; omega
      have HPa : Hid (P.all pointM = true) := by
        have h1 := HR.out
        rw [List.take_of_length_le (by rw [HL.out]; omega)] at h1
        exact h1
      clear HR
      go_wp2
      go_loopg [4] m (fun g s4 wx => ∃ i : Nat, i + g = m ∧ s4 = .int .i64 i ∧ Hid (Blk wx w.heap.size 25 #[.slice A n c, .slice B m d]) ∧ Hid (Below w.heap.size w wx) ∧ Hid ((T.take i).all (triM P.length) = true))
      case atStart => exact ⟨0, by omega, rfl, HK0, HB0, rfl⟩
      case round =>
        obtain ⟨i, hig, rfl, HK, HB, HR⟩ := hrel
        clear m0 m1
        have m0 : wr.cell? ⟨w.heap.size, 0, none⟩ = some (.slice A n c) := HK.out.cell 0
        have m1 : wr.cell? ⟨w.heap.size, 1, none⟩ = some (.slice B m d) := HK.out.cell 1
        by_cases hi : i < m
        · have ti : decide ((i : Int) < (m : Int)) = true := by simp; omega
          have i2 : (i : Int) < (m : Int) := by omega
          have hil : i < T.length := by rw [HM.out]; exact hi
          obtain ⟨b, off, rfl, hlt, _⟩ := (HT.out.kept HB.out).spot (by omega)
          obtain ⟨c0, c1, c2⟩ := p3_at (HT.out.kept HB.out) hil
          have HNx : Hid (triM P.length T[i] = true → (T.take (i + 1)).all (triM P.length) = true) := fun h => by
            rw [List.take_succ_eq_append_getElem hil, List.all_append, HR.out]
            simp [h]
          have HF : Hid (triM P.length T[i] = false → R = false) := fun h => by
            rw [HDef.out]
            have : T.all (triM P.length) = false := List.all_eq_false.2 ⟨_, List.getElem_mem hil, by rw [h]; decide⟩
            rw [this, Bool.and_false]
          rw [HL.out] at HNx HF
          generalize T[i] = t at *
          obtain ⟨x, y, z⟩ := t
          simp only at c0 c1 c2
          have HKt := Lib.hid (Blk.new wr 46 #[.int .i64 x, .int .i64 y, .int .i64 z])
          have HKm := Lib.hid (HK.out.alloc (.cells #[.int .i64 x, .int .i64 y, .int .i64 z] 46))
          have HB2 := Lib.hid (new_alloc HB.out (.cells #[.int .i64 x, .int .i64 y, .int .i64 z] 46))
          clear hil hlt
          rcases tri_ways (x := x) (y := y) (z := z) (n := n) with ⟨e1, hr⟩ | ⟨e1, e2, hr⟩ | ⟨e1, e2, e3, hr⟩ | ⟨e1, e2, e3, hr⟩
          iterate 3
            · have HE := Lib.hid (HF.out hr)
              clear hr HF HNx
              go_wp2
              go_ret
              exact ⟨by rw [HE.out]; rfl, HB2.out⟩
          · have HTr := Lib.hid hr
            clear hr
            go_wp2
            generalize wr.alloc (.cells #[.int .i64 x, .int .i64 y, .int .i64 z] 46) = W2 at *
            generalize wr.heap.size = G at *
            clear c0 c1 c2 m0 m1
            try rw [ti]
            go_loopg [6] 3 (fun g s6 wx => ∃ k : Nat, k + g = 3 ∧ s6 = .int .i64 k ∧ Hid (Blk wx G 46 #[.int .i64 x, .int .i64 y, .int .i64 z]) ∧ Hid (Blk wx w.heap.size 25 #[.slice A n c, .slice (some ⟨b, off, none⟩) m d]) ∧ Hid (Below w.heap.size w wx) ∧ Hid (∀ j, j < k → 0 ≤ at3 (x, y, z) j ∧ at3 (x, y, z) j < n))
            case atStart => exact ⟨0, by omega, rfl, HKt, HKm, HB2, fun j hj => absurd hj (by omega)⟩
            case round =>
              obtain ⟨k, hkg, rfl, HKa, HKb, HKc, HKd⟩ := hrel
              have m0 : wr.cell? ⟨w.heap.size, 0, none⟩ = some (.slice A n c) := HKb.out.cell 0
              by_cases hk : k < 3
              · have tk : decide ((k : Int) < 3) = true := by simp; omega
                have k2 : (k : Int) < 3 := by omega
                have ck := t3_blk HKa.out hk
                have HN := Lib.hid (fun (h : 0 ≤ at3 (x, y, z) k ∧ at3 (x, y, z) k < n) => (show ∀ j, j < k + 1 → 0 ≤ at3 (x, y, z) j ∧ at3 (x, y, z) j < n from fun j hj => by
                  by_cases e : j = k
                  · rw [e]; exact h
                  · exact HKd.out j (by omega)))
                have HNo : Hid (¬ (0 ≤ at3 (x, y, z) k ∧ at3 (x, y, z) k < n) → R = false) := fun h => HF.out (by
                  cases hc : triM n (x, y, z) with
                  | false => rfl
                  | true => exact absurd (HTr.out.1 hc k hk) h)
                generalize at3 (x, y, z) k = v at *
                by_cases h1 : v < 0
                · have HE := Lib.hid (HNo.out (by omega))
                  have d1 : decide (v < 0) = true := by simpa using h1
                  clear HN HNo
                  go_wp2
                  go_region
                  all_goals
                    go_wp2
                    go_ret
                    exact ⟨by rw [HE.out]; rfl, HKc.out.drew⟩
                · have d1 : decide (v < 0) = false := by simpa using h1
                  by_cases h2 : (n : Int) ≤ v
                  · have HE := Lib.hid (HNo.out (by omega))
                    have d2 : decide ((n : Int) ≤ v) = true := by simpa using h2
                    clear HN HNo
                    go_wp2
                    go_region
                    all_goals
                      go_wp2
                      go_ret
                      exact ⟨by rw [HE.out]; rfl, HKc.out.drew⟩
                  · have HE := Lib.hid (HN.out ⟨by omega, by omega⟩)
                    have d2 : decide ((n : Int) ≤ v) = false := by simpa using h2
                    clear HN HNo
                    go_wp2
                    go_region
                    all_goals
                      go_wp2
                      go_roundg (gk - 1)
                      case measure => omega
                      case rel => exact ⟨k + 1, by omega, by go_num, Lib.hid (HKa.out.below (Below.refl _ _).drew HKa.out.lt), Lib.hid (HKb.out.below (Below.refl _ _).drew HKb.out.lt), HKc.out.drew, HE⟩
              · have tk : decide ((k : Int) < 3) = false := by simp; omega
                have HE : Hid ((T.take (i + 1)).all (triM P.length) = true) := by
                  show _ = _
                  rw [HL.out]
                  exact HNx.out (HTr.out.2 (fun j hj => HKd.out j (by omega)))
                go_wp2
                go_roundg (m - (i + 1))
                case measure => omega
                case rel => exact ⟨i + 1, by omega, by go_num, HKb, HKc, HE⟩
        · have ti : decide ((i : Int) < (m : Int)) = false := by simp; omega
          have HE : Hid (R = true) := by
            have h1 := HR.out
            rw [List.take_of_length_le (by rw [HM.out]; omega)] at h1
            show _ = _
            rw [HDef.out, HPa.out, h1]
            rfl
          go_wp2
          go_ret
          exact ⟨by rw [HE.out]; rfl, HB.out⟩
end Go.Proofs.YtckjmnbglbegmaaDoor
