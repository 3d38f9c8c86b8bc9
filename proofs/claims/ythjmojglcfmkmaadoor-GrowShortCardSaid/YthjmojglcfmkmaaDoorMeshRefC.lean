import Derived.Test.YthjmojglcfmkmaaDoorMeshPlain
import Derived.Test.YthjmojglcfmkmaaDoorPts
import Derived.Deep.LoopGhost
import Derived.Deep.WholeRow
import Derived.Laws.ResultCell
import Derived.Deep.RegionHeld3
import Derived.RegionTactic
/- lapidaryref10: Has, coord, joined. -/
namespace Go.Proofs.YthjmojglcfmkmaaDoor
open Go.RowKit

theorem neq_pair {p q a b : Int} (h : ¬ ((p, q) = (a, b))) : (p == a) = false ∨ ((p == a) = true ∧ (q == b) = false) := by
  by_cases h1 : p = a
  · by_cases h2 : q = b
    · subst h1 h2; exact absurd rfl h
    · exact Or.inr ⟨beq_iff_eq.2 h1, beq_eq_false_iff_ne.2 h2⟩
  · exact Or.inl (beq_eq_false_iff_ne.2 h1)
set_option maxRecDepth 100000 in
set_option maxHeartbeats 1600000 in
theorem ref10Has_any (A : Option Addr) (n c : Nat) (l : List P3) (a b : Int) (w : World) (h : HasK 3 w A n c (p3Cells l)) (hn : n ≤ 100000) : Calls Tryd.prog 34 #[.slice A n c, .int .i64 a, .int .i64 b] w fun e w' => e = .returned (.int .i64 (hasF l a b)) ∧ w = w' := by
  have HL : Hid (l.length = n) := by have := h.len; rw [p3Cells_len] at this; show _ = _; omega
  have HH := Lib.hid h
  clear h
  go_enter Tryd.func34, Tryd.ntmps34
  go_wp2
  go_loopg [7, 8] n (fun g s7 s8 wx => ∃ i : Nat, i + g = n ∧ s7 = .int .i64 i ∧ w = wx ∧ Hid (∀ j, ∀ hj : j < i, ∀ hl : j < l.length, (a, b) ∉ dirs l[j]))
  case atStart => exact ⟨0, by omega, rfl, rfl, fun j hj => absurd hj (by omega)⟩
  case round =>
    obtain ⟨i, hig, rfl, rfl, HR⟩ := hrel
    by_cases hi : i < n
    · have ti : decide ((i : Int) < (n : Int)) = true := by simp; omega
      have i2 : (i : Int) < (n : Int) := by omega
      have hil : i < l.length := by rw [HL.out]; exact hi
      obtain ⟨B, off, rfl, hlt, _⟩ := HH.out.spot (by omega)
      obtain ⟨c0, c1, c2⟩ := p3_at HH.out hil
      have HF : Hid ((a, b) ∈ dirs l[i] → hasF l a b = i) := fun hd => hasF_at hil hd (fun j hj => HR.out j hj (by omega))
      have HT : Hid ((a, b) ∉ dirs l[i] → ∀ j, ∀ hj : j < i + 1, ∀ hl : j < l.length, (a, b) ∉ dirs l[j]) := fun hno j hj hl => by
        by_cases e : j = i
        · subst e; exact hno
        · exact HR.out j (by omega) hl
      have hD : dirs l[i] = [(l[i].1, l[i].2.1), (l[i].2.1, l[i].2.2), (l[i].2.2, l[i].1)] := rfl
      rw [hD] at HF HT
      clear hD
      generalize l[i] = t at *
      obtain ⟨x, y, z⟩ := t
      simp only at c0 c1 c2 HF HT
      clear hil hlt
      go_wp2
      go_loopg [8] 3 (fun g s8 wx => ∃ k : Nat, k + g = 3 ∧ s8 = .int .i64 k ∧ w = wx ∧ Hid (∀ m, m < k → ([(x, y), (y, z), (z, x)] : List (Int × Int))[m]? ≠ some (a, b)))
      case atStart => exact ⟨0, by omega, rfl, rfl, fun m hm => absurd hm (by omega)⟩
      case round =>
        obtain ⟨k, hkg, rfl, rfl, HK⟩ := hrel
        rcases (show k = 0 ∨ k = 1 ∨ k = 2 ∨ k = 3 by omega) with rfl | rfl | rfl | rfl
        · by_cases hq : (x, y) = (a, b)
          · have HZ := Lib.hid (HF.out (by rw [hq]; exact List.mem_cons_self ..))
            have e1 : (x == a) = true := beq_iff_eq.2 (congrArg Prod.fst hq)
            have e2 : (y == b) = true := beq_iff_eq.2 (congrArg Prod.snd hq)
            clear hq
            go_wp2
            go_ret
            exact ⟨by rw [HZ.out]; rfl, rfl⟩
          · have HK2 : Hid (∀ m, m < 1 → ([(x, y), (y, z), (z, x)] : List (Int × Int))[m]? ≠ some (a, b)) := fun m hm => by
              obtain rfl : m = 0 := by omega
              exact fun e => hq (Option.some.inj e)
            rcases neq_pair hq with e1 | ⟨e1, e2⟩
            all_goals
              clear hq
              go_wp2
              go_roundg (gk - 1)
              case measure => omega
              case rel => exact ⟨1, by omega, by first | rfl | go_num, rfl, HK2⟩
        · by_cases hq : (y, z) = (a, b)
          · have HZ := Lib.hid (HF.out (by rw [hq]; exact List.mem_cons_of_mem _ (List.mem_cons_self ..)))
            have e1 : (y == a) = true := beq_iff_eq.2 (congrArg Prod.fst hq)
            have e2 : (z == b) = true := beq_iff_eq.2 (congrArg Prod.snd hq)
            clear hq
            go_wp2
            go_ret
            exact ⟨by rw [HZ.out]; rfl, rfl⟩
          · have HK2 : Hid (∀ m, m < 2 → ([(x, y), (y, z), (z, x)] : List (Int × Int))[m]? ≠ some (a, b)) := fun m hm => by
              by_cases e : m = 1
              · subst e; exact fun e => hq (Option.some.inj e)
              · exact HK.out m (by omega)
            rcases neq_pair hq with e1 | ⟨e1, e2⟩
            all_goals
              clear hq
              go_wp2
              go_roundg (gk - 1)
              case measure => omega
              case rel => exact ⟨2, by omega, by first | rfl | go_num, rfl, HK2⟩
        · by_cases hq : (z, x) = (a, b)
          · have HZ := Lib.hid (HF.out (by rw [hq]; exact List.mem_cons_of_mem _ (List.mem_cons_of_mem _ (List.mem_cons_self ..))))
            have e1 : (z == a) = true := beq_iff_eq.2 (congrArg Prod.fst hq)
            have e2 : (x == b) = true := beq_iff_eq.2 (congrArg Prod.snd hq)
            clear hq
            go_wp2
            go_ret
            exact ⟨by rw [HZ.out]; rfl, rfl⟩
          · have HK2 : Hid (∀ m, m < 3 → ([(x, y), (y, z), (z, x)] : List (Int × Int))[m]? ≠ some (a, b)) := fun m hm => by
              by_cases e : m = 2
              · subst e; exact fun e => hq (Option.some.inj e)
              · exact HK.out m (by omega)
            rcases neq_pair hq with e1 | ⟨e1, e2⟩
            all_goals
              clear hq
              go_wp2
              go_roundg (gk - 1)
              case measure => omega
              case rel => exact ⟨3, by omega, by first | rfl | go_num, rfl, HK2⟩
        · have HR2 := Lib.hid (HT.out (fun hm => by
            obtain ⟨m, hm, e⟩ := List.mem_iff_getElem.1 hm
            exact HK.out m hm (by rw [List.getElem?_eq_getElem hm, e])))
          go_wp2
          go_roundg (n - (i + 1))
          case measure => omega
          case rel => exact ⟨i + 1, by omega, by go_num, rfl, HR2⟩
    · have ti : decide ((i : Int) < (n : Int)) = false := by simp; omega
      have HE : Hid (hasF l a b = -1) := hasF_none (fun hc => by
        obtain ⟨t, ht, hd⟩ := mem_darts.1 hc
        obtain ⟨j, hj, rfl⟩ := List.mem_iff_getElem.1 ht
        exact HR.out j (by have := HL.out; omega) hj hd)
      go_wp2
      go_ret
      exact ⟨by rw [HE.out]; rfl, rfl⟩
set_option maxRecDepth 100000 in
theorem ref10coord_any (n : Int) (w : World) : Calls Tryd.prog 60 #[.int .i64 n] w fun e w' => e = .returned (.bool (coordM n)) ∧ w = w' := by
  have hs : (decide (-2147483648 ≤ n) = false ∧ coordM n = false) ∨ (decide (-2147483648 ≤ n) = true ∧ decide (n ≤ 2147483647) = coordM n) := by
    unfold coordM
    cases decide (-2147483648 ≤ n) <;> simp
  generalize coordM n = r at *
  rcases hs with ⟨h1, rfl⟩ | ⟨h1, h2⟩
  all_goals
    go_enter Tryd.func60, Tryd.ntmps60
    go_wp2
    go_ret
    exact ⟨rfl, rfl⟩
end Go.Proofs.YthjmojglcfmkmaaDoor

/- lapidaryref10: joined, plain. -/
namespace Go.Proofs.YthjmojglcfmkmaaDoor
open Go.RowKit

theorem t3_blk {w : World} {g : Nat} {t : TypeId} {x y z : Int} (h : Blk w g t #[.int .i64 x, .int .i64 y, .int .i64 z]) {k : Nat} (hk : k < 3) : w.cell? ⟨g, k, none⟩ = some (.int .i64 (at3 (x, y, z) k)) := by
  rcases (show k = 0 ∨ k = 1 ∨ k = 2 by omega) with rfl | rfl | rfl
  · exact h.cell 0
  · exact h.cell 1
  · exact h.cell 2
theorem next3 {k : Nat} (hk : k < 3) : ((k : Int) + 1).tmod 3 = (((k + 1) % 3 : Nat) : Int) := by
  rcases (show k = 0 ∨ k = 1 ∨ k = 2 by omega) with rfl | rfl | rfl <;> rfl
theorem join_ways {p q r s v : Int} {b : Bool} (h : ((p == v || q == v) && r == q && s == p) = b) :
    ((p == v) = false ∧ (q == v) = false ∧ b = false) ∨ ((p == v) = true ∧ (r == q) = false ∧ b = false) ∨ ((p == v) = true ∧ (r == q) = true ∧ (s == p) = b) ∨
    ((p == v) = false ∧ (q == v) = true ∧ (r == q) = false ∧ b = false) ∨ ((p == v) = false ∧ (q == v) = true ∧ (r == q) = true ∧ (s == p) = b) := by
  subst h
  cases (p == v) <;> cases (q == v) <;> cases (r == q) <;> simp
set_option maxRecDepth 100000 in
set_option maxHeartbeats 1600000 in
theorem ref10joined_any (ax ay az bx bY bz v : Int) (w : World) : Calls Tryd.prog 61 #[.agg #[.int .i64 ax, .int .i64 ay, .int .i64 az], .agg #[.int .i64 bx, .int .i64 bY, .int .i64 bz], .int .i64 v] w fun e w' => e = .returned (.bool (joinedB v (ax, ay, az) (bx, bY, bz))) ∧ Below w.heap.size w w' := by
  have HA := Lib.hid ((Blk.new w 58 #[.int .i64 ax, .int .i64 ay, .int .i64 az]).alloc (.cells #[.int .i64 bx, .int .i64 bY, .int .i64 bz] 58))
  have HB : Hid (Blk ((w.alloc (.cells #[.int .i64 ax, .int .i64 ay, .int .i64 az] 58)).alloc (.cells #[.int .i64 bx, .int .i64 bY, .int .i64 bz] 58)) (w.heap.size + 1) 58 #[.int .i64 bx, .int .i64 bY, .int .i64 bz]) := by
    have h := Blk.new (w.alloc (.cells #[.int .i64 ax, .int .i64 ay, .int .i64 az] 58)) 58 #[.int .i64 bx, .int .i64 bY, .int .i64 bz]
    rw [show (w.alloc (.cells #[.int .i64 ax, .int .i64 ay, .int .i64 az] 58)).heap.size = w.heap.size + 1 from Array.size_push _] at h
    exact h
  have HBe := Lib.hid (new_alloc (new_alloc (Below.refl w.heap.size w) (.cells #[.int .i64 ax, .int .i64 ay, .int .i64 az] 58)) (.cells #[.int .i64 bx, .int .i64 bY, .int .i64 bz] 58))
  have HJ := Lib.hid (joinAt_iff (v := v) (a := (ax, ay, az)) (b := (bx, bY, bz)))
  generalize joinedB v (ax, ay, az) (bx, bY, bz) = R at *
  go_enter Tryd.func61, Tryd.ntmps61
  go_wp2
  generalize (w.alloc (.cells #[.int .i64 ax, .int .i64 ay, .int .i64 az] 58)).alloc (.cells #[.int .i64 bx, .int .i64 bY, .int .i64 bz] 58) = W at *
  have HCa := Lib.hid (fun k (hk : k < 3) => t3_blk HA.out hk)
  have HCb := Lib.hid (fun k (hk : k < 3) => t3_blk HB.out hk)
  go_loopg [7] 3 (fun g s7 wx => ∃ i : Nat, i + g = 3 ∧ s7 = .int .i64 i ∧ wx = W ∧ Hid (∀ m k, m < i → k < 3 → joinAt v (ax, ay, az) (bx, bY, bz) m k = false))
  case atStart => exact ⟨0, by omega, rfl, rfl, fun m k hm => absurd hm (by omega)⟩
  case round =>
    obtain ⟨i, hig, rfl, rfl, HR⟩ := hrel
    by_cases hi : i < 3
    · have ti : decide ((i : Int) < 3) = true := by simp; omega
      have i2 : (i : Int) < 3 := by omega
      have tm := next3 hi
      have ca := HCa.out i hi
      obtain ⟨i1, hi1⟩ : ∃ j, (i + 1) % 3 = j := ⟨_, rfl⟩
      have hl1 : i1 < 3 := by omega
      have cb := HCa.out i1 hl1
      rw [hi1] at tm
      have hj3 : (i1 : Int) < 3 := by omega
      have HD := Lib.hid (fun k => (show joinAt v (ax, ay, az) (bx, bY, bz) i k = ((at3 (ax, ay, az) i == v || at3 (ax, ay, az) i1 == v) && at3 (bx, bY, bz) k == at3 (ax, ay, az) i1 && at3 (bx, bY, bz) ((k + 1) % 3) == at3 (ax, ay, az) i) by unfold joinAt; rw [hi1]))
      clear hi1
      generalize at3 (ax, ay, az) i = p at *
      generalize at3 (ax, ay, az) i1 = q at *
      go_wp2
      try rw [ti]
      go_loopg [8] 3 (fun g s8 wx => ∃ k : Nat, k + g = 3 ∧ s8 = .int .i64 k ∧ wx = wr ∧ Hid (∀ m, m < k → joinAt v (ax, ay, az) (bx, bY, bz) i m = false))
      case atStart => exact ⟨0, by omega, rfl, rfl, fun m hm => absurd hm (by omega)⟩
      case round =>
        obtain ⟨k, hkg, rfl, rfl, HK⟩ := hrel
        by_cases hk : k < 3
        · have tk : decide ((k : Int) < 3) = true := by simp; omega
          have k2 : (k : Int) < 3 := by omega
          have tn := next3 hk
          have cc := HCb.out k hk
          obtain ⟨k1, hk1⟩ : ∃ j, (k + 1) % 3 = j := ⟨_, rfl⟩
          have hl2 : k1 < 3 := by omega
          have cd := HCb.out k1 hl2
          have HDk := Lib.hid (HD.out k)
          rw [hk1] at tn HDk
          have hk3 : (k1 : Int) < 3 := by omega
          have HN := Lib.hid (fun (h : joinAt v (ax, ay, az) (bx, bY, bz) i k = false) => (show ∀ m, m < k + 1 → joinAt v (ax, ay, az) (bx, bY, bz) i m = false from fun m hm => by
            by_cases e : m = k
            · rw [e]; exact h
            · exact HK.out m (by omega)))
          have HY : Hid (joinAt v (ax, ay, az) (bx, bY, bz) i k = true → R = true) := fun h => HJ.out.2 ⟨i, k, hi, hk, h⟩
          have hw := join_ways HDk.out.symm
          clear hk1 HDk
          generalize at3 (bx, bY, bz) k = r at *
          generalize at3 (bx, bY, bz) k1 = s at *
          generalize joinAt v (ax, ay, az) (bx, bY, bz) i k = jt at *
          cases jt with
          | true =>
            have HZ := Lib.hid (HY.out rfl)
            clear HN HY
            rcases hw with ⟨_, _, h⟩ | ⟨_, _, h⟩ | ⟨e1, e2, e3⟩ | ⟨_, _, _, h⟩ | ⟨e1, e2, e3, e4⟩
            · cases h
            · cases h
            · go_wp2
              go_ret
              exact ⟨by rw [HZ.out]; rfl, HBe.out⟩
            · cases h
            · go_wp2
              go_ret
              exact ⟨by rw [HZ.out]; rfl, HBe.out⟩
          | false =>
            have HN2 := Lib.hid (HN.out rfl)
            clear HN HY
            rcases hw with ⟨e1, e2, _⟩ | ⟨e1, e2, _⟩ | ⟨e1, e2, e3⟩ | ⟨e1, e2, e3, _⟩ | ⟨e1, e2, e3, e4⟩
            all_goals
              go_wp2
              go_roundg (gk - 1)
              case measure => omega
              case rel => exact ⟨k + 1, by omega, by go_num, rfl, HN2⟩
        · have tk : decide ((k : Int) < 3) = false := by simp; omega
          have hk3 : k = 3 := by omega
          have HR2 : Hid (∀ m k, m < i + 1 → k < 3 → joinAt v (ax, ay, az) (bx, bY, bz) m k = false) := fun m j hm hj => by
            by_cases e : m = i
            · rw [e]; exact HK.out j (by omega)
            · exact HR.out m j (by omega) hj
          go_wp2
          go_roundg (3 - (i + 1))
          case measure => omega
          case rel => exact ⟨i + 1, by omega, by go_num, rfl, HR2⟩
    · have ti : decide ((i : Int) < 3) = false := by simp; omega
      have HE : Hid (R = false) := by
        show _ = _
        cases R with
        | false => rfl
        | true =>
          obtain ⟨m, k, hm, hk, h⟩ := HJ.out.1 rfl
          rw [HR.out m k (by omega) hk] at h
          cases h
      go_wp2
      go_ret
      exact ⟨by rw [HE.out]; rfl, HBe.out⟩
theorem mesh_blk (w : World) (a b : Value) : Blk (w.alloc (.cells #[a, b] 48)) w.heap.size 48 #[a, b] := Blk.new w _ _
theorem tri_ways {x y z : Int} {n : Nat} : ((x == y) = true ∧ triM n (x, y, z) = false) ∨ ((x == y) = false ∧ (y == z) = true ∧ triM n (x, y, z) = false) ∨ ((x == y) = false ∧ (y == z) = false ∧ (z == x) = true ∧ triM n (x, y, z) = false) ∨
    ((x == y) = false ∧ (y == z) = false ∧ (z == x) = false ∧ (triM n (x, y, z) = true ↔ ∀ k, k < 3 → 0 ≤ at3 (x, y, z) k ∧ at3 (x, y, z) k < n)) := by
  have hf : ∀ {b : Bool}, ¬ b = true → b = false := fun h => by simpa using h
  by_cases h1 : x = y
  · exact Or.inl ⟨beq_iff_eq.2 h1, hf (fun h => (triM_iff.1 h).1 h1)⟩
  · have e1 := beq_eq_false_iff_ne.2 h1
    by_cases h2 : y = z
    · exact Or.inr (Or.inl ⟨e1, beq_iff_eq.2 h2, hf (fun h => (triM_iff.1 h).2.1 h2)⟩)
    · have e2 := beq_eq_false_iff_ne.2 h2
      by_cases h3 : z = x
      · exact Or.inr (Or.inr (Or.inl ⟨e1, e2, beq_iff_eq.2 h3, hf (fun h => (triM_iff.1 h).2.2.1 h3)⟩))
      · refine Or.inr (Or.inr (Or.inr ⟨e1, e2, beq_eq_false_iff_ne.2 h3, ?_⟩))
        rw [triM_iff]
        constructor
        · rintro ⟨_, _, _, a, b, c⟩ k hk
          rcases (show k = 0 ∨ k = 1 ∨ k = 2 by omega) with rfl | rfl | rfl
          · exact a
          · exact b
          · exact c
        · intro h
          exact ⟨h1, h2, h3, h 0 (by omega), h 1 (by omega), h 2 (by omega)⟩
theorem point_ways (x y z : Int) : (coordM x = false ∧ pointM (x, y, z) = false) ∨ (coordM x = true ∧ coordM y = false ∧ pointM (x, y, z) = false) ∨ (coordM x = true ∧ coordM y = true ∧ coordM z = false ∧ pointM (x, y, z) = false) ∨ (coordM x = true ∧ coordM y = true ∧ coordM z = true ∧ pointM (x, y, z) = true) := by
  unfold pointM
  simp only
  cases coordM x <;> cases coordM y <;> cases coordM z <;> simp
set_option maxRecDepth 100000 in
set_option maxHeartbeats 2000000 in
theorem ref10plain_any (A : Option Addr) (n c : Nat) (P : List P3) (B : Option Addr) (m d : Nat) (T : List P3) (w : World) (hp : HasK 3 w A n c (p3Cells P)) (ht : HasK 3 w B m d (p3Cells T)) (hn : n ≤ 100000) (hm : m ≤ 100000) : Calls Tryd.prog 42 #[.agg #[.slice A n c, .slice B m d]] w fun e w' => e = .returned (.bool (plainM P T)) ∧ Below w.heap.size w w' := by
  have HL : Hid (P.length = n) := by have := hp.len; rw [p3Cells_len] at this; show _ = _; omega
  have HM : Hid (T.length = m) := by have := ht.len; rw [p3Cells_len] at this; show _ = _; omega
  have HP := Lib.hid hp
  have HT := Lib.hid ht
  have HK0 := Lib.hid (mesh_blk w (.slice A n c) (.slice B m d))
  have HB0 := Lib.hid (new_alloc (Below.refl w.heap.size w) (.cells #[.slice A n c, .slice B m d] 48))
  have HDef : Hid (plainM P T = (P.all pointM && T.all (triM P.length))) := rfl
  clear hp ht
  generalize plainM P T = R at *
  go_enter Tryd.func42, Tryd.ntmps42
  go_wp2
  generalize w.alloc (.cells #[.slice A n c, .slice B m d] 48) = W at *
  have m0 : W.cell? ⟨w.heap.size, 0, none⟩ = some (.slice A n c) := HK0.out.cell 0
  have m1 : W.cell? ⟨w.heap.size, 1, none⟩ = some (.slice B m d) := HK0.out.cell 1
  go_loopg [3] n (fun g s3 wx => ∃ i : Nat, i + g = n ∧ s3 = .int .i64 i ∧ wx = W ∧ Hid ((P.take i).all pointM = true))
  case atStart => exact ⟨0, by omega, rfl, rfl, rfl⟩
  case round =>
    obtain ⟨i, hig, rfl, rfl, HR⟩ := hrel
    by_cases hi : i < n
    · have ti : decide ((i : Int) < (n : Int)) = true := by simp; omega
      have i2 : (i : Int) < (n : Int) := by omega
      have hil : i < P.length := by rw [HL.out]; exact hi
      obtain ⟨b, off, rfl, hlt, _⟩ := (HP.out.kept HB0.out).spot (by omega)
      obtain ⟨c0, c1, c2⟩ := p3_at (HP.out.kept HB0.out) hil
      have HNx : Hid (pointM P[i] = true → (P.take (i + 1)).all pointM = true) := fun h => by
        rw [List.take_succ_eq_append_getElem hil, List.all_append, HR.out]
        simp [h]
      have HF : Hid (pointM P[i] = false → R = false) := fun h => by
        rw [HDef.out]
        have : P.all pointM = false := List.all_eq_false.2 ⟨_, List.getElem_mem hil, by rw [h]; decide⟩
        rw [this]; rfl
      generalize P[i] = p at *
      obtain ⟨x, y, z⟩ := p
      simp only at c0 c1 c2
      have HX := Lib.hid (ref10coord_any x)
      have HY := Lib.hid (ref10coord_any y)
      have HZ := Lib.hid (ref10coord_any z)
      clear hil hlt
      rcases point_ways x y z with ⟨d1, hr⟩ | ⟨d1, d2, hr⟩ | ⟨d1, d2, d3, hr⟩ | ⟨d1, d2, d3, hr⟩
      · rw [d1] at HX
        have HE := Lib.hid (HF.out hr)
        clear hr HF HNx d1
        go_wp2_with fail
        refine (HX.out _).mono ?_
        rintro e w1 ⟨rfl, rfl⟩
        go_wp2
        go_ret
        exact ⟨by rw [HE.out]; rfl, HB0.out⟩
      · rw [d1] at HX
        rw [d2] at HY
        have HE := Lib.hid (HF.out hr)
        clear hr HF HNx d1 d2
        go_wp2_with fail
        refine (HX.out _).mono ?_
        rintro e w1 ⟨rfl, rfl⟩
        go_wp2_with fail
        refine (HY.out _).mono ?_
        rintro e w1 ⟨rfl, rfl⟩
        go_wp2
        go_ret
        exact ⟨by rw [HE.out]; rfl, HB0.out⟩
      · rw [d1] at HX
        rw [d2] at HY
        rw [d3] at HZ
        have HE := Lib.hid (HF.out hr)
        clear hr HF HNx d1 d2 d3
        go_wp2_with fail
        refine (HX.out _).mono ?_
        rintro e w1 ⟨rfl, rfl⟩
        go_wp2_with fail
        refine (HY.out _).mono ?_
        rintro e w1 ⟨rfl, rfl⟩
        go_wp2_with fail
        refine (HZ.out _).mono ?_
        rintro e w1 ⟨rfl, rfl⟩
        go_wp2
        go_ret
        exact ⟨by rw [HE.out]; rfl, HB0.out⟩
      · rw [d1] at HX
        rw [d2] at HY
        rw [d3] at HZ
        have HE := Lib.hid (HNx.out hr)
        clear hr HF HNx d1 d2 d3
        go_wp2_with fail
        refine (HX.out _).mono ?_
        rintro e w1 ⟨rfl, rfl⟩
        go_wp2_with fail
        refine (HY.out _).mono ?_
        rintro e w1 ⟨rfl, rfl⟩
        go_wp2_with fail
        refine (HZ.out _).mono ?_
        rintro e w1 ⟨rfl, rfl⟩
        go_wp2
        go_roundg (gk - 1)
        case measure => omega
        case rel => exact ⟨i + 1, by omega, by go_num, rfl, HE⟩
    · have ti : decide ((i : Int) < (n : Int)) = false := by simp; omega
      have HPa : Hid (P.all pointM = true) := by
        have h1 := HR.out
        rw [List.take_of_length_le (by rw [HL.out]; omega)] at h1
        exact h1
      clear HR
      go_wp2
      go_loopg [4] m (fun g s4 wx => ∃ i : Nat, i + g = m ∧ s4 = .int .i64 i ∧ Hid (Blk wx w.heap.size 48 #[.slice A n c, .slice B m d]) ∧ Hid (Below w.heap.size w wx) ∧ Hid ((T.take i).all (triM P.length) = true))
      case atStart => exact ⟨0, by omega, rfl, HK0, HB0, rfl⟩
      case round =>
        obtain ⟨i, hig, rfl, HK, HB, HR⟩ := hrel
        clear m0 m1
        have m0 : wr.cell? ⟨w.heap.size, 0, none⟩ = some (.slice A n c) := HK.out.cell 0
        have m1 : wr.cell? ⟨w.heap.size, 1, none⟩ = some (.slice B m d) := HK.out.cell 1
        by_cases hi : i < m
        · have ti : decide ((i : Int) < (m : Int)) = true := by simp; omega
          have i2 : (i : Int) < (m : Int) := by omega
          have hil : i < T.length := by rw [HM.out]; exact hi
          obtain ⟨b, off, rfl, hlt, _⟩ := (HT.out.kept HB.out).spot (by omega)
          obtain ⟨c0, c1, c2⟩ := p3_at (HT.out.kept HB.out) hil
          have HNx : Hid (triM P.length T[i] = true → (T.take (i + 1)).all (triM P.length) = true) := fun h => by
            rw [List.take_succ_eq_append_getElem hil, List.all_append, HR.out]
            simp [h]
          have HF : Hid (triM P.length T[i] = false → R = false) := fun h => by
            rw [HDef.out]
            have : T.all (triM P.length) = false := List.all_eq_false.2 ⟨_, List.getElem_mem hil, by rw [h]; decide⟩
            rw [this, Bool.and_false]
          rw [HL.out] at HNx HF
          generalize T[i] = t at *
          obtain ⟨x, y, z⟩ := t
          simp only at c0 c1 c2
          have HKt := Lib.hid (Blk.new wr 58 #[.int .i64 x, .int .i64 y, .int .i64 z])
          have HKm := Lib.hid (HK.out.alloc (.cells #[.int .i64 x, .int .i64 y, .int .i64 z] 58))
          have HB2 := Lib.hid (new_alloc HB.out (.cells #[.int .i64 x, .int .i64 y, .int .i64 z] 58))
          clear hil hlt
          rcases tri_ways (x := x) (y := y) (z := z) (n := n) with ⟨e1, hr⟩ | ⟨e1, e2, hr⟩ | ⟨e1, e2, e3, hr⟩ | ⟨e1, e2, e3, hr⟩
          iterate 3
            · have HE := Lib.hid (HF.out hr)
              clear hr HF HNx
              go_wp2
              go_ret
              exact ⟨by rw [HE.out]; rfl, HB2.out⟩
          · have HTr := Lib.hid hr
            clear hr
            go_wp2
            generalize wr.alloc (.cells #[.int .i64 x, .int .i64 y, .int .i64 z] 58) = W2 at *
            generalize wr.heap.size = G at *
            clear c0 c1 c2 m0 m1
            try rw [ti]
            go_loopg [6] 3 (fun g s6 wx => ∃ k : Nat, k + g = 3 ∧ s6 = .int .i64 k ∧ Hid (Blk wx G 58 #[.int .i64 x, .int .i64 y, .int .i64 z]) ∧ Hid (Blk wx w.heap.size 48 #[.slice A n c, .slice (some ⟨b, off, none⟩) m d]) ∧ Hid (Below w.heap.size w wx) ∧ Hid (∀ j, j < k → 0 ≤ at3 (x, y, z) j ∧ at3 (x, y, z) j < n))
            case atStart => exact ⟨0, by omega, rfl, HKt, HKm, HB2, fun j hj => absurd hj (by omega)⟩
            case round =>
              obtain ⟨k, hkg, rfl, HKa, HKb, HKc, HKd⟩ := hrel
              have m0 : wr.cell? ⟨w.heap.size, 0, none⟩ = some (.slice A n c) := HKb.out.cell 0
              by_cases hk : k < 3
              · have tk : decide ((k : Int) < 3) = true := by simp; omega
                have k2 : (k : Int) < 3 := by omega
                have ck := t3_blk HKa.out hk
                have HN := Lib.hid (fun (h : 0 ≤ at3 (x, y, z) k ∧ at3 (x, y, z) k < n) => (show ∀ j, j < k + 1 → 0 ≤ at3 (x, y, z) j ∧ at3 (x, y, z) j < n from fun j hj => by
                  by_cases e : j = k
                  · rw [e]; exact h
                  · exact HKd.out j (by omega)))
                have HNo : Hid (¬ (0 ≤ at3 (x, y, z) k ∧ at3 (x, y, z) k < n) → R = false) := fun h => HF.out (by
                  cases hc : triM n (x, y, z) with
                  | false => rfl
                  | true => exact absurd (HTr.out.1 hc k hk) h)
                generalize at3 (x, y, z) k = v at *
                by_cases h1 : v < 0
                · have HE := Lib.hid (HNo.out (by omega))
                  have d1 : decide (v < 0) = true := by simpa using h1
                  clear HN HNo
                  go_wp2
                  go_region
                  all_goals
                    go_wp2
                    go_ret
                    exact ⟨by rw [HE.out]; rfl, HKc.out.drew⟩
                · have d1 : decide (v < 0) = false := by simpa using h1
                  by_cases h2 : (n : Int) ≤ v
                  · have HE := Lib.hid (HNo.out (by omega))
                    have d2 : decide ((n : Int) ≤ v) = true := by simpa using h2
                    clear HN HNo
                    go_wp2
                    go_region
                    all_goals
                      go_wp2
                      go_ret
                      exact ⟨by rw [HE.out]; rfl, HKc.out.drew⟩
                  · have HE := Lib.hid (HN.out ⟨by omega, by omega⟩)
                    have d2 : decide ((n : Int) ≤ v) = false := by simpa using h2
                    clear HN HNo
                    go_wp2
                    go_region
                    all_goals
                      go_wp2
                      go_roundg (gk - 1)
                      case measure => omega
                      case rel => exact ⟨k + 1, by omega, by go_num, Lib.hid (HKa.out.below (Below.refl _ _).drew HKa.out.lt), Lib.hid (HKb.out.below (Below.refl _ _).drew HKb.out.lt), HKc.out.drew, HE⟩
              · have tk : decide ((k : Int) < 3) = false := by simp; omega
                have HE : Hid ((T.take (i + 1)).all (triM P.length) = true) := by
                  show _ = _
                  rw [HL.out]
                  exact HNx.out (HTr.out.2 (fun j hj => HKd.out j (by omega)))
                go_wp2
                go_roundg (m - (i + 1))
                case measure => omega
                case rel => exact ⟨i + 1, by omega, by go_num, HKb, HKc, HE⟩
        · have ti : decide ((i : Int) < (m : Int)) = false := by simp; omega
          have HE : Hid (R = true) := by
            have h1 := HR.out
            rw [List.take_of_length_le (by rw [HM.out]; omega)] at h1
            show _ = _
            rw [HDef.out, HPa.out, h1]
            rfl
          go_wp2
          go_ret
          exact ⟨by rw [HE.out]; rfl, HB.out⟩
end Go.Proofs.YthjmojglcfmkmaaDoor

/- lapidaryref10: one. -/
namespace Go.Proofs.YthjmojglcfmkmaaDoor
open Go.RowKit

theorem elemMi : Elem Tryd.prog 79 3 8 := by
  have h : (Tryd.prog.info? 3).map (fun i => (i.zero, i.size, i.bytes)) = some (some (.int .i64 0), 1, 8) := by kernel_rfl
  obtain ⟨i, h1, h2, h3, h4⟩ := info_parts h
  exact ⟨Tryd.underlying79, i, _, h1, h2, h3, h4, rfl⟩
theorem elemMb : Elem Tryd.prog 78 4 1 := by
  have h : (Tryd.prog.info? 4).map (fun i => (i.zero, i.size, i.bytes)) = some (some (.bool false), 1, 1) := by kernel_rfl
  obtain ⟨i, h1, h2, h3, h4⟩ := info_parts h
  exact ⟨Tryd.underlying78, i, _, h1, h2, h3, h4, rfl⟩
def natVs (l : List Nat) : List Value := intVs (l.map fun (k : Nat) => (k : Int))
theorem natVs_len (l : List Nat) : (natVs l).length = l.length := by unfold natVs; rw [intVs_len, List.length_map]
theorem natVs_at {l : List Nat} {j : Nat} (h : j < l.length) : (natVs l)[j]? = some (.int .i64 (l[j] : Int)) := by unfold natVs; rw [intVs_at (by rw [List.length_map]; exact h), List.getElem_map]
theorem natVs_app (l : List Nat) (k : Nat) : natVs l ++ intVs [(k : Int)] = natVs (l ++ [k]) := by unfold natVs; rw [← intVs_app, List.map_append]; rfl
def boolVs (l : List Bool) : List Value := l.map Value.bool
theorem boolVs_len (l : List Bool) : (boolVs l).length = l.length := List.length_map ..
theorem boolVs_at {l : List Bool} {j : Nat} {b : Bool} (h : l[j]? = some b) : (boolVs l)[j]? = some (.bool b) := by unfold boolVs; rw [List.getElem?_map, h]; rfl
theorem boolVs_set (l : List Bool) (j : Nat) (b : Bool) : (boolVs l).set j (.bool b) = boolVs (l.set j b) := by unfold boolVs; rw [List.map_set]
theorem has_ways (x y z v : Int) : ((x == v) = true ∧ hasV v (x, y, z)) ∨ ((x == v) = false ∧ (y == v) = true ∧ hasV v (x, y, z)) ∨ ((x == v) = false ∧ (y == v) = false ∧ (z == v) = true ∧ hasV v (x, y, z)) ∨ ((x == v) = false ∧ (y == v) = false ∧ (z == v) = false ∧ ¬ hasV v (x, y, z)) := by
  unfold hasV
  simp only
  by_cases h1 : x = v
  · exact Or.inl ⟨beq_iff_eq.2 h1, Or.inl h1⟩
  · by_cases h2 : y = v
    · exact Or.inr (Or.inl ⟨beq_eq_false_iff_ne.2 h1, beq_iff_eq.2 h2, Or.inr (Or.inl h2)⟩)
    · by_cases h3 : z = v
      · exact Or.inr (Or.inr (Or.inl ⟨beq_eq_false_iff_ne.2 h1, beq_eq_false_iff_ne.2 h2, beq_iff_eq.2 h3, Or.inr (Or.inr h3)⟩))
      · exact Or.inr (Or.inr (Or.inr ⟨beq_eq_false_iff_ne.2 h1, beq_eq_false_iff_ne.2 h2, beq_eq_false_iff_ne.2 h3, by rintro (h | h | h) <;> contradiction⟩))
set_option maxRecDepth 100000 in
set_option maxHeartbeats 4000000 in
theorem ref10one_any (A : Option Addr) (n c : Nat) (l : List P3) (v : Int) (R : Bool) (w : World) (h : HasK 3 w A n c (p3Cells l)) (hn : n ≤ 100000) (hT : l.Nodup) (hR : R = true ↔ Fan l v) : Calls Tryd.prog 43 #[.slice A n c, .int .i64 v] w fun e w' => e = .returned (.bool R) ∧ Below w.heap.size w w' := by
  have HL : Hid (l.length = n) := by have := h.len; rw [p3Cells_len] at this; show _ = _; omega
  have HH := Lib.hid h
  have HT := Lib.hid hT
  have HR := Lib.hid hR
  clear h hT hR
  go_enter Tryd.func43, Tryd.ntmps43
  go_wp2
  go_loopg [5, 6] n (fun g s5 s6 wx => ∃ (i : Nat) (at_ : List Nat), i + g = n ∧ s6 = .int .i64 i ∧ at_.length ≤ i ∧ Hid (Own wx w.heap.size 3 s5 (natVs at_)) ∧ Hid (Below w.heap.size w wx) ∧ Hid (AtTo l v i at_))
  case atStart => exact ⟨0, [], by omega, rfl, by simp, Own.nil _ _ _, Below.refl _ _, AtTo.nil l v⟩
  case round =>
    obtain ⟨i, at_, hig, rfl, hai, HO, HB, HA⟩ := hrel
    by_cases hi : i < n
    · have ti : decide ((i : Int) < (n : Int)) = true := by simp; omega
      have i2 : (i : Int) < (n : Int) := by omega
      have hil : i < l.length := by rw [HL.out]; exact hi
      obtain ⟨b, off, rfl, hlt, _⟩ := (HH.out.kept HB.out).spot (by omega)
      obtain ⟨c0, c1, c2⟩ := p3_at (HH.out.kept HB.out) hil
      have HY : Hid (hasV v l[i] → AtTo l v (i + 1) (at_ ++ [i])) := fun hv => HA.out.take hil hv
      have HN : Hid (¬ hasV v l[i] → AtTo l v (i + 1) at_) := fun hv => HA.out.skip hil hv
      generalize l[i] = t at *
      obtain ⟨x, y, z⟩ := t
      simp only at c0 c1 c2
      clear hil hlt
      have hz : w.heap.size ≤ wr.heap.size := HB.out.size
      rcases has_ways x y z v with ⟨e1, hv⟩ | ⟨e1, e2, hv⟩ | ⟨e1, e2, e3, hv⟩ | ⟨e1, e2, e3, hv⟩
      iterate 3
        · have HA2 := Lib.hid (HY.out hv)
          clear hv HY HN
          go_wp2_with (at_builtin
                       refine wpList_join rfl _ _ 79 rfl elemMi w.heap.size _ (natVs at_) rfl (HO.out.alloc _) _ 1 1 (intVs [(i : Int)]) rfl (Has.one _ _ _) (intVs_one _) (by rw [natVs_len]; omega) (by decide) (Nat.le_trans hz (new_alloc (Below.refl _ wr) _).size) ?_
                       intro v5 w5 hown5 hbel5
                       rw [natVs_app] at hown5
                       have HO5 := Lib.hid hown5
                       have HB5 := Lib.hid ((HB.out.alloc hz _).trans hbel5)
                       clear hown5 hbel5)
          go_roundg (gk - 1)
          case measure => omega
          case rel => exact ⟨i + 1, at_ ++ [i], by omega, by go_num, by simp; omega, HO5, HB5, HA2⟩
      · have HA2 := Lib.hid (HN.out hv)
        clear hv HY HN
        go_wp2
        go_roundg (gk - 1)
        case measure => omega
        case rel => exact ⟨i + 1, at_, by omega, by go_num, by omega, HO, HB, HA2⟩
    · have ti : decide ((i : Int) < (n : Int)) = false := by simp; omega
      have hin : i = l.length := by rw [HL.out]; omega
      have HAt : Hid (AtTo l v l.length at_) := by have := HA.out; rw [hin] at this; exact this
      clear HA hin
      obtain ⟨A5, c5, hv5, hh5⟩ := HO.out.has
      rw [natVs_len] at hv5 hh5
      obtain ⟨K, hK⟩ : ∃ K, at_.length = K := ⟨_, rfl⟩
      rw [hK] at hv5 hh5 hai
      subst hv5
      have HHa := Lib.hid hh5
      have HKl := Lib.hid hK
      clear hh5 hK
      by_cases hK0 : K = 0
      · have HE : Hid (R = false) := by
          show _ = _
          cases hRR : R with
          | false => rfl
          | true =>
            have h1 := HR.out.1 hRR
            have h2 : at_ = [] := List.eq_nil_of_length_eq_zero (by rw [HKl.out]; exact hK0)
            have h3 := HAt.out
            rw [h2] at h3
            exact absurd h1 (fan_none h3.is)
        have tz : ((K : Int) == 0) = true := beq_iff_eq.2 (by omega)
        go_wp2
        go_ret
        exact ⟨by rw [HE.out]; rfl, HB.out⟩
      · have tz : ((K : Int) == 0) = false := beq_eq_false_iff_ne.2 (by omega)
        have hz : w.heap.size ≤ wr.heap.size := HB.out.size
        go_wp2_with (at_make
                     refine wpList_made rfl _ _ 78 rfl elemMb (.bool false) (by kernel_rfl) rfl wr.heap.size .i64 .i64 _ _ K rfl rfl (by first | rfl | omega) (by first | rfl | omega) (by omega) (by decide) (Nat.le_refl _) ?_
                     intro w1 hown1 hbel1
                     obtain ⟨hz0, hf0⟩ := hown1.cellAt (by rw [List.length_replicate]) 0 (by omega)
                     rw [List.getElem?_replicate, if_pos (show 0 < K by omega)] at hz0
                     have hst := hown1.stored (by rw [List.length_replicate]) 0 (.bool true)
                     have HO1 := Lib.hid hst.1
                     have HB1 := Lib.hid (hbel1.trans hst.2)
                     clear hown1 hbel1 hst)
        have ha := HAt.out.is
        have HI1 : Hid (OneInv l v at_ ha ((List.replicate K false).set 0 true) 1) := by
          have := OneInv.start ha (by have := HKl.out; omega)
          rw [HKl.out] at this
          exact this
        have hrep : (List.replicate K (Value.bool false)).set 0 (.bool true) = boolVs ((List.replicate K false).set 0 true) := by
          rw [← boolVs_set]; unfold boolVs; rw [List.map_replicate]
        rw [hrep] at HO1
        clear hrep hz0 hf0
        generalize wr = V at *
        have HVs : Hid (w.heap.size ≤ V.heap.size) := hz
        obtain ⟨ba, oa, rfl, hlta, _⟩ := HHa.out.spot (by omega)
        generalize (List.replicate K false).set 0 true = sn0 at *
        generalize w1.setCell ⟨V.heap.size, 0, none⟩ (.bool true) = w2 at *
        go_loopg [8, 9] K (fun g s8 s9 wx => ∃ (nn : Nat) (mr : Bool) (sn : List Bool), s8 = .int .i64 nn ∧ s9 = .bool mr ∧ (g = if mr then K + 1 - nn else 0) ∧ Hid (Own wx V.heap.size 4 (.slice (some ⟨V.heap.size, 0, none⟩) K K) (boolVs sn)) ∧ Hid (Below V.heap.size V wx) ∧ Hid (OneInv l v at_ ha sn nn) ∧ Hid (mr = false → ∀ i, i < K → sn[i]? = some true ∨ Shy l v at_ ha sn i K))
        case atStart => exact ⟨1, true, sn0, rfl, rfl, by simp, HO1, HB1, HI1, fun h => by cases h⟩
        case round =>
          obtain ⟨nn, mr, sn, rfl, rfl, hg, HO2, HB2, HI2, HC2⟩ := hrel
          clear HO1 HB1 HI1
          cases mr with
          | false =>
            have HE : Hid (nn = K ↔ R = true) := by
              have h1 := HI2.out.done HT.out (by rw [HKl.out]; exact HC2.out rfl)
              rw [HKl.out] at h1
              exact h1.trans HR.out.symm
            have hle : nn ≤ K := by have h1 := HI2.out.le; rw [HKl.out] at h1; exact h1
            by_cases hq : nn = K
            · have hRR : R = true := HE.out.1 hq
              have tq : ((nn : Int) == (K : Int)) = true := beq_iff_eq.2 (by omega)
              go_wp2
              go_ret
              exact ⟨by first | rfl | (rw [hRR]; rfl), HB.out.trans (HB2.out.mono HVs.out)⟩
            · have hRR : R = false := by
                cases hRx : R with
                | false => rfl
                | true => exact absurd (HE.out.2 hRx) hq
              have tq : ((nn : Int) == (K : Int)) = false := beq_eq_false_iff_ne.2 (by omega)
              go_wp2
              go_ret
              exact ⟨by first | rfl | (rw [hRR]; rfl), HB.out.trans (HB2.out.mono HVs.out)⟩
          | true =>
            have hgv : gk = K + 1 - nn := by simpa using hg
            clear hg HC2
            go_wp2
            try rw [ti]
            try rw [tz]
            go_loopg [8, 9, 10] K (fun g s8 s9 s10 wx => ∃ (i nn2 : Nat) (mr2 : Bool) (sn2 : List Bool), i + g = K ∧ s10 = .int .i64 i ∧ s8 = .int .i64 nn2 ∧ s9 = .bool mr2 ∧ nn ≤ nn2 ∧ (mr2 = true → nn < nn2) ∧ Hid (Own wx V.heap.size 4 (.slice (some ⟨V.heap.size, 0, none⟩) K K) (boolVs sn2)) ∧ Hid (Below V.heap.size V wx) ∧ Hid (OneInv l v at_ ha sn2 nn2) ∧ Hid (mr2 = false → ∀ j, j < i → sn2[j]? = some true ∨ Shy l v at_ ha sn2 j K))
            case atStart => exact ⟨0, nn, false, sn, by omega, rfl, rfl, rfl, Nat.le_refl _, (fun h => (by cases h)), HO2, HB2, HI2, fun _ j hj => absurd hj (by omega)⟩
            case round =>
              obtain ⟨i, nn2, mr2, sn2, hig2, rfl, rfl, rfl, hge, hgt, HO3, HB3, HI3, HC3⟩ := hrel
              clear HO2 HB2 HI2
              by_cases hi3 : i < K
              · have t3 : decide ((i : Int) < (K : Int)) = true := by simp; omega
                have i3 : (i : Int) < (K : Int) := by omega
                go_wp2
                try rw [ti]
                try rw [tz]
                try rw [t3]
                go_loopg [8, 9, 11] K (fun g s8 s9 s11 wx => ∃ (k nn3 : Nat) (mr3 : Bool) (sn3 : List Bool), k + g = K ∧ s11 = .int .i64 k ∧ s8 = .int .i64 nn3 ∧ s9 = .bool mr3 ∧ nn ≤ nn3 ∧ (mr3 = true → nn < nn3) ∧ Hid (Own wx V.heap.size 4 (.slice (some ⟨V.heap.size, 0, none⟩) K K) (boolVs sn3)) ∧ Hid (Below V.heap.size V wx) ∧ Hid (OneInv l v at_ ha sn3 nn3) ∧ Hid (mr3 = false → (∀ j, j < i → sn3[j]? = some true ∨ Shy l v at_ ha sn3 j K) ∧ (sn3[i]? = some true ∨ Shy l v at_ ha sn3 i k)))
                case atStart => exact ⟨0, nn2, mr2, sn2, by omega, rfl, rfl, rfl, hge, hgt, HO3, HB3, HI3, fun h => ⟨HC3.out h, Or.inr (fun k _ _ hk => absurd hk (by omega))⟩⟩
                case round =>
                  obtain ⟨k, nn3, mr3, sn3, hkg, rfl, rfl, rfl, hge4, hgt4, HO4, HB4, HI4, HC4⟩ := hrel
                  clear HO3 HB3 HI3 HC3
                  have hln : sn3.length = K := HI4.out.len.trans HKl.out
                  have hbl : (boolVs sn3).length = K := by rw [boolVs_len, hln]
                  obtain ⟨si, hsi⟩ : ∃ b, sn3[i]? = some b := ⟨_, List.getElem?_eq_getElem (by omega)⟩
                  obtain ⟨ci, fi⟩ := HO4.out.cellAt hbl i hi3
                  rw [boolVs_at hsi] at ci
                  by_cases hk3 : k < K
                  · have t4 : decide ((k : Int) < (K : Int)) = true := by simp; omega
                    have k3 : (k : Int) < (K : Int) := by omega
                    cases si with
                    | true =>
                      have HC5 : Hid (mr3 = false → ∀ j, j < i + 1 → sn3[j]? = some true ∨ Shy l v at_ ha sn3 j K) := fun h j hj => by
                        by_cases e : j = i
                        · rw [e]; exact Or.inl hsi
                        · exact (HC4.out h).1 j (by omega)
                      clear HC4
                      go_wp2
                      go_roundg (K - (i + 1))
                      case measure => omega
                      case rel => exact ⟨i + 1, nn3, mr3, sn3, by omega, by go_num, rfl, rfl, hge4, hgt4, HO4, HB4, HI4, HC5⟩
                    | false =>
                      obtain ⟨sk, hsk⟩ : ∃ b, sn3[k]? = some b := ⟨_, List.getElem?_eq_getElem (by omega)⟩
                      obtain ⟨ck, fk⟩ := HO4.out.cellAt hbl k hk3
                      rw [boolVs_at hsk] at ck
                      cases sk with
                      | false =>
                        have HC5 : Hid (mr3 = false → (∀ j, j < i → sn3[j]? = some true ∨ Shy l v at_ ha sn3 j K) ∧ (sn3[i]? = some true ∨ Shy l v at_ ha sn3 i (k + 1))) := fun h => ⟨(HC4.out h).1, Or.inr (fun m hm hmk hl hs hj => by
                          by_cases e : m = k
                          · subst e; rw [hsk] at hs; cases hs
                          · rcases (HC4.out h).2 with h2 | h2
                            · rw [hsi] at h2; cases h2
                            · exact h2 m hm hmk (by omega) hs hj)⟩
                        clear HC4 hsi hsk
                        go_wp2
                        go_region
                        all_goals
                          go_wp2
                          go_roundg (gk - 1)
                          case measure => omega
                          case rel => exact ⟨k + 1, nn3, mr3, sn3, by omega, by go_num, rfl, rfl, hge4, hgt4, Own.keep HO4.out (Below.refl _ _).drew, HB4.out.drew, HI4, HC5⟩
                      | true =>
                        have hiA : i < at_.length := by have := HKl.out; omega
                        have hkA : k < at_.length := by have := HKl.out; omega
                        obtain ⟨hli, _⟩ := ha.has i hiA
                        obtain ⟨hlk, _⟩ := ha.has k hkA
                        have HCa : Hid (∀ W, Below V.heap.size V W → W.cell? ⟨ba, oa + i, none⟩ = some (.int .i64 (at_[i] : Int)) ∧ W.cell? ⟨ba, oa + k, none⟩ = some (.int .i64 (at_[k] : Int))) := fun W hW => by
                          obtain ⟨_, _, e, _, hc⟩ := (HHa.out.kept hW).spot (by omega)
                          cases e
                          exact ⟨hc _ _ (natVs_at hiA), hc _ _ (natVs_at hkA)⟩
                        have hnp : 0 < n := by have := HL.out; omega
                        obtain ⟨b, off, rfl, hlt, _⟩ := HH.out.spot hnp
                        have HCl : Hid (∀ W, Below w.heap.size w W → (W.cell? ⟨b, off + at_[i] * 3, none⟩ = some (.int .i64 l[at_[i]].1) ∧ W.cell? ⟨b, off + at_[i] * 3 + 1, none⟩ = some (.int .i64 l[at_[i]].2.1) ∧ W.cell? ⟨b, off + at_[i] * 3 + 2, none⟩ = some (.int .i64 l[at_[i]].2.2)) ∧ (W.cell? ⟨b, off + at_[k] * 3, none⟩ = some (.int .i64 l[at_[k]].1) ∧ W.cell? ⟨b, off + at_[k] * 3 + 1, none⟩ = some (.int .i64 l[at_[k]].2.1) ∧ W.cell? ⟨b, off + at_[k] * 3 + 2, none⟩ = some (.int .i64 l[at_[k]].2.2))) := fun W hW => ⟨p3_at (HH.out.kept hW) hli, p3_at (HH.out.kept hW) hlk⟩
                        have HPut : Hid (joinedB v l[at_[i]] l[at_[k]] = true → OneInv l v at_ ha (sn3.set i true) (nn3 + 1)) := fun h => HI4.out.put hiA hkA hsi hsk (joinedB_iff.1 h)
                        have HShy : Hid (joinedB v l[at_[i]] l[at_[k]] = false → mr3 = false → (∀ j, j < i → sn3[j]? = some true ∨ Shy l v at_ ha sn3 j K) ∧ (sn3[i]? = some true ∨ Shy l v at_ ha sn3 i (k + 1))) := fun hjf h => ⟨(HC4.out h).1, Or.inr (fun m hm hmk hl2 hs hj => by
                          by_cases e : m = k
                          · subst e
                            have := joinedB_iff.2 hj
                            rw [hjf] at this
                            cases this
                          · rcases (HC4.out h).2 with h2 | h2
                            · rw [hsi] at h2; cases h2
                            · exact h2 m hm hmk (by omega) hs hj)⟩
                        have hni : (at_[i] : Int) < (n : Int) := by have := HL.out; omega
                        have hnk : (at_[k] : Int) < (n : Int) := by have := HL.out; omega
                        clear HC4
                        have HCd : Hid (∀ W, Below wr.heap.size wr W → W.cell? ⟨V.heap.size, k, none⟩ = some (.bool true) ∧ W.cell? ⟨V.heap.size, i, none⟩ = some (.bool false)) := fun W hW => by
                          have h1 := Own.keep HO4.out hW
                          have e1 := (h1.cellAt hbl k hk3).1
                          have e2 := (h1.cellAt hbl i hi3).1
                          rw [boolVs_at hsk] at e1
                          rw [boolVs_at hsi] at e2
                          exact ⟨e1, e2⟩
                        generalize l[at_[i]] = ta at *
                        generalize l[at_[k]] = tb at *
                        obtain ⟨x1, y1, z1⟩ := ta
                        obtain ⟨x2, y2, z2⟩ := tb
                        simp only at HCl
                        generalize at_[i] = mi at *
                        generalize at_[k] = mk at *
                        have HS : Hid (∀ W, Below wr.heap.size wr W → W.cell? ⟨V.heap.size, k, none⟩ = some (.bool true) ∧ W.cell? ⟨ba, oa + i, none⟩ = some (.int .i64 (mi : Int)) ∧ W.cell? ⟨ba, oa + k, none⟩ = some (.int .i64 (mk : Int)) ∧ W.cell? ⟨b, off + mi * 3, none⟩ = some (.int .i64 x1) ∧ W.cell? ⟨b, off + mi * 3 + 1, none⟩ = some (.int .i64 y1) ∧ W.cell? ⟨b, off + mi * 3 + 2, none⟩ = some (.int .i64 z1) ∧ W.cell? ⟨b, off + mk * 3, none⟩ = some (.int .i64 x2) ∧ W.cell? ⟨b, off + mk * 3 + 1, none⟩ = some (.int .i64 y2) ∧ W.cell? ⟨b, off + mk * 3 + 2, none⟩ = some (.int .i64 z2)) := fun W hW => by
                          have hV := new_call HB4.out hW
                          have hw := HB.out.trans (hV.mono HVs.out)
                          have q := HCl.out W hw
                          exact ⟨(HCd.out W hW).1, (HCa.out W hV).1, (HCa.out W hV).2, q.1.1, q.1.2.1, q.1.2.2, q.2.1, q.2.2.1, q.2.2.2⟩
                        have HJo := Lib.hid (ref10joined_any x1 y1 z1 x2 y2 z2 v wr.drew)
                        have HBv0 : Hid (Below wr.heap.size wr wr.drew) := (Below.refl _ _).drew
                        generalize joinedB v (x1, y1, z1) (x2, y2, z2) = jo at *
                        clear hli hlk hiA hkA hsi hsk hlt
                        go_wp2_with (with_reducible fail)
                        go_region_held3 (fun W => W.cell? ⟨V.heap.size, k, none⟩ = some (.bool true) ∧ W.cell? ⟨ba, oa + i, none⟩ = some (.int .i64 (mi : Int)) ∧ W.cell? ⟨ba, oa + k, none⟩ = some (.int .i64 (mk : Int)) ∧ W.cell? ⟨b, off + mi * 3, none⟩ = some (.int .i64 x1) ∧ W.cell? ⟨b, off + mi * 3 + 1, none⟩ = some (.int .i64 y1) ∧ W.cell? ⟨b, off + mi * 3 + 2, none⟩ = some (.int .i64 z1) ∧ W.cell? ⟨b, off + mk * 3, none⟩ = some (.int .i64 x2) ∧ W.cell? ⟨b, off + mk * 3 + 1, none⟩ = some (.int .i64 y2) ∧ W.cell? ⟨b, off + mk * 3 + 2, none⟩ = some (.int .i64 z2)) (first | (with_reducible exact HS.out _ HBv1.out) | (with_reducible exact HS.out _ HBv0.out)) (first
                          | (go_at_call 61; (with_reducible refine HJo.out.mono ?_); rintro e v1 ⟨rfl, hb1⟩; have HBv1 := Lib.hid (new_call HBv0.out hb1); clear hb1))
                        all_goals
                          have HB5 := Lib.hid (new_call HB4.out HBv1.out)
                          have HO5 := Lib.hid (Own.keep HO4.out HBv1.out)
                          cases jo with
                          | false =>
                            have HC5 := Lib.hid (HShy.out rfl)
                            clear HShy HPut
                            go_wp2
                            go_roundg (gk - 1)
                            case measure => omega
                            case rel => exact ⟨k + 1, nn3, mr3, sn3, by omega, by go_num, rfl, rfl, hge4, hgt4, HO5, HB5, HI4, HC5⟩
                          | true =>
                            have HI5 := Lib.hid (HPut.out rfl)
                            clear HShy HPut
                            have cw := (HCd.out _ HBv1.out).2
                            have fw := (HO5.out.cellAt hbl i hi3).2
                            have hst := HO5.out.stored hbl i (.bool true)
                            rw [boolVs_set] at hst
                            have HO6 := Lib.hid hst.1
                            have HB6 := Lib.hid (HB5.out.trans hst.2)
                            have hle : nn3 ≤ K := by have h1 := HI4.out.le; rw [HKl.out] at h1; exact h1
                            clear hst
                            go_wp2
                            go_roundg (gk - 1)
                            case measure => omega
                            case rel => exact ⟨k + 1, nn3 + 1, true, sn3.set i true, by omega, by go_num, by go_num, rfl, by omega, fun _ => by omega, HO6, HB6, HI5, fun h => by cases h⟩
                  · have t4 : decide ((k : Int) < (K : Int)) = false := by simp; omega
                    have HC5 : Hid (mr3 = false → ∀ j, j < i + 1 → sn3[j]? = some true ∨ Shy l v at_ ha sn3 j K) := fun h j hj => by
                      by_cases e : j = i
                      · rw [e]
                        rcases (HC4.out h).2 with h2 | h2
                        · exact Or.inl h2
                        · exact Or.inr (fun m hm hmk hl2 hs hj2 => h2 m hm hmk (by omega) hs hj2)
                      · exact (HC4.out h).1 j (by omega)
                    clear HC4
                    go_wp2
                    go_roundg (K - (i + 1))
                    case measure => omega
                    case rel => exact ⟨i + 1, nn3, mr3, sn3, by omega, by go_num, rfl, rfl, hge4, hgt4, HO4, HB4, HI4, HC5⟩
              · have t3 : decide ((i : Int) < (K : Int)) = false := by simp; omega
                have hle : nn2 ≤ K := by have h1 := HI3.out.le; rw [HKl.out] at h1; exact h1
                have HC5 : Hid (mr2 = false → ∀ j, j < K → sn2[j]? = some true ∨ Shy l v at_ ha sn2 j K) := fun h j hj => HC3.out h j (by omega)
                clear HC3
                go_wp2
                cases mr2 with
                | true =>
                  have hgt2 := hgt rfl
                  go_roundg (K + 1 - nn2)
                  case measure => omega
                  case rel => exact ⟨nn2, true, sn2, rfl, rfl, by simp, HO3, HB3, HI3, HC5⟩
                | false =>
                  go_roundg 0
                  case measure => omega
                  case rel => exact ⟨nn2, false, sn2, rfl, rfl, by simp, HO3, HB3, HI3, HC5⟩
end Go.Proofs.YthjmojglcfmkmaaDoor
