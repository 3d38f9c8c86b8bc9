import Derived.Test.YthjmojglcfmkmaaDoorWalkCodeE
/- The landed walk: a vertex reached; a piece begun. -/
namespace Go.Proofs.YthjmojglcfmkmaaDoor
open Go.RowKit

/-- What a vertex behind a gate is told as. -/
def reachW (s : WS) (v : Int) : WS := { s with V := meetW s.V v, S := s.S ++ [if v ∈ s.V then (3, findW s.V v) else (2, 0)] }
theorem Blk.hasK {W : World} {g n k : Nat} {t : TypeId} {cs : Array Value} (h : Blk W g t cs) (hn : cs.size = n * k) : HasK k W (some ⟨g, 0, none⟩) n n cs.toList :=
  ⟨by simpa using hn, Nat.le_refl _, (fun e => by cases e), fun _ => ⟨g, 0, rfl, h.lt, fun j u hu => by
    rw [h.cell (0 + j), Nat.zero_add]
    simpa using hu⟩⟩
/-- A literal of the caller's own, which a method leaves as it is. -/
theorem lit_kept {F : Nat → Prop} {w : World} {t : TypeId} {l : List Int} : ∀ W, Chg (cutF F w.heap.size 1) (w.alloc (.cells (intVs l).toArray t)) W → Has W (some ⟨w.heap.size, 0, none⟩) l.length l.length (intVs l) := fun W hW => by
  have h1 := (Blk.new w t (intVs l).toArray).chg hW (cutF_self _ _)
  have h2 := h1.hasK (n := l.length) (k := 1) (by simp [intVs])
  exact h2.plain
theorem RA.cut {F : Nat → Prop} {g b gm gn m n : Nat} {T : List P3} {s : WS} {w : World} (h : RA F g b gm gn m n T s w) (K : Nat) : RA (cutF F w.heap.size K) g b gm gn m n T s w := h.among fun _ hk hf => ⟨hf, by omega⟩
theorem RA.uncut {F : Nat → Prop} {g b gm gn m n : Nat} {T : List P3} {s : WS} {w : World} {q K : Nat} (h : RA (cutF F q K) g b gm gn m n T s w) : RA F g b gm gn m n T s w := h.among fun _ _ hf => hf.1
set_option maxRecDepth 100000 in
set_option maxHeartbeats 2000000 in
theorem walkReach_any (F : Nat → Prop) (g b gm gn m n : Nat) (T : List P3) (s : WS) (v : Nat) (w : World) (hF : ∀ k, w.heap.size ≤ k → F k) (h : RA F g b gm gn m n T s w) (hv : v < n) (hs : WSmall s 10000000) :
    Calls Tryd.prog 72 #[.pointer (some ⟨g, 0, none⟩), .int .i64 (v : Int)] w (ROut F g b gm gn m n T (reachW s (v : Int)) w) := by
  have HR := Lib.hid h
  obtain ⟨q, a, vG, vS, vV, vO, vN, h, hq, ha⟩ := h
  have v2 : (v : Int) < (n : Int) := by omega
  have c0 := h.box.cell 2
  have c1 := num_at h.nm ha v hv rfl
  have HFr := Lib.hid hF
  have HVn := Lib.hid hv
  have HS := Lib.hid hs
  clear h hq ha hF hv hs
  by_cases hm : (v : Int) ∈ s.V
  · have hf := find_yes hm
    have HE : Hid (reachW s (v : Int) = { s with S := s.S ++ [(3, findW s.V (v : Int))] }) := by
      show _ = _
      unfold reachW meetW
      rw [if_pos hm, if_pos hm]
    rw [HE.out]
    generalize findW s.V (v : Int) = f at *
    have tq : (f != -1) = true := bne_iff_ne.2 (by omega)
    clear hm hf
    go_enter Tryd.func72, Tryd.ntmps72
    go_wp2_with fail
    refine (walkTell_any F g b gm gn m n T s 3 f w HFr.out HR.out (by have := HS.out.S; omega)).mono ?_
    rintro e w1 ⟨rfl, hr, hc⟩
    go_wp2
    go_end0
    exact ⟨rfl, hr, hc⟩
  · have hf := find_no hm
    have HE : Hid (reachW s (v : Int) = { s with S := s.S ++ [(2, 0)], V := s.V ++ [(v : Int)] }) := by
      show _ = _
      unfold reachW meetW
      rw [if_neg hm, if_neg hm]
    have HM := Lib.hid hm
    rw [HE.out]
    rw [hf] at c1
    clear hm hf
    go_enter Tryd.func72, Tryd.ntmps72
    go_wp2_with fail
    refine (walkTell_any F g b gm gn m n T s 2 0 w HFr.out HR.out (by have := HS.out.S; omega)).mono ?_
    rintro e w1 ⟨rfl, hr, hc⟩
    have HR1 := Lib.hid hr
    have HC1 := Lib.hid hc
    clear hr hc
    go_wp2_with fail
    have HLt : Hid (∀ W, Chg (cutF F w1.heap.size 1) (w1.alloc (.cells #[.int .i64 (v : Int)] 3)) W → Has W (some ⟨w1.heap.size, 0, none⟩) 1 1 (intVs [(v : Int)])) := lit_kept (l := [(v : Int)])
    have HF1 : Hid (∀ k, w1.heap.size ≤ k → F k) := fun k hk => HFr.out k (Nat.le_trans HC1.out.size hk)
    refine (walkNumber_any (cutF F w1.heap.size 1) g b gm gn m n T { s with S := s.S ++ [(2, 0)] } (some ⟨w1.heap.size, 0, none⟩) 1 1 [(v : Int)] (w1.alloc (.cells #[.int .i64 (v : Int)] 3)) (cutF.new HF1.out (by simp)) ((HR1.out.cut 1).next (new_alloc (Below.refl _ _) _)) HLt.out (by omega) (fun x hx => by rw [List.mem_singleton.1 hx]; have := HVn.out; omega) (List.nodup_cons.2 ⟨List.not_mem_nil, List.nodup_nil⟩) (fun x hx => by rw [List.mem_singleton.1 hx]; exact HM.out) (by have := HS.out.V; show s.V.length ≤ _; omega)).mono ?_
    rintro e w2 ⟨rfl, hr, hc⟩
    go_wp2
    go_end0
    exact ⟨rfl, hr.uncut, (HC1.out.then_ (Chg.of_below (D := F) (new_alloc (Below.refl _ _) _)) (fun _ _ e => e)).then_ (hc.wide (D' := F) fun k _ e => e.1) (fun _ _ e => e)⟩
end Go.Proofs.YthjmojglcfmkmaaDoor

/- The landed walk: a piece begun. -/
namespace Go.Proofs.YthjmojglcfmkmaaDoor
open Go.RowKit

/-- A triangle that begins a piece. -/
def beginW (s : WS) (i : Nat) (x y z : Int) : WS := { V := s.V ++ [x, y, z], O := s.O ++ [i], N := s.N ++ [(findW (s.V ++ [x, y, z]) x, findW (s.V ++ [x, y, z]) y, findW (s.V ++ [x, y, z]) z)], G := s.G ++ [(x, y), (y, z), (z, x)], S := s.S ++ [(0, 0)] }
theorem seed_begin {T : List P3} {s : WS} {i : Nat} {x y z : Int} (ht : T[i]?.getD (0, 0, 0) = (x, y, z)) (h1 : x ∉ s.V) (h2 : y ∉ s.V) (h3 : z ∉ s.V) (hxy : x ≠ y) (hxz : x ≠ z) (hyz : y ≠ z) : seedW T s i = beginW s i x y z := by
  have e1 : meetW s.V x = s.V ++ [x] := if_neg h1
  have e2 : meetW (s.V ++ [x]) y = s.V ++ [x, y] := by
    unfold meetW
    rw [if_neg (fun h => by
      rcases List.mem_append.1 h with h | h
      · exact h2 h
      · exact hxy (List.mem_singleton.1 h).symm), List.append_assoc]
    rfl
  have e3 : meetW (s.V ++ [x, y]) z = s.V ++ [x, y, z] := by
    unfold meetW
    rw [if_neg (fun h => by
      rcases List.mem_append.1 h with h | h
      · exact h3 h
      · rcases List.mem_cons.1 h with h | h
        · exact hxz h.symm
        · exact hyz (List.mem_singleton.1 h).symm), List.append_assoc]
    rfl
  unfold seedW beginW
  rw [ht]
  simp only
  rw [e1, e2, e3]
set_option maxRecDepth 100000 in
set_option maxHeartbeats 2000000 in
theorem walkBegin_any (F : Nat → Prop) (g b gm gn m n : Nat) (T : List P3) (s : WS) (i x y z : Nat) (w : World) (hF : ∀ k, w.heap.size ≤ k → F k) (h : RA F g b gm gn m n T s w) (hi : i < m) (hx : x < n) (hy : y < n) (hz : z < n) (hs : WSmall s 10000000)
    (h1 : (x : Int) ∉ s.V) (h2 : (y : Int) ∉ s.V) (h3 : (z : Int) ∉ s.V) (hxy : x ≠ y) (hxz : x ≠ z) (hyz : y ≠ z) :
    Calls Tryd.prog 55 #[.pointer (some ⟨g, 0, none⟩), .int .i64 (i : Int), .agg #[.int .i64 (x : Int), .int .i64 (y : Int), .int .i64 (z : Int)]] w (ROut F g b gm gn m n T (beginW s i (x : Int) (y : Int) (z : Int)) w) := by
  have HR0 := Lib.hid (h.next ((new_alloc (Below.refl _ w) (.cells #[.int .i64 (x : Int), .int .i64 (y : Int), .int .i64 (z : Int)] 58)).drew))
  have HC0 : Hid (Chg F w (w.alloc (.cells #[.int .i64 (x : Int), .int .i64 (y : Int), .int .i64 (z : Int)] 58)).drew) := Chg.of_below ((new_alloc (Below.refl _ w) _).drew)
  have HK := Lib.hid (Blk.new w 58 #[.int .i64 (x : Int), .int .i64 (y : Int), .int .i64 (z : Int)])
  have HFr := Lib.hid hF
  have HS := Lib.hid hs
  have HIn : Hid (∀ v ∈ [(x : Int), (y : Int), (z : Int)], 0 ≤ v ∧ v < n) := fun v hv => by
    simp only [List.mem_cons, List.not_mem_nil, or_false] at hv
    rcases hv with rfl | rfl | rfl <;> omega
  have HNd : Hid ([(x : Int), (y : Int), (z : Int)].Nodup) := by
    refine List.nodup_cons.2 ⟨fun hm => ?_, List.nodup_cons.2 ⟨fun hm => ?_, List.nodup_cons.2 ⟨List.not_mem_nil, List.nodup_nil⟩⟩⟩
    · simp only [List.mem_cons, List.not_mem_nil, or_false] at hm
      omega
    · have := List.mem_singleton.1 hm
      omega
  have HNo : Hid (∀ v ∈ [(x : Int), (y : Int), (z : Int)], v ∉ s.V) := fun v hv => by
    simp only [List.mem_cons, List.not_mem_nil, or_false] at hv
    rcases hv with rfl | rfl | rfl
    · exact h1
    · exact h2
    · exact h3
  have HB : Hid (i < m ∧ x < n ∧ y < n ∧ z < n) := ⟨hi, hx, hy, hz⟩
  have k0 : (w.alloc (.cells #[.int .i64 (x : Int), .int .i64 (y : Int), .int .i64 (z : Int)] 58)).cell? ⟨w.heap.size, 0, none⟩ = some (.int .i64 (x : Int)) := HK.out.cell 0
  have k1 : (w.alloc (.cells #[.int .i64 (x : Int), .int .i64 (y : Int), .int .i64 (z : Int)] 58)).cell? ⟨w.heap.size, 1, none⟩ = some (.int .i64 (y : Int)) := HK.out.cell 1
  have k2 : (w.alloc (.cells #[.int .i64 (x : Int), .int .i64 (y : Int), .int .i64 (z : Int)] 58)).cell? ⟨w.heap.size, 2, none⟩ = some (.int .i64 (z : Int)) := HK.out.cell 2
  have HE : Hid (beginW s i (x : Int) (y : Int) (z : Int) = beginW s i (x : Int) (y : Int) (z : Int)) := rfl
  clear h hF hs h1 h2 h3 hxy hxz hyz hi hx hy hz
  go_enter Tryd.func55, Tryd.ntmps55
  go_wp2
  go_region
  generalize (w.alloc (.cells #[.int .i64 (x : Int), .int .i64 (y : Int), .int .i64 (z : Int)] 58)).drew = W1 at *
  clear k0 k1 k2
  go_wp2_with fail
  refine (walkTell_any F g b gm gn m n T s 0 0 W1 (fun k hk => HFr.out k (Nat.le_trans HC0.out.size hk)) HR0.out (by have := HS.out.S; omega)).mono ?_
  rintro e w1 ⟨rfl, hr, hc⟩
  have HR1 := Lib.hid hr
  have HC1 := Lib.hid (HC0.out.then_ hc (fun _ _ e => e))
  clear hr hc HR0 HC0
  go_wp2_with fail
  have HLt : Hid (∀ W, Chg (cutF F w1.heap.size 1) (w1.alloc (.cells #[.int .i64 (x : Int), .int .i64 (y : Int), .int .i64 (z : Int)] 3)) W → Has W (some ⟨w1.heap.size, 0, none⟩) 3 3 (intVs [(x : Int), (y : Int), (z : Int)])) := lit_kept (l := [(x : Int), (y : Int), (z : Int)])
  refine (walkNumber_any (cutF F w1.heap.size 1) g b gm gn m n T { s with S := s.S ++ [(0, 0)] } (some ⟨w1.heap.size, 0, none⟩) 3 3 [(x : Int), (y : Int), (z : Int)] (w1.alloc (.cells #[.int .i64 (x : Int), .int .i64 (y : Int), .int .i64 (z : Int)] 3)) (cutF.new (fun k hk => HFr.out k (Nat.le_trans HC1.out.size hk)) (by simp)) ((HR1.out.cut 1).next (new_alloc (Below.refl _ _) _)) HLt.out (by omega) HIn.out HNd.out HNo.out (by have := HS.out.V; show s.V.length ≤ _; omega)).mono ?_
  rintro e w2 ⟨rfl, hr, hc⟩
  have HR2 := Lib.hid hr.uncut
  have HC2 := Lib.hid ((HC1.out.then_ (Chg.of_below (D := F) (new_alloc (Below.refl _ _) (.cells #[.int .i64 (x : Int), .int .i64 (y : Int), .int .i64 (z : Int)] 3))) (fun _ _ e => e)).then_ (hc.wide (D' := F) fun k _ e => e.1) (fun _ _ e => e))
  clear hr hc HR1 HC1 HLt
  go_wp2_with fail
  refine (walkMeet_any F g b gm gn m n T { s with V := s.V ++ [(x : Int), (y : Int), (z : Int)], S := s.S ++ [(0, 0)] } i x y z w2 (fun k hk => HFr.out k (Nat.le_trans HC2.out.size hk)) HR2.out HB.out.1 HB.out.2.1 HB.out.2.2.1 HB.out.2.2.2 (by have := HS.out.O; show s.O.length ≤ _; omega) (by have := HS.out.N; show s.N.length ≤ _; omega)).mono ?_
  rintro e w3 ⟨rfl, hr, hc⟩
  have HR3 := Lib.hid hr
  have HC3 := Lib.hid (HC2.out.then_ hc (fun _ _ e => e))
  clear hr hc HR2 HC2
  go_wp2_with fail
  refine (walkLay_any F g b gm gn m n T { s with V := s.V ++ [(x : Int), (y : Int), (z : Int)], O := s.O ++ [i], N := s.N ++ [(findW (s.V ++ [(x : Int), (y : Int), (z : Int)]) (x : Int), findW (s.V ++ [(x : Int), (y : Int), (z : Int)]) (y : Int), findW (s.V ++ [(x : Int), (y : Int), (z : Int)]) (z : Int))], S := s.S ++ [(0, 0)] } (some ⟨w3.heap.size, 0, none⟩) 3 3 [((x : Int), (y : Int)), ((y : Int), (z : Int)), ((z : Int), (x : Int))] (w3.alloc (.cells #[.int .i64 (x : Int), .int .i64 (y : Int), .int .i64 (y : Int), .int .i64 (z : Int), .int .i64 (z : Int), .int .i64 (x : Int)] 98)) (fun k hk => HFr.out k (Nat.le_trans HC3.out.size (Nat.le_trans (by simp) hk))) (HR3.out.next (new_alloc (Below.refl _ _) _)) (HasK.new_at 2 w3 #[.int .i64 (x : Int), .int .i64 (y : Int), .int .i64 (y : Int), .int .i64 (z : Int), .int .i64 (z : Int), .int .i64 (x : Int)] 98 _ 3 rfl rfl) (by omega) (by have := HS.out.G; show s.G.length ≤ _; omega)).mono ?_
  rintro e w4 ⟨rfl, hr, hc⟩
  go_wp2
  go_end0
  exact ⟨rfl, hr, (HC3.out.then_ (Chg.of_below (D := F) (new_alloc (Below.refl _ _) _)) (fun _ _ e => e)).then_ hc (fun _ _ e => e)⟩
end Go.Proofs.YthjmojglcfmkmaaDoor

/- The landed walk: a gate passed. -/
namespace Go.Proofs.YthjmojglcfmkmaaDoor
open Go.RowKit

/-- What is behind a gate, the gate being taken. -/
def passW (T : List P3) (s : WS) (p q : Int) : WS :=
  if hasF T q p < 0 then { s with S := s.S ++ [(1, 0)] }
  else if (hasF T q p).toNat ∈ s.O then s
  else
    let v := thirdV (T[(hasF T q p).toNat]?.getD (0, 0, 0)) p q
    { V := meetW s.V v, O := s.O ++ [(hasF T q p).toNat], N := s.N ++ [(findW (meetW s.V v) q, findW (meetW s.V v) p, findW (meetW s.V v) v)], G := s.G ++ [(p, v), (v, q)], S := s.S ++ [if v ∈ s.V then (3, findW s.V v) else (2, 0)] }
theorem gate_pass (T : List P3) (s : WS) (p q : Int) : gateTo T s p q = passW T { s with G := s.G.dropLast } p q := by
  unfold gateTo passW stepTo
  rfl
theorem third_at {n : Nat} {t : P3} (h : triM n t = true) {k : Nat} (hk : k < 3) {p q : Int} (e : (q, p) = (at3 t k, at3 t ((k + 1) % 3))) : thirdV t p q = at3 t ((k + 2) % 3) := by
  obtain ⟨h1, h2, h3, _⟩ := triM_iff.1 h
  obtain ⟨a, b, c⟩ := t
  simp only at h1 h2 h3
  have e1 := congrArg Prod.fst e
  have e2 := congrArg Prod.snd e
  simp only at e1 e2
  subst e1 e2
  unfold thirdV
  rcases (show k = 0 ∨ k = 1 ∨ k = 2 by omega) with rfl | rfl | rfl
  · show (if c ≠ b ∧ c ≠ a then c else _) = c
    rw [if_pos ⟨by omega, by omega⟩]
  · show (if c ≠ c ∧ c ≠ b then c else if b ≠ c ∧ b ≠ b then b else if a ≠ c ∧ a ≠ b then a else 0) = a
    rw [if_neg (by omega), if_neg (by omega), if_pos ⟨by omega, by omega⟩]
  · show (if c ≠ a ∧ c ≠ c then c else if b ≠ a ∧ b ≠ c then b else _) = b
    rw [if_neg (by omega), if_pos ⟨by omega, by omega⟩]
set_option maxRecDepth 100000 in
set_option maxHeartbeats 4000000 in
theorem walkPass_any (F : Nat → Prop) (g b gm gn m n : Nat) (T : List P3) (s : WS) (p q : Nat) (w : World) (hF : ∀ k, w.heap.size ≤ k → F k) (h : RA F g b gm gn m n T s w) (hall : T.all (triM n) = true) (hn : n ≤ 100000) (hm : T.length = m) (hnd : (darts T).Nodup) (hp : p < n) (hq : q < n) (hs : WSmall s 10000000) :
    Calls Tryd.prog 57 #[.pointer (some ⟨g, 0, none⟩), .agg #[.int .i64 (p : Int), .int .i64 (q : Int)]] w (ROut F g b gm gn m n T (passW T s (p : Int) (q : Int)) w) := by
  have HR0 := Lib.hid ((h.cut 2).next ((new_alloc (Below.refl _ w) (.cells #[.int .i64 (p : Int), .int .i64 (q : Int)] 98)).drew))
  have HB0 : Hid (Below w.heap.size w (w.alloc (.cells #[.int .i64 (p : Int), .int .i64 (q : Int)] 98)).drew) := (new_alloc (Below.refl _ w) _).drew
  have HZ0 : Hid ((w.alloc (.cells #[.int .i64 (p : Int), .int .i64 (q : Int)] 98)).drew.heap.size = w.heap.size + 1) := Array.size_push _
  have HK := Lib.hid (Blk.new w 98 #[.int .i64 (p : Int), .int .i64 (q : Int)])
  have HFr := Lib.hid hF
  have HS := Lib.hid hs
  have HPQ : Hid (p < n ∧ q < n) := ⟨hp, hq⟩
  have hin : in64 ((q : Int), (p : Int)) := ⟨wf64 (by omega) (by omega), wf64 (by omega) (by omega)⟩
  have k0 : (w.alloc (.cells #[.int .i64 (p : Int), .int .i64 (q : Int)] 98)).cell? ⟨w.heap.size, 0, none⟩ = some (.int .i64 (p : Int)) := HK.out.cell 0
  have k1 : (w.alloc (.cells #[.int .i64 (p : Int), .int .i64 (q : Int)] 98)).cell? ⟨w.heap.size, 1, none⟩ = some (.int .i64 (q : Int)) := HK.out.cell 1
  have HLk := Lib.hid (fun W (hW : SidesK W b T) => look_k hW hall hn hin)
  have HTri : Hid (∀ i, ∀ hi : i < T.length, triM n T[i] = true) := fun i hi => List.all_eq_true.1 hall _ (List.getElem_mem hi)
  have HND := Lib.hid hnd
  have HM := Lib.hid hm
  obtain ⟨kz, ks⟩ := zero_of_info sideInfoK
  clear h hF hs hp hq hin hall hnd hm
  obtain ⟨S1, hS1⟩ : ∃ S, passW T s (p : Int) (q : Int) = S := ⟨_, rfl⟩
  rw [hS1]
  go_enter Tryd.func57, Tryd.ntmps57
  go_wp2
  go_region
  generalize (w.alloc (.cells #[.int .i64 (p : Int), .int .i64 (q : Int)] 98)).drew = W1 at *
  clear k0 k1 HK
  obtain ⟨qf, a, vG, vS, vV, vO, vN, hX, hqf, ha⟩ := HR0.out
  have HX := Lib.hid hX
  have HQf := Lib.hid hqf
  clear ha hqf
  obtain ⟨sd, hlk, hsd⟩ := HLk.out W1 hX.sd
  obtain ⟨s1, s2⟩ := sd
  simp only at hlk
  have b0 := hX.box.cell 0
  clear hX HLk
  have hz1 : W1.heap.size = w.heap.size + 1 := HZ0.out
  by_cases hd : ((q : Int), (p : Int)) ∈ darts T
  · rw [decide_eq_true hd] at hlk
    rcases hasF_ways T (q : Int) (p : Int) with ⟨_, h2⟩ | ⟨i, hi, h1, h2, h9⟩
    · exact absurd hd h2
    · obtain ⟨k, hk, e⟩ := dirs_mem_at.1 h2
      have hs12 := hsd HND.out i k hi hk e
      obtain ⟨rfl, rfl⟩ : s1 = (i : Int) ∧ s2 = at3 T[i] ((k + 2) % 3) := ⟨congrArg Prod.fst hs12, congrArg Prod.snd hs12⟩
      have hth := third_at (HTri.out i hi) hk e
      have hti : T[i]?.getD (0, 0, 0) = T[i] := by rw [List.getElem?_eq_getElem hi]; rfl
      have hv := tri_at.1 (HTri.out i hi) ((k + 2) % 3) (Nat.mod_lt _ (by decide))
      have him : i < m := by rw [← HM.out]; exact hi
      generalize at3 T[i] ((k + 2) % 3) = v0 at *
      obtain ⟨v, rfl⟩ := Int.eq_ofNat_of_zero_le hv.1
      have hvn : v < n := by have := hv.2.1; omega
      have HE : Hid (S1 = if i ∈ s.O then s else { V := meetW s.V (v : Int), O := s.O ++ [i], N := s.N ++ [(findW (meetW s.V (v : Int)) (q : Int), findW (meetW s.V (v : Int)) (p : Int), findW (meetW s.V (v : Int)) (v : Int))], G := s.G ++ [((p : Int), (v : Int)), ((v : Int), (q : Int))], S := s.S ++ [if (v : Int) ∈ s.V then (3, findW s.V (v : Int)) else (2, 0)] }) := by
        show _ = _
        rw [← hS1]
        unfold passW
        rw [h1, if_neg (by omega), Int.toNat_natCast, hti, hth]
      clear hS1 hd h1 h2 h9 e hs12 hth hti hv hsd hi hk
      have HX2 := Lib.hid (HX.out.next ((new_alloc (Below.refl _ W1) (.cells #[.int .i64 (i : Int), .int .i64 (v : Int)] 111))))
      have HN2 := Lib.hid (Blk.new W1 111 #[.int .i64 (i : Int), .int .i64 (v : Int)])
      have i2 : (i : Int) < (m : Int) := by omega
      have c1 := HX2.out.box.cell 1
      have d1 := HX2.out.mt.cell i
      rw [rowB_at _ him, HQf.out i him] at d1
      have e0 : (W1.alloc (.cells #[.int .i64 (i : Int), .int .i64 (v : Int)] 111)).cell? ⟨W1.heap.size, 0, none⟩ = some (.int .i64 (i : Int)) := HN2.out.cell 0
      have e1 : (W1.alloc (.cells #[.int .i64 (i : Int), .int .i64 (v : Int)] 111)).cell? ⟨W1.heap.size, 1, none⟩ = some (.int .i64 (v : Int)) := HN2.out.cell 1
      have HRd := Lib.hid (HR0.out.next ((new_alloc (Below.refl _ W1) (.cells #[.int .i64 (i : Int), .int .i64 (v : Int)] 111)).drew))
      have HCd : Hid (Chg F w (W1.alloc (.cells #[.int .i64 (i : Int), .int .i64 (v : Int)] 111)).drew) := Chg.of_below ((new_alloc HB0.out _).drew)
      have HZd : Hid ((W1.alloc (.cells #[.int .i64 (i : Int), .int .i64 (v : Int)] 111)).drew.heap.size = w.heap.size + 2) := (Array.size_push _).trans (congrArg (· + 1) hz1)
      have HNd : Hid (Blk (W1.alloc (.cells #[.int .i64 (i : Int), .int .i64 (v : Int)] 111)).drew W1.heap.size 111 #[.int .i64 (i : Int), .int .i64 (v : Int)]) := HN2.out
      by_cases hmem : i ∈ s.O
      · rw [decide_eq_true hmem] at d1
        rw [if_pos hmem] at HE
        clear hmem HX HX2 HN2 HNd
        go_wp2
        go_region
        go_wp2
        go_end0
        exact ⟨rfl, by rw [HE.out]; exact HRd.out.uncut, HCd.out⟩
      · rw [decide_eq_false hmem] at d1
        rw [if_neg hmem] at HE
        clear hmem HX HX2 HN2
        go_wp2
        go_region
        generalize (W1.alloc (.cells #[.int .i64 (i : Int), .int .i64 (v : Int)] 111)).drew = W3 at *
        rw [hz1] at HNd
        have HNo : Hid (¬ cutF F w.heap.size 2 (w.heap.size + 1)) := fun e => e.2 ⟨by omega, by omega⟩
        have HF2 : Hid (∀ k, w.heap.size + 2 ≤ k → cutF F w.heap.size 2 k) := cutF.new HFr.out (Nat.le_refl _)
        have f1 := HNd.out.cell 1
        clear c1 d1 e0 e1 b0 hlk HR0
        go_wp2_with fail
        refine (walkReach_any (cutF F w.heap.size 2) g b gm gn m n T s v W3 (fun k hk => HF2.out k (Nat.le_trans (Nat.le_of_eq HZd.out.symm) hk)) HRd.out hvn HS.out).mono ?_
        rintro e w4 ⟨rfl, hr, hc⟩
        have HR4 := Lib.hid hr
        have HC4 := Lib.hid hc
        have HN4 := Lib.hid (HNd.out.chg hc HNo.out)
        clear hr hc f1
        have f0 := HN4.out.cell 0
        go_wp2_with fail
        refine (walkMeet_any (cutF F w.heap.size 2) g b gm gn m n T (reachW s (v : Int)) i q p v w4 (fun k hk => HF2.out k (Nat.le_trans (Nat.le_of_eq HZd.out.symm) (Nat.le_trans HC4.out.size hk))) HR4.out him HPQ.out.2 HPQ.out.1 hvn (by have := HS.out.O; show s.O.length ≤ _; omega) (by have := HS.out.N; show s.N.length ≤ _; omega)).mono ?_
        rintro e w5 ⟨rfl, hr, hc⟩
        have HR5 := Lib.hid hr
        have HC5 := Lib.hid (HC4.out.then_ hc (fun _ _ e => e))
        clear hr hc f0
        go_wp2_with fail
        refine (walkLay_any (cutF F w.heap.size 2) g b gm gn m n T { reachW s (v : Int) with O := (reachW s (v : Int)).O ++ [i], N := (reachW s (v : Int)).N ++ [(findW (reachW s (v : Int)).V (q : Int), findW (reachW s (v : Int)).V (p : Int), findW (reachW s (v : Int)).V (v : Int))] } (some ⟨w5.heap.size, 0, none⟩) 2 2 [((p : Int), (v : Int)), ((v : Int), (q : Int))] (w5.alloc (.cells #[.int .i64 (p : Int), .int .i64 (v : Int), .int .i64 (v : Int), .int .i64 (q : Int)] 98)) (fun k hk => HF2.out k (Nat.le_trans (Nat.le_of_eq HZd.out.symm) (Nat.le_trans HC5.out.size (Nat.le_trans (by simp) hk)))) (HR5.out.next (new_alloc (Below.refl _ _) _)) (HasK.new_at 2 w5 #[.int .i64 (p : Int), .int .i64 (v : Int), .int .i64 (v : Int), .int .i64 (q : Int)] 98 _ 2 rfl rfl) (by omega) (by have := HS.out.G; show s.G.length ≤ _; omega)).mono ?_
        rintro e w6 ⟨rfl, hr, hc⟩
        go_wp2
        go_end0
        exact ⟨rfl, by rw [HE.out]; exact hr.uncut, HCd.out.then_ (((HC5.out.then_ (Chg.of_below (D := cutF F w.heap.size 2) (new_alloc (Below.refl _ _) _)) (fun _ _ e => e)).then_ hc (fun _ _ e => e)).wide (D' := F) fun k _ e => e.1) (fun _ _ e => e)⟩
  · rw [decide_eq_false hd] at hlk
    have HE : Hid (S1 = { s with S := s.S ++ [(1, 0)] }) := by
      show _ = _
      rw [← hS1]
      unfold passW
      rcases hasF_ways T (q : Int) (p : Int) with ⟨h1, _⟩ | ⟨i, hi, _, h2, _⟩
      · rw [h1, if_pos (by decide)]
      · exact absurd (mem_darts.2 ⟨_, List.getElem_mem hi, h2⟩) hd
    clear hS1 hd hsd
    have HRd := Lib.hid (HR0.out.next (new_alloc (Below.refl _ W1) (.cells #[.int .i64 s1, .int .i64 s2] 111)))
    have HCd : Hid (Chg F w (W1.alloc (.cells #[.int .i64 s1, .int .i64 s2] 111))) := Chg.of_below (new_alloc HB0.out _)
    have HZd : Hid ((W1.alloc (.cells #[.int .i64 s1, .int .i64 s2] 111)).heap.size = w.heap.size + 2) := (Array.size_push _).trans (congrArg (· + 1) hz1)
    go_wp2_with fail
    refine (walkTell_any (cutF F w.heap.size 2) g b gm gn m n T s 1 0 _ (cutF.new HFr.out (by rw [HZd.out]; exact Nat.le_refl _)) HRd.out (by have := HS.out.S; omega)).mono ?_
    rintro e w1 ⟨rfl, hr, hc⟩
    go_wp2
    go_end0
    exact ⟨rfl, by rw [HE.out]; exact hr.uncut, HCd.out.then_ (hc.wide (D' := F) fun k _ e => e.1) (fun _ _ e => e)⟩
end Go.Proofs.YthjmojglcfmkmaaDoor
