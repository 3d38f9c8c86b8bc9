/- The landed mesh: an edge the other way round and rising; where the surface ends; a fan gone round. -/
import Derived.Test.YthjmojglcfmkmaaDoorMeshCodeC
import Derived.Test.YthjmojglcfmkmaaDoorMeshRound
namespace Go.Proofs.YthjmojglcfmkmaaDoor
open Go.RowKit

theorem edgeInfo : (Tryd.prog.info? 124).map (fun i => (i.zero, i.size)) = some (some (.agg #[.int .i64 0, .int .i64 0]), 2) := by kernel_rfl
theorem sideInfo : (Tryd.prog.info? 123).map (fun i => (i.zero, i.size)) = some (some (.agg #[.int .i64 0, .int .i64 0]), 2) := by kernel_rfl
theorem zeroSide (w : World) : (zeroValue 123).run Tryd.prog w = .ok (e2V (0, 0)) w := by kernel_rfl
theorem edge_load (W : World) (a b : Value) (g : Nat) (h : Blk W g 124 #[a, b]) : (loadVar 124 ⟨g, 0, none⟩).run Tryd.prog W = .ok (.agg #[a, b]) W := by
  obtain ⟨kz, ks⟩ := zero_of_info edgeInfo
  exact run_loadVar_row _ _ _ _ _ _ _ h Tryd.underlying124 rfl (by rw [ks]; rfl)
theorem results_cellM {fn : Func} {p : Tmp} {ty : TypeId} (h : fn.results = #[.cell p ty]) {tmps : Array Value} {P : Program} {w : World} {a : Addr} {v : Value} (hp : tmps.getD p undef = .pointer (some a))
    (hl : (loadVar ty a).run P w = .ok v w) : (results fn tmps).run P w = .ok v w := by
  have hp' : tmps[p]?.getD undef = .pointer (some a) := by rw [← hp]; simp
  simp only [results, h]
  simp [hp', asAddr, hl]
set_option maxRecDepth 100000 in
theorem back_any (x y : Int) (w : World) : Calls Tryd.prog 79 #[.agg #[.int .i64 x, .int .i64 y]] w fun e w' => e = .returned (.agg #[.int .i64 y, .int .i64 x]) ∧ Below w.heap.size w w' := by
  have HA := Lib.hid (Blk.new w 124 #[.int .i64 x, .int .i64 y])
  have HB := Lib.hid (new_alloc (new_alloc (Below.refl w.heap.size w) (.cells #[.int .i64 x, .int .i64 y] 124)) (.cells #[.int .i64 y, .int .i64 x] 124))
  have HK : Hid (Blk ((w.alloc (.cells #[.int .i64 x, .int .i64 y] 124)).alloc (.cells #[.int .i64 y, .int .i64 x] 124)) (w.heap.size + 1) 124 #[.int .i64 y, .int .i64 x]) := by
    have h := Blk.new (w.alloc (.cells #[.int .i64 x, .int .i64 y] 124)) 124 #[.int .i64 y, .int .i64 x]
    rw [show (w.alloc (.cells #[.int .i64 x, .int .i64 y] 124)).heap.size = w.heap.size + 1 from Array.size_push _] at h
    exact h
  have c0 : (w.alloc (.cells #[.int .i64 x, .int .i64 y] 124)).cell? ⟨w.heap.size, 0, none⟩ = _ := HA.out.cell 0
  have c1 : (w.alloc (.cells #[.int .i64 x, .int .i64 y] 124)).cell? ⟨w.heap.size, 1, none⟩ = _ := HA.out.cell 1
  go_enter Tryd.func79, Tryd.ntmps79
  go_wp2
  try rw [Exit.noGoto_ret]
  exact bodyPost_ret (results_cellM Tryd.results79 rfl (edge_load _ _ _ _ HK.out)) rfl ⟨rfl, HB.out⟩
/-- What the map answers. -/
theorem look_side {w : World} {b n : Nat} {T : List P3} (h : SidesW w b T) (hall : T.all (triM n) = true) (hn : n ≤ 100000) {d : D2} (hd : in64 d) :
    ∃ s : D2, (Instr.lookup 92 (.map (some b)) (.agg #[.int .i64 d.1, .int .i64 d.2]) true).run Tryd.prog w = .ok (.tuple #[.agg #[.int .i64 s.1, .int .i64 s.2], .bool (decide (d ∈ darts T))]) w ∧
      ((darts T).Nodup → ∀ i k, ∀ hi : i < T.length, k < 3 → d = (at3 T[i] k, at3 T[i] ((k + 1) % 3)) → s = ((i : Int), at3 T[i] ((k + 2) % 3))) := by
  obtain ⟨v, ps, h1, h2⟩ := World.ownsMap.look_ok h lawE Tryd.underlying92 (zeroSide w) (sideR_mk (0, 0)) (keyOf_e2 hd)
  obtain ⟨s, rfl, h3⟩ := sideR_inv h2
  refine ⟨s, ?_, fun hnd i k hi hk e => ?_⟩
  · rw [sides_has hall hn hd] at h1
    exact h1
  · have h4 := sides_at hall hn hnd hi hk (sideD (0, 0))
    rw [← e] at h4
    have h5 := congrArg Prod.fst h3
    exact sideD_inj (h5.symm.trans h4)
theorem dart_in {n : Nat} {T : List P3} (hall : T.all (triM n) = true) (hn : n ≤ 100000) {d : D2} (hd : d ∈ darts T) : in64 d := by
  obtain ⟨t, ht, h⟩ := mem_darts.1 hd
  have h1 := tri_at.1 (List.all_eq_true.1 hall t ht)
  obtain ⟨k, hk, rfl⟩ := dirs_mem_at.1 h
  obtain ⟨a, b, _⟩ := h1 k hk
  obtain ⟨a2, b2, _⟩ := h1 ((k + 1) % 3) (Nat.mod_lt _ (by decide))
  exact ⟨wf64 a (show at3 _ _ ≤ _ by omega), wf64 a2 (show at3 _ _ ≤ _ by omega)⟩
theorem swap_in {d : D2} (h : in64 d) : in64 (swapD d) := ⟨h.2, h.1⟩
set_option maxRecDepth 100000 in
theorem ends_any (b n : Nat) (T : List P3) (x y : Int) (w : World) (hs : SidesW w b T) (hall : T.all (triM n) = true) (hn : n ≤ 100000) (hd : in64 (x, y)) : Calls Tryd.prog 75 #[.map (some b), .agg #[.int .i64 x, .int .i64 y]] w fun e w' => e = .returned (.bool (!decide ((y, x) ∈ darts T))) ∧ Below w.heap.size w w' := by
  have HA := Lib.hid (Blk.new w 124 #[.int .i64 x, .int .i64 y])
  have HB := Lib.hid (new_alloc (Below.refl w.heap.size w) (.cells #[.int .i64 x, .int .i64 y] 124))
  have HS := Lib.hid (fun w1 (hw : Below w.heap.size w w1) => look_side (SidesW.kept hs hw) hall hn (swap_in hd))
  have c0 := HA.out.cell 0
  have c1 := HA.out.cell 1
  clear hs hd hall
  obtain ⟨kz, ks⟩ := zero_of_info sideInfo
  generalize hR : decide ((y, x) ∈ darts T) = R
  have HR := Lib.hid hR
  clear hR
  go_enter Tryd.func75, Tryd.ntmps75
  go_wp2_with fail
  refine (back_any x y _).mono ?_
  rintro e w1 ⟨rfl, hb1⟩
  have HB1 := Lib.hid (new_call HB.out hb1)
  obtain ⟨s, hlk, _⟩ := HS.out w1 HB1.out
  rw [show swapD (x, y) = (y, x) from rfl, HR.out] at hlk
  simp only at hlk
  clear hb1 c0 c1
  go_wp2
  go_ret
  exact ⟨rfl, new_alloc HB1.out _⟩
end Go.Proofs.YthjmojglcfmkmaaDoor
