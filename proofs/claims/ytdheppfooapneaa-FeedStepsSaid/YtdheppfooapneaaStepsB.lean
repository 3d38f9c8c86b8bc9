import Derived.Test.YtdheppfooapneaaStepsA
import Derived.Deep.RegionHeld3
import Derived.Deep.DeepMust
import Derived.Lib.SliceRun
import Derived.Deep.LoopGhost
import Derived.Deep.QuietTactic
import Derived.BigQuiet
import Derived.StillTailTactics
import Derived.Outline
/- lapidaryref03.Step: the last byte of a section. -/
namespace Go.Proofs.Ytdheppfooapneaa
open Go.RowKit

set_option maxRecDepth 100000 in
set_option maxHeartbeats 1000000 in
theorem refStep_bad (A : Option Addr) (n c : Nat) (B : Option Addr) (m d : Nat) (s : St) (ch : Nat) (w : World) (G : Nat → Prop) (hG : Sit G w.heap.size) (h : Rob G w fun W => Has W A n c (u8s s.took)) (h2 : SecsR G w B m d s.l) (he : s.e = 0) (hf : s.fin = false) (ha : 5 ≤ s.all) (ha2 : s.all ≤ 1000000000) (hn : n ≤ 90000) (hn0 : 1 ≤ n) (hch : ch < 256) (hby : ∀ x ∈ s.took, x < 256)
    (hok : (get (s.took ++ [ch]) 1).2.2 = 0 ∧ (get (s.took ++ [ch]) 1).1 ≤ 1048576 ∧ (get (s.took ++ [ch]) 1).2.1 + (get (s.took ++ [ch]) 1).1 + 4 ≤ (s.took ++ [ch]).length) (hck : (checkN (s.took ++ [ch])).2 ≠ 0) :
    Calls Try.prog 22 #[.agg #[.slice A n c, .int .i64 (s.last : Int), .bool s.fin, .int .i64 (s.all : Int), .slice B m d, .int .i64 (s.e : Int)], .int .u8 (ch : Int)] w (Stepd G w (stepN s ch)) := by
  have HBy : Hid (∀ x ∈ s.took ++ [ch], x < 256) := fun x hx => by
    rcases List.mem_append.1 hx with hx | hx
    · exact hby x hx
    · simp at hx; omega
  clear hby
  have HF : Hid (stepN s ch = takeN { s with all := s.all + 1, took := s.took ++ [ch] } ch) := by show _ = _; unfold stepN; rw [if_neg (by simp [he]), if_neg (by simp [hf]), if_neg (by omega)]
  have HH := Lib.hid h
  have HH2 := Lib.hid h2
  have HL : Hid (s.took.length = n) := by have := h.here.len; rw [u8s_len] at this; exact this
  clear h h2
  obtain ⟨took, last, fin, all, l, e⟩ := s
  simp only at *
  subst he hf
  have ta : decide ((all : Int) + 1 ≤ 5) = false := decide_eq_false (by omega)
  have t1 : ((n : Int) + 1 == 1) = false := by rw [beq_eq_false_iff_ne]; omega
  have hlen : (took ++ [ch]).length = n + 1 := by rw [List.length_append, HL.out]; rfl
  have HTk := Lib.hid (takeN_more took ch last all l (by omega))
  have HMv := Lib.hid (get_moves (bs := took ++ [ch]) (k := 1))
  have hgl := get_lt (took ++ [ch]) 1
  have HGet : Hid (∀ (W : World) (A3 : Option Addr) (c3 : Nat), Has W A3 (n + 1) c3 (u8s (took ++ [ch])) → Calls Try.prog 35 #[.slice A3 (n + 1) c3, .int .i64 1] W fun e w' => e = .returned (.tuple #[.int .u64 (get (took ++ [ch]) 1).1, .int .i64 (get (took ++ [ch]) 1).2.1, .int .i64 (get (took ++ [ch]) 1).2.2]) ∧ W = w') :=
    fun W A3 c3 hh => refGet_any A3 _ c3 (took ++ [ch]) 1 W hh HBy.out (by omega)
  have HCk : Hid (∀ (W : World) (A3 : Option Addr) (c3 : Nat), Has W A3 (n + 1) c3 (u8s (took ++ [ch])) → Calls Try.prog 36 #[.slice A3 (n + 1) c3] W (Fixd W (checkN (took ++ [ch])))) :=
    fun W A3 c3 hh => refCheck_any A3 _ c3 (took ++ [ch]) W hh HBy.out (by omega)
  generalize (get (took ++ [ch]) 1) = gg at *
  obtain ⟨gn, gto, ge⟩ := gg
  simp only at *
  have h0 : ge = 0 := hok.1
  have te : ((ge : Int) == 10) = false := by rw [h0]; rfl
  have te0 : ((ge : Int) != 0) = false := by rw [h0]; rfl
  have tb : decide ((1048576 : Int) < (gn : Int)) = false := decide_eq_false (by omega)
  have hmv := (HMv.out h0).2
  have hnb : gn ≤ 1048576 := by omega
  have hto : gto ≤ n + 1 := by omega
  have ts : decide ((n : Int) + 1 < (gto : Int) + (gn : Int) + 4) = false := decide_eq_false (by omega)
  generalize checkN (took ++ [ch]) = ck at *
  obtain ⟨cb, ce⟩ := ck
  simp only at *
  have tce : ((ce : Int) != 0) = true := by rw [bne_iff_ne]; omega
  have HF2 : Hid (takeN { took := took ++ [ch], last := last, fin := false, all := all + 1, l := l, e := 0 } ch = { took := took ++ [ch], last := last, fin := false, all := all + 1, l := l, e := ce }) := by
    show _ = _
    rw [HTk.out, if_neg (by omega), if_neg (by simp [h0]), if_neg (by omega), if_neg (by omega), if_pos hck]
  clear hlen h0 hck HTk HMv hok hn0 hmv
  go_enter Try.func22, Try.ntmps22
  go_wp2_with (first
      | (at_builtin
         refine wpList_join rfl _ _ 22 rfl elem8 (w.heap.size + 2) _ [] rfl (Own.nil _ _ _) _ _ _ _ rfl (HH.out.here.kept (below2 _ _ _)) (u8s_one _) (by simp <;> omega) (by decide) (by simp) ?_
         intro v2 w2 hown2 hbel2
         rw [List.nil_append] at hown2
         have HO2 := Lib.hid hown2
         have HB2 := Lib.hid ((below2 w _ _).trans (hbel2.mono (by omega)))
         have HX2 : Hid (Blk w2 w.heap.size 28 #[.slice A n c, .int .i64 (last : Int), .bool false, .int .i64 ((all : Int) + 1), .slice B m d, .int .i64 0]) := Blk.below ((Blk.new w 28 _).alloc _) hbel2 (by omega)
         have HR2 : Hid (Blk w2 (w.heap.size + 1) 28 #[.slice none 0 0, .int .i64 0, .bool false, .int .i64 0, .slice none 0 0, .int .i64 0]) := Blk.below (blk2 w _ _ _) hbel2 (by omega)
         have hz2 := hbel2.size
         simp at hz2
         clear hown2 hbel2)
      | (at_builtin
         refine wpList_join rfl _ _ 22 rfl elem8 (w.heap.size + 2) _ _ rfl (HO2.out.alloc _) _ 1 1 (u8s [ch]) rfl (Has.one _ _ _) (u8s_one _) (by rw [u8s_len, HL.out]; omega) (by decide) (by simp <;> omega) ?_
         intro v3 w3 hown3 hbel3
         rw [← u8s_app] at hown3
         have HO3 := Lib.hid hown3
         have HB3 := Lib.hid ((new_alloc HB2.out _).trans (hbel3.mono (by omega)))
         have HX3 : Hid (Blk w3 w.heap.size 28 #[.slice A n c, .int .i64 (last : Int), .bool false, .int .i64 ((all : Int) + 1), .slice B m d, .int .i64 0]) := Blk.below (HX2.out.alloc _) hbel3 (by omega)
         have HR3 : Hid (Blk w3 (w.heap.size + 1) 28 #[.slice none 0 0, .int .i64 0, .bool false, .int .i64 0, .slice none 0 0, .int .i64 0]) := Blk.below (HR2.out.alloc _) hbel3 (by omega)
         obtain ⟨A3, c3, rfl, hh3⟩ := hown3.has
         simp only [u8s_len, List.length_append, List.length_cons, List.length_nil, HL.out] at hh3
         simp only [u8s_len, List.length_append, List.length_cons, List.length_nil, HL.out]
         have HH3 := Lib.hid hh3
         have x0 : w3.cell? ⟨w.heap.size, 0, none⟩ = some (.slice A n c) := HX3.out.cell 0
         have x1 : w3.cell? ⟨w.heap.size, 1, none⟩ = some (.int .i64 (last : Int)) := HX3.out.cell 1
         have x2 : w3.cell? ⟨w.heap.size, 2, none⟩ = some (.bool false) := HX3.out.cell 2
         have x3 : w3.cell? ⟨w.heap.size, 3, none⟩ = some (.int .i64 ((all : Int) + 1)) := HX3.out.cell 3
         have x4 : w3.cell? ⟨w.heap.size, 4, none⟩ = some (.slice B m d) := HX3.out.cell 4
         have x5 : w3.cell? ⟨w.heap.size, 5, none⟩ = some (.int .i64 0) := HX3.out.cell 5
         have f0 := HX3.out.frozen 0
         have f1 := HX3.out.frozen 1
         have f2 := HX3.out.frozen 2
         have f4 := HX3.out.frozen 4
         have f5 := HX3.out.frozen 5
         have r0 : w3.cell? ⟨w.heap.size + 1, 0, none⟩ = some (.slice none 0 0) := HR3.out.cell 0
         have r1 : w3.cell? ⟨w.heap.size + 1, 1, none⟩ = some (.int .i64 0) := HR3.out.cell 1
         have r2 : w3.cell? ⟨w.heap.size + 1, 2, none⟩ = some (.bool false) := HR3.out.cell 2
         have r3 : w3.cell? ⟨w.heap.size + 1, 3, none⟩ = some (.int .i64 0) := HR3.out.cell 3
         have r4 : w3.cell? ⟨w.heap.size + 1, 4, none⟩ = some (.slice none 0 0) := HR3.out.cell 4
         have r5 : w3.cell? ⟨w.heap.size + 1, 5, none⟩ = some (.int .i64 0) := HR3.out.cell 5
         have q0 := HR3.out.frozen 0
         have q1 := HR3.out.frozen 1
         have q2 := HR3.out.frozen 2
         have q3 := HR3.out.frozen 3
         have q4 := HR3.out.frozen 4
         have q5 := HR3.out.frozen 5
         have HHs : Hid (Has (w3.setCell ⟨w.heap.size, 0, none⟩ (.slice A3 (n + 1) c3)) A3 (n + 1) c3 (u8s (took ++ [ch]))) := by
           obtain ⟨A', c', hv, hh⟩ := (((Far2.refl w.heap.size w3).set0 0 (.slice A3 (n + 1) c3)).own hown3).has
           simp only [u8s_len, List.length_append, List.length_cons, List.length_nil, HL.out] at hv hh
           cases hv
           exact hh
         clear hown3 hbel3 HO2 HX2 HR2 hh3)
      | (go_at_call 35
         refine (HGet.out _ _ _ HHs.out).mono ?_
         rintro e w' ⟨rfl, rfl⟩)
      | (go_at_call 36
         refine (HCk.out _ _ _ HHs.out).mono ?_
         rintro e w4 ⟨v4, rfl, ho4, hb4⟩
         obtain ⟨A4, c4, rfl, hh4⟩ := ho4.has
         rw [u8s_len] at hh4
         simp only [u8s_len]
         have hz4 := hb4.size
         have hzz : (w3.setCell ⟨w.heap.size, 0, none⟩ (.slice A3 (n + 1) c3)).heap.size = w3.heap.size := by simp [World.setCell]
         rw [hzz] at hz4
         have hz3 := HB3.out.size
         have HHv := Lib.hid hh4
         have HB4 : Hid (Below w.heap.size w w4) := (((Far2.refl w.heap.size w3).set0 0 (.slice A3 (n + 1) c3)).below HB3.out).trans (hb4.mono (by rw [hzz]; omega))
         have HO4 : Hid (Own w4 (w.heap.size + 2) 5 (.slice A3 (u8s (took ++ [ch])).length c3) (u8s (took ++ [ch]))) := (((Far2.refl w.heap.size w3).set0 0 (.slice A3 (n + 1) c3)).own HO3.out).keep hb4
         have HX4 : Hid (Blk w4 w.heap.size 28 #[.slice A3 (n + 1) c3, .int .i64 (last : Int), .bool false, .int .i64 ((all : Int) + 1), .slice B m d, .int .i64 0]) := Blk.below (HX3.out.set_ 0 _) hb4 (by rw [hzz]; have := HX3.out.lt; omega)
         have HR4 : Hid (Blk w4 (w.heap.size + 1) 28 #[.slice none 0 0, .int .i64 0, .bool false, .int .i64 0, .slice none 0 0, .int .i64 0]) := Blk.below (HR3.out.far0 0 _) hb4 (by rw [hzz]; have := HR3.out.lt; omega)
         have y0 : w4.cell? ⟨w.heap.size, 0, none⟩ = some (.slice A3 (n + 1) c3) := HX4.out.cell 0
         have y1 : w4.cell? ⟨w.heap.size, 1, none⟩ = some (.int .i64 (last : Int)) := HX4.out.cell 1
         have y2 : w4.cell? ⟨w.heap.size, 2, none⟩ = some (.bool false) := HX4.out.cell 2
         have y3 : w4.cell? ⟨w.heap.size, 3, none⟩ = some (.int .i64 ((all : Int) + 1)) := HX4.out.cell 3
         have y4 : w4.cell? ⟨w.heap.size, 4, none⟩ = some (.slice B m d) := HX4.out.cell 4
         have y5 : w4.cell? ⟨w.heap.size, 5, none⟩ = some (.int .i64 0) := HX4.out.cell 5
         have g0 := HX4.out.frozen 0
         have g1 := HX4.out.frozen 1
         have g4 := HX4.out.frozen 4
         have g5 := HX4.out.frozen 5
         have s0 : w4.cell? ⟨w.heap.size + 1, 0, none⟩ = some (.slice none 0 0) := HR4.out.cell 0
         have s1 : w4.cell? ⟨w.heap.size + 1, 1, none⟩ = some (.int .i64 0) := HR4.out.cell 1
         have s2 : w4.cell? ⟨w.heap.size + 1, 2, none⟩ = some (.bool false) := HR4.out.cell 2
         have s3 : w4.cell? ⟨w.heap.size + 1, 3, none⟩ = some (.int .i64 0) := HR4.out.cell 3
         have s4 : w4.cell? ⟨w.heap.size + 1, 4, none⟩ = some (.slice none 0 0) := HR4.out.cell 4
         have s5 : w4.cell? ⟨w.heap.size + 1, 5, none⟩ = some (.int .i64 0) := HR4.out.cell 5
         have p0 := HR4.out.frozen 0
         have p1 := HR4.out.frozen 1
         have p2 := HR4.out.frozen 2
         have p3 := HR4.out.frozen 3
         have p4 := HR4.out.frozen 4
         have p5 := HR4.out.frozen 5
         clear hh4 ho4 hb4 hzz x0 x1 x2 x3 x4 x5 f0 f1 f2 f4 f5 r0 r1 r2 r3 r4 r5 q0 q1 q2 q3 q4 q5))
  rw [HF.out, HF2.out]
  refine step_close hG HB4.out HO4.out HH2.out ?_ (set6 ?_) rfl rfl (by rw [List.length_append, HL.out]; rfl) rfl (by simp) rfl (by simp) (by simp)
  · repeat (first | with_reducible exact Far2.refl _ _ | with_reducible refine Far2.set1 ?_ _ _ | with_reducible refine Far2.set0 ?_ _ _)
  · repeat (first | with_reducible exact HR4.out | with_reducible refine Blk.far0 ?_ _ _)
end Go.Proofs.Ytdheppfooapneaa

/- lapidaryref03.Step: a section that is whole. -/
namespace Go.Proofs.Ytdheppfooapneaa
open Go.RowKit

theorem head_at {l : List Nat} (h : 0 < l.length) : l[0] = l.headD 0 := by
  cases l with
  | nil => simp at h
  | cons x xs => rfl
theorem check_len {bs : List Nat} (h : (checkN bs).2 = 0) : (checkN bs).1.length + 4 = bs.length := by
  unfold checkN at h ⊢
  split
  · rename_i h1; rw [if_pos h1] at h; simp at h
  · rename_i h1
    rw [if_neg h1] at h
    split
    · simp only [List.length_take]; omega
    · rename_i h2; rw [if_neg h2] at h; simp at h
theorem Far2.ownK {g k : Nat} {W W' : World} {e : TypeId} {v : Value} {n : Nat} {xs : List Value} (h : Far2 g W W') (ho : OwnK k W (g + 2) e v n xs) : OwnK k W' (g + 2) e v n xs := by
  refine ⟨ho.1, ?_⟩
  rcases ho.2 with h1 | ⟨g', cap, cur, h1, h2, h3, h4⟩
  · exact Or.inl h1
  · exact Or.inr ⟨g', cap, cur, h1, h2, (h.block g' (by omega) (by omega)).trans h3, h4⟩
/-- The sections so far, and one more. -/
theorem secs_far {w w3 W' : World} {G : Nat → Prop} {A : Option Addr} {m c : Nat} {vs : List (Int × Value)} {B : Option Addr} {d : Nat} {l : List Sec} {A6 : Option Addr} {c6 : Nat} {nb cd tk : List Nat} {k0 : Nat} (hfar : Far2 w.heap.size w3 W') (hG : Sit G w.heap.size)
    (ho : OwnK 2 w3 (w.heap.size + 2) 48 (.slice A (m + 1) c) (m + 1) (secCells (vs ++ [((k0 : Int), .slice A6 nb.length c6)]))) (hv : Rob G w fun W => HasK 2 W B m d (secCells vs) ∧ SecVs W vs l) (hb : Below w.heap.size w w3)
    (hn : Own w3 (w.heap.size + 2) 5 (.slice A6 nb.length c6) (u8s nb)) (hd : cd = nb) (hk : tk.headD 0 = k0) : SecsR G W' A (m + 1) c (l ++ [((tk.headD 0 : Int), cd)]) := by
  subst hd hk
  refine ⟨_, fun W hW => ⟨Rob.ownK (hfar.ownK ho) (hG.le (by omega)) W hW, ?_⟩⟩
  have h1 := Rob.kept (fun _ _ hb h => ⟨h.1.kept hb, h.2.kept hb⟩) hv hG (hfar.below hb)
  exact (h1 W hW).2.app (SecVs.single (Rob.own (hfar.own hn) (hG.le (by omega)) W hW))

set_option maxRecDepth 100000 in
set_option maxHeartbeats 1000000 in
theorem refStep_sec (A : Option Addr) (n c : Nat) (B : Option Addr) (m d : Nat) (s : St) (ch : Nat) (w : World) (G : Nat → Prop) (hG : Sit G w.heap.size) (h : Rob G w fun W => Has W A n c (u8s s.took)) (h2 : SecsR G w B m d s.l) (he : s.e = 0) (hf : s.fin = false) (ha : 5 ≤ s.all) (ha2 : s.all ≤ 1000000000) (hn : n ≤ 90000) (hn0 : 1 ≤ n) (hch : ch < 256) (hby : ∀ x ∈ s.took, x < 256) (hm : m ≤ 1000000000)
    (hok : (get (s.took ++ [ch]) 1).2.2 = 0 ∧ (get (s.took ++ [ch]) 1).1 ≤ 1048576 ∧ (get (s.took ++ [ch]) 1).2.1 + (get (s.took ++ [ch]) 1).1 + 4 ≤ (s.took ++ [ch]).length) (hck : (checkN (s.took ++ [ch])).2 = 0) :
    Calls Try.prog 22 #[.agg #[.slice A n c, .int .i64 (s.last : Int), .bool s.fin, .int .i64 (s.all : Int), .slice B m d, .int .i64 (s.e : Int)], .int .u8 (ch : Int)] w (Stepd G w (stepN s ch)) := by
  obtain ⟨vs, hvv⟩ := h2
  have HVV := Lib.hid hvv
  have HVK := Lib.hid hvv.here.1
  have HVS := Lib.hid hvv.here.2
  clear hvv
  have HBy : Hid (∀ x ∈ s.took ++ [ch], x < 256) := fun x hx => by
    rcases List.mem_append.1 hx with hx | hx
    · exact hby x hx
    · simp at hx; omega
  clear hby
  have HF : Hid (stepN s ch = takeN { s with all := s.all + 1, took := s.took ++ [ch] } ch) := by show _ = _; unfold stepN; rw [if_neg (by simp [he]), if_neg (by simp [hf]), if_neg (by omega)]
  have HH := Lib.hid h
  have HL : Hid (s.took.length = n) := by have := h.here.len; rw [u8s_len] at this; exact this
  clear h
  obtain ⟨took, last, fin, all, l, e⟩ := s
  simp only at *
  subst he hf
  have ta : decide ((all : Int) + 1 ≤ 5) = false := decide_eq_false (by omega)
  have t1 : ((n : Int) + 1 == 1) = false := by rw [beq_eq_false_iff_ne]; omega
  have hlen : (took ++ [ch]).length = n + 1 := by rw [List.length_append, HL.out]; rfl
  have HTk := Lib.hid (takeN_more took ch last all l (by omega))
  have HMv := Lib.hid (get_moves (bs := took ++ [ch]) (k := 1))
  have hgl := get_lt (took ++ [ch]) 1
  have HGet : Hid (∀ (W : World) (A3 : Option Addr) (c3 : Nat), Has W A3 (n + 1) c3 (u8s (took ++ [ch])) → Calls Try.prog 35 #[.slice A3 (n + 1) c3, .int .i64 1] W fun e w' => e = .returned (.tuple #[.int .u64 (get (took ++ [ch]) 1).1, .int .i64 (get (took ++ [ch]) 1).2.1, .int .i64 (get (took ++ [ch]) 1).2.2]) ∧ W = w') :=
    fun W A3 c3 hh => refGet_any A3 _ c3 (took ++ [ch]) 1 W hh HBy.out (by omega)
  have HCk : Hid (∀ (W : World) (A3 : Option Addr) (c3 : Nat), Has W A3 (n + 1) c3 (u8s (took ++ [ch])) → Calls Try.prog 36 #[.slice A3 (n + 1) c3] W (Fixd W (checkN (took ++ [ch])))) :=
    fun W A3 c3 hh => refCheck_any A3 _ c3 (took ++ [ch]) W hh HBy.out (by omega)
  generalize (get (took ++ [ch]) 1) = gg at *
  obtain ⟨gn, gto, ge⟩ := gg
  simp only at *
  have h0 : ge = 0 := hok.1
  have te : ((ge : Int) == 10) = false := by rw [h0]; rfl
  have te0 : ((ge : Int) != 0) = false := by rw [h0]; rfl
  have tb : decide ((1048576 : Int) < (gn : Int)) = false := decide_eq_false (by omega)
  have hmv := (HMv.out h0).2
  have hnb : gn ≤ 1048576 := by omega
  have hto : gto ≤ n + 1 := by omega
  have ts : decide ((n : Int) + 1 < (gto : Int) + (gn : Int) + 4) = false := decide_eq_false (by omega)
  have hcl := check_len hck
  generalize checkN (took ++ [ch]) = ck at *
  obtain ⟨cb, ce⟩ := ck
  simp only at *
  have tce : ((ce : Int) != 0) = false := by rw [hck]; rfl
  have hcl2 : cb.length + 3 = n := by omega
  have hgt : gto ≤ cb.length := by omega
  have hgt1 := (HMv.out h0).1
  have HF2 : Hid (takeN { took := took ++ [ch], last := last, fin := false, all := all + 1, l := l, e := 0 } ch = { took := [], last := (took ++ [ch]).headD 0, fin := false, all := all + 1, l := l ++ [(((took ++ [ch]).headD 0 : Int), cb.drop gto)], e := 0 }) := by
    show _ = _
    rw [HTk.out, if_neg (by omega), if_neg (by simp [h0]), if_neg (by omega), if_neg (by omega), if_neg (by simp [hck])]
  clear hlen h0 hck HTk HMv hok hmv hcl
  go_enter Try.func22, Try.ntmps22
  go_wp2_with (first
      | (at_builtin
         refine wpList_join rfl _ _ 22 rfl elem8 (w.heap.size + 2) _ [] rfl (Own.nil _ _ _) _ _ _ _ rfl (HH.out.here.kept (below2 _ _ _)) (u8s_one _) (by simp <;> omega) (by decide) (by simp) ?_
         intro v2 w2 hown2 hbel2
         rw [List.nil_append] at hown2
         have HO2 := Lib.hid hown2
         have HB2 := Lib.hid ((below2 w _ _).trans (hbel2.mono (by omega)))
         have HX2 : Hid (Blk w2 w.heap.size 28 #[.slice A n c, .int .i64 (last : Int), .bool false, .int .i64 ((all : Int) + 1), .slice B m d, .int .i64 0]) := Blk.below ((Blk.new w 28 _).alloc _) hbel2 (by omega)
         have HR2 : Hid (Blk w2 (w.heap.size + 1) 28 #[.slice none 0 0, .int .i64 0, .bool false, .int .i64 0, .slice none 0 0, .int .i64 0]) := Blk.below (blk2 w _ _ _) hbel2 (by omega)
         have hz2 := hbel2.size
         simp at hz2
         clear hown2 hbel2)
      | (at_builtin
         refine wpList_join rfl _ _ 22 rfl elem8 (w.heap.size + 2) _ _ rfl (HO2.out.alloc _) _ 1 1 (u8s [ch]) rfl (Has.one _ _ _) (u8s_one _) (by rw [u8s_len, HL.out]; omega) (by decide) (by simp <;> omega) ?_
         intro v3 w3 hown3 hbel3
         rw [← u8s_app] at hown3
         have HO3 := Lib.hid hown3
         have HB3 := Lib.hid ((new_alloc HB2.out _).trans (hbel3.mono (by omega)))
         have HX3 : Hid (Blk w3 w.heap.size 28 #[.slice A n c, .int .i64 (last : Int), .bool false, .int .i64 ((all : Int) + 1), .slice B m d, .int .i64 0]) := Blk.below (HX2.out.alloc _) hbel3 (by omega)
         have HR3 : Hid (Blk w3 (w.heap.size + 1) 28 #[.slice none 0 0, .int .i64 0, .bool false, .int .i64 0, .slice none 0 0, .int .i64 0]) := Blk.below (HR2.out.alloc _) hbel3 (by omega)
         obtain ⟨A3, c3, rfl, hh3⟩ := hown3.has
         simp only [u8s_len, List.length_append, List.length_cons, List.length_nil, HL.out] at hh3
         simp only [u8s_len, List.length_append, List.length_cons, List.length_nil, HL.out]
         have HH3 := Lib.hid hh3
         have x0 : w3.cell? ⟨w.heap.size, 0, none⟩ = some (.slice A n c) := HX3.out.cell 0
         have x1 : w3.cell? ⟨w.heap.size, 1, none⟩ = some (.int .i64 (last : Int)) := HX3.out.cell 1
         have x2 : w3.cell? ⟨w.heap.size, 2, none⟩ = some (.bool false) := HX3.out.cell 2
         have x3 : w3.cell? ⟨w.heap.size, 3, none⟩ = some (.int .i64 ((all : Int) + 1)) := HX3.out.cell 3
         have x4 : w3.cell? ⟨w.heap.size, 4, none⟩ = some (.slice B m d) := HX3.out.cell 4
         have x5 : w3.cell? ⟨w.heap.size, 5, none⟩ = some (.int .i64 0) := HX3.out.cell 5
         have f0 := HX3.out.frozen 0
         have f1 := HX3.out.frozen 1
         have f2 := HX3.out.frozen 2
         have f4 := HX3.out.frozen 4
         have f5 := HX3.out.frozen 5
         have r0 : w3.cell? ⟨w.heap.size + 1, 0, none⟩ = some (.slice none 0 0) := HR3.out.cell 0
         have r1 : w3.cell? ⟨w.heap.size + 1, 1, none⟩ = some (.int .i64 0) := HR3.out.cell 1
         have r2 : w3.cell? ⟨w.heap.size + 1, 2, none⟩ = some (.bool false) := HR3.out.cell 2
         have r3 : w3.cell? ⟨w.heap.size + 1, 3, none⟩ = some (.int .i64 0) := HR3.out.cell 3
         have r4 : w3.cell? ⟨w.heap.size + 1, 4, none⟩ = some (.slice none 0 0) := HR3.out.cell 4
         have r5 : w3.cell? ⟨w.heap.size + 1, 5, none⟩ = some (.int .i64 0) := HR3.out.cell 5
         have q0 := HR3.out.frozen 0
         have q1 := HR3.out.frozen 1
         have q2 := HR3.out.frozen 2
         have q3 := HR3.out.frozen 3
         have q4 := HR3.out.frozen 4
         have q5 := HR3.out.frozen 5
         have HHs : Hid (Has (w3.setCell ⟨w.heap.size, 0, none⟩ (.slice A3 (n + 1) c3)) A3 (n + 1) c3 (u8s (took ++ [ch]))) := by
           obtain ⟨A', c', hv, hh⟩ := (((Far2.refl w.heap.size w3).set0 0 (.slice A3 (n + 1) c3)).own hown3).has
           simp only [u8s_len, List.length_append, List.length_cons, List.length_nil, HL.out] at hv hh
           cases hv
           exact hh
         clear hown3 hbel3 HO2 HX2 HR2 hh3)
      | (go_at_call 35
         refine (HGet.out _ _ _ HHs.out).mono ?_
         rintro e w' ⟨rfl, rfl⟩)
      | (go_at_call 36
         refine (HCk.out _ _ _ HHs.out).mono ?_
         rintro e w4 ⟨v4, rfl, ho4, hb4⟩
         obtain ⟨A4, c4, rfl, hh4⟩ := ho4.has
         rw [u8s_len] at hh4
         simp only [u8s_len]
         have hz4 := hb4.size
         have hzz : (w3.setCell ⟨w.heap.size, 0, none⟩ (.slice A3 (n + 1) c3)).heap.size = w3.heap.size := by simp [World.setCell]
         rw [hzz] at hz4
         have hz3 := HB3.out.size
         have HHv := Lib.hid hh4
         have HB4 : Hid (Below w.heap.size w w4) := (((Far2.refl w.heap.size w3).set0 0 (.slice A3 (n + 1) c3)).below HB3.out).trans (hb4.mono (by rw [hzz]; omega))
         have HO4 : Hid (Own w4 (w.heap.size + 2) 5 (.slice A3 (u8s (took ++ [ch])).length c3) (u8s (took ++ [ch]))) := (((Far2.refl w.heap.size w3).set0 0 (.slice A3 (n + 1) c3)).own HO3.out).keep hb4
         have HX4 : Hid (Blk w4 w.heap.size 28 #[.slice A3 (n + 1) c3, .int .i64 (last : Int), .bool false, .int .i64 ((all : Int) + 1), .slice B m d, .int .i64 0]) := Blk.below (HX3.out.set_ 0 _) hb4 (by rw [hzz]; have := HX3.out.lt; omega)
         have HR4 : Hid (Blk w4 (w.heap.size + 1) 28 #[.slice none 0 0, .int .i64 0, .bool false, .int .i64 0, .slice none 0 0, .int .i64 0]) := Blk.below (HR3.out.far0 0 _) hb4 (by rw [hzz]; have := HR3.out.lt; omega)
         have y0 : w4.cell? ⟨w.heap.size, 0, none⟩ = some (.slice A3 (n + 1) c3) := HX4.out.cell 0
         have y1 : w4.cell? ⟨w.heap.size, 1, none⟩ = some (.int .i64 (last : Int)) := HX4.out.cell 1
         have y2 : w4.cell? ⟨w.heap.size, 2, none⟩ = some (.bool false) := HX4.out.cell 2
         have y3 : w4.cell? ⟨w.heap.size, 3, none⟩ = some (.int .i64 ((all : Int) + 1)) := HX4.out.cell 3
         have y4 : w4.cell? ⟨w.heap.size, 4, none⟩ = some (.slice B m d) := HX4.out.cell 4
         have y5 : w4.cell? ⟨w.heap.size, 5, none⟩ = some (.int .i64 0) := HX4.out.cell 5
         have g0 := HX4.out.frozen 0
         have g1 := HX4.out.frozen 1
         have g4 := HX4.out.frozen 4
         have g5 := HX4.out.frozen 5
         have s0 : w4.cell? ⟨w.heap.size + 1, 0, none⟩ = some (.slice none 0 0) := HR4.out.cell 0
         have s1 : w4.cell? ⟨w.heap.size + 1, 1, none⟩ = some (.int .i64 0) := HR4.out.cell 1
         have s2 : w4.cell? ⟨w.heap.size + 1, 2, none⟩ = some (.bool false) := HR4.out.cell 2
         have s3 : w4.cell? ⟨w.heap.size + 1, 3, none⟩ = some (.int .i64 0) := HR4.out.cell 3
         have s4 : w4.cell? ⟨w.heap.size + 1, 4, none⟩ = some (.slice none 0 0) := HR4.out.cell 4
         have s5 : w4.cell? ⟨w.heap.size + 1, 5, none⟩ = some (.int .i64 0) := HR4.out.cell 5
         have p0 := HR4.out.frozen 0
         have p1 := HR4.out.frozen 1
         have p2 := HR4.out.frozen 2
         have p3 := HR4.out.frozen 3
         have p4 := HR4.out.frozen 4
         have p5 := HR4.out.frozen 5
         clear hh4 ho4 hb4 hzz x0 x1 x2 x3 x4 x5 f0 f1 f2 f4 f5 r0 r1 r2 r3 r4 r5 q0 q1 q2 q3 q4 q5)
      | (at_builtin
         refine wpList_joinK rfl _ _ 26 rfl elemSec (by decide) w4.heap.size _ 0 [] rfl (OwnK.nil _ _ _ _) _ _ _ _ rfl (HVK.out.kept HB4.out) HVS.out.one (by omega) (by decide) (Nat.le_refl _) ?_
         intro v5 w5 hown5 hbel5 _
         rw [List.nil_append, Nat.zero_add] at hown5
         have HO5 := Lib.hid hown5
         have HB5 := Lib.hid (new_call HB4.out hbel5)
         have HX5 : Hid (Blk w5 w.heap.size 28 #[.slice A3 (n + 1) c3, .int .i64 (last : Int), .bool false, .int .i64 ((all : Int) + 1), .slice B m d, .int .i64 0]) := Blk.below HX4.out hbel5 HX4.out.lt
         have HR5 : Hid (Blk w5 (w.heap.size + 1) 28 #[.slice none 0 0, .int .i64 0, .bool false, .int .i64 0, .slice none 0 0, .int .i64 0]) := Blk.below HR4.out hbel5 HR4.out.lt
         have hz5 := hbel5.size
         have HB45 := Lib.hid hbel5
         clear hown5 hbel5 y0 y1 y2 y3 y4 y5 g0 g1 g4 g5 s0 s1 s2 s3 s4 s5 p0 p1 p2 p3 p4 p5))
  have hlt1 : 0 < (took ++ [ch]).length := by rw [List.length_append]; simp
  obtain ⟨g3, cap3, hv3, hg3, hlt3⟩ := HO4.out.form (by rw [u8s_len]; exact hlt1)
  cases hv3
  have HO4c := HO4.out
  simp only [u8s_len] at HO4c
  have hce := (HO4c.cellAt (by rw [u8s_len]) 0 hlt1).1
  rw [u8s_at hlt1] at hce
  have HK0 := Lib.hid (head_at hlt1)
  have hk256 := HBy.out _ (List.getElem_mem hlt1)
  rw [HK0.out] at hce hk256
  obtain ⟨k0, hk0⟩ : ∃ k0, (took ++ [ch]).headD 0 = k0 := ⟨_, rfl⟩
  rw [hk0] at hce hk256
  have HKK := Lib.hid hk0
  have hc5 : w5.cell? ⟨g3, 0, none⟩ = some (.int .u8 (k0 : Int)) := (HB45.out.cell (p := ⟨g3, 0, none⟩) hlt3).trans hce
  have hpt := (HHv.out.kept HB45.out).part (k := gto) (m := cb.length) hgt (Nat.le_refl _)
  have hpl : ((u8s cb).drop gto).take (cb.length - gto) = u8s (cb.drop gto) := by
    rw [List.take_of_length_le (by rw [List.length_drop, u8s_len]; omega)]
    simp [u8s]
  rw [hpl] at hpt
  have hc4 := HHv.out.cap
  have HIF : ∃ X, (c4 = gto ∧ X = A4 ∨ ¬ c4 = gto ∧ ∃ b4 o4, A4 = some ⟨b4, o4, none⟩ ∧ X = some ⟨b4, o4 + gto, none⟩) ∧ Has w5 X (cb.length - gto) (c4 - gto) (u8s (cb.drop gto)) := by
    by_cases hq : c4 = gto
    · rw [if_pos hq] at hpt
      exact ⟨A4, Or.inl ⟨hq, rfl⟩, hpt⟩
    · rw [if_neg hq] at hpt
      obtain ⟨b4, o4, rfl, _, _⟩ := HHv.out.spot (by omega)
      refine ⟨_, Or.inr ⟨hq, b4, o4, rfl, rfl⟩, ?_⟩
      have e : (⟨b4, o4, none⟩ : Addr).add gto = ⟨b4, o4 + gto, none⟩ := Addr.add_mid _ _ _
      simp only [Option.map_some, e] at hpt
      exact hpt
  obtain ⟨X, hX, hptX⟩ := HIF
  have HCp : Hid (∀ W, Below w5.heap.size w5 W → Calls Try.prog 37 #[.slice X (cb.length - gto) (c4 - gto)] W (Wrote W (cb.drop gto))) := fun W hW => copy_any _ _ _ (cb.drop gto) W (hptX.kept hW) (by omega)
  clear hpt hpl hk0 hce HK0 HO4c hlt1 hptX
  obtain ⟨nb, hnb⟩ : ∃ nb, cb.drop gto = nb := ⟨_, rfl⟩
  rw [hnb] at HCp
  have HNB := Lib.hid hnb
  clear hnb
  have hwr : IntKind.i64.wrap (k0 : Int) = (k0 : Int) := by rw [IntKind.wrap_i64]; omega
  have HG5 : Hid (∀ k, v5.ownBlock = some k → k < w5.heap.size) := fun k hk => (World.ownsRow.lt HO5.out k hk).2
  rcases hX with ⟨hq, rfl⟩ | ⟨hq, b4, o4, rfl, rfl⟩
  · obtain rfl : gto = cb.length := by omega
    subst hq
    rw [Nat.sub_self] at HCp
    go_region_held3 (fun W => W.cell? ⟨g3, 0, none⟩ = some (.int .u8 (k0 : Int))) (first | exact hc5 | exact hc6 | exact Lib.cell?_alloc_some _ hc6 | exact hc7) (first
      | (go_at_call 37; refine (HCp.out _ (Below.refl _ _).drew).mono ?_; rintro e w6 ⟨A6, c6, rfl, hh6, ho6, hb6⟩; have HO6 : Hid (Own w6 w5.heap.size 5 (.slice A6 nb.length c6) (u8s nb)) := ho6; have HB6 : Hid (Below w5.heap.size w5 w6) := new_call (Below.refl _ w5).drew hb6; have hc6 : w6.cell? ⟨g3, 0, none⟩ = some (.int .u8 (k0 : Int)) := (hb6.cell (p := ⟨g3, 0, none⟩) (Nat.lt_of_lt_of_le hlt3 hz5)).trans hc5; clear hh6 ho6 hb6)
      | (refine step_joinK rfl _ _ 26 rfl elemSec (by decide) w4.heap.size _ m (secCells vs) rfl ((HO5.out.keep HB6.out).alloc _) _ 1 1 (secCells [((k0 : Int), .slice A6 nb.length c6)]) rfl (HasK.new_at 2 _ #[_, _] _ _ 1 rfl rfl) ?_ (by omega) (by decide) (by have := HB6.out.size; simp; omega) ?_
         · intro u hu; simp [secCells] at hu; rcases hu with rfl | rfl <;> rfl
         intro v7 w7 hown7 hbel7 hgr7
         have hc7 : w7.cell? ⟨g3, 0, none⟩ = some (.int .u8 (k0 : Int)) := (hbel7.cell (p := ⟨g3, 0, none⟩) hlt3).trans (Lib.cell?_alloc_some _ hc6)
         rw [← secCells_app] at hown7
         have HO7 := Lib.hid hown7
         have HB7 : Hid (Below w4.heap.size w4 w7) := (HB45.out.trans ((HB6.out.mono hz5).trans ((Below.refl _ _).alloc (Nat.le_trans hz5 HB6.out.size) _))).trans hbel7
         have HN7 : Hid (Own w7 w5.heap.size 5 (.slice A6 nb.length c6) (u8s nb)) := (HO6.out.alloc _).grown hgr7 (fun k hk => HG5.out k hk)
         clear hown7 hbel7 hgr7))
    have HR7 : Hid (Blk w7 (w.heap.size + 1) 28 #[.slice none 0 0, .int .i64 0, .bool false, .int .i64 0, .slice none 0 0, .int .i64 0]) := Blk.below HR4.out HB7.out HR4.out.lt
    have HX7 : Hid (Blk w7 w.heap.size 28 #[.slice (some ⟨g3, 0, none⟩) (n + 1) c3, .int .i64 (last : Int), .bool false, .int .i64 ((all : Int) + 1), .slice B m d, .int .i64 0]) := Blk.below HX4.out HB7.out HX4.out.lt
    have y0 : w7.cell? ⟨w.heap.size, 0, none⟩ = some (.slice (some ⟨g3, 0, none⟩) (n + 1) c3) := HX7.out.cell 0
    have y1 : w7.cell? ⟨w.heap.size, 1, none⟩ = some (.int .i64 (last : Int)) := HX7.out.cell 1
    have y2 : w7.cell? ⟨w.heap.size, 2, none⟩ = some (.bool false) := HX7.out.cell 2
    have y3 : w7.cell? ⟨w.heap.size, 3, none⟩ = some (.int .i64 ((all : Int) + 1)) := HX7.out.cell 3
    have y4 : w7.cell? ⟨w.heap.size, 4, none⟩ = some (.slice B m d) := HX7.out.cell 4
    have y5 : w7.cell? ⟨w.heap.size, 5, none⟩ = some (.int .i64 0) := HX7.out.cell 5
    have g0 := HX7.out.frozen 0
    have g1 := HX7.out.frozen 1
    have g4 := HX7.out.frozen 4
    have g5 := HX7.out.frozen 5
    have s0 : w7.cell? ⟨w.heap.size + 1, 0, none⟩ = some (.slice none 0 0) := HR7.out.cell 0
    have s1 : w7.cell? ⟨w.heap.size + 1, 1, none⟩ = some (.int .i64 0) := HR7.out.cell 1
    have s2 : w7.cell? ⟨w.heap.size + 1, 2, none⟩ = some (.bool false) := HR7.out.cell 2
    have s3 : w7.cell? ⟨w.heap.size + 1, 3, none⟩ = some (.int .i64 0) := HR7.out.cell 3
    have s4 : w7.cell? ⟨w.heap.size + 1, 4, none⟩ = some (.slice none 0 0) := HR7.out.cell 4
    have s5 : w7.cell? ⟨w.heap.size + 1, 5, none⟩ = some (.int .i64 0) := HR7.out.cell 5
    have p0 := HR7.out.frozen 0
    have p1 := HR7.out.frozen 1
    have p2 := HR7.out.frozen 2
    have p3 := HR7.out.frozen 3
    have p4 := HR7.out.frozen 4
    have p5 := HR7.out.frozen 5
    obtain ⟨A7, c7, rfl, _⟩ := HO7.out.has
    go_wp2
    rw [HF.out, HF2.out]
    have hw2 : w.heap.size + 2 ≤ w4.heap.size := by have := HR4.out.lt; omega
    refine step_end (set6 ?_) rfl rfl ⟨none, 0, 0, A7, m + 1, c7, ?_, Rob.nil, ?_⟩ ?_
    · repeat (first | with_reducible exact HR7.out | with_reducible refine Blk.far0 ?_ _ _)
    · rw [HKK.out]; simp
    · refine secs_far (w3 := w7) ?_ hG (HO7.out.less hw2) HVV.out (new_call HB4.out HB7.out) (HN7.out.less (Nat.le_trans hw2 hz5)) HNB.out HKK.out
      repeat (first | with_reducible exact Far2.refl _ _ | with_reducible refine Far2.set1 ?_ _ _ | with_reducible refine Far2.set0 ?_ _ _)
    · refine Far2.below (W := w7) ?_ (new_call HB4.out HB7.out)
      repeat (first | with_reducible exact Far2.refl _ _ | with_reducible refine Far2.set1 ?_ _ _ | with_reducible refine Far2.set0 ?_ _ _)
  · skip
    go_region_held3 (fun W => W.cell? ⟨g3, 0, none⟩ = some (.int .u8 (k0 : Int))) (first | exact hc5 | exact hc6 | exact Lib.cell?_alloc_some _ hc6 | exact hc7) (first
      | (go_at_call 37; refine (HCp.out _ (Below.refl _ _).drew).mono ?_; rintro e w6 ⟨A6, c6, rfl, hh6, ho6, hb6⟩; have HO6 : Hid (Own w6 w5.heap.size 5 (.slice A6 nb.length c6) (u8s nb)) := ho6; have HB6 : Hid (Below w5.heap.size w5 w6) := new_call (Below.refl _ w5).drew hb6; have hc6 : w6.cell? ⟨g3, 0, none⟩ = some (.int .u8 (k0 : Int)) := (hb6.cell (p := ⟨g3, 0, none⟩) (Nat.lt_of_lt_of_le hlt3 hz5)).trans hc5; clear hh6 ho6 hb6)
      | (refine step_joinK rfl _ _ 26 rfl elemSec (by decide) w4.heap.size _ m (secCells vs) rfl ((HO5.out.keep HB6.out).alloc _) _ 1 1 (secCells [((k0 : Int), .slice A6 nb.length c6)]) rfl (HasK.new_at 2 _ #[_, _] _ _ 1 rfl rfl) ?_ (by omega) (by decide) (by have := HB6.out.size; simp; omega) ?_
         · intro u hu; simp [secCells] at hu; rcases hu with rfl | rfl <;> rfl
         intro v7 w7 hown7 hbel7 hgr7
         have hc7 : w7.cell? ⟨g3, 0, none⟩ = some (.int .u8 (k0 : Int)) := (hbel7.cell (p := ⟨g3, 0, none⟩) hlt3).trans (Lib.cell?_alloc_some _ hc6)
         rw [← secCells_app] at hown7
         have HO7 := Lib.hid hown7
         have HB7 : Hid (Below w4.heap.size w4 w7) := (HB45.out.trans ((HB6.out.mono hz5).trans ((Below.refl _ _).alloc (Nat.le_trans hz5 HB6.out.size) _))).trans hbel7
         have HN7 : Hid (Own w7 w5.heap.size 5 (.slice A6 nb.length c6) (u8s nb)) := (HO6.out.alloc _).grown hgr7 (fun k hk => HG5.out k hk)
         clear hown7 hbel7 hgr7))
    have HR7 : Hid (Blk w7 (w.heap.size + 1) 28 #[.slice none 0 0, .int .i64 0, .bool false, .int .i64 0, .slice none 0 0, .int .i64 0]) := Blk.below HR4.out HB7.out HR4.out.lt
    have HX7 : Hid (Blk w7 w.heap.size 28 #[.slice (some ⟨g3, 0, none⟩) (n + 1) c3, .int .i64 (last : Int), .bool false, .int .i64 ((all : Int) + 1), .slice B m d, .int .i64 0]) := Blk.below HX4.out HB7.out HX4.out.lt
    have y0 : w7.cell? ⟨w.heap.size, 0, none⟩ = some (.slice (some ⟨g3, 0, none⟩) (n + 1) c3) := HX7.out.cell 0
    have y1 : w7.cell? ⟨w.heap.size, 1, none⟩ = some (.int .i64 (last : Int)) := HX7.out.cell 1
    have y2 : w7.cell? ⟨w.heap.size, 2, none⟩ = some (.bool false) := HX7.out.cell 2
    have y3 : w7.cell? ⟨w.heap.size, 3, none⟩ = some (.int .i64 ((all : Int) + 1)) := HX7.out.cell 3
    have y4 : w7.cell? ⟨w.heap.size, 4, none⟩ = some (.slice B m d) := HX7.out.cell 4
    have y5 : w7.cell? ⟨w.heap.size, 5, none⟩ = some (.int .i64 0) := HX7.out.cell 5
    have g0 := HX7.out.frozen 0
    have g1 := HX7.out.frozen 1
    have g4 := HX7.out.frozen 4
    have g5 := HX7.out.frozen 5
    have s0 : w7.cell? ⟨w.heap.size + 1, 0, none⟩ = some (.slice none 0 0) := HR7.out.cell 0
    have s1 : w7.cell? ⟨w.heap.size + 1, 1, none⟩ = some (.int .i64 0) := HR7.out.cell 1
    have s2 : w7.cell? ⟨w.heap.size + 1, 2, none⟩ = some (.bool false) := HR7.out.cell 2
    have s3 : w7.cell? ⟨w.heap.size + 1, 3, none⟩ = some (.int .i64 0) := HR7.out.cell 3
    have s4 : w7.cell? ⟨w.heap.size + 1, 4, none⟩ = some (.slice none 0 0) := HR7.out.cell 4
    have s5 : w7.cell? ⟨w.heap.size + 1, 5, none⟩ = some (.int .i64 0) := HR7.out.cell 5
    have p0 := HR7.out.frozen 0
    have p1 := HR7.out.frozen 1
    have p2 := HR7.out.frozen 2
    have p3 := HR7.out.frozen 3
    have p4 := HR7.out.frozen 4
    have p5 := HR7.out.frozen 5
    obtain ⟨A7, c7, rfl, _⟩ := HO7.out.has
    go_wp2
    rw [HF.out, HF2.out]
    have hw2 : w.heap.size + 2 ≤ w4.heap.size := by have := HR4.out.lt; omega
    refine step_end (set6 ?_) rfl rfl ⟨none, 0, 0, A7, m + 1, c7, ?_, Rob.nil, ?_⟩ ?_
    · repeat (first | with_reducible exact HR7.out | with_reducible refine Blk.far0 ?_ _ _)
    · rw [HKK.out]; simp
    · refine secs_far (w3 := w7) ?_ hG (HO7.out.less hw2) HVV.out (new_call HB4.out HB7.out) (HN7.out.less (Nat.le_trans hw2 hz5)) HNB.out HKK.out
      repeat (first | with_reducible exact Far2.refl _ _ | with_reducible refine Far2.set1 ?_ _ _ | with_reducible refine Far2.set0 ?_ _ _)
    · refine Far2.below (W := w7) ?_ (new_call HB4.out HB7.out)
      repeat (first | with_reducible exact Far2.refl _ _ | with_reducible refine Far2.set1 ?_ _ _ | with_reducible refine Far2.set0 ?_ _ _)
end Go.Proofs.Ytdheppfooapneaa

/- lapidaryref03.Step in one; Close; Decode. -/
namespace Go.Proofs.Ytdheppfooapneaa
open Go.RowKit

theorem refStep_any (v : Value) (s : St) (ch : Nat) (w : World) (G : Nat → Prop) (hG : Sit G w.heap.size) (hv : StV G w s v) (hch : ch < 256) (hby : ∀ x ∈ s.took, x < 256) (ha : s.all ≤ 1000000) (hn : s.took.length ≤ 90000) (hm : s.l.length ≤ 1000000) :
    Calls Try.prog 22 #[v, .int .u8 (ch : Int)] w (Stepd G w (stepN s ch)) := by
  obtain ⟨A, n, c, B, m, d, rfl, h1, h2⟩ := hv
  have hl : s.took.length = n := by have := h1.here.len; rw [u8s_len] at this; exact this
  have hl2 := h2.here.len
  by_cases he : s.e = 0
  · cases hf : s.fin with
    | true => have := refStep_fin A n c B m d s ch w G hG h1 h2 he hf (by omega); rw [hf] at this; exact this
    | false =>
      rw [← hf]
      by_cases h5 : s.all < 5
      · exact refStep_head A n c B m d s ch w G hG h1 h2 he hf h5
      · by_cases h0 : n = 0
        · exact refStep_first A n c B m d s ch w G hG h1 h2 he hf (by omega) (by omega) (by omega) h0 hch
        · by_cases hok : (get (s.took ++ [ch]) 1).2.2 = 0 ∧ (get (s.took ++ [ch]) 1).1 ≤ 1048576 ∧ (get (s.took ++ [ch]) 1).2.1 + (get (s.took ++ [ch]) 1).1 + 4 ≤ (s.took ++ [ch]).length
          · by_cases hck : (checkN (s.took ++ [ch])).2 = 0
            · exact refStep_sec A n c B m d s ch w G hG h1 h2 he hf (by omega) (by omega) (by omega) (by omega) hch hby (by omega) hok hck
            · exact refStep_bad A n c B m d s ch w G hG h1 h2 he hf (by omega) (by omega) (by omega) (by omega) hch hby hok hck
          · exact refStep_stay A n c B m d s ch w G hG h1 h2 he hf (by omega) (by omega) (by omega) (by omega) hch hby (by
              by_cases q1 : (get (s.took ++ [ch]) 1).2.2 = 0
              · right
                by_cases q2 : 1048576 < (get (s.took ++ [ch]) 1).1
                · exact Or.inl q2
                · right
                  rcases Nat.lt_or_ge (s.took ++ [ch]).length ((get (s.took ++ [ch]) 1).2.1 + (get (s.took ++ [ch]) 1).1 + 4) with q | q
                  · exact q
                  · exact absurd ⟨q1, by omega, q⟩ hok
              · exact Or.inl q1)
  · exact refStep_err A n c B m d s ch w G hG h1 h2 he

theorem set6g {W : World} {g : Nat} {t : TypeId} {z0 z1 z2 z3 z4 z5 c0 c1 c2 c3 c4 c5 : Value} (h : Blk W g t #[z0, z1, z2, z3, z4, z5]) :
    Blk ((((((W.setCell ⟨g, 0, none⟩ c0).setCell ⟨g, 1, none⟩ c1).setCell ⟨g, 2, none⟩ c2).setCell ⟨g, 3, none⟩ c3).setCell ⟨g, 4, none⟩ c4).setCell ⟨g, 5, none⟩ c5) g t #[c0, c1, c2, c3, c4, c5] :=
  (((((h.set_ 0 c0).set_ 1 c1).set_ 2 c2).set_ 3 c3).set_ 4 c4).set_ 5 c5
theorem Far1.below {w W W' : World} (h : Far1 w.heap.size W W') (hb : Below w.heap.size w W) : Below w.heap.size w W' :=
  ⟨h.os.trans hb.os, h.tape.trans hb.tape, h.output.trans hb.output, by rw [h.size]; exact hb.size, fun k hk => (h.block k (by omega)).trans (hb.block k hk)⟩
/-- How far a state may have come. -/
structure StOk (s : St) (k : Nat) : Prop where
  all : s.all ≤ k
  took : s.took.length ≤ k
  byte : ∀ x ∈ s.took, x < 256
  l : s.l.length ≤ k
theorem takeN_ok {s : St} {k c : Nat} (h : StOk s k) (hl : s.l.length + 1 ≤ k) : StOk (takeN s c) k := by
  unfold takeN
  repeat' split
  all_goals first
    | exact h
    | exact ⟨h.all, h.took, h.byte, h.l⟩
    | exact ⟨h.all, by simp, by simp, by simp; omega⟩
theorem stepN_ok {s : St} {k c : Nat} (h : StOk s k) (hc : c < 256) : StOk (stepN s c) (k + 1) := by
  have h1 := h.all
  have h2 := h.took
  have h3 := h.l
  unfold stepN
  split
  · exact ⟨by omega, by omega, h.byte, by omega⟩
  · split
    · exact ⟨by simp; omega, by simp; omega, h.byte, by simp; omega⟩
    · split
      · split
        · exact ⟨by simp; omega, by simp; omega, h.byte, by simp; omega⟩
        · exact ⟨by simp; omega, by simp; omega, h.byte, by simp; omega⟩
      · refine takeN_ok ⟨by simp; omega, by simp; omega, ?_, by simp; omega⟩ (by simp; omega)
        intro x hx
        simp only [List.mem_append, List.mem_singleton] at hx
        rcases hx with hx | rfl
        · exact h.byte x hx
        · exact hc
theorem fold_ok {bs : List Nat} (hb : ∀ x ∈ bs, x < 256) {s : St} {k : Nat} (h : StOk s k) : StOk (bs.foldl stepN s) (k + bs.length) := by
  induction bs generalizing s k with
  | nil => exact h
  | cons c bs ih =>
    have := ih (fun x hx => hb x (List.mem_cons_of_mem _ hx)) (stepN_ok h (hb c (List.mem_cons_self ..)))
    rw [List.foldl_cons, List.length_cons, show k + (bs.length + 1) = k + 1 + bs.length by omega]
    exact this
theorem st0_ok : StOk st0 0 := ⟨Nat.le_refl _, Nat.le_refl _, by simp [st0], Nat.le_refl _⟩

/-- A call's answer: sections, or an error. -/
def Secd (w : World) (r : List Sec × Nat) (e : Ending) (w' : World) : Prop := ∃ A c, e = .returned (.tuple #[.slice A r.1.length c, .int .i64 (r.2 : Int)]) ∧ Secs w' A r.1.length c r.1 ∧ Below w.heap.size w w'

set_option maxRecDepth 100000 in
set_option maxHeartbeats 1000000 in
theorem refClose_any (v : Value) (s : St) (w : World) (G : Nat → Prop) (hv : StV G w s v) : Calls Try.prog 16 #[v] w (Secd w (closeN s)) := by
  obtain ⟨A, n, c, B, m, d, rfl, h1, h2⟩ := hv
  have HH2 := Lib.hid h2.here
  have HL := Lib.hid h2.here.len
  clear h1 h2
  by_cases he : s.e = 0
  · have te : ((s.e : Int) != 0) = false := by rw [he]; rfl
    cases hf : s.fin with
    | false =>
      have HF : Hid (closeN s = ([], 10)) := by show _ = _; unfold closeN; rw [if_neg (by simp [he]), if_pos hf]
      clear he hf
      go_enter Try.func16, Try.ntmps16
      go_wp2
      go_ret2
      rw [HF.out]
      exact ⟨none, 0, rfl, Secs.none _, new_alloc (Below.refl _ _) _⟩
    | true =>
      by_cases ha : 1048576 < s.all
      · have HF : Hid (closeN s = ([], 3)) := by show _ = _; unfold closeN; rw [if_neg (by simp [he]), if_neg (by simp [hf]), if_pos ha]
        have ta : decide ((1048576 : Int) < (s.all : Int)) = true := decide_eq_true (by omega)
        clear he hf ha
        go_enter Try.func16, Try.ntmps16
        go_wp2
        go_ret2
        rw [HF.out]
        exact ⟨none, 0, rfl, Secs.none _, new_alloc (Below.refl _ _) _⟩
      · have HF : Hid (closeN s = (s.l, 0)) := by show _ = _; unfold closeN; rw [if_neg (by simp [he]), if_neg (by simp [hf]), if_neg ha]
        have ta : decide ((1048576 : Int) < (s.all : Int)) = false := decide_eq_false (by omega)
        clear he hf ha
        go_enter Try.func16, Try.ntmps16
        go_wp2
        go_ret2
        rw [HF.out]
        refine ⟨B, d, by rw [HL.out]; rfl, ?_, new_alloc (Below.refl _ _) _⟩
        rw [HL.out]
        exact HH2.out.kept (new_alloc (Below.refl _ _) _)
  · have HF : Hid (closeN s = ([], s.e)) := by show _ = _; unfold closeN; rw [if_pos he]
    have te : ((s.e : Int) != 0) = true := by rw [bne_iff_ne]; omega
    clear he
    go_enter Try.func16, Try.ntmps16
    go_wp2
    go_quiet (fail)
    go_wp2
    go_ret2
    rw [HF.out]
    have h0 := new_alloc (Below.refl w.heap.size w) (.cells #[.slice A n c, .int .i64 (s.last : Int), .bool s.fin, .int .i64 (s.all : Int), .slice B m d, .int .i64 (s.e : Int)] 28)
    exact ⟨none, 0, rfl, Secs.none _, ⟨h0.os, h0.tape, h0.output, h0.size, h0.block⟩⟩

end Go.Proofs.Ytdheppfooapneaa
