/- Of any two bytes and any two rows of bytes FrameOrder answers true: two sections are written just if their kinds rise, and are 1 to 9; of two in the other order one is refused. Conditions: none. -/
import Derived.Test.YtbmdgoljjffjdaaKnown03
import Derived.Test.YtbmdgoljjffjdaaLawSecs
namespace Go.Proofs.Ytbmdgoljjffjdaa.frameOrder
open Go.ChangeShapes Go.WideShapes Go.ChangeAt Go.RowKit

theorem enc_two_ok {p q : Sec} (h : 1 ≤ p.1 ∧ p.1 < q.1 ∧ q.1 ≤ 9) (hl : p.2.length + q.2.length ≤ 1000) : (encN [p, q]).2 = 0 := by
  have e1 := oneN_ok (s := p) (by omega) (by omega)
  have e2 := oneN_ok (s := q) (by omega) (by omega)
  have h0 : onesN [p, q] = (sealN (oneBody p) ++ sealN (oneBody q), 0) := by simp [onesN, e1, e2]
  have hr : risesB [p, q] = true := (risesB_iff _).2 (fun i hi => by
    have : i = 0 := by simp at hi; omega
    subst this
    simp; omega)
  unfold encN
  rw [h0, if_neg (by simp), if_neg (by rw [hr]; simp), if_neg]
  have l1 := oneBody_len (s := p) (by omega)
  have l2 := oneBody_len (s := q) (by omega)
  simp only [List.length_append, sealN_len, headN, List.length_cons, List.length_nil]
  omega
theorem enc_two_not {p q : Sec} (h : ¬ (1 ≤ p.1 ∧ p.1 < q.1 ∧ q.1 ≤ 9)) (hl : p.2.length + q.2.length ≤ 1000) : encN [p, q] = ([], 2) := by
  by_cases h1 : p.1 < 1 ∨ 9 < p.1
  · have h0 : onesN [p, q] = ([], 2) := by simp [onesN, oneN_arg h1]
    unfold encN; rw [h0]; simp
  · have e1 := oneN_ok (s := p) h1 (by omega)
    by_cases h2 : q.1 < 1 ∨ 9 < q.1
    · have h0 : onesN [p, q] = ([], 2) := by simp [onesN, e1, oneN_arg h2]
      unfold encN; rw [h0]; simp
    · have e2 := oneN_ok (s := q) h2 (by omega)
      have h0 : onesN [p, q] = (sealN (oneBody p) ++ sealN (oneBody q), 0) := by simp [onesN, e1, e2]
      have hr : risesB [p, q] = false := by
        cases hq : risesB [p, q] with
        | false => rfl
        | true =>
          have := (risesB_iff _).1 hq 0 (by simp)
          simp at this
          omega
      unfold encN
      rw [h0, if_neg (by simp), if_pos hr]
theorem enc_len (l : List Sec) : (encN l).1.length ≤ (l.map fun s => s.2.length).sum + 15 * l.length + 6 := by
  have := onesN_len l
  unfold encN
  repeat' split
  all_goals simp only [List.length_append, List.length_cons, List.length_nil, headN]
  all_goals omega
theorem Secs.two {w : World} {k1 k2 : Int} {A B : Option Addr} {n c m d : Nat} {bs cs : List Nat} (h : Has w A n c (u8s bs)) (h2 : Has w B m d (u8s cs)) (e : TypeId) (g : Nat) (hg : g = w.heap.size) :
    Secs (w.alloc (.cells #[.int .i64 k1, .slice A n c, .int .i64 k2, .slice B m d] e)) (some ⟨g, 0, Option.none⟩) 2 2 [(k1, bs), (k2, cs)] := by
  refine ⟨[(k1, .slice A n c), (k2, .slice B m d)], HasK.new_at 2 w #[.int .i64 k1, .slice A n c, .int .i64 k2, .slice B m d] e g 2 hg rfl, rfl, fun i hi => ?_⟩
  match i, hi with
  | 0, _ => exact ⟨A, n, c, rfl, h.alloc _⟩
  | 1, _ => exact ⟨B, m, d, rfl, h2.alloc _⟩
set_option maxRecDepth 100000 in
set_option maxHeartbeats 1000000 in
theorem walk (a b : Int) (A : Option Addr) (n c : Nat) (bs : List Nat) (B : Option Addr) (m d : Nat) (cs : List Nat) (w : World) (ha : 0 ≤ a ∧ a ≤ 255) (hb : 0 ≤ b ∧ b ≤ 255)
    (hh : Has w A n c (u8s bs)) (hbs : ∀ x ∈ bs, x < 256) (hn : n ≤ 140737488355328) (hh2 : Has w B m d (u8s cs)) (hcs : ∀ x ∈ cs, x < 256) (hm : m ≤ 140737488355328) :
    Calls Try.prog 7 #[.int .u8 a, .int .u8 b, .slice A n c, .slice B m d] w fun e w' => e = .returned (.bool true) ∧ Below w.heap.size w w' := by
  obtain ⟨x, rfl⟩ := Int.eq_ofNat_of_zero_le ha.1
  obtain ⟨y, rfl⟩ := Int.eq_ofNat_of_zero_le hb.1
  by_cases hl : 1000 < n + m
  · have t : decide ((1000 : Int) < (n : Int) + (m : Int)) = true := by simp; omega
    clear hh hbs hh2 hcs
    go_enter Try.func7, Try.ntmps7
    go_wp2_with (go_at_call 9; refine (known03 _).mono ?_; rintro e w' ⟨rfl, hb⟩)
    go_ret
    exact ⟨rfl, hb⟩
  · have t : decide ((1000 : Int) < (n : Int) + (m : Int)) = false := by simp; omega
    have l1 : bs.length = n := by have := hh.len; rw [u8s_len] at this; exact this
    have l2 : cs.length = m := by have := hh2.len; rw [u8s_len] at this; exact this
    have HH := Lib.hid hh
    have HH2 := Lib.hid hh2
    have HB1 := Lib.hid hbs
    have HB2 := Lib.hid hcs
    obtain ⟨K1, hK1⟩ : ∃ K, x % 12 = K := ⟨_, rfl⟩
    obtain ⟨K2, hK2⟩ : ∃ K, y % 12 = K := ⟨_, rfl⟩
    have q1 : (x : Int) % 12 = (K1 : Int) := by omega
    have q2 : (y : Int) % 12 = (K2 : Int) := by omega
    have hk1 : K1 < 12 := by omega
    have hk2 : K2 < 12 := by omega
    have HEn : Hid (∀ W g, Below w.heap.size w W → g = W.heap.size → Calls Try.prog 10 #[.slice (some ⟨g, 0, none⟩) 2 2] (W.alloc (.cells #[.int .i64 (K1 : Int), .slice A n c, .int .i64 (K2 : Int), .slice B m d] 33)) (Fixd (W.alloc (.cells #[.int .i64 (K1 : Int), .slice A n c, .int .i64 (K2 : Int), .slice B m d] 33)) (encN [((K1 : Int), bs), ((K2 : Int), cs)]))) :=
      fun W g hW hg => frameEnc_any _ 2 2 _ _ (Secs.two (HH.out.kept hW) (HH2.out.kept hW) _ g hg) (by simpa using ⟨HB1.out, HB2.out⟩) ⟨by simp, by simp; omega⟩
    have hOk := enc_two_ok (p := ((K1 : Int), bs)) (q := ((K2 : Int), cs))
    have hNo := enc_two_not (p := ((K1 : Int), bs)) (q := ((K2 : Int), cs))
    simp only at hOk hNo
    have HD := Lib.hid (dec_enc (l := [((K1 : Int), bs), ((K2 : Int), cs)]))
    have HEb := Lib.hid (encN_byte (l := [((K1 : Int), bs), ((K2 : Int), cs)]) (by simpa using ⟨HB1.out, HB2.out⟩))
    by_cases hr : 1 ≤ (K1 : Int) ∧ (K1 : Int) < (K2 : Int) ∧ (K2 : Int) ≤ 9
    · have hz := hOk hr (by omega)
      have HD2 := Lib.hid (HD.out hz)
      have hel : (encN [((K1 : Int), bs), ((K2 : Int), cs)]).1.length ≤ 90000 := by
        have := enc_len [((K1 : Int), bs), ((K2 : Int), cs)]
        simp at this
        omega
      have HEq : Hid (encN [((K1 : Int), bs), ((K2 : Int), cs)] = ((encN [((K1 : Int), bs), ((K2 : Int), cs)]).1, 0)) := by show _ = _; rw [← hz]
      rw [HEq.out] at HEn
      have t1 : decide (1 ≤ (K1 : Int)) = true := decide_eq_true hr.1
      have t2 : decide (K1 < K2) = true := decide_eq_true (by omega)
      have t3 : decide ((K2 : Int) ≤ 9) = true := decide_eq_true hr.2.2
      clear hOk hNo hz hr hK1 hK2 l1 l2 hh hh2 hbs hcs HD HEq
      generalize (encN [((K1 : Int), bs), ((K2 : Int), cs)]).1 = X at *
      go_enter Try.func7, Try.ntmps7
      go_wp2_with fail
      refine (HEn.out _ _ (new_alloc (new_alloc (Below.refl _ _) _) _) (by simp)).mono ?_
      rintro e w1 ⟨v1, rfl, ho1, hb1⟩
      obtain ⟨A1, c1, rfl, hh1⟩ := ho1.has
      simp only [u8s_len] at hh1 ⊢
      have hsz1 := hb1.size
      simp at hsz1
      have x0 : w1.cell? ⟨w.heap.size, 0, none⟩ = some (.int .i64 (K1 : Int)) := by
        rw [hb1.cell (p := ⟨w.heap.size, 0, none⟩) (by simp; omega), World.cell?_alloc_lt _ _ _ (by simp; omega), World.cell?_alloc_lt _ _ _ (by simp), World.cell?_alloc_at _ _ _ _ rfl]; rfl
      have x1 : w1.cell? ⟨w.heap.size, 1, none⟩ = some (.slice A n c) := by
        rw [hb1.cell (p := ⟨w.heap.size, 1, none⟩) (by simp; omega), World.cell?_alloc_lt _ _ _ (by simp; omega), World.cell?_alloc_lt _ _ _ (by simp), World.cell?_alloc_at _ _ _ _ rfl]; rfl
      have x2 : w1.cell? ⟨w.heap.size + 1, 0, none⟩ = some (.int .i64 (K2 : Int)) := by
        rw [hb1.cell (p := ⟨w.heap.size + 1, 0, none⟩) (by simp), World.cell?_alloc_lt _ _ _ (by simp), World.cell?_alloc_at _ _ _ _ (by simp)]; rfl
      have x3 : w1.cell? ⟨w.heap.size + 1, 1, none⟩ = some (.slice B m d) := by
        rw [hb1.cell (p := ⟨w.heap.size + 1, 1, none⟩) (by simp), World.cell?_alloc_lt _ _ _ (by simp), World.cell?_alloc_at _ _ _ _ (by simp)]; rfl
      have HX1 := Lib.hid hh1
      have HBw := Lib.hid (new_call (new_alloc (new_alloc (new_alloc (Below.refl _ _) _) _) _) hb1)
      have hzw := hsz1
      clear ho1 hh1 hb1
      go_wp2_with fail
      refine (frameDec_any A1 _ c1 X _ HX1.out HEb.out hel).mono ?_
      rintro e w2 ⟨A2, c2, rfl, hs2, hb2⟩
      rw [HD2.out] at hs2 ⊢
      have y0 : w2.cell? ⟨w.heap.size, 0, none⟩ = some (.int .i64 (K1 : Int)) := (hb2.cell (p := ⟨w.heap.size, 0, none⟩) (by show w.heap.size < w1.heap.size; omega)).trans x0
      have y1 : w2.cell? ⟨w.heap.size, 1, none⟩ = some (.slice A n c) := (hb2.cell (p := ⟨w.heap.size, 1, none⟩) (by show w.heap.size < w1.heap.size; omega)).trans x1
      have y2 : w2.cell? ⟨w.heap.size + 1, 0, none⟩ = some (.int .i64 (K2 : Int)) := (hb2.cell (p := ⟨w.heap.size + 1, 0, none⟩) (by show w.heap.size + 1 < w1.heap.size; omega)).trans x2
      have y3 : w2.cell? ⟨w.heap.size + 1, 1, none⟩ = some (.slice B m d) := (hb2.cell (p := ⟨w.heap.size + 1, 1, none⟩) (by show w.heap.size + 1 < w1.heap.size; omega)).trans x3
      have HS2 := Lib.hid hs2
      have HBx := Lib.hid (new_call HBw.out hb2)
      clear hs2 hb2 x0 x1 x2 x3
      go_wp2_with fail
      refine (refSame3_any _ _ _ _ _ _ [((K1 : Int), bs), ((K2 : Int), cs)] [((K1 : Int), bs), ((K2 : Int), cs)] _ (HS2.out.kept (new_alloc (Below.refl _ _) _)) (Secs.two (HH.out.kept HBx.out) (HH2.out.kept HBx.out) _ _ rfl) (by simpa using ⟨HB1.out, HB2.out⟩) (by simpa using ⟨HB1.out, HB2.out⟩) (by simp) (by simp)).mono ?_
      rintro e w3 ⟨rfl, hb3⟩
      have HBy := Lib.hid (new_call (new_alloc HBx.out _) hb3)
      clear hb3
      go_wp2_with (go_at_call 9; refine (known03 _).mono ?_; rintro e w' ⟨rfl, hb⟩)
      go_ret
      exact ⟨rfl, new_call HBy.out hb⟩
    · have hz := hNo hr (by omega)
      rw [hz] at HEn
      have t13 : decide (1 ≤ (K1 : Int)) = false ∨ (decide (1 ≤ (K1 : Int)) = true ∧ decide (K1 < K2) = false) ∨ (decide (1 ≤ (K1 : Int)) = true ∧ decide (K1 < K2) = true ∧ decide ((K2 : Int) ≤ 9) = false) := by
        by_cases z1 : 1 ≤ (K1 : Int)
        · by_cases z2 : K1 < K2
          · by_cases z3 : (K2 : Int) ≤ 9
            · exact absurd ⟨z1, by omega, z3⟩ hr
            · exact Or.inr (Or.inr ⟨decide_eq_true z1, decide_eq_true z2, decide_eq_false z3⟩)
          · exact Or.inr (Or.inl ⟨decide_eq_true z1, decide_eq_false z2⟩)
        · exact Or.inl (decide_eq_false z1)
      clear hOk hNo hz hr hK1 hK2 l1 l2 hh hh2 hbs hcs HD HEb
      go_enter Try.func7, Try.ntmps7
      go_wp2_with fail
      refine (HEn.out _ _ (new_alloc (new_alloc (Below.refl _ _) _) _) (by simp)).mono ?_
      rintro e w1 ⟨v1, rfl, ho1, hb1⟩
      obtain ⟨A1, c1, rfl, hh1⟩ := ho1.has
      simp only [u8s_len, List.length_nil] at hh1 ⊢
      have hsz1 := hb1.size
      simp at hsz1
      have x0 : w1.cell? ⟨w.heap.size, 0, none⟩ = some (.int .i64 (K1 : Int)) := by
        rw [hb1.cell (p := ⟨w.heap.size, 0, none⟩) (by simp; omega), World.cell?_alloc_lt _ _ _ (by simp; omega), World.cell?_alloc_lt _ _ _ (by simp), World.cell?_alloc_at _ _ _ _ rfl]; rfl
      have x1 : w1.cell? ⟨w.heap.size, 1, none⟩ = some (.slice A n c) := by
        rw [hb1.cell (p := ⟨w.heap.size, 1, none⟩) (by simp; omega), World.cell?_alloc_lt _ _ _ (by simp; omega), World.cell?_alloc_lt _ _ _ (by simp), World.cell?_alloc_at _ _ _ _ rfl]; rfl
      have x2 : w1.cell? ⟨w.heap.size + 1, 0, none⟩ = some (.int .i64 (K2 : Int)) := by
        rw [hb1.cell (p := ⟨w.heap.size + 1, 0, none⟩) (by simp), World.cell?_alloc_lt _ _ _ (by simp), World.cell?_alloc_at _ _ _ _ (by simp)]; rfl
      have x3 : w1.cell? ⟨w.heap.size + 1, 1, none⟩ = some (.slice B m d) := by
        rw [hb1.cell (p := ⟨w.heap.size + 1, 1, none⟩) (by simp), World.cell?_alloc_lt _ _ _ (by simp), World.cell?_alloc_at _ _ _ _ (by simp)]; rfl
      have HBw := Lib.hid (new_call (new_alloc (new_alloc (new_alloc (Below.refl _ _) _) _) _) hb1)
      clear ho1 hh1 hb1
      rcases t13 with u1 | ⟨u1, u2⟩ | ⟨u1, u2, u3⟩
      all_goals
        go_wp2_with (go_at_call 9; refine (known03 _).mono ?_; rintro e w' ⟨rfl, hb⟩)
        go_ret
        exact ⟨rfl, new_call HBw.out hb⟩

set_option maxRecDepth 100000 in
theorem lifted (os : Os) (started : os.Started) (H : Type) (enc : TypeId × Value → H) :
    ReturnsInHanded {} Try.checked os 7 .any (Rows.frameOrderSpec.pre6 enc Try.prog Try.f7 Rows.frameOrderRow.domain false) (Rows.frameOrderSpec.post enc Try.prog Try.f7 false true false false) := by
  refine returnsInHanded_of_change_sized (C := Try.checked) Try.own started (by kernel_rfl) Try.func7
    (ChangeSpec.witness6 (enc := enc) (C := Try.checked) false ⟨#[], #[.int .u8 0, .int .u8 0, .slice none 0 0, .slice none 0 0], []⟩ 8 (by kernel_rfl) (by kernel_rfl) (by kernel_rfl) (by kernel_rfl)) ?_
  intro W base args ds gs before hval0 hW _ hsz0 _
  have hval : ∀ (j : Nat) t v, Try.f7.params[j]? = some t → args[j]? = some v → Value.okWide Try.prog W .any base t v := hval0
  have hW' := hW
  obtain ⟨p, q, hA0, hV, rfl, _, _⟩ := hW
  have hA : DataW.TrodAll enc Try.prog W 0 (fun _ => true) true Try.f7.params.toList args.toList ds p := hA0
  have hsz : (DataW.weightsEach Try.prog (Try.f7.params.toList ++ Rows.frameOrderSpec.plain.varTypes Try.prog) (ds ++ gs)).all (· ≤ reachBytes) = true := hsz0
  rw [Try.params7] at hA hval hsz
  obtain ⟨v0, v1, v2, v3, d0, d1, d2, d3, p0, p1, p2, p3, rfl, rfl, rfl, h0, h1, h2, h3⟩ := trodAll_four hA
  obtain ⟨rfl, rfl⟩ := trodVars_none hV
  obtain ⟨a0, rfl, rfl, rfl, w0⟩ := open_int Try.underlying5 (hval 0 5 v0 rfl rfl) h0
  obtain ⟨a1, rfl, rfl, rfl, w1⟩ := open_int Try.underlying5 (hval 1 5 v1 rfl rfl) h1
  obtain ⟨A2, n2, c2, bs2, rfl, hh2, hb2, hn2⟩ := open_bytes_sized (hval 2 25 v2 rfl rfl) h2 (fun m hm => of_decide_eq_true (List.all_eq_true.1 hsz m (DataW.weights_mem_each (j := 2) rfl rfl m hm)))
  obtain ⟨A3, n3, c3, bs3, rfl, hh3, hb3, hn3⟩ := open_bytes_sized (hval 3 25 v3 rfl rfl) h3 (fun m hm => of_decide_eq_true (List.all_eq_true.1 hsz m (DataW.weights_mem_each (j := 3) rfl rfl m hm)))
  exact (walk a0 a1 A2 n2 c2 bs2 A3 n3 c3 bs3 W (wf_u8 w0) (wf_u8 w1) hh2 hb2 hn2 hh3 hb3 hn3).mono fun e W' he =>
    law_post rfl rfl (by rw [Try.params7]; intro t ht; simp at ht; rcases ht with rfl | rfl | rfl | rfl <;> exact ⟨by kernel_rfl, of_decide_eq_true (by kernel_rfl)⟩) hW' rfl he

theorem proved : Rows.FrameOrderSaid :=
  OpenClaim.holds_of_wide 7 Try.f7 rfl rfl rfl rfl rfl rfl rfl ⟨rfl, rfl, rfl, rfl, rfl⟩ rfl rfl rfl rfl rfl (by kernel_rfl) Try.func7 (by kernel_rfl)
    (of_decide_eq_true (by kernel_rfl)) (by unfold Func.isWrapper; first | (rw [if_pos (by decide +kernel)]; kernel_rfl) | (rw [if_neg (by decide +kernel)]; exact ⟨rfl, rfl⟩))
    (fun os started H enc _ => lifted os started H enc)
end Go.Proofs.Ytbmdgoljjffjdaa.frameOrder
