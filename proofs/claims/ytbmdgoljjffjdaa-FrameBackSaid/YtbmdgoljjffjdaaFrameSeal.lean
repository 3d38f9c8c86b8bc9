/- frame.sealed, frame.One. -/
import Derived.Test.YtbmdgoljjffjdaaFrameFault
import Derived.Test.YtbmdgoljjffjdaaSeal
import Derived.Test.YtbmdgoljjffjdaaPut
import Derived.Outline
namespace Go.Proofs.Ytbmdgoljjffjdaa
open Go.RowKit

theorem Parts.three {w : World} {A B C : Option Addr} {n c m d p q : Nat} {l r s : List Nat} (h : Has w A n c (u8s l)) (h2 : Has w B m d (u8s r)) (h3 : Has w C p q (u8s s)) (e : TypeId) (g : Nat) (hg : g = w.heap.size) : Parts (w.alloc (.cells #[.slice A n c, .slice B m d, .slice C p q] e)) (some ⟨g, 0, Option.none⟩) 3 3 [l, r, s] := by
  refine ⟨[.slice A n c, .slice B m d, .slice C p q], Has.new_at _ _ _ g hg, rfl, fun i hi => ?_⟩
  match i, hi with
  | 0, _ => exact ⟨A, n, c, rfl, h.alloc _⟩
  | 1, _ => exact ⟨B, m, d, rfl, h2.alloc _⟩
  | 2, _ => exact ⟨C, p, q, rfl, h3.alloc _⟩

set_option maxRecDepth 100000 in
set_option maxHeartbeats 400000 in
theorem sealed_any (K : Nat) (A : Option Addr) (n c : Nat) (bs : List Nat) (w : World) (h : Has w A n c (u8s bs)) (hb : ∀ x ∈ bs, x < 256) (hK : K ≤ 9) (hK1 : 1 ≤ K) (hn : n ≤ 1048576) :
    Calls Try.prog 21 #[.agg #[.int .i64 (K : Int), .slice A n c]] w (Wrote w (sealN (oneBody ((K : Int), bs)))) := by
  have hl : bs.length = n := by have := h.len; rw [u8s_len] at this; exact this
  have HBy := Lib.hid (oneBody_byte (s := ((K : Int), bs)) (by simp; omega) hb)
  have HBl := Lib.hid (oneBody_len (s := ((K : Int), bs)) (by simp; omega))
  have HBe : Hid ([[K], putN n, bs].flatten = oneBody ((K : Int), bs)) := by show _ = _; simp [oneBody, hl]
  have hpl := putN_len (n := n) (by omega)
  have HH := Lib.hid h
  have HL := Lib.hid hl
  clear h hb hl
  go_enter Try.func21, Try.ntmps21
  go_wp2_with fail
  refine (put_one n _ (by omega) _ (by simp)).mono ?_
  rintro e w1 ⟨A1, c1, rfl, hh1, ho1, hb1⟩
  have HH1 := Lib.hid hh1
  have hz := hb1.size
  simp at hz
  have hc0 : w1.cell? ⟨w.heap.size, 0, none⟩ = some (.int .i64 (K : Int)) := by
    rw [hb1.cell (p := ⟨w.heap.size, 0, none⟩) (by simp; omega)]
    rw [World.cell?_alloc_lt _ _ _ (by simp), World.cell?_alloc_at _ _ _ _ rfl]; rfl
  have hcB : w1.cell? ⟨w.heap.size, 1, none⟩ = some (.slice A n c) := by
    rw [hb1.cell (p := ⟨w.heap.size, 1, none⟩) (by simp; omega)]
    rw [World.cell?_alloc_lt _ _ _ (by simp), World.cell?_alloc_at _ _ _ _ rfl]; rfl
  have HB1 := Lib.hid (new_call (new_alloc (new_alloc (Below.refl _ _) _) _) hb1)
  have hcB2 : (w1.alloc (.cells #[.int .u8 (K : Int)] 5)).cell? ⟨w.heap.size, 1, none⟩ = some (.slice A n c) := by
    rw [World.cell?_alloc_lt _ _ _ (by simp; omega)]; exact hcB
  clear hh1 ho1 hb1 hcB
  go_wp2_with fail
  refine (concat_any _ 3 3 [[K], putN n, bs] _ (Parts.three (show Has (w1.alloc (.cells #[.int .u8 (K : Int)] 5)) _ 1 1 (u8s [K]) from Has.one _ _ _) (HH1.out.alloc _) ((HH.out.kept HB1.out).alloc _) _ _ (by simp)) (by decide) (by rw [HBe.out]; have := HBl.out; rw [HL.out] at this; omega)).mono ?_
  rintro e w2 ⟨A2, c2, rfl, hh2, ho2, hb2⟩
  rw [HBe.out] at hh2
  simp only [HBe.out]
  have HH2 := Lib.hid hh2
  have HB2 := Lib.hid (new_call (new_alloc (new_alloc HB1.out _) _) hb2)
  clear hh2 ho2 hb2
  go_wp2_with fail
  refine (seal_any A2 _ c2 (oneBody ((K : Int), bs)) _ HH2.out HBy.out (by have := HBl.out; rw [HL.out] at this; omega)).mono ?_
  rintro e w3 ⟨A3, c3, rfl, hh3, ho3, hb3⟩
  have HO3 := Lib.hid ho3
  have HB3 := Lib.hid (new_call HB2.out hb3)
  clear hh3 ho3 hb3
  go_wp2
  go_ret
  exact Wrote.of (HO3.out.less HB2.out.size) HB3.out

set_option maxRecDepth 100000 in
set_option maxHeartbeats 400000 in
theorem frameOne_any (k : Int) (A : Option Addr) (n c : Nat) (bs : List Nat) (w : World) (h : Has w A n c (u8s bs)) (hb : ∀ x ∈ bs, x < 256) (hn : n ≤ 9000000000000000000) (_hn2 : n ≤ 1048576 → n ≤ 90000) :
    Calls Try.prog 12 #[.agg #[.int .i64 k, .slice A n c]] w (Fixd w (oneN (k, bs))) := by
  have hl : bs.length = n := by have := h.len; rw [u8s_len] at this; exact this
  have HF := Lib.hid (fun W => fault_any k A n c bs W hl (by omega))
  by_cases he : (oneN (k, bs)).2 = 0
  · have hk : ¬ (k < 1 ∨ 9 < k) := fun h => by rw [oneN_arg (s := (k, bs)) h] at he; simp at he
    have hlo : ¬ 1048576 < n := fun h => by rw [oneN_long (s := (k, bs)) hk (by simp; omega)] at he; simp at he
    have HE := Lib.hid (oneN_ok (s := (k, bs)) hk (by simp; omega))
    obtain ⟨K, rfl⟩ := Int.eq_ofNat_of_zero_le (show 0 ≤ k by omega)
    rw [he] at HF
    have HS := Lib.hid (fun W (hW : Below w.heap.size w W) => sealed_any K A n c bs W (h.kept hW) hb (by omega) (by omega) (by omega))
    clear h hb hl he
    go_enter Try.func12, Try.ntmps12
    go_wp2_with fail
    refine (HF.out _).mono ?_
    rintro e w1 ⟨rfl, hb1⟩
    have hz := hb1.size
    simp at hz
    have hc0 : w1.cell? ⟨w.heap.size, 0, none⟩ = some (.int .i64 (K : Int)) := by
      rw [hb1.cell (p := ⟨w.heap.size, 0, none⟩) (by simp), World.cell?_alloc_at _ _ _ _ rfl]; rfl
    have hcB : w1.cell? ⟨w.heap.size, 1, none⟩ = some (.slice A n c) := by
      rw [hb1.cell (p := ⟨w.heap.size, 1, none⟩) (by simp), World.cell?_alloc_at _ _ _ _ rfl]; rfl
    have HB1 := Lib.hid (new_call (new_alloc (Below.refl _ _) _) hb1)
    clear hb1
    go_wp2_with fail
    refine (HS.out _ HB1.out).mono ?_
    rintro e w2 ⟨A2, c2, rfl, hh2, ho2, hb2⟩
    have HO2 := Lib.hid ho2
    have HB2 := Lib.hid (new_call HB1.out hb2)
    clear hh2 ho2 hb2
    go_wp2
    go_ret2
    rw [HE.out]
    exact ⟨_, rfl, HO2.out.less HB1.out.size, HB2.out⟩
  · have HE : Hid (oneN (k, bs) = ([], (oneN (k, bs)).2)) := by
      show _ = _
      unfold oneN at he ⊢
      split
      · rfl
      · split
        · rfl
        · rename_i h1 h2; rw [if_neg h1, if_neg h2] at he; exact absurd rfl he
    have te : (((oneN (k, bs)).2 : Int) != 0) = true := by rw [bne_iff_ne]; omega
    clear h hb hl he
    generalize (oneN (k, bs)).2 = E at *
    go_enter Try.func12, Try.ntmps12
    go_wp2_with fail
    refine (HF.out _).mono ?_
    rintro e w1 ⟨rfl, hb1⟩
    have HB1 := Lib.hid (new_call (new_alloc (Below.refl _ _) _) hb1)
    clear hb1
    go_wp2
    go_ret2
    rw [HE.out]
    exact ⟨_, rfl, Own.nil _ _ _, HB1.out⟩
end Go.Proofs.Ytbmdgoljjffjdaa
