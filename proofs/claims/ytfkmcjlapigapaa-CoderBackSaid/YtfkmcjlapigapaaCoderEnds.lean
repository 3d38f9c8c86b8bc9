/- The landed coder's writer: all digits; models of sizes; Encode. -/
import Derived.Test.YtfkmcjlapigapaaCoderPut
namespace Go.Proofs.Ytfkmcjlapigapaa
open Go.RowKit

set_option maxRecDepth 100000 in
set_option maxHeartbeats 1000000 in
theorem digits_any (g B : Nat) (A : Option Addr) (n c lo R N D : Nat) (sv : Value) (s : List Nat) (a r : Nat) (w : World) (h : WM w g B A n c lo R sv s a r) (hi : WI N D R lo s a r) (hR1 : 1 ≤ R) (hD : D ≤ 100000) :
    Calls Try.prog 27 #[.pointer (some ⟨g, 0, none⟩)] w fun e w' => ∃ v, e = .returned v ∧ Own w' B 5 v (u8s (digC D N)) ∧ Chg (fun k => k = g ∨ B ≤ k) w w' := by
  obtain ⟨hca, hab⟩ := hi.carry hR1
  have hdig := hi.dig
  have hlow := h.low
  have hsl := sett_len s a r (lo / 4294967296)
  have HE := Lib.hid (hi.end_ hR1)
  have hlo : lo < 17179869184 := by have := hi.sum; omega
  have HSt := Lib.hid (settle_any g B A n c lo R sv s a r w h hca hab (by omega))
  clear h hi hca hab
  generalize settC s a r (lo / 4294967296) = s2 at *
  obtain ⟨d1, hd1⟩ : ∃ d, lo / 16777216 % 256 = d := ⟨_, rfl⟩
  obtain ⟨d2, hd2⟩ : ∃ d, lo / 65536 % 256 = d := ⟨_, rfl⟩
  obtain ⟨d3, hd3⟩ : ∃ d, lo / 256 % 256 = d := ⟨_, rfl⟩
  obtain ⟨d4, hd4⟩ : ∃ d, lo % 256 = d := ⟨_, rfl⟩
  have e1 : IntKind.wrap .u8 ((lo : Int) / 16777216) = (d1 : Int) := by rw [IntKind.wrap_u8]; omega
  have e2 : IntKind.wrap .u8 ((lo : Int) / 65536) = (d2 : Int) := by rw [IntKind.wrap_u8]; omega
  have e3 : IntKind.wrap .u8 ((lo : Int) / 256) = (d3 : Int) := by rw [IntKind.wrap_u8]; omega
  have e4 : IntKind.wrap .u8 (lo : Int) = (d4 : Int) := by rw [IntKind.wrap_u8]; omega
  rw [hd1, hd2, hd3, hd4] at HE
  clear hd1 hd2 hd3 hd4
  go_enter Try.func27, Try.ntmps27
  go_wp2_with fail
  refine HSt.out.mono ?_
  rintro e w2 ⟨sv2, rfl, hm2, hc2⟩
  have c1 : w2.cell? ⟨g, 1, none⟩ = some (.int .u64 (lo : Int)) := hm2.blk.cell 1
  have c3 : w2.cell? ⟨g, 3, none⟩ = some sv2 := hm2.blk.cell 3
  have HM2 := Lib.hid hm2
  have HC2 := Lib.hid hc2
  have HB1 : Hid (Below w2.heap.size w2 (w2.alloc (.cells #[.int .u8 (d1 : Int), .int .u8 (d2 : Int), .int .u8 (d3 : Int), .int .u8 (d4 : Int)] 5)).drew) := (new_alloc (Below.refl _ w2) _).drew
  have HX := Lib.hid (hm2.below HB1.out)
  have k1 : (w2.alloc (.cells #[.int .u8 (d1 : Int), .int .u8 (d2 : Int), .int .u8 (d3 : Int), .int .u8 (d4 : Int)] 5)).cell? ⟨g, 1, none⟩ = some (.int .u64 (lo : Int)) := HX.out.blk.cell 1
  have k3 : (w2.alloc (.cells #[.int .u8 (d1 : Int), .int .u8 (d2 : Int), .int .u8 (d3 : Int), .int .u8 (d4 : Int)] 5)).cell? ⟨g, 3, none⟩ = some sv2 := HX.out.blk.cell 3
  have HO1 : Hid (OwnK 1 (w2.alloc (.cells #[.int .u8 (d1 : Int), .int .u8 (d2 : Int), .int .u8 (d3 : Int), .int .u8 (d4 : Int)] 5)).drew B 5 sv2 s2.length (u8s s2)) := by
    have h2 := HX.out.own
    unfold Own at h2
    rw [u8s_len] at h2
    exact h2
  have HN1 : Hid (HasK 1 (w2.alloc (.cells #[.int .u8 (d1 : Int), .int .u8 (d2 : Int), .int .u8 (d3 : Int), .int .u8 (d4 : Int)] 5)).drew (some ⟨w2.heap.size, 0, none⟩) 4 4 (u8s [d1, d2, d3, d4])) := ((HasK.new_at 1 w2 #[.int .u8 (d1 : Int), .int .u8 (d2 : Int), .int .u8 (d3 : Int), .int .u8 (d4 : Int)] 5 _ 4 rfl rfl).kept (Below.refl _ _).drew)
  have hz1 : B ≤ (w2.alloc (.cells #[.int .u8 (d1 : Int), .int .u8 (d2 : Int), .int .u8 (d3 : Int), .int .u8 (d4 : Int)] 5)).drew.heap.size := HX.out.hi
  clear hm2 hc2 HSt
  go_wp2
  go_region_held3 (fun W => W.cell? ⟨g, 1, none⟩ = some (.int .u64 (lo : Int)) ∧ W.cell? ⟨g, 3, none⟩ = some sv2) (first | exact ⟨c1, c3⟩ | exact ⟨k1, k3⟩ | exact ⟨m1, m3⟩) (first
    | (refine step_joinGK rfl _ _ 25 rfl elem8.toK (by decide) B _ s2.length (u8s s2) rfl HO1.out _ 4 4 (u8s [d1, d2, d3, d4]) rfl HN1.out ?_ (by omega) (by decide) hz1 ?_
       · exact u8s_one _
       intro v5 w5 hown5 hgr5 hwh5
       have HC5 := Lib.hid ((HC2.out.then_ (Chg.of_below HB1.out) fun _ _ h => h).then_ (Chg.of_grown hgr5) fun k _ e => Or.inr (OwnK.ge HO1.out k e))
       have HX5 := Lib.hid (HX.out.blk.chg (Chg.of_grown hgr5) fun e => by have := OwnK.ge HO1.out g e; omega)
       have m1 : w5.cell? ⟨g, 1, none⟩ = some (.int .u64 (lo : Int)) := HX5.out.cell 1
       have m3 : w5.cell? ⟨g, 3, none⟩ = some sv2 := HX5.out.cell 3
       have HO5 : Hid (Own w5 B 5 v5 (u8s (s2 ++ [d1, d2, d3, d4]))) := by
         show Own _ _ _ _ _
         rw [u8s_app]
         unfold Own
         rw [List.length_append, u8s_len, u8s_len]
         exact hown5
       clear hown5 hgr5 hwh5))
  all_goals
    rw [HE.out] at HO5
    go_wp2
    go_ret
    exact ⟨_, rfl, HO5.out, HC5.out⟩
end Go.Proofs.Ytfkmcjlapigapaa
