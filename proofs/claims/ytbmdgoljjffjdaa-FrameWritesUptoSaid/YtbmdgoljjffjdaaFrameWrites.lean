/- Of any sections, 1048576 values of them in all at the most, FrameWrites answers true: frame.Encode and frame.One answer what the document does. Conditions: that bound alone. -/
import Derived.Test.YtbmdgoljjffjdaaKnown03
import Derived.Test.YtbmdgoljjffjdaaLawSecs
namespace Go.Proofs.Ytbmdgoljjffjdaa.frameWrites
open Go.ChangeShapes Go.WideShapes Go.ChangeAt Go.RowKit

theorem short_of {l : List Sec} (h : longB l = false) : Short l 3000 := by
  have := of_decide_eq_false h
  exact ⟨by omega, by omega⟩
set_option maxRecDepth 100000 in
set_option maxHeartbeats 1000000 in
theorem walk (A : Option Addr) (n c : Nat) (l : List Sec) (w : World) (hh : Secs w A n c l) (hb : ∀ s ∈ l, ∀ x ∈ s.2, x < 256) (_hk : ∀ s ∈ l, -9223372036854775808 ≤ s.1 ∧ s.1 ≤ 9223372036854775807) (hu : l.length + (l.map fun s => s.2.length).sum ≤ 1048576) :
    Calls Try.prog 3 #[.slice A n c] w fun e w' => e = .returned (.bool true) ∧ Below w.heap.size w w' := by
  have HLo := Lib.hid (long_any A n c l w hh hu)
  cases hlo : longB l with
  | true =>
    rw [hlo] at HLo
    clear hh hb hlo
    go_enter Try.func3, Try.ntmps3
    go_wp2_with (first
      | (go_at_call 8; refine HLo.out.mono ?_; rintro e w' ⟨rfl, rfl⟩)
      | (go_at_call 9; refine (known03 _).mono ?_; rintro e w' ⟨rfl, hb⟩))
    go_ret
    exact ⟨rfl, hb⟩
  | false =>
    rw [hlo] at HLo
    have hsh := short_of hlo
    have HSh := Lib.hid hsh
    have HL := Lib.hid hh.len
    have hn : n ≤ 3000 := by have := hh.len; have := hsh.num; omega
    have HH := Lib.hid hh
    have HB := Lib.hid hb
    have HE := Lib.hid (frameEnc_any A n c l w hh hb hsh)
    have HR : Hid (∀ W, Below w.heap.size w W → Calls Try.prog 11 #[.slice A n c] W (Fixd W (encN l))) := fun W hW => refEnc_any A n c l W (hh.kept hW) hb hsh
    have HEb := Lib.hid (encN_byte hb)
    clear hh hb hlo hsh
    generalize encN l = r at *
    go_enter Try.func3, Try.ntmps3
    go_wp2_with (go_at_call 8; refine HLo.out.mono ?_; rintro e w' ⟨rfl, rfl⟩)
    refine HE.out.mono ?_
    rintro e w1 ⟨v1, rfl, ho1, hb1⟩
    obtain ⟨A1, c1, rfl, hh1⟩ := ho1.has
    have HH1 := Lib.hid hh1
    have HB1 := Lib.hid hb1
    clear ho1 hh1 hb1
    go_wp2_with fail
    refine (HR.out _ HB1.out).mono ?_
    rintro e w2 ⟨v2, rfl, ho2, hb2⟩
    obtain ⟨A2, c2, rfl, hh2⟩ := ho2.has
    have HH2 := Lib.hid hh2
    have HK := Lib.hid (HH1.out.kept hb2)
    have HB2 := Lib.hid (new_call HB1.out hb2)
    clear ho2 hh2 hb2
    go_wp2
    go_loopg [7] n (fun g s7 wx => ∃ i : Nat, i + g = n ∧ s7 = .int .i64 i ∧ Hid (Below w2.heap.size w2 wx))
    case atStart => exact ⟨0, by omega, rfl, Below.refl _ _⟩
    case round =>
      obtain ⟨i, hig, rfl, HBx⟩ := hrel
      have HW := Lib.hid (new_call HB2.out HBx.out)
      by_cases hi : i < n
      · have hil : i < l.length := by rw [HL.out]; exact hi
        obtain ⟨b, off, A', n', c', rfl, _, hl', hrow⟩ := HH.out.at_ hil
        have ti : decide ((i : Int) < (n : Int)) = true := by simp; omega
        have hsz := HSh.out.each (List.getElem_mem hil)
        rw [hl'] at hsz
        have HBy := Lib.hid (HB.out _ (List.getElem_mem hil))
        have HOb := Lib.hid (oneN_byte (s := l[i]) HBy.out)
        have HOn : Hid (∀ W, Below w.heap.size w W → Calls Try.prog 12 #[.agg #[.int .i64 l[i].1, .slice A' n' c']] W (Fixd W (oneN l[i]))) := fun W hW => frameOne_any l[i].1 A' n' c' l[i].2 W (hrow W hW).2.2 HBy.out (by omega) (by omega)
        have HRn : Hid (∀ W, Below w.heap.size w W → Calls Try.prog 13 #[.agg #[.int .i64 l[i].1, .slice A' n' c']] W (Fixd W (oneN l[i]))) := fun W hW => refOne_any l[i].1 A' n' c' l[i].2 W (hrow W hW).2.2 HBy.out (by omega) (by omega)
        have HCl : Hid (∀ W, Below w.heap.size w W → W.cell? ⟨b, off + i * 2, Option.none⟩ = some (.int .i64 l[i].1) ∧ W.cell? ⟨b, off + i * 2 + 1, Option.none⟩ = some (.slice A' n' c')) := fun W hW => ⟨(hrow W hW).1, (hrow W hW).2.1⟩
        clear hrow hl' HBy
        generalize l[i].1 = k at *
        generalize oneN l[i] = o at *
        obtain ⟨hc1, hc2⟩ := HCl.out _ HW.out
        go_wp2_with fail
        refine (HOn.out _ HW.out).mono ?_
        rintro e w3 ⟨v3, rfl, ho3, hb3⟩
        obtain ⟨A3, c3, rfl, hh3⟩ := ho3.has
        have HH3 := Lib.hid hh3
        have HB3 := Lib.hid hb3
        have HW3 := Lib.hid (new_call HW.out hb3)
        clear ho3 hh3 hb3 hc1 hc2
        obtain ⟨hc1, hc2⟩ := HCl.out _ HW3.out
        go_wp2_with fail
        refine (HRn.out _ HW3.out).mono ?_
        rintro e w4 ⟨v4, rfl, ho4, hb4⟩
        obtain ⟨A4, c4, rfl, hh4⟩ := ho4.has
        have HH4 := Lib.hid hh4
        have HK3 := Lib.hid (HH3.out.kept hb4)
        have HB4 := Lib.hid (new_call HB3.out hb4)
        clear ho4 hh4 hb4 hc1 hc2
        go_wp2_with (go_at_call 14; refine (same_any _ _ _ _ _ _ o.1 o.1 _ HK3.out HH4.out HOb.out HOb.out).mono ?_; rintro e w' ⟨rfl, rfl⟩)
        go_roundg (gk - 1)
        case measure => omega
        case rel => exact ⟨i + 1, by omega, by go_num, new_call HBx.out HB4.out⟩
      · have ti : decide ((i : Int) < (n : Int)) = false := by simp; omega
        have HK5 := Lib.hid (HK.out.kept HBx.out)
        have HH5 := Lib.hid (HH2.out.kept HBx.out)
        go_wp2_with (first
          | (go_at_call 14; refine (same_any _ _ _ _ _ _ r.1 r.1 _ HK5.out HH5.out HEb.out HEb.out).mono ?_; rintro e w' ⟨rfl, rfl⟩)
          | (go_at_call 9; refine (known03 _).mono ?_; rintro e w' ⟨rfl, hb⟩))
        go_ret
        exact ⟨rfl, new_call HW.out hb⟩

set_option maxRecDepth 100000 in
theorem lifted (os : Os) (started : os.Started) (H : Type) (enc : TypeId × Value → H) (F : Stop.Interp) :
    ReturnsInHanded {} Try.checked os 3 .any ((Rows.OpenSpec.upto Rows.frameWritesSpec).pre6 enc Try.prog Try.f3 Rows.frameWritesUptoRow.domain false) (((Rows.OpenSpec.upto Rows.frameWritesSpec).at F).post enc Try.prog Try.f3 false true false false) := by
  refine returnsInHanded_of_cond (C := Try.checked) (s := Rows.OpenSpec.upto Rows.frameWritesSpec) (k := Rows.uptoSmall) rfl Try.own started (by kernel_rfl) Try.func3
    (OpenSpec.witness (enc := enc) (C := Try.checked) (s := Rows.OpenSpec.upto Rows.frameWritesSpec) (k := Rows.uptoSmall) rfl false ⟨#[], #[.slice none 0 0], []⟩ 8 (by kernel_rfl) (by kernel_rfl) (by kernel_rfl) (x := ([.nil], [], [])) (by kernel_rfl) rfl (by kernel_rfl)) ?_
  intro W base args ds gs before hval0 hW _ hk _
  have hval : ∀ (j : Nat) t v, Try.f3.params[j]? = some t → args[j]? = some v → Value.okWide Try.prog W .any base t v := hval0
  have hW' := hW
  obtain ⟨p, q, hA0, hV, rfl, _, _⟩ := hW
  have hA : DataW.TrodAll enc Try.prog W 0 (fun _ => true) true Try.f3.params.toList args.toList ds p := hA0
  rw [Try.params3] at hA hval
  obtain ⟨v0, d0, rfl, rfl, h0⟩ := trodAll_one hA
  obtain ⟨rfl, rfl⟩ := trodVars_none hV
  obtain ⟨A0, n0, c0, ls0, rfl, hh0, hb0, hk0, hu0⟩ := open_secs (hval 0 22 v0 rfl rfl) h0
  exact (walk A0 n0 c0 ls0 W hh0 hb0 hk0 (Nat.le_trans hu0 (upto_part hk (by simp)))).mono fun e W' he =>
    law_post rfl rfl (by rw [Try.params3]; intro t ht; simp at ht; subst ht; exact ⟨by kernel_rfl, of_decide_eq_true (by kernel_rfl)⟩) hW' rfl he

theorem proved : Rows.FrameWritesUptoSaid :=
  OpenClaim.holds_of_cond 3 Try.f3 rfl rfl rfl rfl rfl rfl rfl ⟨rfl, rfl, rfl, rfl, rfl⟩ rfl rfl rfl rfl rfl (by kernel_rfl) Try.func3 (by kernel_rfl)
    (of_decide_eq_true (by kernel_rfl)) (by unfold Func.isWrapper; first | (rw [if_pos (by decide +kernel)]; kernel_rfl) | (rw [if_neg (by decide +kernel)]; exact ⟨rfl, rfl⟩))
    (fun os started H enc _ F => lifted os started H enc F)
end Go.Proofs.Ytbmdgoljjffjdaa.frameWrites
