/- lapidarylaw03.known: what the chapter's example fixes; lapidarylaw03.long. -/
import Derived.Test.YtbmdgoljjffjdaaFrameCode
import Derived.Test.YtbmdgoljjffjdaaFrameCut
import Derived.Test.YtbmdgoljjffjdaaRefSame3
namespace Go.Proofs.Ytbmdgoljjffjdaa
open Go.RowKit

set_option maxRecDepth 100000 in
set_option maxHeartbeats 400000 in
theorem known03 (w : World) : Calls Try.prog 9 #[] w fun e w' => e = .returned (.bool true) ∧ Below w.heap.size w w' := by
  have k1 : encN [] = ([76, 80, 68, 89, 1, 0], 0) := rfl
  have k2 : decN [76, 80, 68, 89, 1, 0] = ([], 0) := rfl
  have k3 : decN [76, 81] = ([], 11) := rfl
  go_enter Try.func9, Try.ntmps9
  go_wp2_with fail
  refine (frameEnc_any _ 0 0 [] _ (Secs.none _) (by simp) ⟨by simp, by simp⟩).mono ?_
  rintro e w1 ⟨v1, rfl, ho1, hb1⟩
  rw [k1] at ho1 ⊢
  obtain ⟨A1, c1, rfl, hh1⟩ := ho1.has
  have HH1 := Lib.hid hh1
  have HB1 := Lib.hid hb1
  clear ho1 hh1 hb1 k1
  go_wp2_with fail
  refine (frameDec_any _ 6 6 [76, 80, 68, 89, 1, 0] _ (by exact Has.new _ _ _) (by decide) (by decide)).mono ?_
  rintro e w2 ⟨A2, c2, rfl, _, hb2⟩
  rw [k2]
  have HK2 := Lib.hid (HH1.out.kept (new_call (new_alloc (Below.refl _ _) _) hb2))
  have HB2 := Lib.hid (new_call HB1.out (new_call (new_alloc (Below.refl _ _) _) hb2))
  clear hb2 k2 HH1
  go_wp2_with fail
  refine (frameDec_any _ 2 2 [76, 81] _ (by exact Has.new _ _ _) (by decide) (by decide)).mono ?_
  rintro e w3 ⟨A3, c3, rfl, _, hb3⟩
  rw [k3]
  have HK3 := Lib.hid (HK2.out.kept (new_call (new_alloc (Below.refl _ _) _) hb3))
  have HB3 := Lib.hid (new_call HB2.out (new_call (new_alloc (Below.refl _ _) _) hb3))
  clear hb3 k3 HK2
  go_wp2_with fail
  refine (same_any _ _ _ _ _ _ [76, 80, 68, 89, 1, 0] [76, 80, 68, 89, 1, 0] _ (HK3.out.alloc _) (by exact Has.new _ _ _) (by decide) (by decide)).mono ?_
  rintro e w' ⟨rfl, rfl⟩
  go_wp2
  go_ret
  exact ⟨rfl, new_alloc HB3.out _⟩

/-- More than is looked at? -/
def longB (l : List Sec) : Bool := decide (1500 < l.length + (l.map fun s => s.2.length).sum)
theorem sum_snoc {l : List Sec} {i : Nat} (h : i < l.length) : ((l.take (i + 1)).map fun s => s.2.length).sum = ((l.take i).map fun s => s.2.length).sum + l[i].2.length := by
  rw [List.take_succ_eq_append_getElem h, List.map_append, List.sum_append]; simp
set_option maxRecDepth 100000 in
theorem long_any (A : Option Addr) (n c : Nat) (l : List Sec) (w : World) (h : Secs w A n c l) (hu : l.length + (l.map fun s => s.2.length).sum ≤ 1048576) :
    Calls Try.prog 8 #[.slice A n c] w fun e w' => e = .returned (.bool (longB l)) ∧ w = w' := by
  have HL := Lib.hid h.len
  have HH := Lib.hid h
  have hn : n ≤ 1048576 := by have := h.len; omega
  clear h
  go_enter Try.func8, Try.ntmps8
  go_wp2
  go_loopg [3, 4] n (fun g s3 s4 wx => ∃ i : Nat, i + g = n ∧ s4 = .int .i64 i ∧ s3 = .int .i64 (((i + ((l.take i).map fun s => s.2.length).sum : Nat)) : Int) ∧ w = wx)
  case atStart => exact ⟨0, by omega, rfl, by simp, rfl⟩
  case round =>
    obtain ⟨i, hig, rfl, rfl, rfl⟩ := hrel
    have hst := sum_take l i
    by_cases hi : i < n
    · have hil : i < l.length := by rw [HL.out]; exact hi
      obtain ⟨b, off, A', n', c', rfl, _, hl', hrow⟩ := HH.out.at_ hil
      obtain ⟨hy1, hc2, hy3⟩ := hrow _ (Below.refl _ _)
      have HX := Lib.hid (sum_snoc hil)
      rw [hl'] at HX
      have hst2 := sum_take l (i + 1)
      rw [HX.out] at hst2
      have ti : decide ((i : Int) < (n : Int)) = true := by simp; omega
      clear hrow hl' hy1 hy3 hil
      generalize ((l.take i).map fun s => s.2.length).sum = q at *
      generalize (l.map fun s => s.2.length).sum = Q at *
      go_wp2
      go_roundg (gk - 1)
      case measure => omega
      case rel => exact ⟨i + 1, by omega, by go_num, by rw [HX.out]; congr 1; omega, rfl⟩
    · have ti : decide ((i : Int) < (n : Int)) = false := by simp; omega
      have HE : Hid (longB l = decide ((1500 : Int) < ((i + ((l.take i).map fun s => s.2.length).sum : Nat) : Int))) := by
        show _ = _
        have e : i = l.length := by rw [HL.out]; omega
        unfold longB
        rw [e, List.take_length]
        simp only [decide_eq_decide]
        omega
      generalize ((l.take i).map fun s => s.2.length).sum = q at *
      go_wp2
      go_ret
      exact ⟨ret_bool (by rw [HE.out]; simp), rfl⟩
/-- The sum as the machine has it. -/
def wrapSum : Int → List Sec → Int
  | z, [] => z
  | z, s :: l => wrapSum (wrap64 (wrap64 (z + 1) + (s.2.length : Int))) l
theorem wrapSum_snoc (l : List Sec) (s : Sec) : ∀ z, wrapSum z (l ++ [s]) = wrap64 (wrap64 (wrapSum z l + 1) + (s.2.length : Int)) := by
  induction l with
  | nil => intro z; rfl
  | cons t l ih => intro z; exact ih _
theorem wrapSum_small (l : List Sec) : ∀ z : Nat, z + l.length + (l.map fun s => s.2.length).sum ≤ 4611686018427387904 → wrapSum (z : Int) l = ((z + l.length + (l.map fun s => s.2.length).sum : Nat) : Int) := by
  induction l with
  | nil => intro z _; simp [wrapSum]
  | cons s l ih =>
    intro z h
    simp only [List.length_cons, List.map_cons, List.sum_cons] at h ⊢
    have e : wrap64 (wrap64 ((z : Int) + 1) + (s.2.length : Int)) = ((z + 1 + s.2.length : Nat) : Int) := by
      unfold wrap64; omega
    rw [wrapSum, e, ih _ (by omega)]
    omega
def longW (l : List Sec) : Bool := decide (1500 < wrapSum 0 l)
theorem longW_small {l : List Sec} (h : l.length + (l.map fun s => s.2.length).sum ≤ 4611686018427387904) : longW l = longB l := by
  unfold longW longB
  have := wrapSum_small l 0 (by omega)
  simp only [Int.natCast_zero] at this
  rw [this]
  simp only [decide_eq_decide]
  omega
set_option maxRecDepth 100000 in
theorem long_all (A : Option Addr) (n c : Nat) (l : List Sec) (w : World) (h : Secs w A n c l) (hn : n ≤ 9223372036854775807) :
    Calls Try.prog 8 #[.slice A n c] w fun e w' => e = .returned (.bool (longW l)) ∧ w = w' := by
  have HL := Lib.hid h.len
  have HH := Lib.hid h
  clear h
  go_enter Try.func8, Try.ntmps8
  go_wp2
  go_loopg [3, 4] n (fun g s3 s4 wx => ∃ i : Nat, i + g = n ∧ s4 = .int .i64 i ∧ s3 = .int .i64 (wrapSum 0 (l.take i)) ∧ w = wx)
  case atStart => exact ⟨0, by omega, rfl, rfl, rfl⟩
  case round =>
    obtain ⟨i, hig, rfl, rfl, rfl⟩ := hrel
    by_cases hi : i < n
    · have hil : i < l.length := by rw [HL.out]; exact hi
      obtain ⟨b, off, A', n', c', rfl, _, hl', hrow⟩ := HH.out.at_ hil
      obtain ⟨hy1, hc2, hy3⟩ := hrow _ (Below.refl _ _)
      have HX : Hid (wrapSum 0 (l.take (i + 1)) = wrap64 (wrap64 (wrapSum 0 (l.take i) + 1) + (n' : Int))) := by
        show _ = _
        rw [List.take_succ_eq_append_getElem hil, wrapSum_snoc, hl']
      have ti : decide ((i : Int) < (n : Int)) = true := by simp; omega
      clear hrow hl' hy1 hy3 hil
      generalize wrapSum 0 (l.take i) = z at *
      go_wp2
      go_roundg (gk - 1)
      case measure => omega
      case rel => exact ⟨i + 1, by omega, by go_num, by rw [HX.out], rfl⟩
    · have ti : decide ((i : Int) < (n : Int)) = false := by simp; omega
      have HE : Hid (longW l = decide ((1500 : Int) < wrapSum 0 (l.take i))) := by
        show _ = _
        unfold longW
        rw [List.take_of_length_le (by rw [HL.out]; omega)]
      generalize wrapSum 0 (l.take i) = z at *
      go_wp2
      go_ret
      exact ⟨ret_bool (by rw [HE.out]), rfl⟩
end Go.Proofs.Ytbmdgoljjffjdaa
