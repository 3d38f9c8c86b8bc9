/- lapidaryref00.Same: the same bytes? The world stays as it is. -/
import Derived.Test.YtbmdgoljjffjdaaMem
namespace Go.Proofs.Ytbmdgoljjffjdaa
open Go.RowKit

/-- Bytes as a string's letters. -/
def strOf (l : List Nat) : ByteArray := strOfNums (l.map fun (x : Nat) => (x : Int))

theorem conv_any {P : Program} (w : World) (src e dst : TypeId) (hs : P.underlying src = some (.slice e)) (he : P.underlying e = some (.int .u8)) (hd : P.underlying dst = some .string)
    (A : Option Addr) (n c : Nat) (l : List Nat) (h : Has w A n c (u8s l)) : (convert src dst (.slice A n c)).run P w = .ok (.string (strOf l)) w := by
  have hlen : l.length = n := by have := h.len; rw [u8s_len] at this; exact this
  by_cases hn : n = 0
  · have hl := List.eq_nil_of_length_eq_zero (show l.length = 0 by omega)
    subst hl; subst hn
    cases A with
    | none =>
      rw [run_convert_bytes_nil w src e hs he 0 c dst hd]
      rfl
    | some a =>
      rw [run_convert_bytes_string w src dst e _ 0 c hs he hd, run_bytesToString w a 0 c [] (by simpa using run_loadCells_list (P := P) w a [] (fun j v hj => by simp at hj))]
      rfl
  · obtain ⟨b, off, rfl, _, hc⟩ := h.spot (by omega)
    refine run_convert_bytes_arg w src e hs he b off n c _ (by simp [hlen]) (fun i hi => ?_) dst hd
    rw [hc i _ (u8s_at (by omega))]
    simp [show i < l.length by omega]

theorem strOf_list (l : List Nat) : (strOf l).toList = l.map UInt8.ofNat := by
  have h : (strOf l).toList = (strOf l).data.toList := ByteArray.toList_eq _
  rw [h]
  simp [strOf, strOfNums]
theorem strOf_inj {l r : List Nat} (hl : ∀ x ∈ l, x < 256) (hr : ∀ x ∈ r, x < 256) (h : (strOf l).toList = (strOf r).toList) : l = r := by
  rw [strOf_list, strOf_list] at h
  have hm : ∀ {x : List Nat}, (∀ y ∈ x, y < 256) → (x.map UInt8.ofNat).map UInt8.toNat = x := by
    intro x hx
    induction x with
    | nil => rfl
    | cons y x ih =>
      simp only [List.map_cons]
      rw [ih fun z hz => hx z (List.mem_cons_of_mem _ hz), UInt8.toNat_ofNat_of_lt' (by have := hx y (List.mem_cons_self ..); simpa using this)]
  rw [← hm hl, ← hm hr, h]

theorem same_any (A B : Option Addr) (n c m d : Nat) (l r : List Nat) (w : World) (hA : Has w A n c (u8s l)) (hB : Has w B m d (u8s r)) (hl : ∀ x ∈ l, x < 256) (hr : ∀ x ∈ r, x < 256) :
    Calls Try.prog 14 #[.slice A n c, .slice B m d] w fun e w' => e = .returned (.bool (decide (l = r))) ∧ w = w' := by
  have k1 := conv_any (P := Try.prog) w 25 5 9 Try.underlying25 Try.underlying5 Try.underlying9 A n c l hA
  have k2 := conv_any (P := Try.prog) w 25 5 9 Try.underlying25 Try.underlying5 Try.underlying9 B m d r hB
  have hq : Hid (((strOf l).toList == (strOf r).toList) = decide (l = r)) := by
    show _ = _
    by_cases h : l = r
    · subst h; simp
    · rw [decide_eq_false h, beq_eq_false_iff_ne]
      exact fun e => h (strOf_inj hl hr e)
  clear hA hB hl hr
  go_enter Try.func14, Try.ntmps14
  go_wp2
  go_ret
  exact ⟨ret_bool hq.out, rfl⟩
end Go.Proofs.Ytbmdgoljjffjdaa
