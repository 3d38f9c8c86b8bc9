/- A slice of rows of bytes that came in, with the form's own reach. -/
import Derived.Test.YtlmecbclnhkmbaaLaw
import Derived.Test.YtlmecbclnhkmbaaGoOn
import Derived.Deep.Matrix
import Derived.SizedLaws
namespace Go.Proofs.Ytlmecbclnhkmbaa
open Go.ChangeShapes Go.WideShapes Go.ChangeAt Go.RowKit

theorem weights_all_mem {H : Type} {P : Program} {e : TypeId} {l : List (DataW H)} {d : DataW H} (h : d ∈ l) : ∀ n ∈ d.weights P e, n ∈ DataW.weightsAll P e l := by
  intro n hn
  induction l with
  | nil => cases h
  | cons x l ih =>
    rw [DataW.weightsAll, List.mem_append]
    rcases List.mem_cons.1 h with rfl | h
    · exact Or.inl hn
    · exact Or.inr (ih h)
theorem row_has {W : World} {A : Option Addr} {n c : Nat} {zs : List Int} (hl : n ≤ c) (hz : zs.length = c) (hwf : ∀ z ∈ zs, (Lit.int .u8 z).wf = true) (h0 : A = none → c = 0)
    (hc : ∀ a, A = some a → ∀ j, j < c → W.cell? (a.add j) = some (.int .u8 (zs.getD j 0))) : Has W A n c (u8s ((zs.take n).map Int.toNat)) ∧ ∀ x ∈ (zs.take n).map Int.toNat, x < 256 := by
  have hk : ∀ z : Int, (Lit.int .u8 z).wf = true → 0 ≤ z ∧ z < 256 := fun z hz => by simp [Lit.wf, IntKind.min, IntKind.max, IntKind.signed, IntKind.bits] at hz; omega
  refine ⟨⟨by rw [u8s_len]; simp; omega, hl, h0, fun hn => ?_⟩, fun x hx => ?_⟩
  · cases A with
    | none => have := h0 rfl; omega
    | some a =>
      have hcell := hc a rfl
      obtain ⟨b, off, spot⟩ := a
      have hspot : spot = none := by simpa [Addr.add] using World.cell?_spot (hcell 0 (by omega))
      subst hspot
      refine ⟨b, off, rfl, World.block_lt_of_cell? W _ (hcell 0 (by omega)), fun j u hu => ?_⟩
      have hj : j < n := by
        rcases Nat.lt_or_ge j n with hj | hj
        · exact hj
        · rw [List.getElem?_eq_none (by rw [u8s_len]; simp; omega)] at hu; cases hu
      have hjz : j < zs.length := by omega
      have h0 := (hk _ (hwf zs[j] (List.getElem_mem hjz))).1
      rw [← add_plain, hcell j (by omega)]
      simp [u8s, hj, hjz] at hu
      rw [← hu]
      simp [hjz]; omega
  · obtain ⟨z, hz', rfl⟩ := List.mem_map.1 hx
    have := hk z (hwf z (List.mem_of_mem_take hz'))
    omega
theorem open_parts {H : Type} {enc : TypeId × Value → H} {W : World} {base : Nat} {v : Value} {d : DataW H} {p : List MemPlace} (hv : Value.okWide Try.prog W .any base 35 v)
    (h : DataW.Trod enc Try.prog W 0 (fun _ => true) true 35 v d p) (hw : ∀ m ∈ d.weights Try.prog 35, m ≤ reachBytes) :
    ∃ A n c ls, v = .slice A n c ∧ Parts W A n c ls ∧ (∀ l ∈ ls, ∀ x ∈ l, x < 256) ∧ n ≤ 140737488355328 ∧ ∀ l ∈ ls, l.length ≤ 140737488355328 := by
  obtain ⟨A, n, c, rfl⟩ := okWide_slice Try.underlying35 hv
  obtain ⟨fuel, hf⟩ := h
  rcases Deep.open_int_rows Try.underlying35 Try.underlying22 Try.underlying5 (by kernel_rfl) (by kernel_rfl) hf with ⟨hcs, _⟩ | ⟨a, len, cap, A', L, C, Z, hcs, _, hl, hm, hx, hrow⟩
  · simp [Value.cells] at hcs
    obtain ⟨rfl, rfl, rfl⟩ := hcs
    exact ⟨_, _, _, [], rfl, Parts.none _, by simp, by omega, by simp⟩
  · simp [Value.cells] at hcs
    obtain ⟨rfl, rfl, rfl⟩ := hcs
    simp only [Prod.mk.injEq] at hx
    obtain ⟨rfl, _⟩ := hx
    have hR : ∀ r, r < n → Has W (A' r) (L r) (C r) (u8s (((Z r).take (L r)).map Int.toNat)) ∧ ∀ x ∈ ((Z r).take (L r)).map Int.toNat, x < 256 := fun r hr => by
      obtain ⟨_, h1, _, h3, h4, h5, h6⟩ := hrow r (by omega)
      exact row_has h1 h3 h4 h5 (fun a' ha j hj => (h6 a' ha).2 j hj)
    refine ⟨_, n, c, (List.range n).map fun r => ((Z r).take (L r)).map Int.toNat, rfl, ⟨(List.range n).map fun r => .slice (A' r) (L r) (C r), ⟨by simp, hl, (fun h => by cases h), fun hn => ?_⟩, by simp, fun i hi => ?_⟩, ?_, ?_, ?_⟩
    · obtain ⟨b, off, spot⟩ := a
      have h0 := (hrow 0 (by omega)).1
      have hspot : spot = none := by simpa [Addr.add] using World.cell?_spot h0
      subst hspot
      refine ⟨b, off, rfl, World.block_lt_of_cell? W _ h0, fun j u hu => ?_⟩
      have hj : j < n := by
        rcases Nat.lt_or_ge j n with hj | hj
        · exact hj
        · rw [List.getElem?_eq_none (by simp; omega)] at hu; cases hu
      have h1 := (hrow j (by omega)).1
      rw [add_plain] at h1
      simp [hj] at hu
      rw [h1, hu]
    · have hi' : i < n := by simpa using hi
      refine ⟨A' i, L i, C i, by simp [hi'], ?_⟩
      simpa using (hR i hi').1
    · intro l hl' x hx
      obtain ⟨r, hr, rfl⟩ := List.mem_map.1 hl'
      exact (hR r (List.mem_range.1 hr)).2 x hx
    · have hb : Try.prog.bytesOf 22 = 24 := by kernel_rfl
      have := hw (((List.range n).map fun r => (Deep.intRow .u8 (A' r) (L r) (Z r) : DataW H)).length * 24 + (c - n) * 24) (by
        simp only [DataW.weights, Try.underlying35, hb]
        rw [← Nat.add_mul]
        simp)
      simp only [List.length_map, List.length_range] at this
      have hrb := reachBytes_lt
      have e : (2 : Nat) ^ 47 = 140737488355328 := by decide
      omega
    · intro l hl'
      obtain ⟨r, hr, rfl⟩ := List.mem_map.1 hl'
      have hr' := List.mem_range.1 hr
      obtain ⟨_, h1, _, h3, _, h5, _⟩ := hrow r (by omega)
      simp only [List.length_map, List.length_take]
      cases hA : A' r with
      | none => have := h5 hA; omega
      | some a' =>
        have hin : (Deep.intRow .u8 (A' r) (L r) (Z r) : DataW H) ∈ (List.range n).map fun r => (Deep.intRow .u8 (A' r) (L r) (Z r) : DataW H) := List.mem_map.2 ⟨r, hr, rfl⟩
        have hin2 : ((Z r).take (L r)).length + ((Z r).drop (L r)).length ∈ (Deep.intRow .u8 (A' r) (L r) (Z r) : DataW H).weights Try.prog 22 := by
          have hb : Try.prog.bytesOf 5 = 1 := by kernel_rfl
          rw [hA]
          simp [Deep.intRow, DataW.weights, Try.underlying22, hb, lits]
        have := hw _ (by
          simp only [DataW.weights, Try.underlying35]
          exact List.mem_cons_of_mem _ (List.mem_append_left _ (weights_all_mem hin _ hin2)))
        have hrb := reachBytes_lt
        simp only [List.length_take, List.length_drop] at this
        have e : (2 : Nat) ^ 47 = 140737488355328 := by decide
        omega
end Go.Proofs.Ytlmecbclnhkmbaa
