/- A row of bytes out of its numbers. -/
import Derived.Test.YtbmdgoljjffjdaaLaw
import Derived.SizedLaws
namespace Go.Proofs.Ytbmdgoljjffjdaa
open Go.ChangeShapes Go.WideShapes Go.ChangeAt Go.RowKit

theorem row_has {W : World} {A : Option Addr} {n c : Nat} {zs : List Int} (hl : n ≤ c) (hz : zs.length = c) (hwf : ∀ z ∈ zs, (Lit.int .u8 z).wf = true) (h0 : A = none → c = 0)
    (hc : ∀ a, A = some a → ∀ j, j < c → W.cell? (a.add j) = some (.int .u8 (zs.getD j 0))) : Has W A n c (u8s ((zs.take n).map Int.toNat)) ∧ ∀ x ∈ (zs.take n).map Int.toNat, x < 256 := by
  have hk : ∀ z : Int, (Lit.int .u8 z).wf = true → 0 ≤ z ∧ z < 256 := fun z hz => by simp [Lit.wf, IntKind.min, IntKind.max, IntKind.signed, IntKind.bits] at hz; omega
  refine ⟨⟨by rw [u8s_len]; simp; omega, hl, h0, fun hn => ?_⟩, fun x hx => ?_⟩
  · cases A with
    | none => have := h0 rfl; omega
    | some a =>
      have hcell := hc a rfl
      obtain ⟨b, off, spot⟩ := a
      have hspot : spot = none := by simpa [Addr.add] using World.cell?_spot (hcell 0 (by omega))
      subst hspot
      refine ⟨b, off, rfl, World.block_lt_of_cell? W _ (hcell 0 (by omega)), fun j u hu => ?_⟩
      have hj : j < n := by
        rcases Nat.lt_or_ge j n with hj | hj
        · exact hj
        · rw [List.getElem?_eq_none (by rw [u8s_len]; simp; omega)] at hu; cases hu
      have hjz : j < zs.length := by omega
      have h0 := (hk _ (hwf zs[j] (List.getElem_mem hjz))).1
      rw [← add_plain, hcell j (by omega)]
      simp [u8s, hj, hjz] at hu
      rw [← hu]
      simp [hjz]; omega
  · obtain ⟨z, hz', rfl⟩ := List.mem_map.1 hx
    have := hk z (hwf z (List.mem_of_mem_take hz'))
    omega
/-- A row of bytes that came in, within the form's reach. -/
theorem open_bytes_sized {H : Type} {enc : TypeId × Value → H} {W : World} {base : Nat} {v : Value} {d : DataW H} {p : List MemPlace} (hv : Value.okWide Try.prog W .any base 25 v)
    (h : DataW.Trod enc Try.prog W 0 (fun _ => true) true 25 v d p) (hw : ∀ m ∈ d.weights Try.prog 25, m ≤ reachBytes) :
    ∃ A n c bs, v = .slice A n c ∧ Has W A n c (u8s bs) ∧ (∀ x ∈ bs, x < 256) ∧ n ≤ 140737488355328 := by
  obtain ⟨A, n, c, rfl⟩ := okWide_slice Try.underlying25 hv
  obtain ⟨fuel, hf⟩ := h
  rcases open_ints Try.underlying25 Try.underlying5 (by kernel_rfl) hf with ⟨hcs, hx⟩ | ⟨a, len', cap', zs, hcs, _, hl, hm, hz, hx, hcell, hwz⟩
  · simp [Value.cells] at hcs
    obtain ⟨rfl, rfl, rfl⟩ := hcs
    exact ⟨_, _, _, [], rfl, Has.none _ _ _ (fun _ => rfl), by simp, by omega⟩
  · simp [Value.cells] at hcs
    obtain ⟨rfl, rfl, rfl⟩ := hcs
    simp only [if_true] at hz
    obtain ⟨h1, h2⟩ := row_has (A := some a) hl hz hwz (fun h => by cases h) (fun a' ha j hj => by cases ha; exact hcell j (by omega))
    refine ⟨_, _, _, _, rfl, h1, h2, ?_⟩
    simp only [Prod.mk.injEq] at hx
    obtain ⟨rfl, _⟩ := hx
    have hb : Try.prog.bytesOf 5 = 1 := by kernel_rfl
    have := hw (((zs.take n).length + (zs.drop n).length) * 1) (by simp [DataW.weights, Try.underlying25, hb, lits])
    have hrb := reachBytes_lt
    have e : (2 : Nat) ^ 47 = 140737488355328 := by decide
    simp only [List.length_take, List.length_drop] at this
    omega
end Go.Proofs.Ytbmdgoljjffjdaa
