/- Arguments that are slices of words, opened, with what nil is. -/
import Derived.Test.YtegbhenchmfngaaOpen
namespace Go.Proofs.Ytegbhenchmfngaa
open Go.ChangeShapes Go.WideShapes Go.ChangeAt Go.RowKit

section
variable {H : Type} {enc : TypeId × Value → H}
theorem open_nat2 {W : World} {base : Nat} {v : Value} {d : DataW H} {p : List MemPlace} (hv : Value.okWide Try.prog W .any base 23 v) (h : DataW.Trod enc Try.prog W 0 (fun _ => true) true 23 v d p) :
    ∃ A n c N, v = .slice A n c ∧ (A = none → n = 0 ∧ c = 0) ∧ IsNat W A n N := by
  obtain ⟨A, n, c, rfl⟩ := okWide_slice Try.underlying23 hv
  obtain ⟨fuel, hf⟩ := h
  rcases open_ints Try.underlying23 Try.underlying44 Try.cells44 hf with ⟨hcs, _⟩ | ⟨a, len, cap, zs, hcs, _, _, _, hz, _, hcell, hwz⟩
  · simp [Value.cells] at hcs
    obtain ⟨rfl, rfl, rfl⟩ := hcs
    exact ⟨none, 0, 0, 0, rfl, fun _ => ⟨rfl, rfl⟩, IsNat.nil _ _⟩
  · simp [Value.cells] at hcs
    obtain ⟨rfl, rfl, rfl⟩ := hcs
    simp only [if_true] at hz
    have hwf : ∀ j, j < n → 0 ≤ zs.getD j 0 ∧ zs.getD j 0 < 4294967296 := by
      intro j hj
      have hmem : zs.getD j 0 ∈ zs := by
        rw [List.getD_eq_getElem?_getD, List.getElem?_eq_getElem (by omega)]
        exact List.getElem_mem _
      have hw := hwz _ hmem
      have h1 : IntKind.u32.min = 0 := rfl
      have h2 : IntKind.u32.max = 4294967295 := rfl
      simp only [Lit.wf, Bool.and_eq_true, decide_eq_true_eq] at hw
      omega
    refine ⟨some a, n, c, Nt.ofDigs (fun j => (zs.getD j 0).toNat) n, rfl, fun h => (by cases h), Nt.ofDigs_lt (fun j hj => ?_), fun hn => ?_⟩
    · have := hwf j hj
      rw [Nt.K_eq]
      omega
    · obtain ⟨b, off, spot⟩ := a
      have hspot : spot = none := by simpa [Addr.add] using World.cell?_spot (hcell 0 (by omega))
      subst hspot
      refine ⟨b, off, rfl, fun j hj => ?_⟩
      have hc := hcell j (by omega)
      rw [add_off] at hc
      rw [hc, Nt.ofDigs_dig_le (fun j hj => by have := hwf j hj; rw [Nt.K_eq]; omega) j hj]
      have := hwf j hj
      rw [Int.toNat_of_nonneg this.1]
end
end Go.Proofs.Ytegbhenchmfngaa
