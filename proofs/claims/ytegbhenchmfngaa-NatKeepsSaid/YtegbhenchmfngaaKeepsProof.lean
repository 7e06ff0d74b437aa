/- NatKeeps holds for every input: what is handed in stays, spare room too; what is answered is new memory. No condition. -/
import Derived.Test.YtegbhenchmfngaaOpen2
import Derived.Test.YtegbhenchmfngaaKeeps
namespace Go.Proofs.Ytegbhenchmfngaa
open Go.ChangeShapes Go.WideShapes Go.ChangeAt Go.RowKit

set_option maxRecDepth 100000 in
theorem natKeeps_lifted (os : Os) (started : os.Started) (H : Type) (enc : TypeId × Value → H) :
    ReturnsInHanded {} Try.checked os 11 .any (Rows.natKeepsSpec.pre6 enc Try.prog Try.f11 Rows.natKeepsRow.domain false) (Rows.natKeepsSpec.post enc Try.prog Try.f11 false true false false) := by
  refine returnsInHanded_of_change (C := Try.checked) Try.own started (by kernel_rfl) Try.func11
    (ChangeSpec.witness6 (enc := enc) (C := Try.checked) false ⟨#[], #[.slice none 0 0, .slice none 0 0, .int .i8 0], []⟩ 8 (by kernel_rfl) (by kernel_rfl) (by kernel_rfl) (by kernel_rfl)) ?_
  intro W base args ds gs before hval0 hW hcnd _
  have hval : ∀ (j : Nat) t v, Try.f11.params[j]? = some t → args[j]? = some v → Value.okWide Try.prog W .any base t v := hval0
  have hW' := hW
  obtain ⟨p, q, hA0, hV, rfl, hfz, hnd⟩ := hW
  have hA : DataW.TrodAll enc Try.prog W 0 (fun _ => true) true Try.f11.params.toList args.toList ds p := hA0
  have hlt : ∀ x ∈ p, x.block < W.heap.size := fun x hx => by simpa using hW'.lt x (List.mem_append_left _ hx)
  have hkeep : ∀ W', Below W.heap.size W W' → DataW.TrodAll enc Try.prog W' 0 (fun b => decide (b < W.heap.size)) true Try.f11.params.toList args.toList ds p :=
    fun W' hb => trodAll_below Try.laidOut hb (by kernel_rfl) hA hlt
  rw [Try.params11] at hA hval
  obtain ⟨v0, v1, v2, d0, d1, d2, p0, p1, p2, rfl, rfl, rfl, h0, h1, h2⟩ := trodAll_three hA
  obtain ⟨rfl, rfl⟩ := trodVars_none hV
  obtain ⟨A, n, c, M, rfl, hAn, hM⟩ := open_nat2 (hval 0 23 v0 rfl rfl) h0
  obtain ⟨B, m, d, N, rfl, hBn, hN⟩ := open_nat2 (hval 1 23 v1 rfl rfl) h1
  obtain ⟨z, rfl, _, _, wz⟩ := open_int Try.underlying48 (hval 2 48 v2 rfl rfl) h2
  have hz : -128 ≤ z ∧ z ≤ 127 := by
    have hmin : IntKind.i8.min = -128 := rfl
    have hmax : IntKind.i8.max = 127 := rfl
    simp only [Lit.wf, Bool.and_eq_true, decide_eq_true_eq] at wz
    omega
  clear hA0 hval0 hcnd
  refine (keeps_any A B n c m d M N z W hM hN hAn hBn hz.1 hz.2).mono fun e W' ⟨he, hb⟩ => ?_
  subst he
  exact ⟨_, rfl, _, _, _, [], _, [], hW', trodAll_mk1 (shut_bool Try.underlying4 true), hkeep W' hb, rfl, hb.frame _, fun h => by cases h⟩

/-- NatKeeps: whatever the input, it answers true, and the input reads as it did. -/
theorem natKeeps_holds : Rows.NatKeepsSaid :=
  OpenClaim.holds_of_wide 11 Try.f11 rfl rfl rfl rfl rfl rfl rfl ⟨rfl, rfl, rfl, rfl, rfl⟩ rfl rfl rfl rfl rfl (by kernel_rfl) Try.func11 (by kernel_rfl)
    (of_decide_eq_true (by kernel_rfl)) (by unfold Func.isWrapper; first | (rw [if_pos (by decide +kernel)]; kernel_rfl) | (rw [if_neg (by decide +kernel)]; exact ⟨rfl, rfl⟩))
    (fun os started H enc _ => natKeeps_lifted os started H enc)
end Go.Proofs.Ytegbhenchmfngaa
