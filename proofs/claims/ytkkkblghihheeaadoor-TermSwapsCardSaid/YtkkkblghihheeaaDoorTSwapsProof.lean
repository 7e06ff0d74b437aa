/- TermSwaps holds for every input, where the program's table of limits is what its text says (the tied card): of two substitutions the second may come first. -/
import Derived.Test.YtkkkblghihheeaaDoorTLaw9
import Derived.Test.YtkkkblghihheeaaDoorTOpen
import Derived.Test.YtkkkblghihheeaaDoorTie
import Derived.Test.YtkkkblghihheeaaDoorCards
import Derived.Stop.Joined
namespace Go.Proofs.YtkkkblghihheeaaDoor
open Go.ChangeShapes Go.WideShapes Go.ChangeAt Go.RowKit

set_option maxRecDepth 100000 in
theorem termSwaps_lifted (os : Os) (started : os.Started) (H : Type) (enc : TypeId × Value → H) :
    ReturnsInHanded {} Tryd.checked os 9 .any (fun w args => (Rows.termSwapsSpec.pre enc Tryd.prog Tryd.f9 [] false w args ∧ laidMetH Tryd.prog laidV w) ∧ sizedMet enc Tryd.prog Tryd.f9 (OpenSpec.ofChange Rows.termSwapsSpec) false w args)
      (Rows.termSwapsSpec.post enc Tryd.prog Tryd.f9 false true false false) := by
  refine returnsInHanded_of_change_and (C := Tryd.checked) (X := fun w _ => laidMetH Tryd.prog laidV w) (fun _ _ _ hh h => h.of_heap hh) Tryd.own started (by kernel_rfl) Tryd.func9
    (ChangeSpec.witness_shaped (enc := enc) (C := Tryd.checked) (os := os) (X := fun w _ => laidMetH Tryd.prog laidV w) false (World.doorLaid Tryd.prog 400 os) #[.slice none 0 0, .slice none 0 0, .slice none 0 0] 8 rfl (World.shaped_of_RefB (by kernel_rfl) (by kernel_rfl)) (by kernel_rfl) (by kernel_rfl) (by kernel_rfl) (door_met os _)) ?_
  intro W base args ds gs before hval0 hW _ _ hL _
  have hval : ∀ (j : Nat) t v, Tryd.f9.params[j]? = some t → args[j]? = some v → Value.okWide Tryd.prog W .any base t v := hval0
  have hW' := hW
  obtain ⟨p, q, hA0, hV, rfl, hfz, hnd⟩ := hW
  have hA : DataW.TrodAll enc Tryd.prog W 0 (fun _ => true) true Tryd.f9.params.toList args.toList ds p := hA0
  have hlt : ∀ x ∈ p, x.block < W.heap.size := fun x hx => by simpa using hW'.lt x (List.mem_append_left _ hx)
  have hkeep : ∀ W', Below W.heap.size W W' → DataW.TrodAll enc Tryd.prog W' 0 (fun b => decide (b < W.heap.size)) true Tryd.f9.params.toList args.toList ds p :=
    fun W' hb => trodAll_below Tryd.laidOut hb (by kernel_rfl) hA hlt
  rw [Tryd.params9] at hA hval
  obtain ⟨v0, v1, v2, d0, d1, d2, p0, p1, p2, rfl, rfl, rfl, g0, g1, g2⟩ := trodAll_three hA
  obtain ⟨rfl, rfl⟩ := trodVars_none hV
  obtain ⟨A0, c0, l0, rfl, s0, h0, -⟩ := open_nodes (hval 0 23 v0 rfl rfl) g0
  obtain ⟨A1, c1, l1, rfl, s1, h1, -⟩ := open_nodes (hval 1 23 v1 rfl rfl) g1
  obtain ⟨A2, c2, l2, rfl, s2, h2, -⟩ := open_nodes (hval 2 23 v2 rfl rfl) g2
  have hLim := lim_of_laid hL
  clear hA0 hval0 hL
  refine (tswaps_any A0 A1 A2 _ c0 _ c1 _ c2 l0 l1 l2 W rfl s0 h0 rfl s1 h1 rfl s2 h2 hLim).mono fun e W' ⟨he, hb⟩ => ?_
  subst he
  exact ⟨_, rfl, _, _, _, [], _, [], hW', trodAll_mk1 (shut_bool Tryd.underlying4 true), hkeep W' hb, rfl, hb.frame _, fun h => by cases h⟩
/-- TermSwaps: whatever the input, it answers true, and the input reads as it did. -/
theorem termSwaps_row : Rows.TermSwapsSaid :=
  OpenClaim.holds_of_wide 9 Tryd.f9 rfl rfl rfl rfl rfl rfl rfl ⟨rfl, rfl, rfl, rfl, rfl⟩ rfl rfl rfl rfl rfl (by kernel_rfl) Tryd.func9 (by kernel_rfl)
    (of_decide_eq_true (by kernel_rfl)) (by unfold Func.isWrapper; first | (rw [if_pos (by decide +kernel)]; kernel_rfl) | (rw [if_neg (by decide +kernel)]; exact ⟨rfl, rfl⟩))
    (fun os started H enc _ => termSwaps_lifted os started H enc)
/-- The card: the variable limits is tied to the program's text. -/
theorem termSwaps_holds : Rows.TermSwapsCardSaid :=
  Claim7.holds_tied_plain_at .later [] [.data] true _ true termSwaps_row (fun _ h => by cases h) (by kernel_rfl) (fun _ h => by cases h) termSwaps_row_tie rfl ⟨rfl, rfl⟩ (by kernel_rfl) rfl
    (fun f fn hf hfn => by
      obtain rfl : f = 9 := Option.some.inj ((show Tryd.prog.funcNamed "retort/retortlaw04.TermSwaps" = some 9 by kernel_rfl).symm.trans hf) |>.symm
      obtain rfl : fn = Tryd.f9 := (Option.some.inj (Tryd.func9.symm.trans hfn)).symm
      exact ⟨by kernel_rfl, fun j t ht => by
        rw [Tryd.params9] at ht
        have hm : t ∈ [23, 23, 23] := by simpa using Array.mem_of_getElem? ht
        have hall : ([23, 23, 23].all fun u => !Tryd.prog.wantsStandIn u) = true := by kernel_rfl
        exact (show Tryd.prog.wantsStandIn t = false by simpa using List.all_eq_true.1 hall t hm)⟩)
    (by kernel_rfl)
end Go.Proofs.YtkkkblghihheeaaDoor
