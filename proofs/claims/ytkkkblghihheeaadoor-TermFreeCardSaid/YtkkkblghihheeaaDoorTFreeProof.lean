/- TermFree holds for every input, where the program's table of limits is what its text says (the tied card): what is put in a variable's place brings just its own free variables. -/
import Derived.Test.YtkkkblghihheeaaDoorTLaw10
import Derived.Test.YtkkkblghihheeaaDoorTOpen
import Derived.Test.YtkkkblghihheeaaDoorTie
import Derived.Test.YtkkkblghihheeaaDoorCards
import Derived.Stop.Joined
namespace Go.Proofs.YtkkkblghihheeaaDoor
open Go.ChangeShapes Go.WideShapes Go.ChangeAt Go.RowKit

set_option maxRecDepth 100000 in
theorem termFree_lifted (os : Os) (started : os.Started) (H : Type) (enc : TypeId × Value → H) :
    ReturnsInHanded {} Tryd.checked os 10 .any (fun w args => (Rows.termFreeSpec.pre enc Tryd.prog Tryd.f10 [] false w args ∧ laidMetH Tryd.prog laidV w) ∧ sizedMet enc Tryd.prog Tryd.f10 (OpenSpec.ofChange Rows.termFreeSpec) false w args)
      (Rows.termFreeSpec.post enc Tryd.prog Tryd.f10 false true false false) := by
  refine returnsInHanded_of_change_and (C := Tryd.checked) (X := fun w _ => laidMetH Tryd.prog laidV w) (fun _ _ _ hh h => h.of_heap hh) Tryd.own started (by kernel_rfl) Tryd.func10
    (ChangeSpec.witness_shaped (enc := enc) (C := Tryd.checked) (os := os) (X := fun w _ => laidMetH Tryd.prog laidV w) false (World.doorLaid Tryd.prog 400 os) #[.slice none 0 0, .slice none 0 0, .int .u16 0] 8 rfl (World.shaped_of_RefB (by kernel_rfl) (by kernel_rfl)) (by kernel_rfl) (by kernel_rfl) (by kernel_rfl) (door_met os _)) ?_
  intro W base args ds gs before hval0 hW _ _ hL _
  have hval : ∀ (j : Nat) t v, Tryd.f10.params[j]? = some t → args[j]? = some v → Value.okWide Tryd.prog W .any base t v := hval0
  have hW' := hW
  obtain ⟨p, q, hA0, hV, rfl, hfz, hnd⟩ := hW
  have hA : DataW.TrodAll enc Tryd.prog W 0 (fun _ => true) true Tryd.f10.params.toList args.toList ds p := hA0
  have hlt : ∀ x ∈ p, x.block < W.heap.size := fun x hx => by simpa using hW'.lt x (List.mem_append_left _ hx)
  have hkeep : ∀ W', Below W.heap.size W W' → DataW.TrodAll enc Tryd.prog W' 0 (fun b => decide (b < W.heap.size)) true Tryd.f10.params.toList args.toList ds p :=
    fun W' hb => trodAll_below Tryd.laidOut hb (by kernel_rfl) hA hlt
  rw [Tryd.params10] at hA hval
  obtain ⟨v0, v1, v2, d0, d1, d2, p0, p1, p2, rfl, rfl, rfl, g0, g1, g2⟩ := trodAll_three hA
  obtain ⟨rfl, rfl⟩ := trodVars_none hV
  obtain ⟨A0, c0, l0, rfl, s0, h0, -⟩ := open_nodes (hval 0 23 v0 rfl rfl) g0
  obtain ⟨A1, c1, l1, rfl, s1, h1, -⟩ := open_nodes (hval 1 23 v1 rfl rfl) g1
  obtain ⟨x2, rfl, y2, z2⟩ := open_u16 (hval 2 48 v2 rfl rfl) g2
  have hLim := lim_of_laid hL
  clear hA0 hval0 hL
  refine (tfree_law A0 A1 _ c0 _ c1 l0 l1 x2 W rfl s0 h0 rfl s1 h1 hLim y2 z2).mono fun e W' ⟨he, hb⟩ => ?_
  subst he
  exact ⟨_, rfl, _, _, _, [], _, [], hW', trodAll_mk1 (shut_bool Tryd.underlying4 true), hkeep W' hb, rfl, hb.frame _, fun h => by cases h⟩
/-- TermFree: whatever the input, it answers true, and the input reads as it did. -/
theorem termFree_row : Rows.TermFreeSaid :=
  OpenClaim.holds_of_wide 10 Tryd.f10 rfl rfl rfl rfl rfl rfl rfl ⟨rfl, rfl, rfl, rfl, rfl⟩ rfl rfl rfl rfl rfl (by kernel_rfl) Tryd.func10 (by kernel_rfl)
    (of_decide_eq_true (by kernel_rfl)) (by unfold Func.isWrapper; first | (rw [if_pos (by decide +kernel)]; kernel_rfl) | (rw [if_neg (by decide +kernel)]; exact ⟨rfl, rfl⟩))
    (fun os started H enc _ => termFree_lifted os started H enc)
/-- The card: the variable limits is tied to the program's text. -/
theorem termFree_holds : Rows.TermFreeCardSaid :=
  Claim7.holds_tied_plain_at .later [] [.data] true _ true termFree_row (fun _ h => by cases h) (by kernel_rfl) (fun _ h => by cases h) termFree_row_tie rfl ⟨rfl, rfl⟩ (by kernel_rfl) rfl
    (fun f fn hf hfn => by
      obtain rfl : f = 10 := Option.some.inj ((show Tryd.prog.funcNamed "retort/retortlaw04.TermFree" = some 10 by kernel_rfl).symm.trans hf) |>.symm
      obtain rfl : fn = Tryd.f10 := (Option.some.inj (Tryd.func10.symm.trans hfn)).symm
      exact ⟨by kernel_rfl, fun j t ht => by
        rw [Tryd.params10] at ht
        have hm : t ∈ [23, 23, 48] := by simpa using Array.mem_of_getElem? ht
        have hall : ([23, 23, 48].all fun u => !Tryd.prog.wantsStandIn u) = true := by kernel_rfl
        exact (show Tryd.prog.wantsStandIn t = false by simpa using List.all_eq_true.1 hall t hm)⟩)
    (by kernel_rfl)
end Go.Proofs.YtkkkblghihheeaaDoor
