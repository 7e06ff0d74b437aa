/- LevelJoins holds for every input: the greater of two levels is above both, and under what both are under; a level is under itself, and under what is higher. No condition. -/
import Derived.Test.YtdpannjnhhjicaaLJoins
import Derived.Carry
namespace Go.Proofs.Ytdpannjnhhjicaa
open Go.ChangeShapes Go.WideShapes Go.ChangeAt Go.RowKit

set_option maxRecDepth 100000 in
theorem levelJoins_lifted (os : Os) (started : os.Started) (H : Type) (enc : TypeId × Value → H) :
    ReturnsInHanded {} Try.checked os 9 .any (Rows.levelJoinsSpec.pre6 enc Try.prog Try.f9 Rows.levelJoinsRow.domain false) (Rows.levelJoinsSpec.post enc Try.prog Try.f9 false true false false) := by
  refine returnsInHanded_of_change (C := Try.checked) Try.own started (by kernel_rfl) Try.func9
    (ChangeSpec.witness6 (enc := enc) (C := Try.checked) false ⟨#[], #[.agg #[.int .i64 0, .slice none 0 0, .slice none 0 0, .int .i64 0, .int .i64 0], .slice none 0 0, .slice none 0 0, .slice none 0 0], []⟩ 8 (by kernel_rfl) (by kernel_rfl) (by kernel_rfl) (by kernel_rfl)) ?_
  intro W base args ds gs before hval0 hW hcnd _
  have hval : ∀ (j : Nat) t v, Try.f9.params[j]? = some t → args[j]? = some v → Value.okWide Try.prog W .any base t v := hval0
  have hW' := hW
  obtain ⟨p, q, hA0, hV, rfl, hfz, hnd⟩ := hW
  have hA : DataW.TrodAll enc Try.prog W 0 (fun _ => true) true Try.f9.params.toList args.toList ds p := hA0
  have hlt : ∀ x ∈ p, x.block < W.heap.size := fun x hx => by simpa using hW'.lt x (List.mem_append_left _ hx)
  have hkeep : ∀ W', Below W.heap.size W W' → DataW.TrodAll enc Try.prog W' 0 (fun b => decide (b < W.heap.size)) true Try.f9.params.toList args.toList ds p :=
    fun W' hb => trodAll_below Try.laid0 hb (by kernel_rfl) hA hlt
  rw [Try.params9] at hA hval
  obtain ⟨v0, v1, v2, v3, d0, d1, d2, d3, p0, p1, p2, p3, rfl, rfl, rfl, h0, h1, h2, h3⟩ := trodAll_four hA
  obtain ⟨rfl, rfl⟩ := trodVars_none hV
  obtain ⟨A, C, n, k, c, f, x, lo, hi, E, vals, rfl, hn, hs, hE, hWE, hk, hsv, hV, hWV, hx, hlo, hhi⟩ := open_orders5 (hval 0 39 v0 rfl rfl) h0
  obtain ⟨B, na, ca, a, rfl, ha, hWa⟩ := open_level (hval 1 23 v1 rfl rfl) h1
  obtain ⟨D, nb, cb, b, rfl, hb, hWb⟩ := open_level (hval 2 23 v2 rfl rfl) h2
  obtain ⟨F, nd, cd, d, rfl, hd, hWd⟩ := open_level (hval 3 23 v3 rfl rfl) h3
  clear hA0 hval0 hcnd
  refine (ljoins_any A B C D F _ c _ f _ ca _ cb _ cd x lo hi E a b d W hn hE ha hWa hb hWb hd hWd).mono fun e W' ⟨he, hb⟩ => ?_
  subst he
  exact ⟨_, rfl, _, _, _, [], _, [], hW', trodAll_mk1 (shut_bool Try.underlying4 true), hkeep W' hb, rfl, hb.frame _, fun h => by cases h⟩

/-- LevelJoins: whatever the input, it answers true, and the input reads as it did. -/
theorem levelJoins_holds : Rows.LevelJoinsSaid :=
  OpenClaim.holds_of_wide 9 Try.f9 rfl rfl rfl rfl rfl rfl rfl ⟨rfl, rfl, rfl, rfl, rfl⟩ rfl rfl rfl rfl rfl (by kernel_rfl) Try.func9 (by kernel_rfl)
    (of_decide_eq_true (by kernel_rfl)) (by unfold Func.isWrapper; first | (rw [if_pos (by decide +kernel)]; kernel_rfl) | (rw [if_neg (by decide +kernel)]; exact ⟨rfl, rfl⟩))
    (fun os started H enc _ => levelJoins_lifted os started H enc)
end Go.Proofs.Ytdpannjnhhjicaa
