/- LevelKeeps holds for every input: what is handed in stays, spare room too; what is answered is new memory. No condition. -/
import Derived.Test.YtdpannjnhhjicaaLKeeps
import Derived.Carry
import Derived.SizedLaws
namespace Go.Proofs.Ytdpannjnhhjicaa
open Go.ChangeShapes Go.WideShapes Go.ChangeAt Go.RowKit

theorem Try.bytesAtom : Try.prog.bytesOf 57 = 16 := by kernel_rfl
/-- A level takes no more than the reach. -/
theorem level_weight {H : Type} {enc : TypeId × Value → H} {W : World} {A : Option Addr} {n c : Nat} {d : DataW H} {p : List MemPlace} {ts : List TypeId} {ds : List (DataW H)} (hsz : (DataW.weightsEach Try.prog ts ds).all (· ≤ reachBytes) = true) {j : Nat} (ht : ts[j]? = some 23) (hd : ds[j]? = some d)
    (h : DataW.Trod enc Try.prog W 0 (fun _ => true) true 23 (.slice A n c) d p) (hs : Slice A n c) : n ≤ 9000000000000 := by
  obtain ⟨fuel, hf⟩ := h
  rcases Deep.open_slice (cs := [.slice A n c]) Try.underlying23 (by simpa [Value.cells] using hf) with ⟨hcs, _⟩ | ⟨a, len, cap, m, q, D, Pl, hcs, _, hl, hm, hmm, hx, _⟩
  · simp at hcs
    omega
  · simp at hcs
    obtain ⟨rfl, rfl, rfl⟩ := hcs
    simp only [if_true] at hmm
    subst hmm
    have hd2 := congrArg Prod.fst hx
    simp only at hd2
    have := sized_slice hsz ht (hd.trans (congrArg some hd2)) Try.underlying23
    rw [Try.bytesAtom] at this
    simp only [List.length_map, List.length_range, reachBytes] at this
    omega
set_option maxRecDepth 100000 in
theorem levelKeeps_lifted (os : Os) (started : os.Started) (H : Type) (enc : TypeId × Value → H) :
    ReturnsInHanded {} Try.checked os 10 .any (Rows.levelKeepsSpec.pre6 enc Try.prog Try.f10 Rows.levelKeepsRow.domain false) (Rows.levelKeepsSpec.post enc Try.prog Try.f10 false true false false) := by
  refine returnsInHanded_of_change_sized (C := Try.checked) Try.own started (by kernel_rfl) Try.func10
    (ChangeSpec.witness6 (enc := enc) (C := Try.checked) false ⟨#[], #[.slice none 0 0, .slice none 0 0, .agg #[.int .i64 0, .slice none 0 0, .slice none 0 0, .int .i64 0, .int .i64 0]], []⟩ 8 (by kernel_rfl) (by kernel_rfl) (by kernel_rfl) (by kernel_rfl)) ?_
  intro W base args ds gs before hval0 hW hcnd hsz0 _
  have hval : ∀ (j : Nat) t v, Try.f10.params[j]? = some t → args[j]? = some v → Value.okWide Try.prog W .any base t v := hval0
  have hsz : (DataW.weightsEach Try.prog (Try.f10.params.toList ++ Rows.levelKeepsSpec.plain.varTypes Try.prog) (ds ++ gs)).all (· ≤ reachBytes) = true := hsz0
  have hW' := hW
  obtain ⟨p, q, hA0, hV, rfl, hfz, hnd⟩ := hW
  have hA : DataW.TrodAll enc Try.prog W 0 (fun _ => true) true Try.f10.params.toList args.toList ds p := hA0
  have hlt : ∀ x ∈ p, x.block < W.heap.size := fun x hx => by simpa using hW'.lt x (List.mem_append_left _ hx)
  have hkeep : ∀ W', Below W.heap.size W W' → DataW.TrodAll enc Try.prog W' 0 (fun b => decide (b < W.heap.size)) true Try.f10.params.toList args.toList ds p :=
    fun W' hb => trodAll_below Try.laid0 hb (by kernel_rfl) hA hlt
  rw [Try.params10] at hA hval hsz
  obtain ⟨v0, v1, v2, d0, d1, d2, p0, p1, p2, rfl, rfl, rfl, h0, h1, h2⟩ := trodAll_three hA
  obtain ⟨rfl, rfl⟩ := trodVars_none hV
  obtain ⟨B, na, ca, a, rfl, ha, hWa⟩ := open_level (hval 0 23 v0 rfl rfl) h0
  obtain ⟨D, nb, cb, b, rfl, hb, hWb⟩ := open_level (hval 1 23 v1 rfl rfl) h1
  obtain ⟨A, C, n, k, c, f, x, lo, hi, E, vals, rfl, hn, hs, hE, hWE, hk, hsv, hV, hWV, hx, hlo, hhi⟩ := open_orders5 (hval 2 39 v2 rfl rfl) h2
  have hreach : na + nb ≤ 9223372036854775807 := by
    have w0 := level_weight hsz (j := 0) rfl rfl h0 ha.2.1
    have w1 := level_weight hsz (j := 1) rfl rfl h1 hb.2.1
    omega
  clear hA0 hval0 hcnd hsz0 hsz
  refine (lkeeps_any A B C D _ c _ f _ ca _ cb x lo hi E a b W hreach hn hs hE ha hWa hb hWb).mono fun e W' ⟨he, hb⟩ => ?_
  subst he
  exact ⟨_, rfl, _, _, _, [], _, [], hW', trodAll_mk1 (shut_bool Try.underlying4 true), hkeep W' hb, rfl, hb.frame _, fun h => by cases h⟩

/-- LevelKeeps: whatever the input, it answers true, and the input reads as it did. -/
theorem levelKeeps_holds : Rows.LevelKeepsSaid :=
  OpenClaim.holds_of_wide 10 Try.f10 rfl rfl rfl rfl rfl rfl rfl ⟨rfl, rfl, rfl, rfl, rfl⟩ rfl rfl rfl rfl rfl (by kernel_rfl) Try.func10 (by kernel_rfl)
    (of_decide_eq_true (by kernel_rfl)) (by unfold Func.isWrapper; first | (rw [if_pos (by decide +kernel)]; kernel_rfl) | (rw [if_neg (by decide +kernel)]; exact ⟨rfl, rfl⟩))
    (fun os started H enc _ => levelKeeps_lifted os started H enc)
end Go.Proofs.Ytdpannjnhhjicaa
