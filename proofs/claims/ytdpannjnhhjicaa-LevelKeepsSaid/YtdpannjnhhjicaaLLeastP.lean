/- The least values meet the orders, and are least (lists and numbers alone). -/
import Derived.Test.YtdpannjnhhjicaaLSoundP
namespace Go.Proofs.Ytdpannjnhhjicaa

theorem dist_bd {n : Nat} {E : List Ord3} {d : Dist} (h : distS n E = some d) : IsDist n E d ∧ RightE n E ∧ BdD 200000000 d := by
  obtain ⟨hf, hn, hl, hE⟩ := dist_some h
  have hr : reckD n (toldD n E) (n + 1) = some d := by rw [← h]; simp [distS, hf]
  obtain ⟨h1, h2, _⟩ := (check_iff hE hn hl).1 d hr
  exact ⟨h1, hE, h2⟩
theorem least_small {n : Nat} {E : List Ord3} {d : Dist} (h : distS n E = some d) : ∀ x ∈ leastD n d, 0 ≤ x ∧ x ≤ 200000000 := by
  intro x hx
  obtain ⟨hD, hE, hB⟩ := dist_bd h
  refine ⟨leastD_nonneg hD x hx, ?_⟩
  obtain ⟨i, hi, rfl⟩ := List.mem_map.1 hx
  cases hk : d 0 ((i : Int) + 1) with
  | none => simp
  | some g => exact (hB _ _ _ hk).2
theorem least_wide {n : Nat} {E : List Ord3} {d : Dist} (h : distS n E = some d) : WideI (leastD n d) := fun x hx => by
  have := least_small h x hx
  exact ⟨by omega, by omega⟩
theorem valOf_least {n : Nat} {E : List Ord3} {d : Dist} (h : distS n E = some d) (v : Int) : 0 ≤ valOf (leastD n d) v ∧ valOf (leastD n d) v ≤ 200000000 := by
  unfold valOf
  split
  · rw [List.getD_eq_getElem?_getD, List.getElem?_eq_getElem (by omega), Option.getD_some]
    exact least_small h _ (List.getElem_mem _)
  · omega
theorem least_meets {n : Nat} {E : List Ord3} {d : Dist} (h : distS n E = some d) : meetsS (leastD n d) E = true := by
  obtain ⟨hD, hE, hB⟩ := dist_bd h
  have hM := leastD_meets hE hD
  unfold meetsS
  rw [Bool.and_eq_true, List.all_eq_true, List.all_eq_true]
  refine ⟨fun x hx => by simpa using hM.1 x hx, fun o ho => ?_⟩
  have h1 := hM.2 o ho
  have h2 := (hE o ho).2.2
  have h3 := valOf_least h o.1
  have h4 := valOf_least h o.2.2
  have e1 : sumS (leastD n d) o.1 o.2.1 = valOf (leastD n d) o.1 + o.2.1 := IntWalk.wrap64_in _ ⟨by omega, by omega⟩
  have e2 : sumS (leastD n d) o.2.2 0 = valOf (leastD n d) o.2.2 + 0 := IntWalk.wrap64_in _ ⟨by omega, by omega⟩
  unfold meetsO
  rw [decide_eq_true_eq, e1, e2]
  omega
theorem least_le {n : Nat} {E : List Ord3} {d : Dist} {vals : List Int} (h : distS n E = some d) (hs : soundB n E vals = true) {i : Nat} (hi : i < n) : (leastD n d)[i]'(by rw [leastD_length]; exact hi) ≤ valOf vals ((i : Int) + 1) := by
  obtain ⟨_, m, d', hm, hd', hD, _, hM⟩ := sound_tells hs
  obtain rfl : n = m := by omega
  rw [h] at hd'
  cases hd'
  have h1 := leastD_least hD hM (v := (i : Int) + 1) (by omega) (by omega)
  have h2 := leastD_val hD (v := (i : Int) + 1) (by omega) (by omega)
  rw [leastD_get _ _ _ hi, h2]
  exact h1
end Go.Proofs.Ytdpannjnhhjicaa
