/- One order more, that goes back by what the gap is, makes no cycle (lists and numbers alone). -/
import Derived.Test.YtdpannjnhhjicaaLLeastP
namespace Go.Proofs.Ytdpannjnhhjicaa

theorem fault_snoc {m : Nat} {E : List Ord3} {o : Ord3} (hf : faultS m E = 0) (hl : E.length ≤ 63) (ho : okO m o = true) : faultS m (E ++ [o]) = 0 := by
  obtain ⟨n, hn, hn2, hl2, hE⟩ := faultS_ok hf
  unfold faultS at hf ⊢
  split at hf
  · rename_i h1
    rw [if_pos h1]
    split at hf
    · omega
    · split at hf
      · rename_i h2 h3
        rw [if_neg (by rw [List.length_append]; simp; omega), if_pos (by rw [List.all_append, h3]; simp [ho])]
      · omega
  · omega
theorem tight_err {m : Nat} {E : List Ord3} {d : Dist} (hd : distS m E = some d) (hl : E.length ≤ 63) {i j : Nat} (hi : i ≤ m) (hj : j ≤ m) {y : Int} (hy0 : -1000 ≤ y) (hy1 : y ≤ 1000) (hy : ∀ g, gapS m E i j = some g → y = -g) : errS m (E ++ [((j : Int), y, (i : Int))]) = 0 := by
  obtain ⟨hf, hm, _, _⟩ := dist_some hd
  obtain ⟨hD, hE, _⟩ := dist_bd hd
  have ho : okO m ((j : Int), y, (i : Int)) = true := okO_iff.2 ⟨by omega, by omega, by omega, by omega, by omega, by omega⟩
  have hf2 := fault_snoc hf hl ho
  obtain ⟨n, hn, _, _, hE2⟩ := faultS_ok hf2
  obtain rfl : m = n := by omega
  have hg : ∀ g, d i j = some g → y = -g := fun g hg => hy g (by simp [gapS, hd, hg])
  obtain ⟨d2, h2⟩ := no_cycle_some hE2 (fun a c hw => tight hE hD (lo := i) (hi := j) (g := 0 - y) (by cases h : d i j with
    | none => exact Or.inr rfl
    | some g => exact Or.inl (by rw [hg g h]; congr 1; omega)) (by omega) (by omega) hg hw)
  have h3 : distS m (E ++ [((j : Int), y, (i : Int))]) = some d2 := by simp only [distS, hf2, if_true]; exact h2
  exact ((err_right hf2).1 d2 h3).1
end Go.Proofs.Ytdpannjnhhjicaa
