/- The document's answer: Read: what its walks use. -/
import Derived.Test.YtkkkblghihheeaaDoorTRead1
namespace Go.Proofs.YtkkkblghihheeaaDoor
open Go.RowKit

theorem Holds.skip_nodes {w : World} {g o j : Nat} {t : List Node3} (h : Holds w (some ⟨g, o, none⟩) (nodesV t)) (hj : j ≤ t.length) : Holds w (some ⟨g, o + j * 3, none⟩) (nodesV (t.drop j)) := fun hn => by
  refine ⟨g, o + j * 3, rfl, fun i u hu => ?_⟩
  have e : nodesV t = nodesV (t.take j) ++ nodesV (t.drop j) := by rw [← nodesV_append, List.take_append_drop]
  have := h.cell (j := j * 3 + i) (u := u) (by rw [e, List.getElem?_append_right (by rw [nodesV_len, List.length_take]; omega), nodesV_len, List.length_take, show j * 3 + i - min j t.length * 3 = i by omega]; exact hu)
  rwa [← Nat.add_assoc] at this
theorem treeA_snoc (n : Node3) (ats fs : List Node3) (ks : List Ann) (a : Ann) : treeA n ats fs (ks ++ [a]) = treeA n ats fs ks ++ (funA n fs ks.length ++ shA (aroundN n ks.length) a) := by
  unfold treeA
  rw [kidsA_snoc, Nat.zero_add]
  simp
theorem ReadPost.nil {w w' : World} {e : Ending} (h : ReadPost [] w e w') : e = .returned (.tuple #[.agg #[.int .i64 0, .int .i64 0, .int .i64 0, .slice none 0 0, .slice none 0 0, .slice none 0 0], .int .i64 0, .bool false]) ∧ Below w.heap.size w w' := by
  rcases h with ⟨-, h1, h2⟩ | ⟨a, s, v, h, -⟩
  · exact ⟨h1, h2⟩
  · rw [top0_nil] at h; cases h
theorem cells_one (v : TV) : ∀ u ∈ v.cells, u.oneCell' = true := by
  intro u hu
  simp only [TV.cells, List.mem_cons, List.not_mem_nil, or_false] at hu
  rcases hu with rfl | rfl | rfl | rfl | rfl | rfl <;> rfl
theorem begB13 (n h : Node3) : begB 13 n h = decide (n.1 = 13 ∧ (0 ≤ n.2.1 ∧ n.2.1 ≤ 15) ∧ n.2.2 = 0) := by
  unfold begB
  by_cases h3 : n.1 = 3
  · rw [if_pos h3]
    simp [h3]
  · rw [if_neg h3]
    by_cases h13 : n.1 = 13
    · rw [if_pos h13]
      simp [holdsN, h13]
    · rw [if_neg h13]
      simp [h13]
theorem begB13_op {n h : Node3} (hb : begB 13 n h = true) : n.1 = 13 := by
  rw [begB13, decide_eq_true_iff] at hb
  exact hb.1
theorem top_holds {n : Node3} (h : topB n = true) : holdsN n ∧ n.1 ≠ 3 ∧ n.1 ≠ 13 := by
  unfold topB at h
  simpa [and_assoc] using h
theorem kidsN_le {n : Node3} (h : topB n = true) : kidsN n ≤ 18 := by
  have h := (top_holds h).1
  unfold holdsN at h
  unfold kidsN
  split
  · omega
  split
  · omega
  split
  · omega
  split
  · omega
  · omega
theorem top_fix {n : Node3} (h : topB n = true) (h12 : n.1 = 12) : 1 ≤ n.2.2 ∧ n.2.2 ≤ 4 ∧ kidsN n = 2 * n.2.2.toNat := by
  have h := (top_holds h).1
  unfold holdsN at h
  unfold kidsN
  rw [if_neg (by omega), if_neg (by omega), if_neg (by omega), if_pos h12]
  omega
theorem top_var {n : Node3} (h : topB n = true) (h1 : n.1 = 1) : kidsN n = 0 ∧ n.2.2 = 0 := by
  have h := (top_holds h).1
  unfold holdsN at h
  unfold kidsN
  rw [if_neg (by omega), if_neg (by omega), if_neg (by omega), if_neg (by omega)]
  omega
end Go.Proofs.YtkkkblghihheeaaDoor
