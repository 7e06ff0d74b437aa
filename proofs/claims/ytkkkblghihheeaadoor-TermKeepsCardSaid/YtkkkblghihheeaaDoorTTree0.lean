/- The document's trees: how many kids a node has, and the nodes of a tree in order. Pure. -/
import Derived.Test.YtkkkblghihheeaaDoorTPure
namespace Go.Proofs.YtkkkblghihheeaaDoor
open Go.RowKit

/-- How many binders a node lays around its kid. -/
def aroundN (n : Node3) (i : Nat) : Nat := if ((n.1 = 4 ∨ n.1 = 5) ∧ i = 1) ∨ (n.1 = 7 ∧ i = 2) then 1 else if n.1 = 12 ∧ i % 2 = 1 then n.2.2.toNat else 0
/-- How many kids. -/
def kidsN (n : Node3) : Nat := if n.1 = 4 ∨ n.1 = 5 ∨ n.1 = 6 then 2 else if n.1 = 7 then 3 else if n.1 = 11 then (2 + n.2.2).toNat else if n.1 = 12 then (2 * n.2.2).toNat else 0
/-- May a term begin with this node? -/
def topB (n : Node3) : Bool := decide (holdsN n) && !decide (n.1 = 3) && !decide (n.1 = 13)
theorem topB_beg (n h : Node3) : topB n = begB 0 n h := by
  unfold topB begB
  by_cases h3 : n.1 = 3
  · simp [h3]
  · by_cases h13 : n.1 = 13
    · simp [h13]
    · simp [h3, h13]
/-- The function's node ahead of a kid. -/
def funP (n : Node3) (i : Nat) : List Part := if n.1 = 12 ∧ i % 2 = 0 then [⟨13, 0⟩] else []
/-- The parts of so many kids, from one on. -/
def kidsP (n : Node3) : Nat → Nat → List Part
  | 0, _ => []
  | m + 1, i => funP n i ++ ⟨0, aroundN n i⟩ :: kidsP n m (i + 1)
theorem kidsP_noAt (n : Node3) : ∀ (m i : Nat), NoAt (kidsP n m i)
  | 0, _ => by intro p hp; cases hp
  | m + 1, i => by
    intro p hp
    unfold kidsP funP at hp
    rcases List.mem_append.1 hp with hp | hp
    · split at hp
      · simp only [List.mem_cons, List.not_mem_nil, or_false] at hp; subst hp; decide
      · cases hp
    · rcases List.mem_cons.1 hp with rfl | hp
      · show (0 : Int) ≠ 3; decide
      · exact kidsP_noAt n m (i + 1) p hp
theorem kids11 {n : Node3} (h : n.1 = 11) : ∀ (m i : Nat), kidsP n m i = List.replicate m ⟨0, 0⟩
  | 0, _ => rfl
  | m + 1, i => by
    unfold kidsP funP aroundN
    rw [if_neg (by omega), if_neg (by omega), if_neg (by omega), kids11 h m, List.replicate_succ]
    rfl
theorem kids12 {n : Node3} (h : n.1 = 12) : ∀ (m i : Nat), kidsP n (2 * m) (2 * i) = fixParts 0 n.2.2.toNat m
  | 0, _ => rfl
  | m + 1, i => by
    show kidsP n (2 * m + 1 + 1) (2 * i) = _
    unfold kidsP
    unfold kidsP
    have e1 : funP n (2 * i) = [⟨13, 0⟩] := by unfold funP; rw [if_pos ⟨h, by omega⟩]
    have e2 : funP n (2 * i + 1) = [] := by unfold funP; rw [if_neg (by omega)]
    have e3 : aroundN n (2 * i) = 0 := by unfold aroundN; rw [if_neg (by omega), if_neg (by omega)]
    have e4 : aroundN n (2 * i + 1) = n.2.2.toNat := by unfold aroundN; rw [if_neg (by omega), if_pos ⟨h, by omega⟩]
    rw [e1, e2, e3, e4, show 2 * i + 1 + 1 = 2 * (i + 1) by omega, kids12 h m (i + 1)]
    simp [fixParts]
theorem follow_kids {n : Node3} (h2 : n.1 ≠ 2) : follow n 0 = kidsP n (kidsN n) 0 := by
  unfold follow kidsN
  rw [if_neg h2]
  by_cases h4 : n.1 = 4 ∨ n.1 = 5
  · obtain ⟨o, A, B⟩ := n
    rcases h4 with h4 | h4
    all_goals
      simp only at h4
      subst h4
      simp [kidsP, funP, aroundN]
  rw [if_neg h4]
  by_cases h6 : n.1 = 6
  · obtain ⟨o, A, B⟩ := n
    simp only at h6
    subst h6
    simp [kidsP, funP, aroundN]
  rw [if_neg h6, if_neg (show ¬ (n.1 = 4 ∨ n.1 = 5 ∨ n.1 = 6) by omega)]
  by_cases h7 : n.1 = 7
  · obtain ⟨o, A, B⟩ := n
    simp only at h7
    subst h7
    simp [kidsP, funP, aroundN]
  rw [if_neg h7, if_neg h7]
  by_cases h11 : n.1 = 11
  · rw [if_pos h11, if_pos h11, kids11 h11, Int.add_comm]
  rw [if_neg h11, if_neg h11]
  by_cases h12 : n.1 = 12
  · rw [if_pos h12, if_pos h12, show (2 * n.2.2).toNat = 2 * n.2.2.toNat by omega]
    exact (kids12 h12 _ 0).symm
  · rw [if_neg h12, if_neg h12]
    rfl
theorem follow_sort {n : Node3} (h2 : n.1 = 2) : follow n 0 = List.replicate n.2.2.toNat ⟨3, 0⟩ ∧ kidsN n = 0 := by
  unfold follow kidsN
  rw [if_pos h2, if_neg (by omega), if_neg (by omega), if_neg (by omega), if_neg (by omega)]
  exact ⟨rfl, rfl⟩

/-- The nodes of a tree's kids, from one on. -/
def funA (n : Node3) (fs : List Node3) (i : Nat) : Ann := if n.1 = 12 ∧ i % 2 = 0 then [(fs.getD (i / 2) (0, 0, 0), 0)] else []
def kidsA (n : Node3) (fs : List Node3) : Nat → List Ann → Ann
  | _, [] => []
  | i, k :: ks => funA n fs i ++ (shA (aroundN n i) k ++ kidsA n fs (i + 1) ks)
theorem kidsA_snoc (n : Node3) (fs : List Node3) (k : Ann) : ∀ (ks : List Ann) (i : Nat), kidsA n fs i (ks ++ [k]) = kidsA n fs i ks ++ (funA n fs (i + ks.length) ++ shA (aroundN n (i + ks.length)) k)
  | [], i => by simp [kidsA]
  | x :: ks, i => by
    show funA n fs i ++ (shA (aroundN n i) x ++ kidsA n fs (i + 1) (ks ++ [k])) = _
    rw [kidsA_snoc n fs k ks (i + 1), show i + 1 + ks.length = i + (x :: ks).length by simp; omega]
    simp [kidsA]
theorem funA_more {n : Node3} {fs : List Node3} {f : Node3} {i : Nat} (h : i / 2 < fs.length) : funA n (fs ++ [f]) i = funA n fs i := by
  unfold funA
  rw [List.getD_eq_getElem?_getD, List.getD_eq_getElem?_getD, List.getElem?_append_left h]
theorem kidsA_more {n : Node3} {fs : List Node3} {f : Node3} : ∀ (ks : List Ann) (i : Nat), (n.1 = 12 → i + ks.length ≤ 2 * fs.length) → kidsA n (fs ++ [f]) i ks = kidsA n fs i ks
  | [], _, _ => rfl
  | x :: ks, i, h => by
    unfold kidsA
    rw [kidsA_more ks (i + 1) (fun e => by have := h e; simp only [List.length_cons] at this; omega)]
    by_cases e : n.1 = 12
    · rw [funA_more (by have := h e; simp only [List.length_cons] at this; omega)]
    · unfold funA
      rw [if_neg (by omega), if_neg (by omega)]
/-- A tree's row. -/
def treeA (n : Node3) (ats fs : List Node3) (ks : List Ann) : Ann := (n, 0) :: (ats.map (fun x => (x, 0)) ++ kidsA n fs 0 ks)
theorem kidsA_mem {n : Node3} {fs : List Node3} : ∀ (ks : List Ann) (i : Nat) (k : Ann), k ∈ ks → k.length ≤ (kidsA n fs i ks).length
  | [], _, _, h => by cases h
  | x :: ks, i, k, h => by
    unfold kidsA
    simp only [List.length_append]
    rcases List.mem_cons.1 h with rfl | h
    · unfold shA; rw [List.length_map]; omega
    · have := kidsA_mem (n := n) (fs := fs) ks (i + 1) k h; omega
end Go.Proofs.YtkkkblghihheeaaDoor
