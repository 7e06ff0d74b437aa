/- What is done to a tree, kid by kid: a row for each node. Pure. -/
import Derived.Test.YtkkkblghihheeaaDoorTFold2
namespace Go.Proofs.YtkkkblghihheeaaDoor
open Go.RowKit

/-- Node by node, by the number of binders around. -/
def each (φ : Node3 → Nat → Ann) (u : Nat) (a : Ann) : Ann := a.flatMap fun x => shA x.2 (φ x.1 (x.2 + u))
theorem each_append (φ : Node3 → Nat → Ann) (u : Nat) (a b : Ann) : each φ u (a ++ b) = each φ u a ++ each φ u b := by unfold each; rw [List.flatMap_append]
theorem shA_shA (d e : Nat) (a : Ann) : shA d (shA e a) = shA (e + d) a := by
  unfold shA
  rw [List.map_map]
  congr 1
  funext x
  show (x.1, x.2 + e + d) = (x.1, x.2 + (e + d))
  rw [Nat.add_assoc]
theorem each_shift (φ : Node3 → Nat → Ann) (u d : Nat) (a : Ann) : each φ u (shA d a) = shA d (each φ (u + d) a) := by
  induction a with
  | nil => rfl
  | cons x a ih =>
    show shA (x.2 + d) (φ x.1 (x.2 + d + u)) ++ each φ u (shA d a) = shA d (shA x.2 (φ x.1 (x.2 + (u + d))) ++ each φ (u + d) a)
    rw [ih, show x.2 + d + u = x.2 + (u + d) by omega]
    conv => rhs; unfold shA; rw [List.map_append]
    rw [← shA_shA]
    rfl
/-- What is no variable stays. -/
def Stays (φ : Node3 → Nat → Ann) : Prop := ∀ n k, n.1 ≠ 1 → φ n k = [(n, 0)]
theorem each_one {φ : Node3 → Nat → Ann} {u : Nat} {x : Node3 × Nat} (h : φ x.1 (x.2 + u) = [(x.1, 0)]) : each φ u [x] = [x] := by
  unfold each
  simp [h, shA]
theorem each_none {φ : Node3 → Nat → Ann} (hφ : Stays φ) {u : Nat} {a : Ann} (h : NoVar a) : each φ u a = a := by
  induction a with
  | nil => rfl
  | cons x a ih =>
    have e : each φ u (x :: a) = each φ u [x] ++ each φ u a := each_append φ u [x] a
    rw [e, ih fun y hy => h y (List.mem_cons_of_mem _ hy), each_one (hφ _ _ (h x (by simp)))]
    rfl
theorem each_kids {φ : Node3 → Nat → Ann} (hφ : Stays φ) {u : Nat} {n : Node3} {fs : List Node3} (hf : ∀ x ∈ fs, x.1 ≠ 1) : ∀ (ks os : List Ann) (i : Nat) (hl : os.length = ks.length), (∀ j (hj : j < ks.length), os[j]'(by omega) = each φ (u + aroundN n (i + j)) ks[j]) →
    each φ u (kidsA n fs i ks) = kidsA n fs i os
  | [], [], _, _, _ => rfl
  | k :: ks, [], _, hl, _ => by simp at hl
  | [], o :: os, _, hl, _ => by simp at hl
  | k :: ks, o :: os, i, hl, h => by
    have h0 := h 0 (by simp)
    simp only [List.getElem_cons_zero, Nat.add_zero] at h0
    show each φ u (funA n fs i ++ (shA (aroundN n i) k ++ kidsA n fs (i + 1) ks)) = funA n fs i ++ (shA (aroundN n i) o ++ kidsA n fs (i + 1) os)
    rw [each_append, each_append, each_none hφ (fun_noVar hf i), each_shift, h0, each_kids hφ hf ks os (i + 1) (by simpa using hl) fun j hj => by
      have := h (j + 1) (by simpa using hj)
      simp only [List.getElem_cons_succ] at this
      rw [this, show i + (j + 1) = i + 1 + j by omega]]
theorem each_tree {φ : Node3 → Nat → Ann} (hφ : Stays φ) {u : Nat} {n : Node3} {ats fs : List Node3} {ks os : List Ann} (hn : φ n u = [(n, 0)]) (ha : ∀ x ∈ ats, x.1 ≠ 1) (hf : ∀ x ∈ fs, x.1 ≠ 1) (hl : os.length = ks.length) (h : ∀ j (hj : j < ks.length), os[j]'(by omega) = each φ (u + aroundN n j) ks[j]) :
    each φ u (treeA n ats fs ks) = treeA n ats fs os := by
  unfold treeA
  have e : ∀ r : Ann, each φ u ((n, 0) :: r) = each φ u [(n, 0)] ++ each φ u r := fun r => each_append φ u [(n, 0)] r
  rw [e, each_append, each_one (by simpa using hn), each_none hφ (a := ats.map fun x => (x, 0)) (by
    intro x hx
    obtain ⟨y, hy, rfl⟩ := List.mem_map.1 hx
    exact ha y hy), each_kids hφ hf ks os 0 hl (by simpa using h)]
  rfl
/-- Raised. -/
def rzF (by_ : Nat) (n : Node3) (k : Nat) : Ann := if n.1 = 1 ∧ (k : Int) ≤ n.2.1 then [((1, n.2.1 + by_, 0), 0)] else [(n, 0)]
def rz (by_ u : Nat) (a : Ann) : Ann := each (rzF by_) u a
theorem rz_stays (by_ : Nat) : Stays (rzF by_) := fun n k h => by unfold rzF; rw [if_neg (by omega)]
end Go.Proofs.YtkkkblghihheeaaDoor
