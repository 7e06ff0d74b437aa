/- How often a variable stands in a tree, and how deep. Pure. -/
import Derived.Test.YtkkkblghihheeaaDoorTFold
namespace Go.Proofs.YtkkkblghihheeaaDoor
open Go.RowKit

def hitB (u : Nat) (x : Node3 × Nat) : Bool := decide (x.1.1 = 1 ∧ x.1.2.1 = ((x.2 + u : Nat) : Int))
def tmN (u : Nat) (a : Ann) : Nat := a.countP (hitB u)
def tmD (u : Nat) (a : Ann) : Nat := a.foldr (fun x m => if hitB u x then max x.2 m else m) 0
theorem hit_shift (u d : Nat) (x : Node3 × Nat) : hitB u (x.1, x.2 + d) = hitB (u + d) x := by
  unfold hitB
  simp only
  rw [show x.2 + d + u = x.2 + (u + d) by omega]
theorem tmN_append (u : Nat) (a b : Ann) : tmN u (a ++ b) = tmN u a + tmN u b := List.countP_append
theorem tmN_shift (u d : Nat) (a : Ann) : tmN u (shA d a) = tmN (u + d) a := by
  unfold tmN shA
  rw [List.countP_map]
  congr 1
  funext x
  exact hit_shift u d x
theorem tmD_append (u : Nat) (a b : Ann) : tmD u (a ++ b) = max (tmD u a) (tmD u b) := by
  induction a with
  | nil => show tmD u b = max 0 (tmD u b); omega
  | cons x a ih =>
    show (if hitB u x then max x.2 (tmD u (a ++ b)) else tmD u (a ++ b)) = max (if hitB u x then max x.2 (tmD u a) else tmD u a) (tmD u b)
    rw [ih]
    split <;> omega
theorem tmD_shift (u d : Nat) (a : Ann) : tmD u (shA d a) = if 0 < tmN (u + d) a then tmD (u + d) a + d else 0 := by
  induction a with
  | nil => rfl
  | cons x a ih =>
    show (if hitB u (x.1, x.2 + d) then max (x.2 + d) (tmD u (shA d a)) else tmD u (shA d a)) = if 0 < tmN (u + d) (x :: a) then (if hitB (u + d) x then max x.2 (tmD (u + d) a) else tmD (u + d) a) + d else 0
    have e : tmN (u + d) (x :: a) = tmN (u + d) a + if hitB (u + d) x then 1 else 0 := by unfold tmN; rw [List.countP_cons]
    rw [ih, hit_shift, e]
    have hz : tmN (u + d) a = 0 → tmD (u + d) a = 0 := by
      clear ih e
      induction a with
      | nil => intro _; rfl
      | cons y a ih =>
        intro h
        have e : tmN (u + d) (y :: a) = tmN (u + d) a + if hitB (u + d) y then 1 else 0 := by unfold tmN; rw [List.countP_cons]
        rw [e] at h
        by_cases hy : hitB (u + d) y
        · rw [if_pos hy] at h; omega
        · show (if hitB (u + d) y then max y.2 (tmD (u + d) a) else tmD (u + d) a) = 0
          rw [if_neg hy] at h ⊢
          exact ih (by omega)
    by_cases hx : hitB (u + d) x
    · simp only [hx, if_true]
      rw [if_pos (show 0 < tmN (u + d) a + 1 by omega)]
      split <;> omega
    · simp only [hx, if_false, Nat.add_zero, Bool.false_eq_true]
theorem tm_none {u : Nat} {a : Ann} (h : NoVar a) : tmN u a = 0 ∧ tmD u a = 0 := by
  induction a with
  | nil => exact ⟨rfl, rfl⟩
  | cons x a ih =>
    have h1 := ih fun y hy => h y (List.mem_cons_of_mem _ hy)
    have hx : hitB u x = false := by unfold hitB; exact decide_eq_false fun hh => h x (by simp) hh.1
    constructor
    · unfold tmN at *; rw [List.countP_cons, hx]; simpa using h1.1
    · show (if hitB u x then max x.2 (tmD u a) else tmD u a) = 0
      rw [hx]; simpa using h1.2
theorem tmN_step {u : Nat} {n : Node3} {ats fs : List Node3} {ks : List Ann} {i : Nat} (h : i < ks.length) (hfs : ∀ x ∈ fs, x.1 ≠ 1) : tmN u (treeA n ats fs (ks.take (i + 1))) = tmN u (treeA n ats fs (ks.take i)) + tmN (u + aroundN n i) ks[i] := by
  rw [treeA_take h, tmN_append, tmN_append, (tm_none (fun_noVar hfs i)).1, tmN_shift]
  omega
theorem tmD_step {u : Nat} {n : Node3} {ats fs : List Node3} {ks : List Ann} {i : Nat} (h : i < ks.length) (hfs : ∀ x ∈ fs, x.1 ≠ 1) : tmD u (treeA n ats fs (ks.take (i + 1))) = if 0 < tmN (u + aroundN n i) ks[i] then max (tmD u (treeA n ats fs (ks.take i))) (tmD (u + aroundN n i) ks[i] + aroundN n i) else tmD u (treeA n ats fs (ks.take i)) := by
  rw [treeA_take h, tmD_append, tmD_append, (tm_none (fun_noVar hfs i)).2, tmD_shift]
  split <;> omega
theorem tmN_le (u : Nat) (a : Ann) : tmN u a ≤ a.length := List.countP_le_length
/-- No node stands under more binders. -/
def DeepA (K : Nat) (a : Ann) : Prop := ∀ x ∈ a, x.2 ≤ K
theorem DeepA.kid {K : Nat} {n : Node3} {ats fs : List Node3} {ks : List Ann} {k : Ann} (h : DeepA K (treeA n ats fs ks)) (hk : k ∈ ks) : DeepA K k := fun x hx => by
  obtain ⟨d, hd⟩ := treeA_in (n := n) (ats := ats) (fs := fs) hk hx
  have := h (x.1, x.2 + d) hd
  simp only at this
  omega
theorem tmD_le {K : Nat} (u : Nat) {a : Ann} (h : DeepA K a) : tmD u a ≤ K := by
  induction a with
  | nil => exact Nat.zero_le _
  | cons x a ih =>
    have h1 := ih fun y hy => h y (List.mem_cons_of_mem _ hy)
    have h2 := h x (by simp)
    show (if hitB u x then max x.2 (tmD u a) else tmD u a) ≤ K
    split <;> omega
theorem treeA_sub {n : Node3} {ats fs : List Node3} {ks : List Ann} {i : Nat} : ∀ x, x ∈ treeA n ats fs (ks.take i) → x ∈ treeA n ats fs ks := by
  intro x hx
  have : ∀ (l m : List Ann) (j : Nat), ∃ r, kidsA n fs j (l ++ m) = kidsA n fs j l ++ r := by
    intro l m
    induction l with
    | nil => intro j; exact ⟨_, rfl⟩
    | cons y l ih =>
      intro j
      obtain ⟨r, hr⟩ := ih (j + 1)
      refine ⟨r, ?_⟩
      show funA n fs j ++ (shA (aroundN n j) y ++ kidsA n fs (j + 1) (l ++ m)) = _
      rw [hr]
      simp [kidsA]
  obtain ⟨r, hr⟩ := this (ks.take i) (ks.drop i) 0
  rw [List.take_append_drop] at hr
  unfold treeA at hx ⊢
  rw [hr]
  rcases List.mem_cons.1 hx with rfl | hx
  · simp
  · refine List.mem_cons_of_mem _ ?_
    rw [← List.append_assoc]
    exact List.mem_append_left _ hx
theorem treeA_take_len {n : Node3} {ats fs : List Node3} {ks : List Ann} (i : Nat) : (treeA n ats fs (ks.take i)).length ≤ (treeA n ats fs ks).length := by
  have : ∀ (l m : List Ann) (j : Nat), (kidsA n fs j l).length ≤ (kidsA n fs j (l ++ m)).length := by
    intro l m
    induction l with
    | nil => intro j; exact Nat.zero_le _
    | cons y l ih =>
      intro j
      show (funA n fs j ++ (shA (aroundN n j) y ++ kidsA n fs (j + 1) l)).length ≤ (funA n fs j ++ (shA (aroundN n j) y ++ kidsA n fs (j + 1) (l ++ m))).length
      have := ih (j + 1)
      simp only [List.length_append]
      omega
  have h := this (ks.take i) (ks.drop i) 0
  rw [List.take_append_drop] at h
  unfold treeA
  simp only [List.length_cons, List.length_append]
  omega
end Go.Proofs.YtkkkblghihheeaaDoor
