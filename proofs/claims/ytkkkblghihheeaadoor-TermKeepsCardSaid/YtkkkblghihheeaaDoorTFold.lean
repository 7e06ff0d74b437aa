/- What is counted over a tree, kid by kid. Pure. -/
import Derived.Test.YtkkkblghihheeaaDoorTTree
namespace Go.Proofs.YtkkkblghihheeaaDoor
open Go.RowKit

theorem treeA_take {n : Node3} {ats fs : List Node3} {ks : List Ann} {i : Nat} (h : i < ks.length) : treeA n ats fs (ks.take (i + 1)) = treeA n ats fs (ks.take i) ++ (funA n fs i ++ shA (aroundN n i) ks[i]) := by
  unfold treeA
  rw [take_snoc h, kidsA_snoc, List.length_take, Nat.min_eq_left (by omega), Nat.zero_add]
  simp
theorem treeA_len {n : Node3} {ats fs : List Node3} {ks : List Ann} {k : Ann} (h : k ∈ ks) : k.length < (treeA n ats fs ks).length := by
  have := kidsA_mem (n := n) (fs := fs) ks 0 k h
  unfold treeA
  simp only [List.length_cons, List.length_append]
  omega
theorem kidsA_in {n : Node3} {fs : List Node3} : ∀ (ks : List Ann) (i : Nat) (k : Ann), k ∈ ks → ∀ x ∈ k, ∃ d, (x.1, x.2 + d) ∈ kidsA n fs i ks
  | [], _, _, h, _, _ => by cases h
  | y :: ks, i, k, h, x, hx => by
    unfold kidsA
    rcases List.mem_cons.1 h with rfl | h
    · exact ⟨aroundN n i, List.mem_append_right _ (List.mem_append_left _ (List.mem_map.2 ⟨x, hx, rfl⟩))⟩
    · obtain ⟨d, hd⟩ := kidsA_in (n := n) (fs := fs) ks (i + 1) k h x hx
      exact ⟨d, List.mem_append_right _ (List.mem_append_right _ hd)⟩
theorem treeA_in {n : Node3} {ats fs : List Node3} {ks : List Ann} {k : Ann} (h : k ∈ ks) {x : Node3 × Nat} (hx : x ∈ k) : ∃ d, (x.1, x.2 + d) ∈ treeA n ats fs ks := by
  obtain ⟨d, hd⟩ := kidsA_in (n := n) (fs := fs) ks 0 k h x hx
  exact ⟨d, List.mem_cons_of_mem _ (List.mem_append_right _ hd)⟩
/-- The numbers of a row are small. -/
def SmallA (a : Ann) : Prop := ∀ x ∈ a, 0 ≤ x.1.2.1 ∧ x.1.2.1 ≤ 4000000000
theorem SmallA.kid {n : Node3} {ats fs : List Node3} {ks : List Ann} {k : Ann} (h : SmallA (treeA n ats fs ks)) (hk : k ∈ ks) : SmallA k := fun x hx => by
  obtain ⟨d, hd⟩ := treeA_in (n := n) (ats := ats) (fs := fs) hk hx
  exact h (x.1, x.2 + d) hd
theorem SmallA.top {n : Node3} {ats fs : List Node3} {ks : List Ann} (h : SmallA (treeA n ats fs ks)) : 0 ≤ n.2.1 ∧ n.2.1 ≤ 4000000000 := h (n, 0) (by unfold treeA; simp)
theorem around_le {n : Node3} (h : n.1 = 12 → n.2.2 ≤ 4) (i : Nat) : aroundN n i ≤ 4 := by
  unfold aroundN
  split
  · omega
  split
  · rename_i h12; have := h h12.1; omega
  · omega

theorem kidsA_count {n : Node3} {fs : List Node3} : ∀ (ks : List Ann) (i : Nat), (∀ k ∈ ks, 0 < k.length) → ks.length ≤ (kidsA n fs i ks).length
  | [], _, _ => Nat.zero_le _
  | x :: ks, i, h => by
    have h1 := h x (by simp)
    have h2 := kidsA_count (n := n) (fs := fs) ks (i + 1) fun k hk => h k (List.mem_cons_of_mem _ hk)
    unfold kidsA shA
    simp only [List.length_append, List.length_map, List.length_cons]
    omega
theorem TreeAt.pos {w : World} {G : Nat → Prop} {v : TV} {a : Ann} (h : TreeAt w G v a) : 0 < a.length := by
  cases h with
  | mk v ks ats fs hs hK hA hF hv sub => simp [treeA]
theorem kids_count {w : World} {G : Nat → Prop} {n : Node3} {ats fs : List Node3} {ks : List (TV × Ann)} (sub : ∀ p, p ∈ ks → TreeAt w G p.1 p.2) : ks.length < (treeA n ats fs (ks.map Prod.snd)).length := by
  have := kidsA_count (n := n) (fs := fs) (ks.map Prod.snd) 0 fun k hk => by
    obtain ⟨p, hp, rfl⟩ := List.mem_map.1 hk
    exact (sub p hp).pos
  unfold treeA
  simp only [List.length_cons, List.length_append, List.length_map] at this ⊢
  omega
/-- The greatest of what f finds, under so many binders. -/
def top (f : Node3 → Nat → Int) (u : Nat) (a : Ann) : Int := a.foldr (fun x m => max (f x.1 (x.2 + u)) m) (-1)
theorem top_ge (f : Node3 → Nat → Int) (u : Nat) (a : Ann) : -1 ≤ top f u a := by
  induction a with
  | nil => exact Int.le_refl _
  | cons x a ih => show -1 ≤ max _ (top f u a); omega
theorem top_append (f : Node3 → Nat → Int) (u : Nat) (a b : Ann) : top f u (a ++ b) = max (top f u a) (top f u b) := by
  induction a with
  | nil =>
    have := top_ge f u b
    show top f u b = max (-1) (top f u b)
    omega
  | cons x a ih =>
    show max _ (top f u (a ++ b)) = max (max _ (top f u a)) (top f u b)
    rw [ih]; omega
theorem top_shift (f : Node3 → Nat → Int) (u d : Nat) (a : Ann) : top f u (shA d a) = top f (u + d) a := by
  induction a with
  | nil => rfl
  | cons x a ih =>
    show max (f x.1 (x.2 + d + u)) (top f u (shA d a)) = max (f x.1 (x.2 + (u + d))) (top f (u + d) a)
    rw [ih, show x.2 + d + u = x.2 + (u + d) by omega]
theorem top_le (f : Node3 → Nat → Int) (u : Nat) (a : Ann) (m : Int) : top f u a ≤ m ↔ -1 ≤ m ∧ ∀ x ∈ a, f x.1 (x.2 + u) ≤ m := by
  induction a with
  | nil => simp [top]
  | cons x a ih =>
    have e : top f u (x :: a) = max (f x.1 (x.2 + u)) (top f u a) := rfl
    rw [e]
    constructor
    · intro h
      have h2 := ih.1 (by omega)
      exact ⟨h2.1, fun y hy => by rcases List.mem_cons.1 hy with rfl | hy; omega; exact h2.2 y hy⟩
    · intro h
      have h1 := h.2 x (by simp)
      have h2 := ih.2 ⟨h.1, fun y hy => h.2 y (List.mem_cons_of_mem _ hy)⟩
      omega
/-- No variable. -/
def NoVar (a : Ann) : Prop := ∀ x ∈ a, x.1.1 ≠ 1
theorem top_none {f : Node3 → Nat → Int} (hf : ∀ n k, n.1 ≠ 1 → f n k = -1) {u : Nat} {a : Ann} (h : NoVar a) : top f u a = -1 := by
  induction a with
  | nil => rfl
  | cons x a ih =>
    show max (f x.1 (x.2 + u)) (top f u a) = -1
    rw [ih fun y hy => h y (List.mem_cons_of_mem _ hy), hf _ _ (h x (by simp))]
    rfl
theorem fun_noVar {n : Node3} {fs : List Node3} (h : ∀ x ∈ fs, x.1 ≠ 1) (i : Nat) : NoVar (funA n fs i) := by
  intro x hx
  unfold funA at hx
  split at hx
  · rw [List.mem_singleton] at hx
    subst hx
    rw [List.getD_eq_getElem?_getD]
    cases e : fs[i / 2]? with
    | none => decide
    | some f => exact h f (List.mem_of_getElem? e)
  · cases hx
theorem top_noVar {n : Node3} {ats fs : List Node3} (h1 : n.1 ≠ 1) (h : ∀ x ∈ ats, x.1 ≠ 1) : NoVar (treeA n ats fs []) := by
  intro x hx
  unfold treeA at hx
  simp only [kidsA, List.append_nil, List.mem_cons, List.mem_map] at hx
  rcases hx with rfl | ⟨y, hy, rfl⟩
  · exact h1
  · exact h y hy
theorem top_step {f : Node3 → Nat → Int} (hf : ∀ n k, n.1 ≠ 1 → f n k = -1) {u : Nat} {n : Node3} {ats fs : List Node3} {ks : List Ann} {i : Nat} (h : i < ks.length) (hfs : ∀ x ∈ fs, x.1 ≠ 1) : top f u (treeA n ats fs (ks.take (i + 1))) = max (top f u (treeA n ats fs (ks.take i))) (top f (u + aroundN n i) ks[i]) := by
  have := top_ge f (u + aroundN n i) ks[i]
  rw [treeA_take h, top_append, top_append, top_none hf (fun_noVar hfs i), top_shift]
  omega
/-- The greatest free variable, under so many binders. -/
def gr (u : Nat) (a : Ann) : Int := top freeN u a
/-- The greatest index, once the variables from one on are raised. -/
def hiF (by_ : Nat) (n : Node3) (k : Nat) : Int := if n.1 = 1 ∧ (k : Int) ≤ n.2.1 then n.2.1 + by_ else -1
def hi (by_ u : Nat) (a : Ann) : Int := top (hiF by_) u a
theorem freeN_skip (n : Node3) (k : Nat) (h : n.1 ≠ 1) : freeN n k = -1 := freeN_no h
theorem hiF_skip (by_ : Nat) (n : Node3) (k : Nat) (h : n.1 ≠ 1) : hiF by_ n k = -1 := by unfold hiF; rw [if_neg (by omega)]
end Go.Proofs.YtkkkblghihheeaaDoor
