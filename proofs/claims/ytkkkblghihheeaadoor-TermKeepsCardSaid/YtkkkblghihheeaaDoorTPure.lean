/- What a row means: its nodes, each with how many binders are around it; of what is lifted, and put in. Pure. -/
import Derived.Test.YtkkkblghihheeaaDoorTRepl
namespace Go.Proofs.YtkkkblghihheeaaDoor
open Go.RowKit

/-- The row's nodes with how many binders are around each: the row is one term. -/
def IsAnn (t : List Node3) (a : Ann) : Prop := ∃ e, W t (0, 0, 0) [⟨0, 0⟩] = some (a, [], e)
theorem IsAnn.row {t : List Node3} {a : Ann} (h : IsAnn t a) : t = a.map Prod.fst := by
  obtain ⟨e, h⟩ := h
  have := (W_row _ _ _ _ _ _ h).1
  rwa [List.append_nil] at this
theorem IsAnn.len {t : List Node3} {a : Ann} (h : IsAnn t a) : a.length = t.length := by rw [h.row, List.length_map]
theorem IsAnn.ok {t : List Node3} {a : Ann} (h : IsAnn t a) : ∀ x ∈ a, holdsN x.1 := by obtain ⟨e, h⟩ := h; exact W_holds _ _ _ _ _ _ h
theorem IsAnn.pos {t : List Node3} {a : Ann} (h : IsAnn t a) : 0 < a.length := by
  obtain ⟨e, h⟩ := h
  have := (W_row _ _ _ _ _ _ h).2
  simp only [List.length_cons, List.length_nil] at this
  omega
theorem ann_of {t : List Node3} (h : shapeOf t = 0) : IsAnn t (annOf t) ∧ t.length ≤ 4096 := by
  obtain ⟨h1, _, e, h3⟩ := right_of h
  exact ⟨⟨e, h3⟩, h1⟩
theorem IsAnn.shape {t : List Node3} {a : Ann} (h : IsAnn t a) (hl : t.length ≤ 4096) : shapeOf t = 0 ∧ annOf t = a := by
  obtain ⟨e, h⟩ := h
  exact shape_of hl h
def liftA (by_ from_ : Int) (x : Node3 × Nat) : Node3 × Nat := (liftX by_ from_ x, x.2)
theorem liftX_op (by_ from_ : Int) (x : Node3 × Nat) : (liftX by_ from_ x).1 = x.1.1 := by unfold liftX; split <;> rfl
theorem freeN_no {n : Node3} {k : Nat} (h : n.1 ≠ 1) : freeN n k = -1 := by unfold freeN; rw [if_neg h]
theorem freeN_var {n : Node3} {k : Nat} (h : 0 ≤ freeN n k) : n.1 = 1 ∧ freeN n k = n.2.1 - k := by
  unfold freeN at h ⊢
  split at h
  · rename_i h1; exact ⟨h1, by rw [if_pos h1]⟩
  · omega
theorem liftX_no {by_ from_ : Int} {x : Node3 × Nat} (h : x.1.1 ≠ 1) : liftX by_ from_ x = x.1 := by
  unfold liftX
  rw [if_neg (by rw [freeN_no h]; omega)]
theorem free_lift {by_ from_ : Int} {x : Node3 × Nat} : freeN (liftX by_ from_ x) x.2 = if 0 ≤ freeN x.1 x.2 ∧ from_ ≤ freeN x.1 x.2 then freeN x.1 x.2 + by_ else freeN x.1 x.2 := by
  unfold liftX
  by_cases h : 0 ≤ freeN x.1 x.2 ∧ from_ ≤ freeN x.1 x.2
  · rw [if_pos h, if_pos h]
    have h1 := freeN_var h.1
    rw [h1.2]
    unfold freeN
    rw [if_pos h1.1]
    simp only; omega
  · rw [if_neg h, if_neg h]
/-- A variable alone. -/
theorem W_var {n h : Node3} {k : Nat} (hn : holdsN n) (h1 : n.1 = 1) : W [n] h [⟨0, k⟩] = some ([(n, k)], [], n) := by
  have hb : begB (Part.mk 0 k).op n h = true := by
    unfold begB
    rw [if_neg (by omega), if_neg (by omega)]
    simp [hn]
  rw [W_yes hb, follow_none (by omega), List.nil_append, W_nil]
  rfl
theorem holds_var {o A B : Int} (h : holdsN (o, A, B)) (h1 : o = 1) {A' : Int} (h2 : 0 ≤ A') (h3 : A' ≤ 1048576) : holdsN (o, A', B) := by
  subst h1
  simp [holdsN] at h ⊢
  omega
theorem ann_lift {t : List Node3} {a : Ann} {by_ from_ : Int} (h : IsAnn t a) (hb0 : 0 ≤ by_) (hby : ∀ x ∈ a, 0 ≤ freeN x.1 x.2 → from_ ≤ freeN x.1 x.2 → x.1.2.1 + by_ ≤ 1048576) : IsAnn (a.map (liftX by_ from_)) (a.map (liftA by_ from_)) := by
  have hok := h.ok
  obtain ⟨e, h⟩ := h
  obtain ⟨e', h'⟩ := W_repl (fun x => [liftA by_ from_ x]) (fun x hx => by unfold liftA; rw [liftX_no hx]) _ _ _ _ _ _ h (NoAt.good (by intro p hp; simp only [List.mem_cons, List.not_mem_nil, or_false] at hp; subst hp; simp)) (fun x hx h1 => by
      have hx' := hok x hx
      have hy : holdsN (liftX by_ from_ x) := by
        unfold liftX
        split
        · rename_i hc
          have := hby x hx hc.1 hc.2
          have h2 := holds_a hx'
          exact holds_var hx' h1 (by omega) (by omega)
        · exact hx'
      exact ⟨_, W_var hy ((liftX_op _ _ _).trans h1)⟩) []
  refine ⟨e', ?_⟩
  rw [List.append_nil] at h'
  rw [← List.map_eq_flatMap, List.map_map] at h'
  exact h'
/-- What stands in a node's place, each with how many binders are around it. -/
def subA (at_ : Int) (b : Ann) (x : Node3 × Nat) : Ann :=
  if freeN x.1 x.2 < at_ then [x] else if at_ < freeN x.1 x.2 then [((x.1.1, x.1.2.1 - 1, x.1.2.2), x.2)] else b.map fun y => (liftX (at_ + x.2) 0 y, y.2 + x.2)
theorem subA_row (at_ : Int) (b : Ann) (x : Node3 × Nat) : (subA at_ b x).map Prod.fst = subX at_ b x := by
  unfold subA subX
  split
  · rfl
  split
  · rfl
  · rw [List.map_map]; rfl
theorem subA_rows (at_ : Int) (b a : Ann) : (a.flatMap (subA at_ b)).map Prod.fst = a.flatMap (subX at_ b) := by
  rw [List.map_flatMap]
  congr 1
  funext x
  exact subA_row at_ b x
theorem ann_subst {t u : List Node3} {a b : Ann} {at_ : Int} (h : IsAnn t a) (hu : IsAnn u b) (h0 : 0 ≤ at_) (hf : ∀ x ∈ a, freeN x.1 x.2 = at_ → ∀ y ∈ b, 0 ≤ freeN y.1 y.2 → 0 ≤ freeN y.1 y.2 → y.1.2.1 + (at_ + x.2) ≤ 1048576) :
    IsAnn (a.flatMap (subX at_ b)) (a.flatMap (subA at_ b)) := by
  have hok := h.ok
  obtain ⟨e, h⟩ := h
  obtain ⟨e', h'⟩ := W_repl (subA at_ b) (fun x hx => by unfold subA; rw [freeN_no hx, if_pos (by omega)]) _ _ _ _ _ _ h (NoAt.good (by intro p hp; simp only [List.mem_cons, List.not_mem_nil, or_false] at hp; subst hp; simp)) (fun x hx h1 => by
      have hx' := hok x hx
      unfold subA
      by_cases c1 : freeN x.1 x.2 < at_
      · rw [if_pos c1]
        exact ⟨_, W_var hx' h1⟩
      rw [if_neg c1]
      by_cases c2 : at_ < freeN x.1 x.2
      · rw [if_pos c2]
        have h2 := holds_a hx'
        have h3 := freeN_var (n := x.1) (k := x.2) (by omega)
        exact ⟨_, W_var (n := (x.1.1, x.1.2.1 - 1, x.1.2.2)) (holds_var hx' h1 (by omega) (by omega)) h1⟩
      · rw [if_neg c2]
        obtain ⟨e2, h2⟩ := ann_lift (by_ := at_ + x.2) (from_ := 0) hu (by omega) (hf x hx (by omega))
        have h3 := W_shift x.2 (b.map (liftX (at_ + x.2) 0)) (0, 0, 0) [⟨0, 0⟩]
        rw [h2] at h3
        refine ⟨e2, ?_⟩
        have e3 : (b.map fun y => (liftX (at_ + x.2) 0 y, y.2 + x.2)).map Prod.fst = b.map (liftX (at_ + x.2) 0) := by rw [List.map_map]; rfl
        have e4 : ([⟨0, 0⟩] : List Part).map (shP x.2) = [⟨0, x.2⟩] := by simp [shP]
        rw [e3]
        rw [e4] at h3
        rw [h3]
        simp [shA, liftA]) []
  refine ⟨e', ?_⟩
  rw [List.append_nil, subA_rows] at h'
  exact h'
theorem free_sub {at_ : Int} {x : Node3 × Nat} (_h0 : 0 ≤ at_) (y : Node3 × Nat) (_hx : freeN x.1 x.2 = at_) : freeN (liftX (at_ + x.2) 0 y) (y.2 + x.2) = if 0 ≤ freeN y.1 y.2 then freeN y.1 y.2 + at_ else if y.1.1 = 1 then y.1.2.1 - (y.2 + x.2 : Nat) else -1 := by
  unfold liftX
  by_cases h : 0 ≤ freeN y.1 y.2
  · rw [if_pos ⟨h, h⟩, if_pos h]
    have h1 := freeN_var h
    rw [h1.2]
    unfold freeN
    rw [if_pos h1.1]
    simp only; omega
  · rw [if_neg (by omega), if_neg h]
    unfold freeN
    rfl
theorem free_sub_neg {at_ : Int} {x : Node3 × Nat} (h0 : 0 ≤ at_) (y : Node3 × Nat) (hx : freeN x.1 x.2 = at_) (hy : freeN y.1 y.2 < 0) : freeN (liftX (at_ + x.2) 0 y) (y.2 + x.2) < 0 := by
  rw [free_sub h0 y hx, if_neg (by omega)]
  split
  · rename_i ho
    have : freeN y.1 y.2 = y.1.2.1 - y.2 := by unfold freeN; rw [if_pos ho]
    omega
  · omega
end Go.Proofs.YtkkkblghihheeaaDoor
