/- Rows of nodes as terms: what a walk through a row meets, node by node. Pure. -/
namespace Go.Proofs.YtkkkblghihheeaaDoor

abbrev Node3 := Int × Int × Int
/-- What a row must have next: a term (op 0), or one node of that op. -/
structure Part where
  op : Int
  k : Nat
abbrev Ann := List (Node3 × Nat)

/-- A node that may stand. -/
def holdsN (n : Node3) : Prop :=
  (n.1 = 1 ∧ (0 ≤ n.2.1 ∧ n.2.1 ≤ 1048576) ∧ n.2.2 = 0) ∨ (n.1 = 2 ∧ (0 ≤ n.2.1 ∧ n.2.1 ≤ 1) ∧ 1 ≤ n.2.2 ∧ n.2.2 ≤ 4) ∨ (n.1 = 3 ∧ (0 ≤ n.2.1 ∧ n.2.1 ≤ 16) ∧ 0 ≤ n.2.2 ∧ n.2.2 ≤ 1000) ∨
  ((n.1 = 4 ∨ n.1 = 5 ∨ n.1 = 6 ∨ n.1 = 7) ∧ n.2.1 = 0 ∧ n.2.2 = 0) ∨ ((n.1 = 8 ∨ n.1 = 9) ∧ (0 ≤ n.2.1 ∧ n.2.1 ≤ 63) ∧ n.2.2 = 0) ∨
  (n.1 = 10 ∧ (0 ≤ n.2.1 ∧ n.2.1 ≤ 63) ∧ 0 ≤ n.2.2 ∧ n.2.2 ≤ 15) ∨ (n.1 = 11 ∧ (0 ≤ n.2.1 ∧ n.2.1 ≤ 63) ∧ 0 ≤ n.2.2 ∧ n.2.2 ≤ 16) ∨
  (n.1 = 12 ∧ (0 ≤ n.2.1 ∧ n.2.1 < n.2.2) ∧ 1 ≤ n.2.2 ∧ n.2.2 ≤ 4) ∨ (n.1 = 13 ∧ (0 ≤ n.2.1 ∧ n.2.1 ≤ 15) ∧ n.2.2 = 0)
instance (n : Node3) : Decidable (holdsN n) := by unfold holdsN; infer_instance
theorem holds_op {n : Node3} (h : holdsN n) : 1 ≤ n.1 ∧ n.1 ≤ 13 := by unfold holdsN at h; omega
theorem holds_b {n : Node3} (h : holdsN n) : 0 ≤ n.2.2 ∧ n.2.2 ≤ 1000 := by unfold holdsN at h; omega
theorem holds_a {n : Node3} (h : holdsN n) : 0 ≤ n.2.1 ∧ n.2.1 ≤ 1048576 := by unfold holdsN at h; omega

/-- Can the part begin with this node? -/
def begB (op : Int) (n h : Node3) : Bool :=
  decide (holdsN n) && (if n.1 = 3 then decide (op = 3) && (decide (h.1 = 2) || decide (h.2.1 < n.2.1)) else if n.1 = 13 then decide (op = 13) else decide (op = 0))
/-- The parts of a fix. -/
def fixParts (k b : Nat) : Nat → List Part
  | 0 => []
  | m + 1 => ⟨13, k⟩ :: ⟨0, k⟩ :: ⟨0, k + b⟩ :: fixParts k b m
/-- The parts of a node, the first one first. -/
def follow (n : Node3) (k : Nat) : List Part :=
  if n.1 = 2 then List.replicate n.2.2.toNat ⟨3, k⟩
  else if n.1 = 4 ∨ n.1 = 5 then [⟨0, k⟩, ⟨0, k + 1⟩]
  else if n.1 = 6 then [⟨0, k⟩, ⟨0, k⟩]
  else if n.1 = 7 then [⟨0, k⟩, ⟨0, k⟩, ⟨0, k + 1⟩]
  else if n.1 = 11 then List.replicate (n.2.2 + 2).toNat ⟨0, k⟩
  else if n.1 = 12 then fixParts k n.2.2.toNat n.2.2.toNat
  else []
/-- The nodes that these parts take of a row, each with how many binders are around it; what is left, and the last node. -/
def W : List Node3 → Node3 → List Part → Option (Ann × List Node3 × Node3)
  | r, h, [] => some ([], r, h)
  | [], _, _ :: _ => none
  | n :: r, h, p :: todo => if begB p.op n h then (W r n (follow n p.k ++ todo)).map fun x => ((n, p.k) :: x.1, x.2) else none

theorem W_nil (r : List Node3) (h : Node3) : W r h [] = some ([], r, h) := by cases r <;> rfl
theorem W_none (h : Node3) (p : Part) (todo : List Part) : W [] h (p :: todo) = none := rfl
theorem W_no {p : Part} {n h : Node3} {r : List Node3} {todo : List Part} (hb : begB p.op n h = false) : W (n :: r) h (p :: todo) = none := by unfold W; rw [hb]; rfl
theorem W_yes {p : Part} {n h : Node3} {r : List Node3} {todo : List Part} (hb : begB p.op n h = true) :
    W (n :: r) h (p :: todo) = (W r n (follow n p.k ++ todo)).map fun x => ((n, p.k) :: x.1, x.2) := by
  conv => lhs; unfold W
  rw [hb]; rfl
theorem W_cons {p : Part} {n h : Node3} {r : List Node3} {todo : List Part} {a : Ann} {s : List Node3} {e : Node3} (hw : W (n :: r) h (p :: todo) = some (a, s, e)) :
    begB p.op n h = true ∧ ∃ a', a = (n, p.k) :: a' ∧ W r n (follow n p.k ++ todo) = some (a', s, e) := by
  cases hb : begB p.op n h with
  | false => rw [W_no hb] at hw; cases hw
  | true =>
    rw [W_yes hb] at hw
    cases hx : W r n (follow n p.k ++ todo) with
    | none => rw [hx] at hw; cases hw
    | some x =>
      rw [hx] at hw
      simp only [Option.map_some, Option.some.injEq, Prod.mk.injEq] at hw
      obtain ⟨rfl, h2⟩ := hw
      refine ⟨rfl, _, rfl, ?_⟩
      rw [← h2]
theorem W_split (b : List Part) : ∀ (r : List Node3) (h : Node3) (a : List Part), W r h (a ++ b) = (W r h a).bind fun x => (W x.2.1 x.2.2 b).map fun y => (x.1 ++ y.1, y.2) := by
  intro r
  induction r with
  | nil =>
    intro h a
    cases a with
    | nil => rw [List.nil_append, W_nil]; simp only [Option.bind_some, List.nil_append]; cases W [] h b <;> rfl
    | cons p a => rfl
  | cons n r ih =>
    intro h a
    cases a with
    | nil => rw [List.nil_append, W_nil]; simp only [Option.bind_some, List.nil_append]; cases W (n :: r) h b <;> rfl
    | cons p a =>
      rw [List.cons_append]
      cases hb : begB p.op n h with
      | false => rw [W_no hb, W_no hb]; rfl
      | true =>
        rw [W_yes hb, W_yes hb, ← List.append_assoc, ih]
        cases W r n (follow n p.k ++ a) with
        | none => rfl
        | some x =>
          simp only [Option.bind_some, Option.map_some]
          cases W x.2.1 x.2.2 b <;> rfl
theorem W_row : ∀ (r : List Node3) (h : Node3) (todo : List Part) (a : Ann) (s : List Node3) (e : Node3), W r h todo = some (a, s, e) → r = a.map Prod.fst ++ s ∧ todo.length ≤ a.length := by
  intro r
  induction r with
  | nil =>
    intro h todo a s e hw
    cases todo with
    | nil => rw [W_nil] at hw; cases hw; exact ⟨rfl, Nat.le_refl _⟩
    | cons p todo => cases hw
  | cons n r ih =>
    intro h todo a s e hw
    cases todo with
    | nil => rw [W_nil] at hw; cases hw; exact ⟨rfl, Nat.le_refl _⟩
    | cons p todo =>
      obtain ⟨_, a', rfl, hw'⟩ := W_cons hw
      obtain ⟨h1, h2⟩ := ih _ _ _ _ _ hw'
      refine ⟨by rw [h1]; rfl, ?_⟩
      rw [List.length_append] at h2
      simp only [List.length_cons]; omega
theorem W_short {r : List Node3} {h : Node3} {todo : List Part} (hl : r.length < todo.length) : W r h todo = none := by
  cases hw : W r h todo with
  | none => rfl
  | some x =>
    obtain ⟨a, s, e⟩ := x
    obtain ⟨h1, h2⟩ := W_row _ _ _ _ _ _ hw
    have := congrArg List.length h1
    simp only [List.length_append, List.length_map] at this
    omega
theorem W_trim : ∀ (a : Ann) (r s s' : List Node3) (h e : Node3) (todo : List Part), W r h todo = some (a, s, e) → W (a.map Prod.fst ++ s') h todo = some (a, s', e) := by
  intro a
  induction a with
  | nil =>
    intro r s s' h e todo hw
    have := (W_row _ _ _ _ _ _ hw).2
    have : todo = [] := List.eq_nil_of_length_eq_zero (by simpa using this)
    subst this
    rw [W_nil] at hw ⊢
    cases hw; rfl
  | cons x a ih =>
    intro r s s' h e todo hw
    cases todo with
    | nil => rw [W_nil] at hw; cases hw
    | cons p todo =>
      cases r with
      | nil => cases hw
      | cons n r =>
        obtain ⟨hb, a', e1, hw⟩ := W_cons hw
        cases e1
        rw [List.map_cons, List.cons_append, W_yes hb, ih _ _ s' _ _ _ hw]
        rfl
/-- No part of these is an atom. -/
def NoAt (todo : List Part) : Prop := ∀ p ∈ todo, p.op ≠ 3
theorem begB_ahead {op : Int} {n : Node3} (h h' : Node3) (ho : op ≠ 3) : begB op n h = begB op n h' := by
  unfold begB
  by_cases h3 : n.1 = 3
  · simp [h3, ho]
  · simp [h3]
theorem W_ahead {r : List Node3} {todo : List Part} (h h' : Node3) (hn : NoAt todo) (h0 : todo ≠ []) : W r h todo = W r h' todo := by
  cases todo with
  | nil => exact absurd rfl h0
  | cons p todo =>
    cases r with
    | nil => rfl
    | cons n r =>
      have e := begB_ahead (n := n) h h' (hn p (by simp))
      cases hb : begB p.op n h' with
      | false => rw [W_no hb, W_no (e.trans hb)]
      | true => rw [W_yes hb, W_yes (e.trans hb)]
def shP (d : Nat) (p : Part) : Part := ⟨p.op, p.k + d⟩
def shA (d : Nat) (a : Ann) : Ann := a.map fun x => (x.1, x.2 + d)
theorem fixParts_sh (d k b m : Nat) : fixParts (k + d) b m = (fixParts k b m).map (shP d) := by
  induction m with
  | zero => rfl
  | succ m ih => simp only [fixParts, ih, List.map_cons, shP]; rw [show k + d + b = k + b + d by omega]
theorem follow_sh (n : Node3) (d k : Nat) : follow n (k + d) = (follow n k).map (shP d) := by
  unfold follow
  repeat' split
  all_goals first
    | (simp only [List.map_replicate, shP]; done)
    | (simp only [List.map_cons, List.map_nil, shP]; try rw [show k + d + 1 = k + 1 + d by omega])
    | (exact fixParts_sh ..)
theorem W_shift (d : Nat) : ∀ (r : List Node3) (h : Node3) (todo : List Part), W r h (todo.map (shP d)) = (W r h todo).map fun x => (shA d x.1, x.2) := by
  intro r
  induction r with
  | nil =>
    intro h todo
    cases todo with
    | nil => rfl
    | cons p todo => rfl
  | cons n r ih =>
    intro h todo
    cases todo with
    | nil => rfl
    | cons p todo =>
      rw [List.map_cons]
      cases hb : begB p.op n h with
      | false => rw [W_no hb, W_no (p := shP d p) hb]; rfl
      | true =>
        rw [W_yes hb, W_yes (p := shP d p) hb]
        show (W r n (follow n (p.k + d) ++ todo.map (shP d))).map _ = _
        rw [follow_sh, ← List.map_append, ih]
        cases W r n (follow n p.k ++ todo) with
        | none => rfl
        | some x => rfl
theorem begB_holds {op : Int} {n h : Node3} (hb : begB op n h = true) : holdsN n := by
  unfold begB at hb
  simp only [Bool.and_eq_true, decide_eq_true_eq] at hb
  exact hb.1
theorem W_holds : ∀ (a : Ann) (r : List Node3) (h : Node3) (todo : List Part) (s : List Node3) (e : Node3), W r h todo = some (a, s, e) → ∀ x ∈ a, holdsN x.1 := by
  intro a
  induction a with
  | nil => intro r h todo s e _ x hx; cases hx
  | cons y a ih =>
    intro r h todo s e hw x hx
    cases todo with
    | nil => rw [W_nil] at hw; cases hw
    | cons p todo =>
      cases r with
      | nil => cases hw
      | cons n r =>
        obtain ⟨hb, a', e1, hw'⟩ := W_cons hw
        cases e1
        rcases List.mem_cons.1 hx with rfl | hx
        · exact begB_holds hb
        · exact ih _ _ _ _ _ hw' x hx
theorem fixParts_k {k b m : Nat} : ∀ p ∈ fixParts k b m, p.k ≤ k + b := by
  induction m with
  | zero => intro p hp; cases hp
  | succ m ih =>
    intro p hp
    simp only [fixParts, List.mem_cons] at hp
    rcases hp with rfl | rfl | rfl | hp
    · simp
    · simp
    · simp
    · exact ih p hp
theorem follow_k {n : Node3} {k : Nat} (hn : holdsN n) : ∀ p ∈ follow n k, p.k ≤ k + 4 := by
  intro p hp
  unfold follow at hp
  split at hp
  · rw [(List.mem_replicate.1 hp).2]; simp
  split at hp
  · simp only [List.mem_cons, List.not_mem_nil, or_false] at hp; rcases hp with rfl | rfl <;> simp
  split at hp
  · simp only [List.mem_cons, List.not_mem_nil, or_false] at hp; rcases hp with rfl | rfl <;> simp
  split at hp
  · simp only [List.mem_cons, List.not_mem_nil, or_false] at hp; rcases hp with rfl | rfl | rfl <;> simp
  split at hp
  · rw [(List.mem_replicate.1 hp).2]; simp
  split at hp
  · have := fixParts_k p hp
    have : n.2.2.toNat ≤ 4 := by unfold holdsN at hn; omega
    omega
  · cases hp
theorem W_bound : ∀ (a : Ann) (r : List Node3) (h : Node3) (todo : List Part) (s : List Node3) (e : Node3) (K : Nat), W r h todo = some (a, s, e) → (∀ p ∈ todo, p.k ≤ K) → ∀ x ∈ a, x.2 ≤ K + 4 * a.length := by
  intro a
  induction a with
  | nil => intro r h todo s e K _ _ x hx; cases hx
  | cons y a ih =>
    intro r h todo s e K hw hk x hx
    cases todo with
    | nil => rw [W_nil] at hw; cases hw
    | cons p todo =>
      cases r with
      | nil => cases hw
      | cons n r =>
        obtain ⟨hb, a', e1, hw'⟩ := W_cons hw
        cases e1
        have hp := hk p (by simp)
        rw [List.length_cons]
        rcases List.mem_cons.1 hx with rfl | hx
        · simp only; omega
        · have := ih _ _ _ _ _ (K + 4) hw' (fun q hq => by
            rcases List.mem_append.1 hq with hq | hq
            · have := follow_k (begB_holds hb) q hq; omega
            · have := hk q (List.mem_cons_of_mem _ hq); omega) x hx
          omega
end Go.Proofs.YtkkkblghihheeaaDoor
