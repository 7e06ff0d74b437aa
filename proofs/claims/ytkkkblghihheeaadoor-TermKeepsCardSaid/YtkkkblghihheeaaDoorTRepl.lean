/- Terms in the place of variables: what a walk through the row that is made meets. Pure. -/
import Derived.Test.YtkkkblghihheeaaDoorTSubst
namespace Go.Proofs.YtkkkblghihheeaaDoor
open Go.RowKit

/-- Atoms are asked for ahead of all else, or not at all. -/
def Good (todo : List Part) : Prop := ∃ m k rest, todo = List.replicate m ⟨3, k⟩ ++ rest ∧ NoAt rest
theorem NoAt.good {todo : List Part} (h : NoAt todo) : Good todo := ⟨0, 0, todo, rfl, h⟩
theorem fixParts_no (k b m : Nat) : NoAt (fixParts k b m) := by
  induction m with
  | zero => intro p hp; cases hp
  | succ m ih =>
    intro p hp
    simp only [fixParts, List.mem_cons] at hp
    rcases hp with rfl | rfl | rfl | hp
    · simp
    · simp
    · simp
    · exact ih p hp
theorem follow_no {n : Node3} {k : Nat} (h : n.1 ≠ 2) : NoAt (follow n k) := by
  intro p hp
  unfold follow at hp
  rw [if_neg h] at hp
  split at hp
  · simp only [List.mem_cons, List.not_mem_nil, or_false] at hp; rcases hp with rfl | rfl <;> simp
  split at hp
  · simp only [List.mem_cons, List.not_mem_nil, or_false] at hp; rcases hp with rfl | rfl <;> simp
  split at hp
  · simp only [List.mem_cons, List.not_mem_nil, or_false] at hp; rcases hp with rfl | rfl | rfl <;> simp
  split at hp
  · rw [(List.mem_replicate.1 hp).2]; simp
  split at hp
  · exact fixParts_no _ _ _ p hp
  · cases hp
theorem begB_op {op : Int} {n h : Node3} (hb : begB op n h = true) : (n.1 = 3 ∧ op = 3) ∨ (n.1 = 13 ∧ op = 13) ∨ (n.1 ≠ 3 ∧ n.1 ≠ 13 ∧ op = 0) := by
  unfold begB at hb
  simp only [Bool.and_eq_true] at hb
  have h2 := hb.2
  split at h2
  · rename_i h3
    simp only [Bool.and_eq_true, decide_eq_true_eq] at h2
    exact .inl ⟨h3, h2.1⟩
  split at h2
  · rename_i h3 h13
    exact .inr (.inl ⟨h13, of_decide_eq_true h2⟩)
  · rename_i h3 h13
    exact .inr (.inr ⟨h3, h13, of_decide_eq_true h2⟩)
theorem Good.tail {p : Part} {todo : List Part} (h : Good (p :: todo)) (hp : p.op ≠ 3) : NoAt todo := by
  obtain ⟨m, k, rest, e, hn⟩ := h
  cases m with
  | zero =>
    simp only [List.replicate_zero, List.nil_append] at e
    subst e
    exact fun q hq => hn q (List.mem_cons_of_mem _ hq)
  | succ m =>
    rw [List.replicate_succ, List.cons_append] at e
    cases e
    exact absurd rfl hp
theorem Good.next {p : Part} {todo : List Part} {n h : Node3} (hg : Good (p :: todo)) (hb : begB p.op n h = true) : Good (follow n p.k ++ todo) := by
  rcases begB_op hb with ⟨h1, h2⟩ | ⟨h1, h2⟩ | ⟨h1, h2, h3⟩
  · have e : follow n p.k = [] := follow_none (by omega)
    rw [e, List.nil_append]
    obtain ⟨m, k, rest, e, hn⟩ := hg
    cases m with
    | zero =>
      simp only [List.replicate_zero, List.nil_append] at e
      subst e
      exact NoAt.good fun q hq => hn q (List.mem_cons_of_mem _ hq)
    | succ m =>
      rw [List.replicate_succ, List.cons_append] at e
      cases e
      exact ⟨m, k, rest, rfl, hn⟩
  · have hn := hg.tail (by omega)
    refine NoAt.good fun q hq => ?_
    rcases List.mem_append.1 hq with hq | hq
    · exact follow_no (by omega) q hq
    · exact hn q hq
  · have hn := hg.tail (by omega)
    by_cases h4 : n.1 = 2
    · refine ⟨n.2.2.toNat, p.k, todo, ?_, hn⟩
      unfold follow
      rw [if_pos h4]
    · refine NoAt.good fun q hq => ?_
      rcases List.mem_append.1 hq with hq | hq
      · exact follow_no h4 q hq
      · exact hn q hq
theorem W_repl (f : Node3 × Nat → Ann) (hf1 : ∀ x : Node3 × Nat, x.1.1 ≠ 1 → f x = [x]) : ∀ (a : Ann) (r : List Node3) (h : Node3) (todo : List Part) (s : List Node3) (e : Node3), W r h todo = some (a, s, e) → Good todo →
    (∀ x ∈ a, x.1.1 = 1 → ∃ e, W ((f x).map Prod.fst) (0, 0, 0) [⟨0, x.2⟩] = some (f x, [], e)) → ∀ s', ∃ e', W ((a.flatMap f).map Prod.fst ++ s') h todo = some (a.flatMap f, s', e') := by
  intro a
  induction a with
  | nil =>
    intro r h todo s e hw _ _ s'
    have h2 := (W_row _ _ _ _ _ _ hw).2
    have : todo = [] := List.eq_nil_of_length_eq_zero (by simpa using h2)
    subst this
    exact ⟨h, by rw [W_nil]; rfl⟩
  | cons x a ih =>
    intro r h todo s e hw hg hf2 s'
    cases todo with
    | nil => rw [W_nil] at hw; cases hw
    | cons p todo =>
      cases r with
      | nil => cases hw
      | cons n r =>
        obtain ⟨hb, a', e1, hw'⟩ := W_cons hw
        cases e1
        have hg' := hg.next hb
        obtain ⟨e', he'⟩ := ih _ _ _ _ _ hw' hg' (fun y hy => hf2 y (List.mem_cons_of_mem _ hy)) s'
        rw [List.flatMap_cons, List.map_append, List.append_assoc]
        by_cases h1 : n.1 = 1
        · have hfo : follow n p.k = [] := follow_none (by omega)
          rw [hfo, List.nil_append] at he'
          have hop : p.op = 0 := by rcases begB_op hb with ⟨h2, _⟩ | ⟨h2, _⟩ | ⟨_, _, h2⟩ <;> omega
          obtain ⟨ex, hx⟩ := hf2 (n, p.k) (by simp) h1
          have hna : NoAt [(⟨0, p.k⟩ : Part)] := by intro q hq; simp only [List.mem_cons, List.not_mem_nil, or_false] at hq; subst hq; simp
          rw [W_ahead (0, 0, 0) h hna (by simp)] at hx
          have ht := W_trim _ _ _ ((a.flatMap f).map Prod.fst ++ s') _ _ _ hx
          obtain ⟨po, pk⟩ := p
          simp only at hop ht hx he' ⊢
          subst hop
          have hsp := W_split todo ((f (n, pk)).map Prod.fst ++ ((a.flatMap f).map Prod.fst ++ s')) h [⟨0, pk⟩]
          rw [List.singleton_append, ht] at hsp
          simp only [Option.bind_some] at hsp
          have hn := hg.tail (by simp)
          by_cases h0 : todo = []
          · subst h0
            rw [W_nil] at he'
            simp only [Option.some.injEq, Prod.mk.injEq] at he'
            refine ⟨ex, ?_⟩
            rw [hsp, W_nil, ← he'.1]
            simp only [Option.map_some, Option.some.injEq, Prod.mk.injEq, List.append_nil, true_and, and_true]
            rfl
          · rw [W_ahead n ex hn h0] at he'
            exact ⟨e', by rw [hsp, he']; rfl⟩
        · rw [hf1 (n, p.k) h1]
          refine ⟨e', ?_⟩
          simp only [List.map_cons, List.map_nil, List.cons_append, List.nil_append]
          rw [W_yes hb, he']
          rfl
end Go.Proofs.YtkkkblghihheeaaDoor
