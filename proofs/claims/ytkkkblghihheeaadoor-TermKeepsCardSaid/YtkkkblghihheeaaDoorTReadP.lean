/- How a row is read into a tree, step by step. Pure. -/
import Derived.Test.YtkkkblghihheeaaDoorTFold3
namespace Go.Proofs.YtkkkblghihheeaaDoor
open Go.RowKit

/-- What these parts take of a row, and what is left. -/
def V (r : List Node3) (h : Node3) (todo : List Part) : Option (Ann × List Node3) := (W r h todo).map fun x => (x.1, x.2.1)
theorem V_nil (r : List Node3) (h : Node3) : V r h [] = some ([], r) := by unfold V; rw [W_nil]; rfl
theorem V_no {p : Part} {n h : Node3} {r : List Node3} {todo : List Part} (hb : begB p.op n h = false) : V (n :: r) h (p :: todo) = none := by unfold V; rw [W_no hb]; rfl
theorem V_yes {p : Part} {n h : Node3} {r : List Node3} {todo : List Part} (hb : begB p.op n h = true) : V (n :: r) h (p :: todo) = (V r n (follow n p.k ++ todo)).map fun x => ((n, p.k) :: x.1, x.2) := by
  unfold V
  rw [W_yes hb]
  cases W r n (follow n p.k ++ todo) <;> rfl
theorem V_ahead {r : List Node3} {todo : List Part} (h h' : Node3) (hn : NoAt todo) : V r h todo = V r h' todo := by
  by_cases h0 : todo = []
  · subst h0; rw [V_nil, V_nil]
  · unfold V; rw [W_ahead h h' hn h0]
/-- What a term's beginning takes. -/
def top0 (t : List Node3) : Option (Ann × List Node3) := V t (0, 0, 0) [⟨0, 0⟩]
/-- So far `pre` is read, up to `at_`; these parts are to come. -/
def Cont (t : List Node3) (pre : Ann) (at_ : Nat) (todo : List Part) : Prop := ∃ e, (∀ h, t[at_ - 1]? = some h → e = h) ∧ top0 t = (V (t.drop at_) e todo).map fun x => (pre ++ x.1, x.2)
theorem cont_top {t : List Node3} {n : Node3} {r : List Node3} (ht : t = n :: r) (h : topB n = true) : Cont t [(n, 0)] 1 (follow n 0) := by
  subst ht
  rw [topB_beg n (0, 0, 0)] at h
  refine ⟨n, fun h e => by simpa using e, ?_⟩
  unfold top0
  rw [V_yes h, List.append_nil]
  rfl
theorem cont_topno {t : List Node3} {n : Node3} {r : List Node3} (ht : t = n :: r) (h : topB n = false) : top0 t = none := by
  subst ht
  rw [topB_beg n (0, 0, 0)] at h
  exact V_no h
theorem cont_end {t : List Node3} {pre : Ann} {at_ : Nat} {p : Part} {todo : List Part} (h : Cont t pre at_ (p :: todo)) (hl : t.length ≤ at_) : top0 t = none := by
  obtain ⟨e, -, h⟩ := h
  rw [h, List.drop_eq_nil_of_le hl]
  rfl
/-- One node is read that has no parts. -/
theorem cont_one {t : List Node3} {pre : Ann} {at_ : Nat} {p : Part} {todo : List Part} (h : Cont t pre at_ (p :: todo)) (hp : 0 < at_) (hl : at_ < t.length) (hf : follow t[at_] p.k = []) (hb : begB p.op t[at_] (t[at_ - 1]'(by omega)) = true) : Cont t (pre ++ [(t[at_], p.k)]) (at_ + 1) todo := by
  obtain ⟨e, he, h⟩ := h
  obtain rfl := he _ (List.getElem?_eq_getElem (by omega))
  refine ⟨t[at_], fun h e => by rw [Nat.add_sub_cancel, List.getElem?_eq_getElem hl] at e; exact Option.some.inj e, ?_⟩
  rw [h, List.drop_eq_getElem_cons hl, V_yes hb, hf, List.nil_append]
  cases V (t.drop (at_ + 1)) t[at_] todo with
  | none => rfl
  | some x => simp
theorem cont_oneno {t : List Node3} {pre : Ann} {at_ : Nat} {p : Part} {todo : List Part} (h : Cont t pre at_ (p :: todo)) (hp : 0 < at_) (hl : at_ < t.length) (hb : begB p.op t[at_] (t[at_ - 1]'(by omega)) = false) : top0 t = none := by
  obtain ⟨e, he, h⟩ := h
  obtain rfl := he _ (List.getElem?_eq_getElem (by omega))
  rw [h, List.drop_eq_getElem_cons hl, V_no hb]
  rfl
theorem V_kid {r : List Node3} {e : Node3} {d : Nat} {todo : List Part} (hn : NoAt todo) : V r e (⟨0, d⟩ :: todo) = (top0 r).bind fun x => (V x.2 e todo).map fun y => (shA d x.1 ++ y.1, y.2) := by
  have h1 := W_split todo r e [⟨0, d⟩]
  have h2 := W_ahead (r := r) (todo := [⟨0, d⟩]) e (0, 0, 0) (by intro p hp; simp only [List.mem_cons, List.not_mem_nil, or_false] at hp; subst hp; simp) (by simp)
  have h3 := W_shift d r (0, 0, 0) [⟨0, 0⟩]
  have e4 : ([⟨0, 0⟩] : List Part).map (shP d) = [⟨0, d⟩] := by simp [shP]
  rw [e4] at h3
  rw [List.singleton_append] at h1
  unfold top0 V
  rw [h1, h2, h3]
  cases W r (0, 0, 0) [⟨0, 0⟩] with
  | none => rfl
  | some x =>
    have h4 := V_ahead (r := x.2.1) x.2.2 e hn
    unfold V at h4
    simp only [Option.map_some, Option.bind_some, Option.map_map]
    cases hx : W x.2.1 x.2.2 todo with
    | none =>
      rw [hx] at h4
      cases hy : W x.2.1 e todo with
      | none => rfl
      | some y => rw [hy] at h4; cases h4
    | some z =>
      rw [hx] at h4
      cases hy : W x.2.1 e todo with
      | none => rw [hy] at h4; cases h4
      | some y =>
        rw [hy] at h4
        simp only [Option.map_some, Option.some.injEq, Prod.mk.injEq] at h4
        simp [h4.1, h4.2]
theorem cont_kidno {t : List Node3} {pre : Ann} {at_ d : Nat} {todo : List Part} (h : Cont t pre at_ (⟨0, d⟩ :: todo)) (hn : NoAt todo) (hk : top0 (t.drop at_) = none) : top0 t = none := by
  obtain ⟨e, -, h⟩ := h
  rw [h, V_kid hn, hk]
  rfl
theorem top0_row {t : List Node3} {a : Ann} {s : List Node3} (h : top0 t = some (a, s)) : t = a.map Prod.fst ++ s ∧ 1 ≤ a.length := by
  unfold top0 V at h
  cases hw : W t (0, 0, 0) [⟨0, 0⟩] with
  | none => rw [hw] at h; cases h
  | some x =>
    rw [hw] at h
    obtain ⟨a', s', e⟩ := x
    cases h
    exact W_row _ _ _ _ _ _ hw
theorem cont_kid {t : List Node3} {pre a : Ann} {at_ d : Nat} {todo : List Part} {s : List Node3} (h : Cont t pre at_ (⟨0, d⟩ :: todo)) (hn : NoAt todo) (hk : top0 (t.drop at_) = some (a, s)) : Cont t (pre ++ shA d a) (at_ + a.length) todo := by
  obtain ⟨e, -, h⟩ := h
  have hrow := top0_row hk
  have hs : s = t.drop (at_ + a.length) := by
    rw [← List.drop_drop, hrow.1, List.drop_left' (List.length_map ..)]
  rw [V_kid hn, hk] at h
  simp only [Option.bind_some] at h
  subst hs
  have : ∀ e2, top0 t = (V (t.drop (at_ + a.length)) e2 todo).map fun x => (pre ++ shA d a ++ x.1, x.2) := fun e2 => by
    rw [h, V_ahead e e2 hn]
    cases V (t.drop (at_ + a.length)) e2 todo with
    | none => rfl
    | some x => simp
  by_cases hq : at_ + a.length - 1 < t.length
  · exact ⟨t[at_ + a.length - 1], fun h e => by rw [List.getElem?_eq_getElem hq] at e; exact Option.some.inj e, this _⟩
  · exact ⟨e, fun h he => absurd he (by rw [List.getElem?_eq_none (by omega)]; simp), this e⟩
theorem cont_done {t : List Node3} {pre : Ann} {at_ : Nat} (h : Cont t pre at_ []) : top0 t = some (pre, t.drop at_) := by
  obtain ⟨e, -, h⟩ := h
  rw [h, V_nil]
  simp
theorem follow3 {n : Node3} {k : Nat} (h : n.1 = 3 ∨ n.1 = 13) : follow n k = [] := by
  unfold follow
  rw [if_neg (by omega), if_neg (by omega), if_neg (by omega), if_neg (by omega), if_neg (by omega), if_neg (by omega)]
/-- One term, as these nodes tell. -/
def isT (a : Ann) : Prop := top0 (a.map Prod.fst) = some (a, [])
/-- What is read of a row is one term. -/
theorem isT_of {t s : List Node3} {a : Ann} (h : top0 t = some (a, s)) : isT a := by
  unfold top0 V at h
  cases hw : W t (0, 0, 0) [⟨0, 0⟩] with
  | none => rw [hw] at h; cases h
  | some x =>
    obtain ⟨a', s', e⟩ := x
    rw [hw] at h
    cases h
    have := W_trim _ _ _ [] _ _ _ hw
    rw [List.append_nil] at this
    unfold isT top0 V
    rw [this]
    rfl
theorem isT.more {a : Ann} (h : isT a) (s : List Node3) : top0 (a.map Prod.fst ++ s) = some (a, s) := by
  unfold isT top0 V at h
  cases hw : W (a.map Prod.fst) (0, 0, 0) [⟨0, 0⟩] with
  | none => rw [hw] at h; cases h
  | some x =>
    obtain ⟨a', s', e⟩ := x
    rw [hw] at h
    cases h
    have := W_trim _ _ _ s _ _ _ hw
    unfold top0 V
    rw [this]
    rfl
/-- What is so of the parts of a node that was read. -/
def NodeOk (n : Node3) (ats _ : List Node3) (ks : List Ann) : Prop := ks.length = kidsN n ∧ (n.1 ≠ 2 → ats = []) ∧ ∀ k ∈ ks, isT k
abbrev TreeR := TreeP NodeOk
end Go.Proofs.YtkkkblghihheeaaDoor
