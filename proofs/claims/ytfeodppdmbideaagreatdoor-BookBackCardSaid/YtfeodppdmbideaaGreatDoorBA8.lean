/- The way to the laws of books: BPure to BScope. -/
import Derived.Test.YtfeodppdmbideaaGreatDoorBA5
import Derived.Test.YtfeodppdmbideaaGreatDoorBA6
import Derived.Test.YtfeodppdmbideaaGreatDoorBA7
import Derived.Maps.OwnSet
import Derived.DeepKeys4
namespace Go.Proofs.YtfeodppdmbideaaGreatDoor
open Go.RowKit

/-- A constructor: its arguments, its out. -/
structure CtorP where
  args : List (List Node3)
  out : List (List Node3)
structure EntP where
  kind : Int
  sort : List Node3
  pars : List (List Node3)
  inds : List (List Node3)
  ctors : List CtorP
  typ : List Node3
  body : List Node3
structure BookP where
  vars : Int
  ords : List Node3
  ents : List EntP
  nat : Int
  prims : List (Int × Int)
structure ProgP where
  book : BookP
  main : List Node3
  typ : List Node3

/-- The entry e, among the first known ones, is of that kind. -/
def kindB (ents : List EntP) (k : Int) (e : Int) (known : Nat) : Bool := decide (0 ≤ e ∧ e < known) && (match ents[e.toNat]? with | some x => decide (x.kind = k) | none => false)
def ctorsN (ents : List EntP) (e : Int) : Nat := match ents[e.toNat]? with | some x => x.ctors.length | none => 0
/-- What a node names is there. -/
def thereN (vars : Int) (ents : List EntP) (known : Nat) (self : Int) (n : Node3) : Bool :=
  if n.1 = 3 then decide (n.2.1 ≤ vars) else if n.1 = 8 then kindB ents 2 n.2.1 known else if n.1 = 9 then decide (n.2.1 = self) || kindB ents 1 n.2.1 known
  else if n.1 = 10 then kindB ents 1 n.2.1 known && decide (n.2.2 < ctorsN ents n.2.1) else if n.1 = 11 then kindB ents 1 n.2.1 known else true
def rowE (th : Node3 → Bool) (below : Int) (t : List Node3) : Int := if shapeOf t ≠ 0 then shapeOf t else if (belowS t below && t.all th) = true then 0 else 8
/-- The first error of a list. -/
def firstE {α : Type} (f : Nat → α → Int) : Nat → List α → Int
  | _, [] => 0
  | i, x :: l => if f i x ≠ 0 then f i x else firstE f (i + 1) l
def ctorE (R : Int → List Node3 → Int) (np ni : Nat) (c : CtorP) : Int :=
  if 16 < c.args.length then 5 else if c.out.length ≠ ni then 8
  else if firstE (fun j t => R ((np : Int) + (j : Int)) t) 0 c.args ≠ 0 then firstE (fun j t => R ((np : Int) + (j : Int)) t) 0 c.args
  else firstE (fun _ t => R ((np : Int) + (c.args.length : Int)) t) 0 c.out
def defE (R : Int → List Node3 → Int) (x : EntP) : Int :=
  if x.sort ≠ [] ∨ x.pars ≠ [] ∨ x.inds ≠ [] ∨ x.ctors ≠ [] then 8 else firstE (fun _ t => R 0 t) 0 [x.typ, x.body]
def famE (R Rs : Int → List Node3 → Int) (x : EntP) : Int :=
  if x.typ ≠ [] ∨ x.body ≠ [] then 8 else if 16 < x.pars.length ∨ 16 < x.inds.length ∨ 16 < x.ctors.length then 5
  else if R 0 x.sort ≠ 0 then R 0 x.sort
  else if (x.sort.head?.getD (0, 0, 0)).1 ≠ 2 then 8
  else if firstE (fun j t => R (j : Int) t) 0 (x.pars ++ x.inds) ≠ 0 then firstE (fun j t => R (j : Int) t) 0 (x.pars ++ x.inds)
  else firstE (fun _ c => ctorE Rs x.pars.length x.inds.length c) 0 x.ctors
/-- What is wrong with the i-th entry. -/
def entE (vars : Int) (ents : List EntP) (i : Nat) (x : EntP) : Int :=
  if x.kind = 1 then famE (rowE (thereN vars ents i (-1))) (rowE (thereN vars ents i i)) x else if x.kind = 2 then defE (rowE (thereN vars ents i (-1))) x else 8
/-- It is the family of the natural numbers. -/
def numX (nat : Int) (x : EntP) : Bool := decide (x.sort = [(2, 1, 1), (3, 0, 0)] ∧ x.pars = [] ∧ x.inds = []) && (match x.ctors with | [z, s] => decide (z.args = [] ∧ s.args = [[(9, nat, 0)]]) | _ => false)
def natB (b : BookP) : Bool := decide (b.nat = -1) || (kindB b.ents 1 b.nat b.ents.length && (match b.ents[b.nat.toNat]? with | some x => numX b.nat x | none => false))
def primB (ents : List EntP) (p : Int × Int) : Bool := kindB ents 2 p.1 ents.length && decide (1 ≤ p.2 ∧ p.2 ≤ 3)
def clashB (p q : Int × Int) : Bool := decide (p.1 = q.1) || decide (p.2 = q.2)
/-- The primitives from the i-th on are as they must be. -/
def primsA (ents : List EntP) : List (Int × Int) → List (Int × Int) → Bool
  | _, [] => true
  | pre, p :: l => primB ents p && !(pre.any fun q => clashB p q) && primsA ents (pre ++ [p]) l
def primsB (b : BookP) : Bool := primsA b.ents [] b.prims && (decide (b.prims = []) || decide (b.nat ≠ -1))
def rightE (b : BookP) : Int :=
  if errS b.vars b.ords ≠ 0 then errS b.vars b.ords else if 64 < b.ents.length then 5
  else if firstE (fun i x => entE b.vars b.ents i x) 0 b.ents ≠ 0 then firstE (fun i x => entE b.vars b.ents i x) 0 b.ents
  else if (natB b && primsB b) = true then 0 else 22
def fitsE (b : BookP) (free : Int) (t : List Node3) : Int :=
  if rightE b ≠ 0 then rightE b else if free < 0 then 1 else rowE (thereN b.vars b.ents b.ents.length (-1)) free t
/-- The first error of a program. -/
def progE (p : ProgP) : Int :=
  if rightE p.book ≠ 0 then rightE p.book else firstE (fun _ t => rowE (thereN p.book.vars p.book.ents p.book.ents.length (-1)) 0 t) 0 [p.main, p.typ]

/-- What is known once k entries have been looked at. -/
def nameB (ents : List EntP) (k : Nat) (n : Node3) : Bool :=
  (decide (n.1 = 8 ∧ n.2.2 = 0) && kindB ents 2 n.2.1 k) || (decide ((n.1 = 9 ∨ n.1 = 11) ∧ n.2.2 = 0) && kindB ents 1 n.2.1 k) || (decide (n.1 = 10 ∧ 0 ≤ n.2.2 ∧ n.2.2 < ctorsN ents n.2.1) && kindB ents 1 n.2.1 k)
/-- A node names what is not known. -/
def strangeB (vars : Int) (f : Node3 → Bool) (n : Node3) : Bool :=
  if n.1 = 3 then decide (vars < n.2.1) else if n.1 = 8 ∨ n.1 = 9 ∨ n.1 = 10 then !(f n) else if n.1 = 11 then !(f (11, n.2.1, 0)) else false
def rowF (vars : Int) (f : Node3 → Bool) (free : Int) (t : List Node3) : Int := if 4096 < t.length then 9 else if (!(belowS t free) || t.any (strangeB vars f)) = true then 8 else 0

theorem kind_lt {ents : List EntP} {k e : Int} {n : Nat} (h : kindB ents k e n = true) : 0 ≤ e ∧ e < n := by
  unfold kindB at h
  rw [Bool.and_eq_true, decide_eq_true_eq] at h
  exact h.1
theorem kind_out {ents : List EntP} {k e : Int} {n : Nat} (h : ¬ (0 ≤ e ∧ e < n)) : kindB ents k e n = false := by
  unfold kindB
  rw [decide_eq_false h, Bool.false_and]
theorem kind_in {ents : List EntP} {k : Int} {i n : Nat} (h : i < n) (hl : i < ents.length) : kindB ents k (i : Int) n = decide (ents[i].kind = k) := by
  unfold kindB
  rw [decide_eq_true (by omega), Bool.true_and, Int.toNat_natCast, List.getElem?_eq_getElem hl]
theorem kind_next {ents : List EntP} {k e : Int} {i : Nat} (hl : i < ents.length) : kindB ents k e (i + 1) = (kindB ents k e i || (decide (e = i) && decide (ents[i].kind = k))) := by
  by_cases he : e = i
  · subst he
    rw [kind_in (by omega) hl, kind_out (by omega), Bool.false_or, decide_eq_true rfl, Bool.true_and]
  · rw [decide_eq_false he, Bool.false_and, Bool.or_false]
    unfold kindB
    congr 1
    exact decide_eq_decide.2 (by omega)
theorem ctors_in {ents : List EntP} {i : Nat} (hl : i < ents.length) : ctorsN ents (i : Int) = ents[i].ctors.length := by
  unfold ctorsN
  rw [Int.toNat_natCast, List.getElem?_eq_getElem hl]
/-- A right row's node is strange where it names what is not there. -/
theorem strange_there {vars : Int} {ents : List EntP} {k : Nat} {self : Int} {f : Node3 → Bool} {n : Node3} (hn : holdsN n)
    (hf : ∀ m : Node3, f m = (nameB ents k m || decide (m = (9, self, 0) ∧ 0 ≤ self))) : strangeB vars f n = !(thereN vars ents k self n) := by
  obtain ⟨o, A, B⟩ := n
  have hz : 0 ≤ A ∧ 0 ≤ B := ⟨(holds_a hn).1, (holds_b hn).1⟩
  have hB : (o = 8 ∨ o = 9) → B = 0 := fun h => by unfold holdsN at hn; simp only at hn; omega
  unfold strangeB thereN
  simp only
  by_cases h3 : o = 3
  · rw [if_pos h3, if_pos h3]
    by_cases h : A ≤ vars
    · rw [decide_eq_true h, decide_eq_false (by omega)]; rfl
    · rw [decide_eq_false h, decide_eq_true (by omega)]; rfl
  rw [if_neg h3, if_neg h3]
  by_cases h8 : o = 8
  · subst h8
    rw [if_pos (.inl rfl), if_pos rfl, hf, hB (.inl rfl)]
    simp [nameB]
  rw [if_neg h8]
  by_cases h9 : o = 9
  · subst h9
    rw [if_pos (.inr (.inl rfl)), if_pos rfl, hf, hB (.inr rfl)]
    have e1 : decide (((9, A, 0) : Node3) = (9, self, 0) ∧ 0 ≤ self) = decide (A = self) := decide_eq_decide.2 ⟨fun h => by have := h.1; simp only [Prod.mk.injEq] at this; exact this.2.1, fun h => ⟨by rw [h], by omega⟩⟩
    rw [e1]
    simp [nameB, Bool.or_comm]
  rw [if_neg h9]
  by_cases h10 : o = 10
  · subst h10
    rw [if_pos (.inr (.inr rfl)), if_pos rfl, hf]
    simp [nameB, hz.2, Bool.and_comm]
  rw [if_neg h10, if_neg (by omega)]
  by_cases h11 : o = 11
  · subst h11
    rw [if_pos rfl, if_pos rfl, hf]
    simp [nameB]
  · rw [if_neg h11, if_neg h11]; rfl
theorem below_shape {t : List Node3} {n : Int} (h : belowS t n = true) : shapeOf t = 0 := by
  unfold belowS at h
  rw [Bool.and_eq_true, decide_eq_true_eq] at h
  exact h.1
theorem right_holds {t : List Node3} (h : shapeOf t = 0) : ∀ n ∈ t, holdsN n := fun n hn => by
  obtain ⟨-, -, e, hW⟩ := right_of h
  have hr := (W_row _ _ _ _ _ _ hW).1
  rw [List.append_nil] at hr
  rw [hr] at hn
  obtain ⟨x, hx, rfl⟩ := List.mem_map.1 hn
  exact W_holds _ _ _ _ _ _ hW x hx
theorem shape_ways (t : List Node3) : (4096 < t.length ∧ shapeOf t = 9) ∨ (¬ 4096 < t.length ∧ (shapeOf t = 0 ∨ shapeOf t = 8)) := by
  unfold shapeOf
  by_cases h : 4096 < t.length
  · exact .inl ⟨h, if_pos h⟩
  · refine .inr ⟨h, ?_⟩
    rw [if_neg h]
    split
    · exact .inl rfl
    · exact .inr rfl
theorem any_not {l : List Node3} {p q : Node3 → Bool} (h : ∀ n ∈ l, p n = !(q n)) : l.any p = !(l.all q) := by
  induction l with
  | nil => rfl
  | cons x l ih =>
    rw [List.any_cons, List.all_cons, h x (by simp), ih fun n hn => h n (List.mem_cons_of_mem _ hn)]
    cases q x <;> simp
theorem rowF_E {vars : Int} {ents : List EntP} {k : Nat} {self : Int} {f : Node3 → Bool} (hf : ∀ m : Node3, f m = (nameB ents k m || decide (m = (9, self, 0) ∧ 0 ≤ self))) (free : Int) (t : List Node3) :
    rowF vars f free t = rowE (thereN vars ents k self) free t := by
  unfold rowF rowE
  rcases shape_ways t with ⟨h1, h2⟩ | ⟨h1, h2⟩
  · rw [if_pos h1, if_pos (by omega), h2]
  rw [if_neg h1]
  by_cases h0 : shapeOf t = 0
  · rw [if_neg (show ¬ shapeOf t ≠ 0 from fun h => h h0), any_not fun n hn => strange_there (right_holds h0 n hn) hf]
    cases belowS t free <;> cases t.all (thereN vars ents k self) <;> simp
  · have hb : belowS t free = false := by
      cases hb : belowS t free with
      | false => rfl
      | true => exact absurd (below_shape hb) h0
    rw [if_pos h0, hb]
    have := h2.resolve_left h0
    simp [this]
theorem firstE_zero {α : Type} {f : Nat → α → Int} : ∀ {l : List α} {i : Nat}, firstE f i l = 0 → ∀ j (h : j < l.length), f (i + j) l[j] = 0
  | [], _, _, j, h => by simp at h
  | x :: l, i, h, j, hj => by
    unfold firstE at h
    by_cases h0 : f i x = 0
    · rw [if_neg (by omega)] at h
      cases j with
      | zero => exact h0
      | succ j =>
        have := firstE_zero h j (by simpa using hj)
        rw [show i + 1 + j = i + (j + 1) by omega] at this
        exact this
    · rw [if_pos h0] at h
      exact absurd h h0
theorem firstE_at {α : Type} {f : Nat → α → Int} : ∀ {l : List α} {i k : Nat} (h : k < l.length), (∀ j (hj : j < k), f (i + j) (l[j]'(by omega)) = 0) → f (i + k) l[k] ≠ 0 → firstE f i l = f (i + k) l[k]
  | [], _, _, h, _, _ => by simp at h
  | x :: l, i, 0, _, _, hk => by
    simp only [Nat.add_zero, List.getElem_cons_zero] at hk ⊢
    unfold firstE
    rw [if_pos hk]
  | x :: l, i, k + 1, h, hj, hk => by
    have h0 := hj 0 (by omega)
    unfold firstE
    simp only [Nat.add_zero, List.getElem_cons_zero] at h0
    rw [if_neg (by omega)]
    have h1 := firstE_at (f := f) (l := l) (i := i + 1) (k := k) (by simpa using h) (fun j hj' => by have := hj (j + 1) (by omega); rw [show i + 1 + j = i + (j + 1) by omega]; simpa using this) (by rw [show i + 1 + k = i + (k + 1) by omega]; simpa using hk)
    rw [h1, show i + 1 + k = i + (k + 1) by omega]; rfl
theorem firstE_none {α : Type} {f : Nat → α → Int} : ∀ {l : List α} {i : Nat}, (∀ j (h : j < l.length), f (i + j) l[j] = 0) → firstE f i l = 0
  | [], _, _ => rfl
  | x :: l, i, h => by
    have h0 := h 0 (by simp)
    simp only [Nat.add_zero, List.getElem_cons_zero] at h0
    unfold firstE
    rw [if_neg (by omega)]
    exact firstE_none fun j hj => by have := h (j + 1) (by simpa using hj); rw [show i + 1 + j = i + (j + 1) by omega]; simpa using this
end Go.Proofs.YtfeodppdmbideaaGreatDoor
namespace Go.Proofs.YtfeodppdmbideaaGreatDoor
open Go.RowKit

/-- A list of rows in memory. -/
abbrev RowsT := Option Addr × Nat × List RowT
def rowsV (x : RowsT) : Value := .slice x.1 x.2.2.length x.2.1
def rowsP (x : RowsT) : List (List Node3) := x.2.2.map fun y => y.2.2
def RowIn1 (w : World) (x : RowT) : Prop := Slice x.1 x.2.2.length x.2.1 ∧ Holds w x.1 (nodesV x.2.2)
def RowsIn (w : World) (x : RowsT) : Prop := Slice x.1 x.2.2.length x.2.1 ∧ Holds w x.1 (x.2.2.map rowV) ∧ RowsOk w x.2.2
theorem RowIn1.below {w w' : World} {x : RowT} (h : RowIn1 w x) (hb : Below w.heap.size w w') : RowIn1 w' x := ⟨h.1, h.2.below hb⟩
theorem RowsIn.below {w w' : World} {x : RowsT} (h : RowsIn w x) (hb : Below w.heap.size w w') : RowsIn w' x := ⟨h.1, h.2.1.below hb, h.2.2.below hb⟩
structure CtorT where
  args : RowsT
  out : RowsT
def CtorT.p (c : CtorT) : CtorP := ⟨rowsP c.args, rowsP c.out⟩
def CtorT.cells (c : CtorT) : List Value := [rowsV c.args, rowsV c.out]
abbrev CtorT.val (c : CtorT) : Value := .agg #[rowsV c.args, rowsV c.out]
def CtorIn (w : World) (c : CtorT) : Prop := RowsIn w c.args ∧ RowsIn w c.out
abbrev CtorsT := Option Addr × Nat × List CtorT
def ctorsCV (l : List CtorT) : List Value := l.flatMap CtorT.cells
def ctorsV (x : CtorsT) : Value := .slice x.1 x.2.2.length x.2.1
def CtorsIn (w : World) (x : CtorsT) : Prop := Slice x.1 x.2.2.length x.2.1 ∧ Holds w x.1 (ctorsCV x.2.2) ∧ ∀ c ∈ x.2.2, CtorIn w c
theorem CtorIn.below {w w' : World} {x : CtorT} (h : CtorIn w x) (hb : Below w.heap.size w w') : CtorIn w' x := ⟨h.1.below hb, h.2.below hb⟩
theorem CtorsIn.below {w w' : World} {x : CtorsT} (h : CtorsIn w x) (hb : Below w.heap.size w w') : CtorsIn w' x := ⟨h.1, h.2.1.below hb, fun c hc => (h.2.2 c hc).below hb⟩
structure EntT where
  kind : Int
  sort : RowT
  pars : RowsT
  inds : RowsT
  ctors : CtorsT
  typ : RowT
  body : RowT
def EntT.p (x : EntT) : EntP := ⟨x.kind, x.sort.2.2, rowsP x.pars, rowsP x.inds, x.ctors.2.2.map CtorT.p, x.typ.2.2, x.body.2.2⟩
def EntT.cells (x : EntT) : List Value := [.int .i64 x.kind, rowV x.sort, rowsV x.pars, rowsV x.inds, ctorsV x.ctors, rowV x.typ, rowV x.body]
abbrev EntT.val (x : EntT) : Value := .agg #[.int .i64 x.kind, rowV x.sort, rowsV x.pars, rowsV x.inds, ctorsV x.ctors, rowV x.typ, rowV x.body]
structure EntIn (w : World) (x : EntT) : Prop where
  sort : RowIn1 w x.sort
  pars : RowsIn w x.pars
  inds : RowsIn w x.inds
  ctors : CtorsIn w x.ctors
  typ : RowIn1 w x.typ
  body : RowIn1 w x.body
theorem EntIn.below {w w' : World} {x : EntT} (h : EntIn w x) (hb : Below w.heap.size w w') : EntIn w' x := ⟨h.sort.below hb, h.pars.below hb, h.inds.below hb, h.ctors.below hb, h.typ.below hb, h.body.below hb⟩
abbrev EntsT := Option Addr × Nat × List EntT
def entsCV (l : List EntT) : List Value := l.flatMap EntT.cells
def entsV (x : EntsT) : Value := .slice x.1 x.2.2.length x.2.1
def EntsIn (w : World) (x : EntsT) : Prop := Slice x.1 x.2.2.length x.2.1 ∧ Holds w x.1 (entsCV x.2.2) ∧ ∀ c ∈ x.2.2, EntIn w c
theorem EntsIn.below {w w' : World} {x : EntsT} (h : EntsIn w x) (hb : Below w.heap.size w w') : EntsIn w' x := ⟨h.1, h.2.1.below hb, fun c hc => (h.2.2 c hc).below hb⟩
abbrev OrdsT := Option Addr × Nat × List Node3
abbrev PrimsT := Option Addr × Nat × List (Int × Int)
structure BookT where
  vars : Int
  ords : OrdsT
  ents : EntsT
  nat : Int
  prims : PrimsT
def BookT.p (b : BookT) : BookP := ⟨b.vars, b.ords.2.2, b.ents.2.2.map EntT.p, b.nat, b.prims.2.2⟩
abbrev BookT.val (b : BookT) : Value := .agg #[.int .i64 b.vars, .slice b.ords.1 b.ords.2.2.length b.ords.2.1, entsV b.ents, .int .i64 b.nat, .slice b.prims.1 b.prims.2.2.length b.prims.2.1]
structure BookIn (w : World) (b : BookT) : Prop where
  ords : Slice b.ords.1 b.ords.2.2.length b.ords.2.1 ∧ Holds w b.ords.1 (ordsV b.ords.2.2)
  ents : EntsIn w b.ents
  prims : Slice b.prims.1 b.prims.2.2.length b.prims.2.1 ∧ Holds w b.prims.1 (atomsV b.prims.2.2)
theorem BookIn.below {w w' : World} {b : BookT} (h : BookIn w b) (hb : Below w.heap.size w w') : BookIn w' b := ⟨⟨h.ords.1, h.ords.2.below hb⟩, h.ents.below hb, ⟨h.prims.1, h.prims.2.below hb⟩⟩
structure ProgT where
  book : BookT
  main : RowT
  typ : RowT
def ProgT.p (x : ProgT) : ProgP := ⟨x.book.p, x.main.2.2, x.typ.2.2⟩
abbrev ProgT.val (x : ProgT) : Value := .agg #[.int .i64 x.book.vars, .slice x.book.ords.1 x.book.ords.2.2.length x.book.ords.2.1, entsV x.book.ents, .int .i64 x.book.nat, .slice x.book.prims.1 x.book.prims.2.2.length x.book.prims.2.1, rowV x.main, rowV x.typ]
structure ProgIn (w : World) (x : ProgT) : Prop where
  book : BookIn w x.book
  main : RowIn1 w x.main
  typ : RowIn1 w x.typ
theorem ProgIn.below {w w' : World} {x : ProgT} (h : ProgIn w x) (hb : Below w.heap.size w w') : ProgIn w' x := ⟨h.book.below hb, h.main.below hb, h.typ.below hb⟩

theorem flat_get {α : Type} {g : α → List Value} {n : Nat} (hg : ∀ x, (g x).length = n) : ∀ {l : List α} {j f : Nat} (h : j < l.length), f < n → (l.flatMap g)[j * n + f]? = (g l[j])[f]?
  | [], _, _, h, _ => by simp at h
  | x :: l, 0, f, _, hf => by
    rw [List.flatMap_cons, List.getElem?_append_left (by rw [hg]; omega)]; simp
  | x :: l, j + 1, f, h, hf => by
    rw [List.flatMap_cons, List.getElem?_append_right (by rw [hg, Nat.add_mul]; omega), hg, show (j + 1) * n + f - n = j * n + f by rw [Nat.add_mul]; omega, flat_get hg (by simpa using h) hf]
    rfl
theorem flat_len {α : Type} {g : α → List Value} {n : Nat} (hg : ∀ x, (g x).length = n) : ∀ (l : List α), (l.flatMap g).length = l.length * n
  | [] => by simp
  | x :: l => by rw [List.flatMap_cons, List.length_append, hg, flat_len hg l, List.length_cons, Nat.add_mul]; omega
theorem entsCV_len (l : List EntT) : (entsCV l).length = l.length * 7 := flat_len (g := EntT.cells) (n := 7) (fun _ => rfl) l
theorem ctorsCV_len (l : List CtorT) : (ctorsCV l).length = l.length * 2 := flat_len (g := CtorT.cells) (n := 2) (fun _ => rfl) l
/-- The cells of the k-th entry. -/
theorem ents_cells {w : World} {b o : Nat} {l : List EntT} (h : Holds w (some ⟨b, o, none⟩) (entsCV l)) {k : Nat} (hk : k < l.length) :
    w.cell? ⟨b, o + k * 7, none⟩ = some (.int .i64 l[k].kind) ∧ w.cell? ⟨b, o + k * 7 + 1, none⟩ = some (rowV l[k].sort) ∧ w.cell? ⟨b, o + k * 7 + 2, none⟩ = some (rowsV l[k].pars) ∧ w.cell? ⟨b, o + k * 7 + 3, none⟩ = some (rowsV l[k].inds) ∧
    w.cell? ⟨b, o + k * 7 + 4, none⟩ = some (ctorsV l[k].ctors) ∧ w.cell? ⟨b, o + k * 7 + 5, none⟩ = some (rowV l[k].typ) ∧ w.cell? ⟨b, o + k * 7 + 6, none⟩ = some (rowV l[k].body) := by
  have g : ∀ f (hf : f < 7) (u : Value), (EntT.cells l[k])[f]? = some u → w.cell? ⟨b, o + k * 7 + f, none⟩ = some u := fun f hf u hu => by
    have := h.cell (j := k * 7 + f) (u := u) (by unfold entsCV; rw [flat_get (g := EntT.cells) (n := 7) (fun _ => rfl) hk hf]; exact hu)
    rwa [← Nat.add_assoc] at this
  exact ⟨g 0 (by omega) _ rfl, g 1 (by omega) _ rfl, g 2 (by omega) _ rfl, g 3 (by omega) _ rfl, g 4 (by omega) _ rfl, g 5 (by omega) _ rfl, g 6 (by omega) _ rfl⟩
theorem ctors_cells {w : World} {b o : Nat} {l : List CtorT} (h : Holds w (some ⟨b, o, none⟩) (ctorsCV l)) {k : Nat} (hk : k < l.length) :
    w.cell? ⟨b, o + k * 2, none⟩ = some (rowsV l[k].args) ∧ w.cell? ⟨b, o + k * 2 + 1, none⟩ = some (rowsV l[k].out) := by
  have g : ∀ f (hf : f < 2) (u : Value), (CtorT.cells l[k])[f]? = some u → w.cell? ⟨b, o + k * 2 + f, none⟩ = some u := fun f hf u hu => by
    have := h.cell (j := k * 2 + f) (u := u) (by unfold ctorsCV; rw [flat_get (g := CtorT.cells) (n := 2) (fun _ => rfl) hk hf]; exact hu)
    rwa [← Nat.add_assoc] at this
  exact ⟨g 0 (by omega) _ rfl, g 1 (by omega) _ rfl⟩
theorem rows_cell {w : World} {b o : Nat} {l : List RowT} (h : Holds w (some ⟨b, o, none⟩) (l.map rowV)) {k : Nat} (hk : k < l.length) : w.cell? ⟨b, o + k, none⟩ = some (.slice l[k].1 l[k].2.2.length l[k].2.1) := h.cell (rowsV_get hk)

/-- Block g is a map: no cells. -/
def NoCells (w : World) (g : Nat) : Prop := ∃ es clock, w.heap[g]? = some (.map es clock)
/-- Nothing but block g, which is a map, and new blocks have turned. -/
structure Turn (g : Nat) (w w' : World) : Prop where
  only : Only (fun k => k = g) w w'
  ahead : NoCells w g
  behind : NoCells w' g
theorem NoCells.lt {w : World} {g : Nat} (h : NoCells w g) : g < w.heap.size := by
  obtain ⟨_, _, h⟩ := h
  exact (Array.getElem?_eq_some_iff.1 h).1
theorem NoCells.below {w w' : World} {g : Nat} (h : NoCells w g) (hb : Below w.heap.size w w') : NoCells w' g := by
  have hl := h.lt
  obtain ⟨_, _, h1⟩ := h
  exact ⟨_, _, (hb.block g hl).trans h1⟩
theorem Turn.of_below {g : Nat} {w w' : World} (hb : Below w.heap.size w w') (h : NoCells w g) : Turn g w w' := ⟨Only.of_below hb, h, h.below hb⟩
theorem Turn.trans {g : Nat} {w w1 w2 : World} (h : Turn g w w1) (k : Turn g w1 w2) : Turn g w w2 := ⟨h.only.trans k.only fun _ _ e => e, h.ahead, k.behind⟩
theorem Turn.next {g : Nat} {w w1 w2 : World} (h : Turn g w w1) (hb : Below w1.heap.size w1 w2) : Turn g w w2 := h.trans (.of_below hb h.behind)
theorem Holds.turn {g : Nat} {w w' : World} {A : Option Addr} {vs : List Value} (h : Holds w A vs) (t : Turn g w w') : Holds w' A vs := fun hn => by
  obtain ⟨b, o, e, hb, hc⟩ := h.at_ hn
  refine ⟨b, o, e, fun j u hu => ?_⟩
  have h0 := hc j u hu
  have hne : b ≠ g := fun e => by
    subst e
    obtain ⟨_, _, h1⟩ := t.ahead
    unfold World.cell? at h0
    simp [h1] at h0
  exact (t.only.cell (p := ⟨b, o + j, none⟩) hb hne).trans h0
theorem Lim.turn {g : Nat} {w w' : World} (h : Lim w) (t : Turn g w w') : Lim w' := Holds.turn h t
theorem RowIn1.turn {g : Nat} {w w' : World} {x : RowT} (h : RowIn1 w x) (t : Turn g w w') : RowIn1 w' x := ⟨h.1, h.2.turn t⟩
theorem RowsOk.turn {g : Nat} {w w' : World} {l : List RowT} (h : RowsOk w l) (t : Turn g w w') : RowsOk w' l := fun x hx => ⟨(h x hx).1, (h x hx).2.turn t⟩
theorem RowsIn.turn {g : Nat} {w w' : World} {x : RowsT} (h : RowsIn w x) (t : Turn g w w') : RowsIn w' x := ⟨h.1, h.2.1.turn t, h.2.2.turn t⟩
theorem CtorIn.turn {g : Nat} {w w' : World} {x : CtorT} (h : CtorIn w x) (t : Turn g w w') : CtorIn w' x := ⟨h.1.turn t, h.2.turn t⟩
theorem CtorsIn.turn {g : Nat} {w w' : World} {x : CtorsT} (h : CtorsIn w x) (t : Turn g w w') : CtorsIn w' x := ⟨h.1, h.2.1.turn t, fun c hc => (h.2.2 c hc).turn t⟩
theorem EntIn.turn {g : Nat} {w w' : World} {x : EntT} (h : EntIn w x) (t : Turn g w w') : EntIn w' x := ⟨h.sort.turn t, h.pars.turn t, h.inds.turn t, h.ctors.turn t, h.typ.turn t, h.body.turn t⟩
theorem EntsIn.turn {g : Nat} {w w' : World} {x : EntsT} (h : EntsIn w x) (t : Turn g w w') : EntsIn w' x := ⟨h.1, h.2.1.turn t, fun c hc => (h.2.2 c hc).turn t⟩
theorem BookIn.turn {g : Nat} {w w' : World} {b : BookT} (h : BookIn w b) (t : Turn g w w') : BookIn w' b := ⟨⟨h.ords.1, h.ords.2.turn t⟩, h.ents.turn t, ⟨h.prims.1, h.prims.2.turn t⟩⟩
/-- Only wide numbers. -/
def WideRows (l : List RowT) : Prop := ∀ x ∈ l, ∀ n ∈ x.2.2, Wide3 n
structure WideEnt (x : EntT) : Prop where
  kind : I64 x.kind
  sort : ∀ n ∈ x.sort.2.2, Wide3 n
  pars : WideRows x.pars.2.2
  inds : WideRows x.inds.2.2
  ctors : ∀ c ∈ x.ctors.2.2, WideRows c.args.2.2 ∧ WideRows c.out.2.2
  typ : ∀ n ∈ x.typ.2.2, Wide3 n
  body : ∀ n ∈ x.body.2.2, Wide3 n
structure WideBook (b : BookT) : Prop where
  vars : I64 b.vars
  nat : I64 b.nat
  ords : ∀ x ∈ b.ords.2.2, Wide3 x
  ents : ∀ x ∈ b.ents.2.2, WideEnt x
  prims : ∀ x ∈ b.prims.2.2, I64 x.1 ∧ I64 x.2
end Go.Proofs.YtfeodppdmbideaaGreatDoor
namespace Go.Proofs.YtfeodppdmbideaaGreatDoor
open Go.RowKit
open Go.Maps (Keyed)

theorem Tryz.rowNode : (67 : TypeId) < Tryz.prog.types.size := of_decide_eq_true (by kernel_rfl)
theorem Tryz.wideNode : (match Tryz.prog.underlying 67 with | some (.array _ _) | some (.struct _) => true | _ => false) = true := by kernel_rfl
set_option maxRecDepth 100000 in
theorem lawNode : Keyed Tryz.prog 67 := Keyed.of_law (deep_law_laid Tryz.laid0 (m := 3) (by omega) Tryz.rowNode (by kernel_rfl) Tryz.wideNode)
theorem zeroU (w : World) : (zeroValue 143).run Tryz.prog w = .ok (.agg #[]) w := by kernel_rfl
theorem keyTypeNode : Tryz.prog.keyType 67 = true := by kernel_rfl
theorem cellsNode3 : Tryz.prog.cellsOf 67 = 3 := by kernel_rfl
theorem formedNode (n : Node3) : (nodeA n).formed Tryz.prog 67 = true := by simp [Value.formed, Tryz.underlying67, cellsNode3]
abbrev keyN (n : Node3) : Lit := .string (keyBytes [.int .i64 n.1, .int .i64 n.2.1, .int .i64 n.2.2])
theorem key_node {n : Node3} (h : Wide3 n) : keyOf Tryz.prog 67 (nodeA n) = some (keyN n) := by
  obtain ⟨d, hd⟩ := sizeP
  obtain ⟨h1, h2, h3⟩ := h
  unfold keyOf
  rw [hd, keyTypeNode, formedNode]
  simp [Tryz.underlying67, Program.keyLits, Value.cells, cellsNode3, Tryz.underlying3, cellsI, i64_wfI h1, i64_wfI h2, i64_wfI h3]
theorem keyN_inj {m n : Node3} (hm : Wide3 m) (hn : Wide3 n) (h : keyN m = keyN n) : m = n := by
  have h1 := key_node hm
  have h2 := key_node hn
  rw [h] at h1
  have := lawNode.inj h1 h2
  simp at this
  obtain ⟨a, b, c⟩ := m
  obtain ⟨a', b', c'⟩ := n
  simp at this ⊢
  exact this
theorem keyN_is (n : Node3) : WideAt.IsKeyLit (keyN n) := trivial
/-- Block g is a set of at most m nodes, these. -/
def OwnsN (w : World) (g m : Nat) (f : Node3 → Bool) : Prop := ∃ D : DataW Unit, w.ownsMap Tryz.prog 67 unitElem g m D ∧ ∀ n, Wide3 n → Maps.has D (keyN n) = f n
namespace OwnsN
variable {w w' : World} {g m : Nat} {f : Node3 → Bool}
theorem made (w : World) : OwnsN (w.alloc (.map #[] 0)) w.heap.size 0 (fun _ => false) := ⟨.map [], World.ownsMap_made w _ _ _, fun _ _ => rfl⟩
theorem lt (h : OwnsN w g m f) : g < w.heap.size := by
  obtain ⟨D, h1, -⟩ := h
  exact h1.lt
theorem congr (h : OwnsN w g m f) {f' : Node3 → Bool} (hf : ∀ n, f n = f' n) : OwnsN w g m f' := by
  obtain ⟨D, h1, h2⟩ := h
  exact ⟨D, h1, fun n hn => (h2 n hn).trans (hf n)⟩
theorem mono (h : OwnsN w g m f) {m' : Nat} (hm : m ≤ m') : OwnsN w g m' f := by
  obtain ⟨D, h1, h2⟩ := h
  exact ⟨D, h1.mono hm, h2⟩
theorem block (h : OwnsN w g m f) (e : w'.heap[g]? = w.heap[g]?) : OwnsN w' g m f := by
  obtain ⟨D, ⟨es, clock, h1, h3⟩, h2⟩ := h
  exact ⟨D, ⟨es, clock, e.trans h1, h3⟩, h2⟩
theorem below (h : OwnsN w g m f) (hb : Below w.heap.size w w') : OwnsN w' g m f := h.block (hb.block g h.lt)
theorem only {F : Nat → Prop} (h : OwnsN w g m f) (ho : Only F w w') (hF : ¬ F g) : OwnsN w' g m f := h.block (ho.block g h.lt hF)
theorem noCells (h : OwnsN w g m f) : NoCells w g := by
  obtain ⟨D, ⟨es, clock, h1, -⟩, -⟩ := h
  exact ⟨_, _, h1⟩
end OwnsN
section
variable {w : World} {ops : Array Oper} {rest : List Oper} {o : Oper} {a : Act} {Q : Exit → Act → World → Prop} {g m : Nat} {f : Node3 → Bool}
/-- _, ok := names[n]. -/
theorem wpList_lookN (hg : o.guard = none) (mm x : Operand) (t : TypeId) (hop : o.op = Op.lookup t mm x true) (ht : Tryz.prog.underlying t = some (.map 67 143)) (hm : a.eval mm = .map (some g)) (hown : OwnsN w g m f) (n : Node3) (hx : a.eval x = nodeA n) (hn : Wide3 n)
    (hK : wpList Tryz.prog ops Q rest (a.put o.dst (.tuple #[.agg #[], .bool (f n)])) w) : wpList Tryz.prog ops Q (o :: rest) a w := by
  obtain ⟨D, h1, h2⟩ := hown
  refine wpList_lookup_own_unit w hg mm x t hop _ _ lawNode ht (zeroU w) g m D hm h1 _ _ hx (key_node hn) ?_
  rw [h2 n hn]
  exact hK
/-- names[n] = struct{}{}. -/
theorem wpList_storeN (hg : o.guard = none) (mm x v : Operand) (t : TypeId) (hop : o.op = Op.mapUpdate t mm x v) (ht : Tryz.prog.underlying t = some (.map 67 143)) (hm : a.eval mm = .map (some g)) (hown : OwnsN w g m f) (hmb : m < 1000000000) (n : Node3) (hx : a.eval x = nodeA n) (hv : a.eval v = .agg #[]) (hn : Wide3 n)
    (hK : ∀ w', OwnsN w' g (m + 1) (fun y => f y || decide (y = n)) → w.grownBy w' (some g) → wpList Tryz.prog ops Q rest (a.put o.dst undef) w') : wpList Tryz.prog ops Q (o :: rest) a w := by
  obtain ⟨D, h1, h2⟩ := hown
  refine wpList_mapUpdate_own w hg mm x v t hop _ _ lawNode ht _ g m D hm h1 (by unfold maxLen; omega) _ _ _ hx hv (key_node hn) _ [] unitElem_mk ?_
  intro w' h3 h4
  refine hK w' ⟨_, h3, fun y hy => ?_⟩ h4
  by_cases e : y = n
  · subst e
    rw [Maps.has_put_same h1.isMap (keyN_is _) _]
    simp
  · have hne : keyN y ≠ keyN n := fun h => e (keyN_inj hy hn h)
    rw [Maps.has_put_other hne, h2 y hy]
    simp [e]
end
end Go.Proofs.YtfeodppdmbideaaGreatDoor
namespace Go.Proofs.YtfeodppdmbideaaGreatDoor
open Go.RowKit

abbrev scopeA (vars : Int) (g : Nat) : Value := .agg #[.int .i64 vars, .map (some g)]
set_option maxRecDepth 100000 in
set_option maxHeartbeats 2000000 in
theorem knows_any (vars : Int) (g m : Nat) (f : Node3 → Bool) (n : Node3) (w : World) (hN : OwnsN w g m f) (hw : Wide3 n) :
    Calls Tryz.prog 41 #[scopeA vars g, nodeA n] w fun e w' => e = .returned (.bool (f n)) ∧ Below w.heap.size w w' := by
  have hb1 : Below w.heap.size w ((w.alloc (.cells #[.int .i64 vars, .map (some g)] 74)).alloc (.cells #[.int .i64 n.1, .int .i64 n.2.1, .int .i64 n.2.2] 67)) := ((Below.refl _ _).alloc (Nat.le_refl _) _).alloc (by simp) _
  have HN := Lib.hid (hN.below hb1)
  have HB := Lib.hid hb1
  clear hN hb1
  obtain ⟨no, nA, nB⟩ := n
  go_enter Tryz.func41, Tryz.ntmps41
  go_wp2_with (at_lookup; refine wpList_lookN rfl _ _ _ rfl Tryz.underlying72 rfl HN.out (no, nA, nB) rfl hw ?_)
  go_ret
  exact ⟨rfl, below_alloc HB.out _⟩
theorem growN_only {W W' : World} {row : Option Nat} (h : W.grownBy W' row) : Only (fun k => row = some k) W W' := ⟨h.os, h.tape, h.output, h.size, fun k hk hn => h.block k hk fun e => hn e.symm⟩
/-- f, and these. -/
def addB (f : Node3 → Bool) (L : List Node3) (y : Node3) : Bool := f y || decide (y ∈ L)
theorem add_step (f : Node3 → Bool) {L : List Node3} {k : Nat} (h : k < L.length) (y : Node3) : (addB f (L.take k) y || decide (y = L[k])) = addB f (L.take (k + 1)) y := by
  unfold addB
  rw [List.take_succ_eq_append_getElem h, Bool.or_assoc]
  congr 1
  rw [← Bool.decide_or]
  exact decide_eq_decide.2 (by rw [List.mem_append, List.mem_singleton])
set_option maxRecDepth 100000 in
set_option maxHeartbeats 2000000 in
theorem know_any (vars : Int) (g m : Nat) (f : Node3 → Bool) (A : Option Addr) (n c : Nat) (L : List Node3) (w : World) (hN : OwnsN w g m f) (hm : m ≤ 100000000) (hn : L.length = n) (hnb : n ≤ 100000000) (hA : Holds w A (nodesV L)) (hAg : ∀ b o, A = some ⟨b, o, none⟩ → b ≠ g) (hw : ∀ x ∈ L, Wide3 x) :
    Calls Tryz.prog 173 #[scopeA vars g, .slice A n c] w fun e w' => e = .returned (.tuple #[]) ∧ OwnsN w' g (m + n) (addB f L) ∧ Only (fun k => k = g) w w' := by
  have hb1 : Below w.heap.size w (w.alloc (.cells #[.int .i64 vars, .map (some g)] 74)) := (Below.refl _ _).alloc (Nat.le_refl _) _
  have hs := holds_at w #[.int .i64 vars, .map (some g)] 74 _ rfl
  have HN := Lib.hid (hN.below hb1)
  have HB := Lib.hid (show Only (fun k => k = g) w (w.alloc (.cells #[.int .i64 vars, .map (some g)] 74)) from (Only.refl _ w).alloc _)
  have HA := Lib.hid (hA.below hb1)
  have HS := Lib.hid hs
  have HG := Lib.hid (show g < w.heap.size from hN.lt)
  have HAG := Lib.hid hAg
  have HL := Lib.hid hn
  have HW := Lib.hid hw
  clear hN hb1 hA hs hAg hn hw
  go_enter Tryz.func173, Tryz.ntmps173
  go_wp2_with fail
  obtain ⟨w1, hw1⟩ : ∃ w1, w.alloc (.cells #[.int .i64 vars, .map (some g)] 74) = w1 := ⟨_, rfl⟩
  rw [hw1] at HN HB HA HS ⊢
  have HZ : Hid (w.heap.size < w1.heap.size) := Lib.hid (by rw [← hw1]; simp)
  clear hw1
  go_loopw [8] (fun i wr => ∃ k : Nat, i = .int .i64 (k : Int) ∧ k ≤ n ∧ Hid (OwnsN wr g (m + k) (addB f (L.take k))) ∧ Hid (Only (fun j => j = g) w1 wr)) (fun i _ => n - (intOf i).toNat)
  case atStart => exact ⟨0, rfl, Nat.zero_le _, Lib.hid (HN.out.congr fun y => by simp [addB]), Lib.hid (Only.refl _ _)⟩
  case round =>
    obtain ⟨k, rfl, hk, HK, HO⟩ := hrel
    by_cases hlt : k < n
    · have hkl : k < L.length := by have := HL.out; omega
      have hA2 : Holds wr A (nodesV L) := HA.out.only HO.out fun b o e => HAG.out b o e
      obtain ⟨b, o, rfl, -, -⟩ := hA2.at_ (by rw [nodesV_len]; omega)
      have r0 := hA2.cell (nodesV_get0 hkl)
      have r1 := hA2.cell (nodesV_get1 hkl)
      have r2 := hA2.cell (nodesV_get2 hkl)
      rw [← Nat.add_assoc] at r1 r2
      have hS2 : Holds wr (some ⟨w.heap.size, 0, none⟩) [.int .i64 vars, .map (some g)] := HS.out.only HO.out fun b o e => by cases e; have := HG.out; omega
      have HWX := Lib.hid (HW.out _ (List.getElem_mem hkl))
      have HST := Lib.hid (add_step f hkl)
      generalize L[k] = x at *
      obtain ⟨xo, xA, xB⟩ := x
      simp only at r0 r1 r2
      have s1 := (hS2.alloc (.cells #[.int .i64 xo, .int .i64 xA, .int .i64 xB] 67)).cell (j := 1) rfl
      rw [Nat.zero_add] at s1
      clear hA2 hS2
      have hK2 := HK.out.below (show Below wr.heap.size wr (wr.alloc (.cells #[.int .i64 xo, .int .i64 xA, .int .i64 xB] 67)) from (Below.refl _ _).alloc (Nat.le_refl _) _)
      have HK2 := Lib.hid hK2
      have HO2 := Lib.hid (HO.out.alloc (.cells #[.int .i64 xo, .int .i64 xA, .int .i64 xB] 67))
      clear hK2
      go_wp2_with (at_mapUpdate; go_must (refine wpList_storeN rfl _ _ _ _ rfl Tryz.underlying72 rfl HK2.out (by omega) (xo, xA, xB) rfl rfl HWX.out ?_; intro w3 hN3 hg3))
      have HK3 : Hid (OwnsN w3 g (m + (k + 1)) (addB f (L.take (k + 1)))) := Lib.hid (hN3.congr fun y => HST.out y)
      have HO3 : Hid (Only (fun j => j = g) w1 w3) := Lib.hid (HO2.out.trans (growN_only hg3) fun j _ e => (Option.some.inj e).symm)
      clear hN3 hg3
      go_wp2_with fail
      go_roundw
      case rel => exact ⟨k + 1, by go_num, by omega, HK3, HO3⟩
      case measure => simp [intOf] <;> omega
    · obtain rfl : k = n := by omega
      go_wp2_with fail
      go_end0
      exact ⟨rfl, HK.out.congr fun y => by rw [List.take_of_length_le (by rw [HL.out]; exact Nat.le_refl _)], HB.out.trans HO.out fun _ _ e => e⟩
/-- know of one node more. -/
theorem know1_any (vars : Int) (g m : Nat) (f : Node3 → Bool) (n : Node3) (w : World) (hN : OwnsN w g m f) (hm : m ≤ 100000000) (hw : Wide3 n) :
    Calls Tryz.prog 173 #[scopeA vars g, .slice (some ⟨w.heap.size, 0, none⟩) 1 1] (w.alloc (.cells #[.int .i64 n.1, .int .i64 n.2.1, .int .i64 n.2.2] 67)) fun e w' => e = .returned (.tuple #[]) ∧ OwnsN w' g (m + 1) (addB f [n]) ∧ Turn g w w' := by
  have hb : Below w.heap.size w (w.alloc (.cells #[.int .i64 n.1, .int .i64 n.2.1, .int .i64 n.2.2] 67)) := (Below.refl _ _).alloc (Nat.le_refl _) _
  have hlt := hN.lt
  refine (know_any vars g m f (some ⟨w.heap.size, 0, none⟩) 1 1 [n] _ (hN.below hb) hm rfl (by decide) (holds_at w _ _ _ rfl) (fun b o e => by cases e; omega) (fun x hx => by rw [List.mem_singleton] at hx; rw [hx]; exact hw)).mono ?_
  rintro e w' ⟨rfl, h1, h2⟩
  exact ⟨rfl, h1, (Turn.of_below hb hN.noCells).trans ⟨h2, hN.noCells.below hb, h1.noCells⟩⟩
end Go.Proofs.YtfeodppdmbideaaGreatDoor
