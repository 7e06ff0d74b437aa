/- Rows in memory, handed from call to call. -/
import Derived.Test.YtkkkblghihheeaaDoorTLong
import Derived.Test.YtkkkblghihheeaaDoorTFacts
namespace Go.Proofs.YtkkkblghihheeaaDoor
open Go.RowKit

/-- A row in memory. -/
structure RowIn (w : World) (A : Option Addr) (n c : Nat) (l : List Node3) : Prop where
  len : l.length = n
  sl : Slice A n c
  ho : Holds w A (nodesV l)
theorem RowIn.below {w w' : World} {A : Option Addr} {n c : Nat} {l : List Node3} (h : RowIn w A n c l) (hb : Below w.heap.size w w') : RowIn w' A n c l := ⟨h.len, h.sl, h.ho.below hb⟩
/-- What a call answers that answers a row. -/
def InAns (r : List Node3 × Int) (w : World) (e : Ending) (w' : World) : Prop :=
  ∃ A n c, e = .returned (.tuple #[.slice A n c, .int .i64 r.2]) ∧ RowIn w' A n c r.1 ∧ Below w.heap.size w w'
theorem RowAns.in_ {r : List Node3 × Int} {w w' : World} {e : Ending} (h : RowAns r w e w') : InAns r w e w' := by
  obtain ⟨A, n, c, he, hl, ho, hb⟩ := h
  obtain ⟨A', c', e', hs, _⟩ := own_slice ho
  cases e'
  exact ⟨A, n, c, he, ⟨hl, hs, own_holds ho⟩, hb⟩
theorem subst_in {A B : Option Addr} {n c m d : Nat} {t u : List Node3} {w : World} (h : RowIn w A n c t) (hu : RowIn w B m d u) (hL : Lim w) (at_ : Int) (hat : I64 at_) :
    Calls Tryd.prog 32 #[.slice A n c, .slice B m d, .int .i64 at_] w (InAns (substS t u at_) w) := (subst_any A B n c m d t u at_ w h.len h.sl h.ho hu.len hu.sl hu.ho hL hat).mono fun _ _ h => h.in_
theorem lift_in {A : Option Addr} {n c : Nat} {t : List Node3} {w : World} (h : RowIn w A n c t) (hL : Lim w) (by_ from_ : Int) :
    Calls Tryd.prog 25 #[.slice A n c, .int .i64 by_, .int .i64 from_] w (InAns (liftS t by_ from_) w) := (lift_any A n c t by_ from_ w h.len h.sl h.ho hL).mono fun _ _ h => h.in_
theorem free_in_ {A : Option Addr} {n c : Nat} {t : List Node3} {w : World} (h : RowIn w A n c t) (hL : Lim w) (v : Int) : Calls Tryd.prog 28 #[.slice A n c, .int .i64 v] w fun e w' => e = .returned (.bool (freeS t v)) ∧ Below w.heap.size w w' := tfree_any A n c t v w h.len h.ho hL
theorem below_in {A : Option Addr} {n c : Nat} {t : List Node3} {w : World} (h : RowIn w A n c t) (hL : Lim w) (v : Int) : Calls Tryd.prog 30 #[.slice A n c, .int .i64 v] w fun e w' => e = .returned (.bool (belowS t v)) ∧ Below w.heap.size w w' := tbelow_any A n c t v w h.len h.ho hL
theorem shape_in {A : Option Addr} {n c : Nat} {t : List Node3} {w : World} (h : RowIn w A n c t) (hL : Lim w) : Calls Tryd.prog 15 #[.slice A n c] w fun e w' => e = .returned (.int .i64 (shapeOf t)) ∧ Below w.heap.size w w' := shape_any A n c t w h.len h.ho hL
theorem same_in {A B : Option Addr} {n c m d : Nat} {t u : List Node3} {w : World} (h : RowIn w A n c t) (hu : RowIn w B m d u) (hb : n ≤ 1000000000) (v : Bool) (hv : v = decide (t = u)) :
    Calls Tryd.prog 27 #[.slice A n c, .slice B m d] w fun e w' => e = .returned (.bool v) ∧ Below w.heap.size w w' := tsame_n A B n m c d t u w h.len hu.len h.ho hu.ho hb v hv
theorem subst_len (t u : List Node3) (at_ : Int) : (substS t u at_).1.length ≤ 4096 := by
  unfold substS
  split
  · simp
  split
  · simp
  split
  · simp
  split
  · simp
  · simp only; omega
theorem lift_len (t : List Node3) (by_ from_ : Int) : (liftS t by_ from_).1.length ≤ 4096 := by
  unfold liftS
  split
  · simp
  rename_i h
  split
  · simp
  split
  · simp
  · have h0 : shapeOf t = 0 := by simpa using h
    obtain ⟨ha, hl⟩ := ann_of h0
    simp only [List.length_map]
    rw [ha.len]; exact hl
end Go.Proofs.YtkkkblghihheeaaDoor
