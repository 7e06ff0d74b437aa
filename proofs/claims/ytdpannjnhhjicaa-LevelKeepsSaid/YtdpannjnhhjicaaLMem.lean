/- Slices that hold cells, own rows, levels, orders: small facts about memory. -/
import Derived.Test.YtdpannjnhhjicaaLCheck
import Derived.WalkKit
import Derived.Deep.OwnRows
import Derived.Deep.LoopGhost
import Derived.Deep.Draws
import Derived.Lib.Hide
import Derived.WalkSpells
import Derived.WalkLawsBesides
import Derived.Laws.CopyOwn
import Derived.Deep.QuietTactic
import Derived.BigQuiet
import Derived.Laws.OwnMore
import Derived.Laws.AppendOwnNone
import Derived.Deep.DeepMust
import Derived.Deep.RegionWith
namespace Go.Proofs.Ytdpannjnhhjicaa
open Go.RowKit


theorem add_off (b o j : Nat) : (⟨b, o, none⟩ : Addr).add j = ⟨b, o + j, none⟩ := by unfold Addr.add; split <;> simp_all
theorem below_drewN {B : Nat} {a w : World} (h : Below B a w) (n : Nat) : Below B a (w.drewN n) := ⟨h.os, h.tape, h.output, h.size, h.block⟩
theorem below_step {w w1 w2 : World} (h : Below w.heap.size w w1) (k : Below w1.heap.size w1 w2) : Below w.heap.size w w2 := h.trans (k.mono h.size)
theorem below_alloc {w w1 : World} (h : Below w.heap.size w w1) (o : Obj) : Below w.heap.size w (w1.alloc o) := h.alloc h.size o
theorem ret_bool {a b : Bool} (h : a = b) : Ending.returned (.bool a) = .returned (.bool b) := by rw [h]
theorem ret_slice {A : Option Addr} {n m c : Nat} (h : n = m) : Ending.returned (.slice A n c) = .returned (.slice A m c) := by rw [h]

/-- The memory at A holds these cells. -/
def Holds (w : World) (A : Option Addr) (vs : List Value) : Prop := 0 < vs.length → ∃ b o, A = some ⟨b, o, none⟩ ∧ ∀ j u, vs[j]? = some u → w.cell? ⟨b, o + j, none⟩ = some u
namespace Holds
variable {w w' : World} {A : Option Addr} {vs : List Value}
theorem nil (w : World) (A : Option Addr) : Holds w A [] := fun h => absurd h (by simp)
theorem at_ (h : Holds w A vs) (hn : 0 < vs.length) : ∃ b o, A = some ⟨b, o, none⟩ ∧ b < w.heap.size ∧ ∀ j u, vs[j]? = some u → w.cell? ⟨b, o + j, none⟩ = some u := by
  obtain ⟨b, o, e, hc⟩ := h hn
  exact ⟨b, o, e, World.block_lt_of_cell? _ _ (hc 0 vs[0] (List.getElem?_eq_getElem hn)), hc⟩
theorem keep (h : Holds w A vs) (hk : ∀ p : Addr, p.block < w.heap.size → w'.cell? p = w.cell? p) : Holds w' A vs := fun hn => by
  obtain ⟨b, o, e, hb, hc⟩ := h.at_ hn
  exact ⟨b, o, e, fun j u hu => (hk _ hb).trans (hc j u hu)⟩
theorem below (h : Holds w A vs) (hb : Below w.heap.size w w') : Holds w' A vs := h.keep fun _ hp => hb.cell hp
theorem drew (h : Holds w A vs) : Holds w.drew A vs := h
theorem drewN (h : Holds w A vs) (k : Nat) : Holds (w.drewN k) A vs := h
theorem alloc (h : Holds w A vs) (o : Obj) : Holds (w.alloc o) A vs := h.keep fun p hp => World.cell?_alloc_lt w o p (by omega)
/-- As the source of an append. -/
theorem news {a : Addr} (h : Holds w A vs) (e : A = some a) : ∀ j u, vs[j]? = some u → w.cell? (a.add j) = some u := by
  intro j u hu
  have hj : 0 < vs.length := by
    rcases Nat.eq_zero_or_pos vs.length with h0 | h0
    · rw [List.eq_nil_of_length_eq_zero h0] at hu; simp at hu
    · exact h0
  obtain ⟨b, o, e', hc⟩ := h hj
  rw [e] at e'
  cases e'
  rw [add_off, hc j u hu]
end Holds
theorem holds_lit (w : World) (cs : List Value) (t : TypeId) : Holds (w.alloc (.cells cs.toArray t)) (some ⟨w.heap.size, 0, none⟩) cs := fun _ => ⟨_, 0, rfl, fun j u hu => by
  rw [World.cell?_alloc_at _ _ _ _ rfl]
  simpa using hu⟩
theorem holds_at (w : World) (cs : Array Value) (t : TypeId) (vs : List Value) (h : cs.toList = vs) : Holds (w.alloc (.cells cs t)) (some ⟨w.heap.size, 0, none⟩) vs := by
  subst h
  exact holds_lit w cs.toList t
theorem Holds.cell {w : World} {b o : Nat} {vs : List Value} (h : Holds w (some ⟨b, o, none⟩) vs) {j : Nat} {u : Value} (hu : vs[j]? = some u) : w.cell? ⟨b, o + j, none⟩ = some u := by
  obtain ⟨b', o', e, hc⟩ := h (by have := (List.getElem?_eq_some_iff.1 hu).1; omega)
  cases e
  exact hc j u hu
/-- A slice that comes in or was answered: nil has no cells. -/
def Slice (A : Option Addr) (n c : Nat) : Prop := n ≤ c ∧ c ≤ 9223372036854775807 ∧ (A = none → n = 0 ∧ c = 0)
theorem own_slice {w : World} {B e sz n : Nat} {v : Value} {xs : List Value} (h : w.ownsRow B e sz v n xs) : ∃ A c, v = .slice A n c ∧ Slice A n c ∧ ∀ g o, A = some ⟨g, o, none⟩ → B ≤ g ∧ g < w.heap.size ∧ o = 0 := by
  rcases h.2 with ⟨rfl, rfl⟩ | ⟨g, cap, cur, rfl, hB, hg, h1, h2, _⟩
  · exact ⟨none, 0, rfl, ⟨Nat.le_refl _, by omega, fun _ => ⟨rfl, rfl⟩⟩, fun _ _ h => by cases h⟩
  · refine ⟨_, _, rfl, ⟨h1, h2, fun h => by cases h⟩, fun g' o' h => ?_⟩
    cases h
    refine ⟨hB, ?_, rfl⟩
    rcases Nat.lt_or_ge g w.heap.size with h3 | h3
    · exact h3
    · rw [Array.getElem?_eq_none h3] at hg; cases hg
theorem own_holds {w : World} {B e sz n c : Nat} {A : Option Addr} {xs : List Value} (h : w.ownsRow B e sz (.slice A n c) n xs) : Holds w A xs := by
  have hl := h.1
  rcases h.2 with ⟨e, h0⟩ | ⟨g, cap, cur, e, _, hb, hn, hc, hs, ht⟩
  · intro h1
    rw [hl, h0, Nat.zero_mul] at h1
    exact absurd h1 (by omega)
  · cases e
    refine fun _ => ⟨g, 0, rfl, fun j u hu => ?_⟩
    rw [← ht, List.getElem?_take] at hu
    split at hu
    · rw [Array.getElem?_toList] at hu
      rw [Nat.zero_add]
      simp [World.cell?, hb, hu]
    · cases hu
theorem own_base {w : World} {B B' sz n : Nat} {e : TypeId} {v : Value} {xs : List Value} (h : w.ownsRow B e sz v n xs) (hB : B' ≤ B) : w.ownsRow B' e sz v n xs :=
  ⟨h.1, h.2.imp id fun ⟨g, cap, cur, e, hg, h⟩ => ⟨g, cap, cur, e, by omega, h⟩⟩
theorem own_below {w w' : World} {B sz n : Nat} {e : TypeId} {v : Value} {xs : List Value} (h : w.ownsRow B e sz v n xs) (hb : Below w.heap.size w w') : w'.ownsRow B e sz v n xs := by
  refine ⟨h.1, h.2.imp id fun ⟨g, cap, cur, ev, hg, hh, h⟩ => ⟨g, cap, cur, ev, hg, ?_, h⟩⟩
  rw [hb.block g ?_]
  · exact hh
  · rcases Nat.lt_or_ge g w.heap.size with h3 | h3
    · exact h3
    · rw [Array.getElem?_eq_none h3] at hh; cases hh


theorem infoInt : (Try.prog.info? 3).map (fun i => (i.zero, i.size, i.bytes)) = some (some (.int .i64 0), 1, 8) := by kernel_rfl
theorem infoAtom : (Try.prog.info? 57).map (fun i => (i.zero, i.size, i.bytes)) = some (some (.agg #[.int .i64 0, .int .i64 0]), 2, 16) := by kernel_rfl
theorem infoOrder : (Try.prog.info? 53).map (fun i => (i.zero, i.size, i.bytes)) = some (some (.agg #[.int .i64 0, .int .i64 0, .int .i64 0]), 3, 24) := by kernel_rfl

/-- A whole number of 64 bits. -/
def I64 (x : Int) : Prop := -9223372036854775808 ≤ x ∧ x ≤ 9223372036854775807
/-- Numbers as cells. -/
def intsV (l : List Int) : List Value := l.map fun (x : Int) => Value.int .i64 x
theorem intsV_len (l : List Int) : (intsV l).length = l.length := List.length_map ..
theorem intsV_get {l : List Int} {j : Nat} (h : j < l.length) : (intsV l)[j]? = some (.int .i64 l[j]) := by
  unfold intsV
  rw [List.getElem?_map, List.getElem?_eq_getElem h]; rfl
def WideI (l : List Int) : Prop := ∀ x ∈ l, I64 x
/-- Atoms as cells. -/
abbrev Atom2 := Int × Int
def atomV (x : Atom2) : List Value := [.int .i64 x.1, .int .i64 x.2]
def atomsV (t : List Atom2) : List Value := t.flatMap atomV
theorem atomsV_cons (x : Atom2) (t : List Atom2) : atomsV (x :: t) = atomV x ++ atomsV t := by unfold atomsV; rw [List.flatMap_cons]
theorem atomsV_append (l r : List Atom2) : atomsV (l ++ r) = atomsV l ++ atomsV r := by unfold atomsV; rw [List.flatMap_append]
theorem atomsV_len (t : List Atom2) : (atomsV t).length = t.length * 2 := by
  induction t with
  | nil => rfl
  | cons x t ih => rw [atomsV_cons, List.length_append, ih, List.length_cons]; simp [atomV]; omega
theorem atomsV_get {t : List Atom2} {j f : Nat} (h : j < t.length) (hf : f < 2) : (atomsV t)[j * 2 + f]? = (atomV t[j])[f]? := by
  induction t generalizing j with
  | nil => simp at h
  | cons x t ih =>
    rw [atomsV_cons]
    cases j with
    | zero => rw [List.getElem?_append_left (by simp [atomV]; omega)]; simp
    | succ j =>
      rw [List.getElem?_append_right (by simp [atomV]; omega), show (j + 1) * 2 + f - (atomV x).length = j * 2 + f by simp [atomV]; omega, ih (by simpa using h)]
      rfl
theorem atomsV_get0 {t : List Atom2} {j : Nat} (h : j < t.length) : (atomsV t)[j * 2]? = some (.int .i64 t[j].1) := atomsV_get (f := 0) h (by decide)
theorem atomsV_get1 {t : List Atom2} {j : Nat} (h : j < t.length) : (atomsV t)[j * 2 + 1]? = some (.int .i64 t[j].2) := atomsV_get (f := 1) h (by decide)
theorem atomsV_one {t : List Atom2} : ∀ u ∈ atomsV t, u.oneCell' = true := by
  intro u hu
  obtain ⟨x, _, hx⟩ := List.mem_flatMap.1 hu
  simp only [atomV, List.mem_cons, List.not_mem_nil, or_false] at hx
  rcases hx with rfl | rfl <;> rfl
def WideA (t : List Atom2) : Prop := ∀ x ∈ t, I64 x.1 ∧ I64 x.2
/-- Orders as cells: Low, Add, High. -/
def ordV (x : Ord3) : List Value := [.int .i64 x.1, .int .i64 x.2.1, .int .i64 x.2.2]
def ordsV (t : List Ord3) : List Value := t.flatMap ordV
theorem ordsV_cons (x : Ord3) (t : List Ord3) : ordsV (x :: t) = ordV x ++ ordsV t := by unfold ordsV; rw [List.flatMap_cons]
theorem ordsV_append (l r : List Ord3) : ordsV (l ++ r) = ordsV l ++ ordsV r := by unfold ordsV; rw [List.flatMap_append]
theorem ordsV_len (t : List Ord3) : (ordsV t).length = t.length * 3 := by
  induction t with
  | nil => rfl
  | cons x t ih => rw [ordsV_cons, List.length_append, ih, List.length_cons]; simp [ordV]; omega
theorem ordsV_get {t : List Ord3} {j f : Nat} (h : j < t.length) (hf : f < 3) : (ordsV t)[j * 3 + f]? = (ordV t[j])[f]? := by
  induction t generalizing j with
  | nil => simp at h
  | cons x t ih =>
    rw [ordsV_cons]
    cases j with
    | zero => rw [List.getElem?_append_left (by simp [ordV]; omega)]; simp
    | succ j =>
      rw [List.getElem?_append_right (by simp [ordV]; omega), show (j + 1) * 3 + f - (ordV x).length = j * 3 + f by simp [ordV]; omega, ih (by simpa using h)]
      rfl
theorem ordsV_get0 {t : List Ord3} {j : Nat} (h : j < t.length) : (ordsV t)[j * 3]? = some (.int .i64 t[j].1) := ordsV_get (f := 0) h (by decide)
theorem ordsV_get1 {t : List Ord3} {j : Nat} (h : j < t.length) : (ordsV t)[j * 3 + 1]? = some (.int .i64 t[j].2.1) := ordsV_get (f := 1) h (by decide)
theorem ordsV_get2 {t : List Ord3} {j : Nat} (h : j < t.length) : (ordsV t)[j * 3 + 2]? = some (.int .i64 t[j].2.2) := ordsV_get (f := 2) h (by decide)
theorem ordsV_one {t : List Ord3} : ∀ u ∈ ordsV t, u.oneCell' = true := by
  intro u hu
  obtain ⟨x, _, hx⟩ := List.mem_flatMap.1 hu
  simp only [ordV, List.mem_cons, List.not_mem_nil, or_false] at hx
  rcases hx with rfl | rfl | rfl <;> rfl
def WideO (t : List Ord3) : Prop := ∀ x ∈ t, I64 x.1 ∧ I64 x.2.1 ∧ I64 x.2.2
end Go.Proofs.Ytdpannjnhhjicaa
