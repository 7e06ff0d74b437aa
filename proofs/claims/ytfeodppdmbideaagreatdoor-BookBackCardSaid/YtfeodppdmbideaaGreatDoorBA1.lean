/- The way to the laws of books: TWalkP to THolds. -/
import Derived.Test.YtfeodppdmbideaaGreatDoorRows
import Derived.WalkKit
import Derived.Deep.OwnRows
import Derived.Deep.LoopGhost
import Derived.Deep.Draws
import Derived.Lib.Hide
import Derived.WalkSpells
import Derived.WalkLawsBesides
import Derived.Laws.CopyOwn
import Derived.Deep.QuietTactic
import Derived.BigQuiet
import Derived.Laws.OwnMore
import Derived.Laws.AppendOwnNone
import Derived.Deep.DeepMust
import Derived.Deep.RegionWith
namespace Go.Proofs.YtfeodppdmbideaaGreatDoor

abbrev Node3 := Int × Int × Int
/-- What a row must have next: a term (op 0), or one node of that op. -/
structure Part where
  op : Int
  k : Nat
abbrev Ann := List (Node3 × Nat)

/-- A node that may stand. -/
def holdsN (n : Node3) : Prop :=
  (n.1 = 1 ∧ (0 ≤ n.2.1 ∧ n.2.1 ≤ 1048576) ∧ n.2.2 = 0) ∨ (n.1 = 2 ∧ (0 ≤ n.2.1 ∧ n.2.1 ≤ 1) ∧ 1 ≤ n.2.2 ∧ n.2.2 ≤ 4) ∨ (n.1 = 3 ∧ (0 ≤ n.2.1 ∧ n.2.1 ≤ 16) ∧ 0 ≤ n.2.2 ∧ n.2.2 ≤ 1000) ∨
  ((n.1 = 4 ∨ n.1 = 5 ∨ n.1 = 6 ∨ n.1 = 7) ∧ n.2.1 = 0 ∧ n.2.2 = 0) ∨ ((n.1 = 8 ∨ n.1 = 9) ∧ (0 ≤ n.2.1 ∧ n.2.1 ≤ 63) ∧ n.2.2 = 0) ∨
  (n.1 = 10 ∧ (0 ≤ n.2.1 ∧ n.2.1 ≤ 63) ∧ 0 ≤ n.2.2 ∧ n.2.2 ≤ 15) ∨ (n.1 = 11 ∧ (0 ≤ n.2.1 ∧ n.2.1 ≤ 63) ∧ 0 ≤ n.2.2 ∧ n.2.2 ≤ 16) ∨
  (n.1 = 12 ∧ (0 ≤ n.2.1 ∧ n.2.1 < n.2.2) ∧ 1 ≤ n.2.2 ∧ n.2.2 ≤ 4) ∨ (n.1 = 13 ∧ (0 ≤ n.2.1 ∧ n.2.1 ≤ 15) ∧ n.2.2 = 0)
instance (n : Node3) : Decidable (holdsN n) := by unfold holdsN; infer_instance
theorem holds_op {n : Node3} (h : holdsN n) : 1 ≤ n.1 ∧ n.1 ≤ 13 := by unfold holdsN at h; omega
theorem holds_b {n : Node3} (h : holdsN n) : 0 ≤ n.2.2 ∧ n.2.2 ≤ 1000 := by unfold holdsN at h; omega
theorem holds_a {n : Node3} (h : holdsN n) : 0 ≤ n.2.1 ∧ n.2.1 ≤ 1048576 := by unfold holdsN at h; omega

/-- Can the part begin with this node? -/
def begB (op : Int) (n h : Node3) : Bool :=
  decide (holdsN n) && (if n.1 = 3 then decide (op = 3) && (decide (h.1 = 2) || decide (h.2.1 < n.2.1)) else if n.1 = 13 then decide (op = 13) else decide (op = 0))
/-- The parts of a fix. -/
def fixParts (k b : Nat) : Nat → List Part
  | 0 => []
  | m + 1 => ⟨13, k⟩ :: ⟨0, k⟩ :: ⟨0, k + b⟩ :: fixParts k b m
/-- The parts of a node, the first one first. -/
def follow (n : Node3) (k : Nat) : List Part :=
  if n.1 = 2 then List.replicate n.2.2.toNat ⟨3, k⟩
  else if n.1 = 4 ∨ n.1 = 5 then [⟨0, k⟩, ⟨0, k + 1⟩]
  else if n.1 = 6 then [⟨0, k⟩, ⟨0, k⟩]
  else if n.1 = 7 then [⟨0, k⟩, ⟨0, k⟩, ⟨0, k + 1⟩]
  else if n.1 = 11 then List.replicate (n.2.2 + 2).toNat ⟨0, k⟩
  else if n.1 = 12 then fixParts k n.2.2.toNat n.2.2.toNat
  else []
/-- The nodes that these parts take of a row, each with how many binders are around it; what is left, and the last node. -/
def W : List Node3 → Node3 → List Part → Option (Ann × List Node3 × Node3)
  | r, h, [] => some ([], r, h)
  | [], _, _ :: _ => none
  | n :: r, h, p :: todo => if begB p.op n h then (W r n (follow n p.k ++ todo)).map fun x => ((n, p.k) :: x.1, x.2) else none

theorem W_nil (r : List Node3) (h : Node3) : W r h [] = some ([], r, h) := by cases r <;> rfl
theorem W_no {p : Part} {n h : Node3} {r : List Node3} {todo : List Part} (hb : begB p.op n h = false) : W (n :: r) h (p :: todo) = none := by unfold W; rw [hb]; rfl
theorem W_yes {p : Part} {n h : Node3} {r : List Node3} {todo : List Part} (hb : begB p.op n h = true) :
    W (n :: r) h (p :: todo) = (W r n (follow n p.k ++ todo)).map fun x => ((n, p.k) :: x.1, x.2) := by
  conv => lhs; unfold W
  rw [hb]; rfl
theorem W_cons {p : Part} {n h : Node3} {r : List Node3} {todo : List Part} {a : Ann} {s : List Node3} {e : Node3} (hw : W (n :: r) h (p :: todo) = some (a, s, e)) :
    begB p.op n h = true ∧ ∃ a', a = (n, p.k) :: a' ∧ W r n (follow n p.k ++ todo) = some (a', s, e) := by
  cases hb : begB p.op n h with
  | false => rw [W_no hb] at hw; cases hw
  | true =>
    rw [W_yes hb] at hw
    cases hx : W r n (follow n p.k ++ todo) with
    | none => rw [hx] at hw; cases hw
    | some x =>
      rw [hx] at hw
      simp only [Option.map_some, Option.some.injEq, Prod.mk.injEq] at hw
      obtain ⟨rfl, h2⟩ := hw
      refine ⟨rfl, _, rfl, ?_⟩
      rw [← h2]
theorem W_row : ∀ (r : List Node3) (h : Node3) (todo : List Part) (a : Ann) (s : List Node3) (e : Node3), W r h todo = some (a, s, e) → r = a.map Prod.fst ++ s ∧ todo.length ≤ a.length := by
  intro r
  induction r with
  | nil =>
    intro h todo a s e hw
    cases todo with
    | nil => rw [W_nil] at hw; cases hw; exact ⟨rfl, Nat.le_refl _⟩
    | cons p todo => cases hw
  | cons n r ih =>
    intro h todo a s e hw
    cases todo with
    | nil => rw [W_nil] at hw; cases hw; exact ⟨rfl, Nat.le_refl _⟩
    | cons p todo =>
      obtain ⟨_, a', rfl, hw'⟩ := W_cons hw
      obtain ⟨h1, h2⟩ := ih _ _ _ _ _ hw'
      refine ⟨by rw [h1]; rfl, ?_⟩
      rw [List.length_append] at h2
      simp only [List.length_cons]; omega
theorem W_trim : ∀ (a : Ann) (r s s' : List Node3) (h e : Node3) (todo : List Part), W r h todo = some (a, s, e) → W (a.map Prod.fst ++ s') h todo = some (a, s', e) := by
  intro a
  induction a with
  | nil =>
    intro r s s' h e todo hw
    have := (W_row _ _ _ _ _ _ hw).2
    have : todo = [] := List.eq_nil_of_length_eq_zero (by simpa using this)
    subst this
    rw [W_nil] at hw ⊢
    cases hw; rfl
  | cons x a ih =>
    intro r s s' h e todo hw
    cases todo with
    | nil => rw [W_nil] at hw; cases hw
    | cons p todo =>
      cases r with
      | nil => cases hw
      | cons n r =>
        obtain ⟨hb, a', e1, hw⟩ := W_cons hw
        cases e1
        rw [List.map_cons, List.cons_append, W_yes hb, ih _ _ s' _ _ _ hw]
        rfl
/-- No part of these is an atom. -/
def NoAt (todo : List Part) : Prop := ∀ p ∈ todo, p.op ≠ 3
theorem begB_ahead {op : Int} {n : Node3} (h h' : Node3) (ho : op ≠ 3) : begB op n h = begB op n h' := by
  unfold begB
  by_cases h3 : n.1 = 3
  · simp [h3, ho]
  · simp [h3]
theorem W_ahead {r : List Node3} {todo : List Part} (h h' : Node3) (hn : NoAt todo) (h0 : todo ≠ []) : W r h todo = W r h' todo := by
  cases todo with
  | nil => exact absurd rfl h0
  | cons p todo =>
    cases r with
    | nil => rfl
    | cons n r =>
      have e := begB_ahead (n := n) h h' (hn p (by simp))
      cases hb : begB p.op n h' with
      | false => rw [W_no hb, W_no (e.trans hb)]
      | true => rw [W_yes hb, W_yes (e.trans hb)]
def shA (d : Nat) (a : Ann) : Ann := a.map fun x => (x.1, x.2 + d)
theorem begB_holds {op : Int} {n h : Node3} (hb : begB op n h = true) : holdsN n := by
  unfold begB at hb
  simp only [Bool.and_eq_true, decide_eq_true_eq] at hb
  exact hb.1
theorem W_holds : ∀ (a : Ann) (r : List Node3) (h : Node3) (todo : List Part) (s : List Node3) (e : Node3), W r h todo = some (a, s, e) → ∀ x ∈ a, holdsN x.1 := by
  intro a
  induction a with
  | nil => intro r h todo s e _ x hx; cases hx
  | cons y a ih =>
    intro r h todo s e hw x hx
    cases todo with
    | nil => rw [W_nil] at hw; cases hw
    | cons p todo =>
      cases r with
      | nil => cases hw
      | cons n r =>
        obtain ⟨hb, a', e1, hw'⟩ := W_cons hw
        cases e1
        rcases List.mem_cons.1 hx with rfl | hx
        · exact begB_holds hb
        · exact ih _ _ _ _ _ hw' x hx
theorem fixParts_k {k b m : Nat} : ∀ p ∈ fixParts k b m, p.k ≤ k + b := by
  induction m with
  | zero => intro p hp; cases hp
  | succ m ih =>
    intro p hp
    simp only [fixParts, List.mem_cons] at hp
    rcases hp with rfl | rfl | rfl | hp
    · simp
    · simp
    · simp
    · exact ih p hp
theorem follow_k {n : Node3} {k : Nat} (hn : holdsN n) : ∀ p ∈ follow n k, p.k ≤ k + 4 := by
  intro p hp
  unfold follow at hp
  split at hp
  · rw [(List.mem_replicate.1 hp).2]; simp
  split at hp
  · simp only [List.mem_cons, List.not_mem_nil, or_false] at hp; rcases hp with rfl | rfl <;> simp
  split at hp
  · simp only [List.mem_cons, List.not_mem_nil, or_false] at hp; rcases hp with rfl | rfl <;> simp
  split at hp
  · simp only [List.mem_cons, List.not_mem_nil, or_false] at hp; rcases hp with rfl | rfl | rfl <;> simp
  split at hp
  · rw [(List.mem_replicate.1 hp).2]; simp
  split at hp
  · have := fixParts_k p hp
    have : n.2.2.toNat ≤ 4 := by unfold holdsN at hn; omega
    omega
  · cases hp
theorem W_bound : ∀ (a : Ann) (r : List Node3) (h : Node3) (todo : List Part) (s : List Node3) (e : Node3) (K : Nat), W r h todo = some (a, s, e) → (∀ p ∈ todo, p.k ≤ K) → ∀ x ∈ a, x.2 ≤ K + 4 * a.length := by
  intro a
  induction a with
  | nil => intro r h todo s e K _ _ x hx; cases hx
  | cons y a ih =>
    intro r h todo s e K hw hk x hx
    cases todo with
    | nil => rw [W_nil] at hw; cases hw
    | cons p todo =>
      cases r with
      | nil => cases hw
      | cons n r =>
        obtain ⟨hb, a', e1, hw'⟩ := W_cons hw
        cases e1
        have hp := hk p (by simp)
        rw [List.length_cons]
        rcases List.mem_cons.1 hx with rfl | hx
        · simp only; omega
        · have := ih _ _ _ _ _ (K + 4) hw' (fun q hq => by
            rcases List.mem_append.1 hq with hq | hq
            · have := follow_k (begB_holds hb) q hq; omega
            · have := hk q (List.mem_cons_of_mem _ hq); omega) x hx
          omega
end Go.Proofs.YtfeodppdmbideaaGreatDoor
namespace Go.Proofs.YtfeodppdmbideaaGreatDoor
open Go.RowKit


theorem add_off (b o j : Nat) : (⟨b, o, none⟩ : Addr).add j = ⟨b, o + j, none⟩ := by unfold Addr.add; split <;> simp_all
theorem below_drewN {B : Nat} {a w : World} (h : Below B a w) (n : Nat) : Below B a (w.drewN n) := ⟨h.os, h.tape, h.output, h.size, h.block⟩
theorem below_step {w w1 w2 : World} (h : Below w.heap.size w w1) (k : Below w1.heap.size w1 w2) : Below w.heap.size w w2 := h.trans (k.mono h.size)
theorem below_alloc {w w1 : World} (h : Below w.heap.size w w1) (o : Obj) : Below w.heap.size w (w1.alloc o) := h.alloc h.size o
theorem ret_bool {a b : Bool} (h : a = b) : Ending.returned (.bool a) = .returned (.bool b) := by rw [h]
/-- The memory at A holds these cells. -/
def Holds (w : World) (A : Option Addr) (vs : List Value) : Prop := 0 < vs.length → ∃ b o, A = some ⟨b, o, none⟩ ∧ ∀ j u, vs[j]? = some u → w.cell? ⟨b, o + j, none⟩ = some u
namespace Holds
variable {w w' : World} {A : Option Addr} {vs : List Value}
theorem nil (w : World) (A : Option Addr) : Holds w A [] := fun h => absurd h (by simp)
theorem at_ (h : Holds w A vs) (hn : 0 < vs.length) : ∃ b o, A = some ⟨b, o, none⟩ ∧ b < w.heap.size ∧ ∀ j u, vs[j]? = some u → w.cell? ⟨b, o + j, none⟩ = some u := by
  obtain ⟨b, o, e, hc⟩ := h hn
  exact ⟨b, o, e, World.block_lt_of_cell? _ _ (hc 0 vs[0] (List.getElem?_eq_getElem hn)), hc⟩
theorem keep (h : Holds w A vs) (hk : ∀ p : Addr, p.block < w.heap.size → w'.cell? p = w.cell? p) : Holds w' A vs := fun hn => by
  obtain ⟨b, o, e, hb, hc⟩ := h.at_ hn
  exact ⟨b, o, e, fun j u hu => (hk _ hb).trans (hc j u hu)⟩
theorem below (h : Holds w A vs) (hb : Below w.heap.size w w') : Holds w' A vs := h.keep fun _ hp => hb.cell hp
theorem drew (h : Holds w A vs) : Holds w.drew A vs := h
theorem drewN (h : Holds w A vs) (k : Nat) : Holds (w.drewN k) A vs := h
theorem alloc (h : Holds w A vs) (o : Obj) : Holds (w.alloc o) A vs := h.keep fun p hp => World.cell?_alloc_lt w o p (by omega)
/-- As the source of an append. -/
theorem news {a : Addr} (h : Holds w A vs) (e : A = some a) : ∀ j u, vs[j]? = some u → w.cell? (a.add j) = some u := by
  intro j u hu
  have hj : 0 < vs.length := by
    rcases Nat.eq_zero_or_pos vs.length with h0 | h0
    · rw [List.eq_nil_of_length_eq_zero h0] at hu; simp at hu
    · exact h0
  obtain ⟨b, o, e', hc⟩ := h hj
  rw [e] at e'
  cases e'
  rw [add_off, hc j u hu]
end Holds
theorem holds_lit (w : World) (cs : List Value) (t : TypeId) : Holds (w.alloc (.cells cs.toArray t)) (some ⟨w.heap.size, 0, none⟩) cs := fun _ => ⟨_, 0, rfl, fun j u hu => by
  rw [World.cell?_alloc_at _ _ _ _ rfl]
  simpa using hu⟩
theorem holds_at (w : World) (cs : Array Value) (t : TypeId) (vs : List Value) (h : cs.toList = vs) : Holds (w.alloc (.cells cs t)) (some ⟨w.heap.size, 0, none⟩) vs := by
  subst h
  exact holds_lit w cs.toList t
theorem Holds.cell {w : World} {b o : Nat} {vs : List Value} (h : Holds w (some ⟨b, o, none⟩) vs) {j : Nat} {u : Value} (hu : vs[j]? = some u) : w.cell? ⟨b, o + j, none⟩ = some u := by
  obtain ⟨b', o', e, hc⟩ := h (by have := (List.getElem?_eq_some_iff.1 hu).1; omega)
  cases e
  exact hc j u hu
/-- A slice that comes in or was answered: nil has no cells. -/
def Slice (A : Option Addr) (n c : Nat) : Prop := n ≤ c ∧ c ≤ 9223372036854775807 ∧ (A = none → n = 0 ∧ c = 0)
theorem own_slice {w : World} {B e sz n : Nat} {v : Value} {xs : List Value} (h : w.ownsRow B e sz v n xs) : ∃ A c, v = .slice A n c ∧ Slice A n c ∧ ∀ g o, A = some ⟨g, o, none⟩ → B ≤ g ∧ g < w.heap.size ∧ o = 0 := by
  rcases h.2 with ⟨rfl, rfl⟩ | ⟨g, cap, cur, rfl, hB, hg, h1, h2, _⟩
  · exact ⟨none, 0, rfl, ⟨Nat.le_refl _, by omega, fun _ => ⟨rfl, rfl⟩⟩, fun _ _ h => by cases h⟩
  · refine ⟨_, _, rfl, ⟨h1, h2, fun h => by cases h⟩, fun g' o' h => ?_⟩
    cases h
    refine ⟨hB, ?_, rfl⟩
    rcases Nat.lt_or_ge g w.heap.size with h3 | h3
    · exact h3
    · rw [Array.getElem?_eq_none h3] at hg; cases hg
theorem own_holds {w : World} {B e sz n c : Nat} {A : Option Addr} {xs : List Value} (h : w.ownsRow B e sz (.slice A n c) n xs) : Holds w A xs := by
  have hl := h.1
  rcases h.2 with ⟨e, h0⟩ | ⟨g, cap, cur, e, _, hb, hn, hc, hs, ht⟩
  · intro h1
    rw [hl, h0, Nat.zero_mul] at h1
    exact absurd h1 (by omega)
  · cases e
    refine fun _ => ⟨g, 0, rfl, fun j u hu => ?_⟩
    rw [← ht, List.getElem?_take] at hu
    split at hu
    · rw [Array.getElem?_toList] at hu
      rw [Nat.zero_add]
      simp [World.cell?, hb, hu]
    · cases hu
theorem own_base {w : World} {B B' sz n : Nat} {e : TypeId} {v : Value} {xs : List Value} (h : w.ownsRow B e sz v n xs) (hB : B' ≤ B) : w.ownsRow B' e sz v n xs :=
  ⟨h.1, h.2.imp id fun ⟨g, cap, cur, e, hg, h⟩ => ⟨g, cap, cur, e, by omega, h⟩⟩
theorem own_below {w w' : World} {B sz n : Nat} {e : TypeId} {v : Value} {xs : List Value} (h : w.ownsRow B e sz v n xs) (hb : Below w.heap.size w w') : w'.ownsRow B e sz v n xs := by
  refine ⟨h.1, h.2.imp id fun ⟨g, cap, cur, ev, hg, hh, h⟩ => ⟨g, cap, cur, ev, hg, ?_, h⟩⟩
  rw [hb.block g ?_]
  · exact hh
  · rcases Nat.lt_or_ge g w.heap.size with h3 | h3
    · exact h3
    · rw [Array.getElem?_eq_none h3] at hh; cases hh


theorem infoInt : (Tryz.prog.info? 3).map (fun i => (i.zero, i.size, i.bytes)) = some (some (.int .i64 0), 1, 8) := by kernel_rfl
theorem infoNode : (Tryz.prog.info? 67).map (fun i => (i.zero, i.size, i.bytes)) = some (some (.agg #[.int .i64 0, .int .i64 0, .int .i64 0]), 3, 24) := by kernel_rfl
/-- A whole number of 64 bits. -/
def I64 (x : Int) : Prop := -9223372036854775808 ≤ x ∧ x ≤ 9223372036854775807
/-- Numbers as cells. -/
def intsV (l : List Int) : List Value := l.map fun (x : Int) => Value.int .i64 x
theorem intsV_len (l : List Int) : (intsV l).length = l.length := List.length_map ..
theorem intsV_get {l : List Int} {j : Nat} (h : j < l.length) : (intsV l)[j]? = some (.int .i64 l[j]) := by
  unfold intsV
  rw [List.getElem?_map, List.getElem?_eq_getElem h]; rfl
/-- A node's three cells. -/
def nodeV (x : Node3) : List Value := [.int .i64 x.1, .int .i64 x.2.1, .int .i64 x.2.2]
def nodesV (t : List Node3) : List Value := t.flatMap nodeV
theorem nodesV_cons (x : Node3) (t : List Node3) : nodesV (x :: t) = nodeV x ++ nodesV t := by unfold nodesV; rw [List.flatMap_cons]
theorem nodesV_len (t : List Node3) : (nodesV t).length = t.length * 3 := by
  induction t with
  | nil => rfl
  | cons x t ih => rw [nodesV_cons, List.length_append, ih, List.length_cons]; simp [nodeV]; omega
theorem nodesV_get {t : List Node3} {j f : Nat} (h : j < t.length) (hf : f < 3) : (nodesV t)[j * 3 + f]? = (nodeV t[j])[f]? := by
  induction t generalizing j with
  | nil => simp at h
  | cons x t ih =>
    rw [nodesV_cons]
    cases j with
    | zero => rw [List.getElem?_append_left (by simp [nodeV]; omega)]; simp
    | succ j =>
      rw [List.getElem?_append_right (by simp [nodeV]; omega), show (j + 1) * 3 + f - (nodeV x).length = j * 3 + f by simp [nodeV]; omega, ih (by simpa using h)]
      rfl
theorem nodesV_get0 {t : List Node3} {j : Nat} (h : j < t.length) : (nodesV t)[j * 3]? = some (.int .i64 t[j].1) := nodesV_get (f := 0) h (by decide)
theorem nodesV_get1 {t : List Node3} {j : Nat} (h : j < t.length) : (nodesV t)[j * 3 + 1]? = some (.int .i64 t[j].2.1) := nodesV_get (f := 1) h (by decide)
theorem nodesV_get2 {t : List Node3} {j : Nat} (h : j < t.length) : (nodesV t)[j * 3 + 2]? = some (.int .i64 t[j].2.2) := nodesV_get (f := 2) h (by decide)
theorem intsV_one {l : List Int} : ∀ u ∈ intsV l, u.oneCell' = true := by
  intro u hu
  obtain ⟨j, _, rfl⟩ := List.mem_map.1 hu
  rfl
theorem nodesV_one {t : List Node3} : ∀ u ∈ nodesV t, u.oneCell' = true := by
  intro u hu
  obtain ⟨x, _, hx⟩ := List.mem_flatMap.1 hu
  simp only [nodeV, List.mem_cons, List.not_mem_nil, or_false] at hx
  rcases hx with rfl | rfl | rfl <;> rfl

/-- append(s, x...) of cells, onto an own row: nil or not. -/
theorem wpList_append_cells {w : World} {ops : Array Oper} {rest : List Oper} {o : Oper} {a : Act} {Q : Exit → Act → World → Prop} (hgd : o.guard = none) (s x : Operand) (t : TypeId)
    (ho : o.op = .call { callee := .builtin .append, args := #[s, x], argTypes := #[t, t] }) (E : TypeId) (z : Value) (sz by_ : Nat) (hinfo : (Tryz.prog.info? E).map (fun i => (i.zero, i.size, i.bytes)) = some (some z, sz, by_))
    (hzs : z.cells.size = sz) (hsz : 0 < sz) (ht : Tryz.prog.underlying t = some (.slice E))
    (base : Nat) (v : Value) (n m : Nat) (xs ys : List Value) (hs : a.eval s = v) (hown : w.ownsRow base E sz v n xs) (A : Option Addr) (c : Nat) (hx : a.eval x = .slice A m c)
    (hsl : Slice A m c) (hh : Holds w A ys) (hy : ys.length = m * sz) (hone : ∀ u ∈ ys, u.oneCell' = true) (hbig : n + m ≤ 1000000000) (hby : by_ ≤ 100000) (w0 : World) (hb : Below base w0 w) (hbase : base ≤ w.heap.size)
    (h : ∀ A' c' w', w'.ownsRow base E sz (.slice A' (n + m) c') (n + m) (xs ++ ys) → Slice A' (n + m) c' → Below base w0 w' → base ≤ w'.heap.size → w.grownBy w' v.ownBlock →
      wpList Tryz.prog ops Q rest (a.put o.dst (.slice A' (n + m) c')) w') : wpList Tryz.prog ops Q (o :: rest) a w := by
  obtain ⟨i0, hi, hz0, hz1, hz2⟩ := info_parts hinfo
  have hmul : (n + m) * by_ ≤ 140737488355328 := Nat.le_trans (Nat.mul_le_mul hbig hby) (by decide)
  cases A with
  | none =>
    obtain ⟨rfl, rfl⟩ := hsl.2.2 rfl
    have hr : ys = [] := List.eq_nil_of_length_eq_zero (by rw [hy, Nat.zero_mul])
    subst hr
    obtain ⟨A', c', e, hs', _⟩ := own_slice hown
    subst e
    refine wpList_append_own_none hgd s x t ho base E i0 sz ht hi _ n _ hs hown hx ?_
    rw [List.append_nil] at h
    exact h A' c' w hown hs' hb hbase (World.grownBy.refl w _)
  | some ad =>
    refine wpList_append_own w hgd s x t ho base E i0 z sz by_ ht hi hz0 hz1 hz2 hzs hsz v n _ hs hown ad m c ys hx hy (hh.news rfl) hone (by unfold maxLen; omega) hmul hbase ?_
    intro v' w' hown' hg' _
    obtain ⟨A', c', e, hs', _⟩ := own_slice hown'
    subst e
    exact h A' c' w' hown' hs' (hb.grown hg' hbase (fun k hk => (hown.lt k hk).1)) (Nat.le_trans hbase hg'.size) hg'
/-- A block that is known whole. -/
def Whole (w : World) (g : Nat) (cs : Array Value) (t : TypeId) : Prop := w.heap[g]? = some (.cells cs t (0, 0))
namespace Whole
variable {g : Nat} {w w' : World} {cs : Array Value} {t : TypeId}
theorem lt (h : Whole w g cs t) : g < w.heap.size := by
  rcases Nat.lt_or_ge g w.heap.size with h1 | h1
  · exact h1
  · unfold Whole at h; rw [Array.getElem?_eq_none h1] at h; cases h
theorem cell (h : Whole w g cs t) (i : Nat) : w.cell? ⟨g, i, none⟩ = cs[i]? := by
  unfold Whole at h
  simp [World.cell?, h]
theorem frozen (h : Whole w g cs t) (i : Nat) : w.frozen? ⟨g, i, none⟩ = false := by
  unfold Whole at h
  simp [World.frozen?, h]
theorem set_ (h : Whole w g cs t) (i : Nat) (u : Value) : Whole (w.setCell ⟨g, i, none⟩ u) g (cs.setIfInBounds i u) t := by
  unfold Whole at h ⊢
  simp [World.setCell, Array.getElem?_modify, h]
theorem keep (h : Whole w g cs t) (e : w'.heap[g]? = w.heap[g]?) : Whole w' g cs t := e.trans h
theorem below {B : Nat} (h : Whole w g cs t) (hb : Below B w w') (hg : g < B) : Whole w' g cs t := h.keep (hb.block g hg)
theorem new (w : World) (cs : Array Value) (t : TypeId) : Whole (w.alloc (.cells cs t)) w.heap.size cs t := heap_alloc_new w _
end Whole


/-- Only blocks of F may have changed, and new ones. -/
structure Only (F : Nat → Prop) (w w' : World) : Prop where
  os : w'.os = w.os
  tape : w'.tape = w.tape
  output : w'.output = w.output
  size : w.heap.size ≤ w'.heap.size
  block : ∀ k, k < w.heap.size → ¬ F k → w'.heap[k]? = w.heap[k]?
namespace Only
variable {F : Nat → Prop} {w w' w2 : World}
theorem refl (F : Nat → Prop) (w : World) : Only F w w := ⟨rfl, rfl, rfl, Nat.le_refl _, fun _ _ _ => rfl⟩
theorem of_below (h : Below w.heap.size w w') : Only F w w' := ⟨h.os, h.tape, h.output, h.size, fun k hk _ => h.block k hk⟩
theorem trans {F2 : Nat → Prop} (h : Only F w w') (h2 : Only F2 w' w2) (hF : ∀ k, k < w.heap.size → F2 k → F k) : Only F w w2 :=
  ⟨h2.os.trans h.os, h2.tape.trans h.tape, h2.output.trans h.output, Nat.le_trans h.size h2.size, fun k hk hn => (h2.block k (Nat.lt_of_lt_of_le hk h.size) fun hf => hn (hF k hk hf)).trans (h.block k hk hn)⟩
theorem below {B : Nat} (h : Only F w w') (hB : B ≤ w.heap.size) (hF : ∀ k, k < B → ¬ F k) : Below B w w' := ⟨h.os, h.tape, h.output, h.size, fun k hk => h.block k (by omega) (hF k hk)⟩
theorem cell (h : Only F w w') {p : Addr} (hp : p.block < w.heap.size) (hn : ¬ F p.block) : w'.cell? p = w.cell? p := World.cell?_of_block (h.block p.block hp hn)
theorem mono {F2 : Nat → Prop} (h : Only F w w') (hF : ∀ k, F k → F2 k) : Only F2 w w' := ⟨h.os, h.tape, h.output, h.size, fun k hk hn => h.block k hk fun hf => hn (hF k hf)⟩
theorem set_ (h : Only F w w') {g : Nat} (hg : F g ∨ w.heap.size ≤ g) (i : Nat) (u : Value) : Only F w (w'.setCell ⟨g, i, none⟩ u) :=
  ⟨h.os, h.tape, h.output, by simpa [World.setCell] using h.size, fun k hk hn => by
    have hne : k ≠ g := fun e => by
      subst e
      rcases hg with hg | hg
      · exact hn hg
      · exact absurd hk (by omega)
    rw [Below.heap_setCell _ _ _ _ hne]
    exact h.block k hk hn⟩
theorem alloc (h : Only F w w') (o : Obj) : Only F w (w'.alloc o) :=
  ⟨h.os, h.tape, h.output, Nat.le_trans h.size (by simp), fun k hk hn => by rw [Below.heap_alloc _ _ _ (Nat.lt_of_lt_of_le hk h.size)]; exact h.block k hk hn⟩
theorem drew (h : Only F w w') : Only F w w'.drew := ⟨h.os, h.tape, h.output, h.size, h.block⟩
end Only
theorem Holds.only {F : Nat → Prop} {w w' : World} {A : Option Addr} {vs : List Value} (h : Holds w A vs) (ho : Only F w w') (hF : ∀ b o, A = some ⟨b, o, none⟩ → ¬ F b) : Holds w' A vs := fun hn => by
  obtain ⟨b, o, e, hb, hc⟩ := h.at_ hn
  exact ⟨b, o, e, fun j u hu => (ho.cell (p := ⟨b, o + j, none⟩) hb (hF b o e)).trans (hc j u hu)⟩
theorem Whole.only {F : Nat → Prop} {w w' : World} {g : Nat} {cs : Array Value} {t : TypeId} (h : Whole w g cs t) (ho : Only F w w') (hF : ¬ F g) : Whole w' g cs t := h.keep (ho.block g h.lt hF)

theorem infoPart : (Tryz.prog.info? 181).map (fun i => (i.zero, i.size, i.bytes)) = some (some (.agg #[.int .i64 0, .int .i64 0]), 2, 16) := by kernel_rfl
/-- The table of limits. -/
def limTable : List Node3 := [(0, 0, 0), (1048576, 0, 0), (1, 1, 4), (16, 0, 1000), (0, 0, 0), (0, 0, 0), (0, 0, 0), (0, 0, 0), (63, 0, 0), (63, 0, 0), (63, 0, 15), (63, 0, 16), (3, 1, 4), (15, 0, 0)]
/-- The variable limits holds its table. -/
def Lim (w : World) : Prop := Holds w (some ⟨0, 0, none⟩) (nodesV limTable)
theorem Lim.pos {w : World} (h : Lim w) : 0 < w.heap.size := by
  obtain ⟨b, o, e, hb, _⟩ := Holds.at_ h (by simp [nodesV_len, limTable])
  cases e; exact hb
theorem Lim.below {B : Nat} {w w' : World} (h : Lim w) (hb : Below B w w') (hB : 0 < B) : Lim w' := fun hn => by
  obtain ⟨b, o, e, hc⟩ := h hn
  cases e
  exact ⟨0, 0, rfl, fun j u hu => (hb.cell (p := ⟨0, 0 + j, none⟩) hB).trans (hc j u hu)⟩
theorem Lim.next {w w' : World} (h : Lim w) (hb : Below w.heap.size w w') : Lim w' := h.below hb h.pos
end Go.Proofs.YtfeodppdmbideaaGreatDoor
namespace Go.Proofs.YtfeodppdmbideaaGreatDoor
open Go.RowKit

abbrev nodeA (n : Node3) : Value := .agg #[.int .i64 n.1, .int .i64 n.2.1, .int .i64 n.2.2]
def Wide3 (n : Node3) : Prop := I64 n.1 ∧ I64 n.2.1 ∧ I64 n.2.2
theorem lim_holds (k : Nat) (hk : k < 14) (h1 : 1 ≤ k) (A B : Int) :
    holdsN ((k : Int), A, B) ↔ (0 ≤ A ∧ A ≤ (limTable[k]'hk).1 ∧ (limTable[k]'hk).2.1 ≤ B ∧ B ≤ (limTable[k]'hk).2.2 ∧ (k ≠ 12 ∨ A < B)) := by
  rcases (by omega : k = 1 ∨ k = 2 ∨ k = 3 ∨ k = 4 ∨ k = 5 ∨ k = 6 ∨ k = 7 ∨ k = 8 ∨ k = 9 ∨ k = 10 ∨ k = 11 ∨ k = 12 ∨ k = 13) with rfl | rfl | rfl | rfl | rfl | rfl | rfl | rfl | rfl | rfl | rfl | rfl | rfl <;>
    simp [holdsN, limTable] <;> omega

set_option maxHeartbeats 2000000 in
theorem holds_out (n : Node3) (w : World) (h : n.1 < 1 ∨ 14 ≤ n.1) : Calls Tryz.prog 194 #[nodeA n] w fun e w' => e = .returned (.bool false) ∧ Below w.heap.size w w' := by
  obtain ⟨o, A, B⟩ := n
  simp only at h
  by_cases h1 : o < 1
  · go_enter Tryz.func194, Tryz.ntmps194
    go_wp2_with fail
    go_ret
    exact ⟨rfl, (Below.refl _ _).alloc (Nat.le_refl _) _⟩
  · have h2 : 14 ≤ o := by omega
    go_enter Tryz.func194, Tryz.ntmps194
    go_wp2_with fail
    go_ret
    exact ⟨rfl, (Below.refl _ _).alloc (Nat.le_refl _) _⟩
set_option maxHeartbeats 4000000 in
theorem holds_in (k : Nat) (A B x y z : Int) (w : World) (h1 : 1 ≤ k) (h2 : k < 14) (c0 : w.cell? ⟨0, k * 3, none⟩ = some (.int .i64 x)) (c1 : w.cell? ⟨0, k * 3 + 1, none⟩ = some (.int .i64 y)) (c2 : w.cell? ⟨0, k * 3 + 2, none⟩ = some (.int .i64 z))
    (r : Bool) (hr : r = decide (0 ≤ A ∧ A ≤ x ∧ y ≤ B ∧ B ≤ z ∧ (k ≠ 12 ∨ A < B))) :
    Calls Tryz.prog 194 #[nodeA ((k : Int), A, B)] w fun e w' => e = .returned (.bool r) ∧ Below w.heap.size w w' := by
  have h3 : ¬ (k : Int) < 1 := by omega
  have h4 : ¬ 14 ≤ (k : Int) := by omega
  have h0 : 0 < w.heap.size := World.block_lt_of_cell? _ _ c0
  have d0 : (w.alloc (.cells #[.int .i64 (k : Int), .int .i64 A, .int .i64 B] 67)).cell? ⟨0, k * 3, none⟩ = some (.int .i64 x) := (World.cell?_alloc_lt w _ ⟨0, k * 3, none⟩ h0).trans c0
  have d1 : (w.alloc (.cells #[.int .i64 (k : Int), .int .i64 A, .int .i64 B] 67)).cell? ⟨0, k * 3 + 1, none⟩ = some (.int .i64 y) := (World.cell?_alloc_lt w _ ⟨0, k * 3 + 1, none⟩ h0).trans c1
  have d2 : (w.alloc (.cells #[.int .i64 (k : Int), .int .i64 A, .int .i64 B] 67)).cell? ⟨0, k * 3 + 2, none⟩ = some (.int .i64 z) := (World.cell?_alloc_lt w _ ⟨0, k * 3 + 2, none⟩ h0).trans c2
  have HR := Lib.hid hr
  clear hr c0 c1 c2
  go_enter Tryz.func194, Tryz.ntmps194
  go_wp2_with fail
  all_goals
    go_ret
    refine ⟨ret_bool ?_, ((Below.refl _ _).alloc (Nat.le_refl _) _).alloc (by simp) _⟩
    rw [HR.out]
    first
      | exact (decide_eq_true (by omega)).symm
      | exact (decide_eq_false (by omega)).symm
      | exact decide_eq_decide.2 (by omega)
theorem holds_any (n : Node3) (w : World) (hL : Lim w) : Calls Tryz.prog 194 #[nodeA n] w fun e w' => e = .returned (.bool (decide (holdsN n))) ∧ Below w.heap.size w w' := by
  by_cases h : n.1 < 1 ∨ 14 ≤ n.1
  · rw [decide_eq_false fun hh => by have := holds_op hh; omega]
    exact holds_out n w h
  · obtain ⟨o, A, B⟩ := n
    simp only at h
    obtain ⟨k, rfl⟩ : ∃ k : Nat, o = k := ⟨o.toNat, by omega⟩
    have hk : k < 14 := by omega
    have hl : k < limTable.length := hk
    have c0 := hL.cell (nodesV_get0 hl)
    have c1 := hL.cell (nodesV_get1 hl)
    have c2 := hL.cell (nodesV_get2 hl)
    rw [Nat.zero_add] at c0 c1 c2
    exact holds_in k A B _ _ _ w (by omega) hk c0 c1 c2 _ (decide_eq_decide.2 (lim_holds k hk (by omega) A B))

abbrev partA (p : Part) : Value := .agg #[.int .i64 p.op, .int .i64 (p.k : Int)]
set_option maxHeartbeats 2000000 in
theorem begins_any (p : Part) (n h : Node3) (w : World) (hL : Lim w) :
    Calls Tryz.prog 168 #[partA p, nodeA n, nodeA h] w fun e w' => e = .returned (.bool (begB p.op n h)) ∧ Below w.heap.size w w' := by
  obtain ⟨o, A, B⟩ := n
  obtain ⟨ho, hA, hB⟩ := h
  obtain ⟨po, k⟩ := p
  obtain ⟨r, hr⟩ : ∃ r, r = begB po (o, A, B) (ho, hA, hB) := ⟨_, rfl⟩
  have HH := Lib.hid fun w hL => holds_any (o, A, B) w hL
  rw [show begB (Part.mk po k).op (o, A, B) (ho, hA, hB) = r from hr.symm]
  unfold begB at hr
  simp only at hr
  have l1 : Lim (((w.alloc (.cells #[.int .i64 po, .int .i64 (k : Int)] 181)).alloc (.cells #[.int .i64 o, .int .i64 A, .int .i64 B] 67)).alloc (.cells #[.int .i64 ho, .int .i64 hA, .int .i64 hB] 67)) :=
    hL.next ((((Below.refl _ _).alloc (Nat.le_refl _) _).alloc (by simp) _).alloc (by simp; omega) _)
  have hb0 : Below w.heap.size w (((w.alloc (.cells #[.int .i64 po, .int .i64 (k : Int)] 181)).alloc (.cells #[.int .i64 o, .int .i64 A, .int .i64 B] 67)).alloc (.cells #[.int .i64 ho, .int .i64 hA, .int .i64 hB] 67)) :=
    (((Below.refl _ _).alloc (Nat.le_refl _) _).alloc (by simp) _).alloc (by simp; omega) _
  have g0 := (holds_at w #[.int .i64 po, .int .i64 (k : Int)] 181 _ rfl).below ((((Below.refl _ _).alloc (Nat.le_refl _) (.cells #[.int .i64 o, .int .i64 A, .int .i64 B] 67))).alloc (by simp) (.cells #[.int .i64 ho, .int .i64 hA, .int .i64 hB] 67))
  have g1 := (holds_at (w.alloc (.cells #[.int .i64 po, .int .i64 (k : Int)] 181)) #[.int .i64 o, .int .i64 A, .int .i64 B] 67 _ rfl).below ((Below.refl _ _).alloc (Nat.le_refl _) (.cells #[.int .i64 ho, .int .i64 hA, .int .i64 hB] 67))
  have g2 := holds_at ((w.alloc (.cells #[.int .i64 po, .int .i64 (k : Int)] 181)).alloc (.cells #[.int .i64 o, .int .i64 A, .int .i64 B] 67)) #[.int .i64 ho, .int .i64 hA, .int .i64 hB] 67 _ rfl
  simp only [World.size_alloc] at g0 g1 g2
  generalize decide (holdsN (o, A, B)) = v at *
  have HR := Lib.hid hr
  have HL := Lib.hid l1
  have HB := Lib.hid hb0
  have H0 := Lib.hid g0
  have H1 := Lib.hid g1
  have H2 := Lib.hid g2
  clear hr l1 hb0 g0 g1 g2 hL
  by_cases h3 : o = 3
  · subst h3
    cases v with
    | false =>
      go_enter Tryz.func168, Tryz.ntmps168
      go_wp2_with fail
      refine (HH.out _ HL.out).mono ?_
      rintro e w1 ⟨rfl, hb1⟩
      go_wp2_with fail
      go_ret
      exact ⟨ret_bool (by rw [HR.out]; rfl), below_step HB.out hb1⟩
    | true =>
      go_enter Tryz.func168, Tryz.ntmps168
      go_wp2_with fail
      refine (HH.out _ HL.out).mono ?_
      rintro e w1 ⟨rfl, hb1⟩
      have c0 := (H0.out.below hb1).cell (j := 0) rfl
      have c1 := (H1.out.below hb1).cell (j := 0) rfl
      have c2 := (H1.out.below hb1).cell (j := 1) rfl
      have c3 := (H2.out.below hb1).cell (j := 0) rfl
      have c4 := (H2.out.below hb1).cell (j := 1) rfl
      simp only [Nat.zero_add] at c0 c1 c2 c3 c4
      go_wp2_with fail
      all_goals
        go_ret
        refine ⟨ret_bool ?_, below_step HB.out hb1⟩
        rw [HR.out]
        simp_all <;> rfl
  · have e3 : (o == 3) = false := by simpa using h3
    by_cases h13 : o = 13
    · subst h13
      cases v with
      | false =>
        go_enter Tryz.func168, Tryz.ntmps168
        go_wp2_with fail
        refine (HH.out _ HL.out).mono ?_
        rintro e w1 ⟨rfl, hb1⟩
        go_wp2_with fail
        go_ret
        exact ⟨ret_bool (by rw [HR.out]; rfl), below_step HB.out hb1⟩
      | true =>
        go_enter Tryz.func168, Tryz.ntmps168
        go_wp2_with fail
        refine (HH.out _ HL.out).mono ?_
        rintro e w1 ⟨rfl, hb1⟩
        have c0 := (H0.out.below hb1).cell (j := 0) rfl
        have c1 := (H1.out.below hb1).cell (j := 0) rfl
        simp only [Nat.zero_add] at c0 c1
        go_wp2_with fail
        all_goals
          go_ret
          refine ⟨ret_bool ?_, below_step HB.out hb1⟩
          rw [HR.out]
          simp_all <;> rfl
    · have e13 : (o == 13) = false := by simpa using h13
      cases v with
      | false =>
        go_enter Tryz.func168, Tryz.ntmps168
        go_wp2_with fail
        refine (HH.out _ HL.out).mono ?_
        rintro e w1 ⟨rfl, hb1⟩
        go_wp2_with fail
        go_ret
        exact ⟨ret_bool (by rw [HR.out]; rfl), below_step HB.out hb1⟩
      | true =>
        go_enter Tryz.func168, Tryz.ntmps168
        go_wp2_with fail
        refine (HH.out _ HL.out).mono ?_
        rintro e w1 ⟨rfl, hb1⟩
        have c0 := (H0.out.below hb1).cell (j := 0) rfl
        have c1 := (H1.out.below hb1).cell (j := 0) rfl
        simp only [Nat.zero_add] at c0 c1
        go_wp2_with fail
        all_goals
          go_ret
          refine ⟨ret_bool ?_, below_step HB.out hb1⟩
          rw [HR.out]
          simp_all <;> rfl
end Go.Proofs.YtfeodppdmbideaaGreatDoor
