/- Trees of the document's answer, in memory: a tree stands for a row's nodes, each with how many binders are around it. -/
import Derived.Test.YtkkkblghihheeaaDoorTTree0
namespace Go.Proofs.YtkkkblghihheeaaDoor
open Go.RowKit

/-- A tree's value: its node, and where its kids, atoms and functions lie. -/
structure TV where
  n : Node3
  K : Option Addr
  nk : Nat
  ck : Nat
  A : Option Addr
  na : Nat
  ca : Nat
  F : Option Addr
  nf : Nat
  cf : Nat
def TV.cells (v : TV) : List Value := [.int .i64 v.n.1, .int .i64 v.n.2.1, .int .i64 v.n.2.2, .slice v.K v.nk v.ck, .slice v.A v.na v.ca, .slice v.F v.nf v.cf]
abbrev TV.val (v : TV) : Value := .agg #[.int .i64 v.n.1, .int .i64 v.n.2.1, .int .i64 v.n.2.2, .slice v.K v.nk v.ck, .slice v.A v.na v.ca, .slice v.F v.nf v.cf]
def TV.zero : TV := ⟨(0, 0, 0), none, 0, 0, none, 0, 0, none, 0, 0⟩
def treesV (l : List TV) : List Value := l.flatMap TV.cells
theorem treesV_snoc (l : List TV) (x : TV) : treesV (l ++ [x]) = treesV l ++ x.cells := by unfold treesV; rw [List.flatMap_append]; simp
theorem treesV_len (l : List TV) : (treesV l).length = l.length * 6 := by
  induction l with
  | nil => rfl
  | cons x l ih => unfold treesV at *; rw [List.flatMap_cons, List.length_append, ih, List.length_cons]; simp [TV.cells]; omega
theorem treesV_get {t : List TV} {j f : Nat} (h : j < t.length) (hf : f < 6) : (treesV t)[j * 6 + f]? = (t[j].cells)[f]? := by
  induction t generalizing j with
  | nil => simp at h
  | cons x t ih =>
    have e : treesV (x :: t) = x.cells ++ treesV t := by unfold treesV; rw [List.flatMap_cons]
    rw [e]
    cases j with
    | zero => rw [List.getElem?_append_left (by simp [TV.cells]; omega)]; simp
    | succ j =>
      rw [List.getElem?_append_right (by simp [TV.cells]; omega), show (j + 1) * 6 + f - x.cells.length = j * 6 + f by simp [TV.cells]; omega, ih (by simpa using h)]
      rfl
theorem treesV_one {t : List TV} : ∀ u ∈ treesV t, u.oneCell' = true := by
  intro u hu
  obtain ⟨x, _, hx⟩ := List.mem_flatMap.1 hu
  simp only [TV.cells, List.mem_cons, List.not_mem_nil, or_false] at hx
  rcases hx with rfl | rfl | rfl | rfl | rfl | rfl <;> rfl
/-- A row in memory that lies in blocks of G. -/
def HoldsG (w : World) (G : Nat → Prop) (A : Option Addr) (vs : List Value) : Prop := Holds w A vs ∧ ∀ b o, A = some ⟨b, o, none⟩ → 0 < vs.length → G b
theorem HoldsG.keep {w w' : World} {G : Nat → Prop} {A : Option Addr} {vs : List Value} (h : HoldsG w G A vs) (hk : ∀ k, G k → k < w.heap.size → w'.heap[k]? = w.heap[k]?) : HoldsG w' G A vs :=
  ⟨fun hn => by
    obtain ⟨b, o, e, hb, hc⟩ := h.1.at_ hn
    exact ⟨b, o, e, fun j u hu => (World.cell?_of_block (hk b (h.2 b o e hn) hb)).trans (hc j u hu)⟩, h.2⟩
theorem HoldsG.mono {w : World} {G G' : Nat → Prop} {A : Option Addr} {vs : List Value} (h : HoldsG w G A vs) (hG : ∀ k, G k → k < w.heap.size → G' k) : HoldsG w G' A vs :=
  ⟨h.1, fun b o e hn => by
    obtain ⟨b', o', e', hb, _⟩ := h.1.at_ hn
    rw [e] at e'; cases e'
    exact hG b (h.2 b o e hn) hb⟩
/-- What is always so of a tree's parts. -/
structure Sound (v : TV) (ks ats fs : Nat) : Prop where
  nk : v.nk = ks
  na : v.na = ats
  nf : v.nf = fs
  sk : Slice v.K v.nk v.ck
  sa : Slice v.A v.na v.ca
  sf : Slice v.F v.nf v.cf
  var : v.n.1 = 1 → ks = 0 ∧ ats = 0 ∧ v.n.2.2 = 0
  fix : v.n.1 = 12 → 0 ≤ v.n.2.2 ∧ v.n.2.2 ≤ 4 ∧ ks ≤ 2 * fs
/-- The tree stands in memory, in blocks of G, for this row; of each node's parts R holds. -/
inductive TreeP (R : Node3 → List Node3 → List Node3 → List Ann → Prop) (w : World) (G : Nat → Prop) : TV → Ann → Prop
  | mk (v : TV) (ks : List (TV × Ann)) (ats fs : List Node3) (hs : Sound v ks.length ats.length fs.length) (hK : HoldsG w G v.K (treesV (ks.map Prod.fst))) (hA : HoldsG w G v.A (nodesV ats)) (hF : HoldsG w G v.F (nodesV fs)) (hv : ∀ x, x ∈ ats ∨ x ∈ fs → x.1 ≠ 1)
    (sub : ∀ p, p ∈ ks → TreeP R w G p.1 p.2) (hR : R v.n ats fs (ks.map Prod.snd)) : TreeP R w G v (treeA v.n ats fs (ks.map Prod.snd))
abbrev TreeAt := TreeP fun _ _ _ _ => True
theorem TreeAt.mk {w : World} {G : Nat → Prop} (v : TV) (ks : List (TV × Ann)) (ats fs : List Node3) (hs : Sound v ks.length ats.length fs.length) (hK : HoldsG w G v.K (treesV (ks.map Prod.fst))) (hA : HoldsG w G v.A (nodesV ats)) (hF : HoldsG w G v.F (nodesV fs)) (hv : ∀ x, x ∈ ats ∨ x ∈ fs → x.1 ≠ 1)
    (sub : ∀ p, p ∈ ks → TreeAt w G p.1 p.2) : TreeAt w G v (treeA v.n ats fs (ks.map Prod.snd)) := TreeP.mk v ks ats fs hs hK hA hF hv sub trivial
section
variable {R : Node3 → List Node3 → List Node3 → List Ann → Prop} {w w' : World} {G G' : Nat → Prop} {v : TV} {a : Ann}
theorem TreeP.keep (h : TreeP R w G v a) (hk : ∀ k, G k → k < w.heap.size → w'.heap[k]? = w.heap[k]?) : TreeP R w' G v a := by
  induction h with
  | mk v ks ats fs hs hK hA hF hv _ hR ih => exact .mk v ks ats fs hs (hK.keep hk) (hA.keep hk) (hF.keep hk) hv ih hR
theorem TreeP.mono (h : TreeP R w G v a) (hG : ∀ k, G k → k < w.heap.size → G' k) : TreeP R w G' v a := by
  induction h with
  | mk v ks ats fs hs hK hA hF hv _ hR ih => exact .mk v ks ats fs hs (hK.mono hG) (hA.mono hG) (hF.mono hG) hv ih hR
theorem TreeP.next (h : TreeP R w G v a) (hb : Below w.heap.size w w') : TreeP R w' G v a := h.keep fun k _ hk => hb.block k hk
theorem TreeP.plain (h : TreeP R w G v a) : TreeAt w G v a := by
  induction h with
  | mk v ks ats fs hs hK hA hF hv _ _ ih => exact .mk v ks ats fs hs hK hA hF hv ih
end
theorem TreeAt.keep {w w' : World} {G : Nat → Prop} {v : TV} {a : Ann} (h : TreeAt w G v a) (hk : ∀ k, G k → k < w.heap.size → w'.heap[k]? = w.heap[k]?) : TreeAt w' G v a := TreeP.keep h hk
theorem TreeAt.mono {w : World} {G G' : Nat → Prop} {v : TV} {a : Ann} (h : TreeAt w G v a) (hG : ∀ k, G k → k < w.heap.size → G' k) : TreeAt w G' v a := TreeP.mono h hG
theorem TreeAt.next {w w' : World} {G : Nat → Prop} {v : TV} {a : Ann} (h : TreeAt w G v a) (hb : Below w.heap.size w w') : TreeAt w' G v a := TreeP.next h hb
end Go.Proofs.YtkkkblghihheeaaDoor
