/- Slices that hold cells, own rows, bytes: small facts about memory. -/
import Derived.Test.YtbpbokdomdmclaaRows
import Derived.WalkKit
import Derived.Deep.OwnRows
import Derived.Deep.LoopGhost
import Derived.Deep.Draws
import Derived.Lib.Hide
import Derived.WalkSpells
import Derived.WalkLawsBesides
import Derived.Laws.CopyOwn
import Derived.Deep.QuietTactic
import Derived.BigQuiet
import Derived.Laws.OwnMore
import Derived.Laws.AppendOwnNone
import Derived.Deep.DeepMust
import Derived.Deep.RegionWith
namespace Go.Proofs.Ytbpbokdomdmclaa
open Go.RowKit

theorem info8 : (Try.prog.info? 5).map (fun i => (i.zero, i.size, i.bytes)) = some (some (.int .u8 0), 1, 1) := by kernel_rfl

theorem add_off (b o j : Nat) : (⟨b, o, none⟩ : Addr).add j = ⟨b, o + j, none⟩ := by unfold Addr.add; split <;> simp_all
theorem below_drewN {B : Nat} {a w : World} (h : Below B a w) (n : Nat) : Below B a (w.drewN n) := ⟨h.os, h.tape, h.output, h.size, h.block⟩
theorem below_step {w w1 w2 : World} (h : Below w.heap.size w w1) (k : Below w1.heap.size w1 w2) : Below w.heap.size w w2 := h.trans (k.mono h.size)
theorem below_alloc {w w1 : World} (h : Below w.heap.size w w1) (o : Obj) : Below w.heap.size w (w1.alloc o) := h.alloc h.size o
theorem ret_bool {a b : Bool} (h : a = b) : Ending.returned (.bool a) = .returned (.bool b) := by rw [h]
theorem ret_slice {A : Option Addr} {n m c : Nat} (h : n = m) : Ending.returned (.slice A n c) = .returned (.slice A m c) := by rw [h]

/-- The memory at A holds these cells. -/
def Holds (w : World) (A : Option Addr) (vs : List Value) : Prop := 0 < vs.length → ∃ b o, A = some ⟨b, o, none⟩ ∧ ∀ j u, vs[j]? = some u → w.cell? ⟨b, o + j, none⟩ = some u
namespace Holds
variable {w w' : World} {A : Option Addr} {vs : List Value}
theorem nil (w : World) (A : Option Addr) : Holds w A [] := fun h => absurd h (by simp)
theorem at_ (h : Holds w A vs) (hn : 0 < vs.length) : ∃ b o, A = some ⟨b, o, none⟩ ∧ b < w.heap.size ∧ ∀ j u, vs[j]? = some u → w.cell? ⟨b, o + j, none⟩ = some u := by
  obtain ⟨b, o, e, hc⟩ := h hn
  exact ⟨b, o, e, World.block_lt_of_cell? _ _ (hc 0 vs[0] (List.getElem?_eq_getElem hn)), hc⟩
theorem keep (h : Holds w A vs) (hk : ∀ p : Addr, p.block < w.heap.size → w'.cell? p = w.cell? p) : Holds w' A vs := fun hn => by
  obtain ⟨b, o, e, hb, hc⟩ := h.at_ hn
  exact ⟨b, o, e, fun j u hu => (hk _ hb).trans (hc j u hu)⟩
theorem below (h : Holds w A vs) (hb : Below w.heap.size w w') : Holds w' A vs := h.keep fun _ hp => hb.cell hp
theorem drew (h : Holds w A vs) : Holds w.drew A vs := h
theorem drewN (h : Holds w A vs) (k : Nat) : Holds (w.drewN k) A vs := h
theorem alloc (h : Holds w A vs) (o : Obj) : Holds (w.alloc o) A vs := h.keep fun p hp => World.cell?_alloc_lt w o p (by omega)
/-- As the source of an append. -/
theorem news {a : Addr} (h : Holds w A vs) (e : A = some a) : ∀ j u, vs[j]? = some u → w.cell? (a.add j) = some u := by
  intro j u hu
  have hj : 0 < vs.length := by
    rcases Nat.eq_zero_or_pos vs.length with h0 | h0
    · rw [List.eq_nil_of_length_eq_zero h0] at hu; simp at hu
    · exact h0
  obtain ⟨b, o, e', hc⟩ := h hj
  rw [e] at e'
  cases e'
  rw [add_off, hc j u hu]
end Holds
/-- A slice that comes in or was answered: nil has no cells. -/
def Slice (A : Option Addr) (n c : Nat) : Prop := n ≤ c ∧ c ≤ 9223372036854775807 ∧ (A = none → n = 0 ∧ c = 0)
theorem own_slice {w : World} {B e sz n : Nat} {v : Value} {xs : List Value} (h : w.ownsRow B e sz v n xs) : ∃ A c, v = .slice A n c ∧ Slice A n c ∧ ∀ g o, A = some ⟨g, o, none⟩ → B ≤ g ∧ g < w.heap.size ∧ o = 0 := by
  rcases h.2 with ⟨rfl, rfl⟩ | ⟨g, cap, cur, rfl, hB, hg, h1, h2, _⟩
  · exact ⟨none, 0, rfl, ⟨Nat.le_refl _, by omega, fun _ => ⟨rfl, rfl⟩⟩, fun _ _ h => by cases h⟩
  · refine ⟨_, _, rfl, ⟨h1, h2, fun h => by cases h⟩, fun g' o' h => ?_⟩
    cases h
    refine ⟨hB, ?_, rfl⟩
    rcases Nat.lt_or_ge g w.heap.size with h3 | h3
    · exact h3
    · rw [Array.getElem?_eq_none h3] at hg; cases hg
theorem own_holds {w : World} {B e sz n c : Nat} {A : Option Addr} {xs : List Value} (h : w.ownsRow B e sz (.slice A n c) n xs) : Holds w A xs := by
  have hl := h.1
  rcases h.2 with ⟨e, h0⟩ | ⟨g, cap, cur, e, _, hb, hn, hc, hs, ht⟩
  · intro h1
    rw [hl, h0, Nat.zero_mul] at h1
    exact absurd h1 (by omega)
  · cases e
    refine fun _ => ⟨g, 0, rfl, fun j u hu => ?_⟩
    rw [← ht, List.getElem?_take] at hu
    split at hu
    · rw [Array.getElem?_toList] at hu
      rw [Nat.zero_add]
      simp [World.cell?, hb, hu]
    · cases hu
theorem own_base {w : World} {B B' sz n : Nat} {e : TypeId} {v : Value} {xs : List Value} (h : w.ownsRow B e sz v n xs) (hB : B' ≤ B) : w.ownsRow B' e sz v n xs :=
  ⟨h.1, h.2.imp id fun ⟨g, cap, cur, e, hg, h⟩ => ⟨g, cap, cur, e, by omega, h⟩⟩
theorem own_below {w w' : World} {B sz n : Nat} {e : TypeId} {v : Value} {xs : List Value} (h : w.ownsRow B e sz v n xs) (hb : Below w.heap.size w w') : w'.ownsRow B e sz v n xs := by
  refine ⟨h.1, h.2.imp id fun ⟨g, cap, cur, ev, hg, hh, h⟩ => ⟨g, cap, cur, ev, hg, ?_, h⟩⟩
  rw [hb.block g ?_]
  · exact hh
  · rcases Nat.lt_or_ge g w.heap.size with h3 | h3
    · exact h3
    · rw [Array.getElem?_eq_none h3] at hh; cases hh

/-- Bytes as cells. -/
def bytesV (l : List Nat) : List Value := l.map fun (x : Nat) => Value.int .u8 (x : Int)
theorem bytesV_len (l : List Nat) : (bytesV l).length = l.length := List.length_map ..
theorem bytesV_append (l r : List Nat) : bytesV (l ++ r) = bytesV l ++ bytesV r := List.map_append ..
theorem bytesV_one {l : List Nat} : ∀ u ∈ bytesV l, u.oneCell' = true := by
  intro u hu
  obtain ⟨j, _, rfl⟩ := List.mem_map.1 hu
  rfl
theorem bytesV_get {l : List Nat} {j : Nat} (h : j < l.length) : (bytesV l)[j]? = some (.int .u8 (l[j] : Int)) := by
  unfold bytesV
  rw [List.getElem?_map, List.getElem?_eq_getElem h]; rfl
/-- New bytes are answered. -/
def NewB (l : List Nat) (w : World) (e : Ending) (w' : World) : Prop :=
  ∃ A c, e = .returned (.slice A l.length c) ∧ w'.ownsRow w.heap.size 5 1 (.slice A l.length c) l.length (bytesV l) ∧ Below w.heap.size w w'
end Go.Proofs.Ytbpbokdomdmclaa
