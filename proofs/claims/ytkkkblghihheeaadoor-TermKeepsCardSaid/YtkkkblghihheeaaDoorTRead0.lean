/- The document's answer: Read: what it answers; the tree once it is read. -/
import Derived.Test.YtkkkblghihheeaaDoorTReadM
import Derived.Test.YtkkkblghihheeaaDoorTRaise
import Derived.Test.YtkkkblghihheeaaDoorTCount2
namespace Go.Proofs.YtkkkblghihheeaaDoor
open Go.RowKit

def ReadPost (t : List Node3) (w : World) (e : Ending) (w' : World) : Prop :=
  (top0 t = none ∧ e = .returned (.tuple #[.agg #[.int .i64 0, .int .i64 0, .int .i64 0, .slice none 0 0, .slice none 0 0, .slice none 0 0], .int .i64 0, .bool false]) ∧ Below w.heap.size w w') ∨
  ∃ a s v, top0 t = some (a, s) ∧ e = .returned (.tuple #[TV.val v, .int .i64 (a.length : Nat), .bool true]) ∧ TreeR w' (fun k => w.heap.size ≤ k) v a ∧ Below w.heap.size w w'
theorem ReadPost.no {t : List Node3} {w w' : World} (h : top0 t = none) (hb : Below w.heap.size w w') : ReadPost t w (.returned (.tuple #[.agg #[.int .i64 0, .int .i64 0, .int .i64 0, .slice none 0 0, .slice none 0 0, .slice none 0 0], .int .i64 0, .bool false])) w' := .inl ⟨h, rfl, hb⟩
theorem ReadPost.yes {t : List Node3} {w w' : World} {a : Ann} {s : List Node3} {v : TV} {m : Nat} (h : top0 t = some (a, s)) (hm : a.length = m) (ht : TreeR w' (fun k => w.heap.size ≤ k) v a) (hb : Below w.heap.size w w') : ReadPost t w (.returned (.tuple #[TV.val v, .int .i64 (m : Int), .bool true])) w' := .inr ⟨a, s, v, h, by rw [hm], ht, hb⟩
theorem top0_nil : top0 [] = none := rfl
theorem RdGrow.done {w : World} {bo m ck na ca nf cf : Nat} {n : Node3} {Ko Ao Fo : Option Addr} {os : List (TV × Ann)} {ats fs : List Node3} (h : RdGrow w bo n (.slice Ko m ck) (.slice Ao na ca) (.slice Fo nf cf) os ats fs) (hm : os.length = m) (ha : ats.length = na) (hf : fs.length = nf)
    (hvar : n.1 = 1 → os.length = 0 ∧ ats.length = 0 ∧ n.2.2 = 0) (hfix : n.1 = 12 → 0 ≤ n.2.2 ∧ n.2.2 ≤ 4 ∧ os.length ≤ 2 * fs.length) (hv : ∀ x, x ∈ ats ∨ x ∈ fs → x.1 ≠ 1) (hcnt : os.length = kidsN n) (hats : n.1 ≠ 2 → ats = []) :
    TreeR w (fun k => bo < k) ⟨n, Ko, m, ck, Ao, na, ca, Fo, nf, cf⟩ (treeA n ats fs (os.map Prod.snd)) := by
  subst hm ha hf
  obtain ⟨A1, c1, e1, s1, b1⟩ := own_slice h.ownK
  obtain ⟨A2, c2, e2, s2, b2⟩ := own_slice h.ownA
  obtain ⟨A3, c3, e3, s3, b3⟩ := own_slice h.ownF
  cases e1
  cases e2
  cases e3
  refine .mk ⟨n, Ko, os.length, ck, Ao, ats.length, ca, Fo, fs.length, cf⟩ os ats fs ⟨rfl, rfl, rfl, s1, s2, s3, hvar, hfix⟩ ⟨own_holds h.ownK, fun b o e _ => ?_⟩ ⟨own_holds h.ownA, fun b o e _ => ?_⟩ ⟨own_holds h.ownF, fun b o e _ => ?_⟩ hv (fun p hp => (h.sub p hp).mono fun k hk _ => hk.1) ⟨by rw [List.length_map]; exact hcnt, hats, fun k hk => by
    obtain ⟨p, hp, rfl⟩ := List.mem_map.1 hk
    exact h.tms p hp⟩
  · subst e; exact h.kK b (by simp [Value.ownBlock])
  · subst e; exact h.kA b (by simp [Value.ownBlock])
  · subst e; exact h.kF b (by simp [Value.ownBlock])
theorem RdGrow.start (w : World) (n : Node3) : RdGrow (w.alloc (.cells #[.int .i64 n.1, .int .i64 n.2.1, .int .i64 n.2.2, .slice none 0 0, .slice none 0 0, .slice none 0 0] 59)) w.heap.size n (.slice none 0 0) (.slice none 0 0) (.slice none 0 0) [] [] [] :=
  ⟨Whole.new w _ _, World.ownsRow_nil _ _ _ _, World.ownsRow_nil _ _ _ _, World.ownsRow_nil _ _ _ _, fun k h => (by cases h), fun k h => (by cases h), fun k h => (by cases h), fun k h => (by cases h), fun k h => (by cases h), fun k h => (by cases h), fun p hp => (by cases hp), fun p hp => (by cases hp)⟩
end Go.Proofs.YtkkkblghihheeaaDoor
