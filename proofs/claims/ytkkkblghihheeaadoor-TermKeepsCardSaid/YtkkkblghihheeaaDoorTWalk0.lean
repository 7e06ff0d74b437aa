/- term.walk: the state of a walk with whatever visitor. -/
import Derived.Test.YtkkkblghihheeaaDoorTFollow
import Derived.StillTailTactics
namespace Go.Proofs.YtkkkblghihheeaaDoor
open Go.RowKit

/-- A visitor of a walk: I i F W: i nodes have been visited, and F are the blocks that the visitor may write. -/
structure Vis (Vf : FuncId) (cap : Array Value) (a : Ann) (at0 B0 : Nat) (I : Nat → (Nat → Prop) → World → Prop) (Stop : List PanicEntry → World → Prop) : Prop where
  enters : ∀ args w, (callFunc Vf args).run Tryd.prog w = .ok (.enter Vf args) w
  lt : ∀ i F W, I i F W → ∀ k, F k → k < W.heap.size
  abide : ∀ i F W W', I i F W → Only (fun k => B0 ≤ k ∧ ¬ F k) W W' → I i F W'
  call : ∀ i F W (h : i < a.length), I i F W → Calls Tryd.prog Vf (#[.int .i64 ((at0 + i : Nat) : Int), .int .i64 ((a[i].2 : Nat) : Int)] ++ cap) W
    (fun e W' => (e = .returned (.tuple #[]) ∧ ∃ F', I (i + 1) F' W' ∧ Only F W W' ∧ ∀ k, F' k → F k ∨ W.heap.size ≤ k) ∨ (∃ ch, e = .panicked ch ∧ Stop ch W'))
/-- What a walk answers. -/
def WalkPost (I : Nat → (Nat → Prop) → World → Prop) (Stop : List PanicEntry → World → Prop) (F0 : Nat → Prop) (N : Nat) (n : Nat) (w : World) (e : Ending) (w' : World) : Prop :=
  (e = .returned (.int .i64 (N : Int)) ∧ ∃ F', I n F' w' ∧ Only F0 w w' ∧ ∀ k, F' k → F0 k ∨ w.heap.size ≤ k) ∨ (∃ ch, e = .panicked ch ∧ Stop ch w')

def zeros128 : Array Value := Array.replicate 128 (.int .i64 0)
theorem make_run (w : World) : (Instr.makeSlice 91 (.int .i64 1) (.int .i64 64)).run Tryd.prog w = .ok (.slice (some ⟨w.heap.size, 0, none⟩) 1 64) (w.alloc (.cells zeros128 93)) := by kernel_rfl
theorem make_parts (w : World) : OwnP (w.alloc (.cells zeros128 93)) (.slice (some ⟨w.heap.size, 0, none⟩) 1 64) [⟨0, 0⟩] :=
  ⟨rfl, .inr ⟨w.heap.size, 64, _, rfl, Nat.zero_le _, heap_alloc_new w _, by decide, by unfold maxLen; omega, rfl, rfl⟩⟩
/-- The state of a walk at a round's head: i nodes have been visited, the next stands at j. -/
structure WalkAt (w : World) (A : Option Addr) (t : List Node3) (a : Ann) (s : List Node3) (e0 : Node3) (at0 : Nat) (I : Nat → (Nat → Prop) → World → Prop) (F0 : Nat → Prop) (i j : Nat) (F : Nat → Prop) (todo : List Part) (hd : Node3) (v : Value) (wr : World) : Prop where
  le : i ≤ a.length
  at_ : j = at0 + i
  rest : W (t.drop j) hd todo = some (a.drop i, s, e0)
  own : OwnP wr v todo.reverse
  ahead : Whole wr (w.heap.size + 1) #[.int .i64 hd.1, .int .i64 hd.2.1, .int .i64 hd.2.2] 53
  inv : I i F wr
  only : Only F0 w wr
  grow : ∀ k, F k → F0 k ∨ w.heap.size ≤ k
  off : ¬ F (w.heap.size + 1)
  block : ∀ g, v.ownBlock = some g → w.heap.size ≤ g ∧ ¬ F g ∧ g ≠ w.heap.size + 1
theorem own_cut {w : World} {A : Option Addr} {c n m sz : Nat} {e : TypeId} {xs ys : List Value} (h : w.ownsRow 0 e sz (.slice A n c) n (xs ++ ys)) (hx : xs.length = m * sz) (hm : m ≤ n) (h0 : 0 < n) : w.ownsRow 0 e sz (.slice A m c) m xs := by
  rcases h.2 with ⟨_, h1⟩ | ⟨g, cap, cur, e1, hg, hh, h1, h2, h3, h4⟩
  · omega
  · cases e1
    refine ⟨hx, .inr ⟨g, c, cur, rfl, hg, hh, by omega, h2, h3, ?_⟩⟩
    have h5 : (cur.toList.take (n * sz)).take (m * sz) = (xs ++ ys).take (m * sz) := by rw [h4]
    rw [List.take_take, Nat.min_eq_left (Nat.mul_le_mul_right _ hm), ← hx, List.take_left'  rfl] at h5
    rw [← hx]; exact h5
theorem drop_cons {t : List Node3} {j : Nat} {n : Node3} {r : List Node3} (h : t.drop j = n :: r) : ∃ hj : j < t.length, t[j] = n ∧ t.drop (j + 1) = r := by
  have hj : j < t.length := by
    rcases Nat.lt_or_ge j t.length with h1 | h1
    · exact h1
    · rw [List.drop_eq_nil_of_le h1] at h; cases h
  rw [List.drop_eq_getElem_cons hj] at h
  cases h
  exact ⟨hj, rfl, rfl⟩
section
variable {w wr w1 w2 w3 w4 : World} {A : Option Addr} {t : List Node3} {a : Ann} {s : List Node3} {e0 hd : Node3} {at0 i j : Nat} {I : Nat → (Nat → Prop) → World → Prop} {F0 F F' : Nat → Prop} {todo : List Part} {p : Part} {v v' v'' : Value}
theorem WalkAt.part (h : WalkAt w A t a s e0 at0 I F0 i j F (p :: todo) hd v wr) : ∃ (n : Node3) (a' : Ann) (hj : j < t.length) (hi : i < a.length), t[j] = n ∧ begB p.op n hd = true ∧ a[i] = (n, p.k) ∧ a.drop (i + 1) = a' ∧
    W (t.drop (j + 1)) n (follow n p.k ++ todo) = some (a.drop (i + 1), s, e0) ∧ todo.length + 1 ≤ t.length - j := by
  have hr := h.rest
  cases hd' : t.drop j with
  | nil => rw [hd'] at hr; cases hr
  | cons n r =>
    have hl := W_row _ _ _ _ _ _ hr
    rw [hd'] at hr
    obtain ⟨hb, a', ha, hw⟩ := W_cons hr
    obtain ⟨hj, h1, h2⟩ := drop_cons hd'
    have hi : i < a.length := by
      rcases Nat.lt_or_ge i a.length with h3 | h3
      · exact h3
      · rw [List.drop_eq_nil_of_le h3] at ha; cases ha
    rw [List.drop_eq_getElem_cons hi] at ha
    simp only [List.cons.injEq] at ha
    refine ⟨n, a', hj, hi, h1, hb, ha.1, ha.2, by rw [h2, ha.2]; exact hw, ?_⟩
    have h3 := congrArg List.length hl.1
    have h4 := hl.2
    simp only [List.length_drop, List.length_append, List.length_map, List.length_cons] at h3 h4
    omega
theorem WalkAt.none (h : WalkAt w A t a s e0 at0 I F0 i j F [] hd v wr) : i = a.length := by
  have hr := h.rest
  rw [W_nil] at hr
  simp only [Option.some.injEq, Prod.mk.injEq] at hr
  have h1 := congrArg List.length hr.1
  have := h.le
  simp only [List.length_nil, List.length_drop] at h1
  omega
theorem WalkAt.step {Vf : FuncId} {cap : Array Value} {Stop : List PanicEntry → World → Prop} {n : Node3} (V : Vis Vf cap a at0 w.heap.size I Stop) (h : WalkAt w A t a s e0 at0 I F0 i j F (p :: todo) hd v wr) (hi : i < a.length) (hw : W (t.drop (j + 1)) n (follow n p.k ++ todo) = some (a.drop (i + 1), s, e0))
    (h1 : Below wr.heap.size wr w1) (h2 : I (i + 1) F' w2) (h3 : Only F w1 w2) (h4 : ∀ k, F' k → F k ∨ w1.heap.size ≤ k) (h5 : Only (fun k => k = w.heap.size + 1) w2 w3) (h6 : Whole w3 (w.heap.size + 1) #[.int .i64 n.1, .int .i64 n.2.1, .int .i64 n.2.2] 53)
    (h7 : ∀ g, v'.ownBlock = some g → v.ownBlock = some g) (h8 : OwnP w4 v'' (todo.reverse ++ (follow n p.k).reverse)) (h9 : Moves w3 v' w4 v'') : WalkAt w A t a s e0 at0 I F0 (i + 1) (j + 1) F' (follow n p.k ++ todo) n v'' w4 := by
  have ga := h.ahead.lt
  have gw := h.only.size
  have g1 := h1.size
  have g2 := h3.size
  have g3 := h5.size
  have gv : ∀ g, v.ownBlock = some g → g < wr.heap.size := fun g hg => (World.ownsRow.lt h.own g hg).2
  have hna : ¬ F' (w.heap.size + 1) := fun hf => by
    rcases h4 _ hf with h' | h'
    · exact h.off h'
    · omega
  refine ⟨hi, by have := h.at_; omega, hw, ?_, ?_, ?_, ?_, ?_, hna, ?_⟩
  · rw [List.reverse_append]; exact h8
  · exact h6.only h9.only fun hb => (h.block _ (h7 _ hb)).2.2 rfl
  · refine V.abide (i + 1) F' w2 w4 h2 (Only.mono (F := fun k => k = w.heap.size + 1 ∨ v.ownBlock = some k) ((h5.mono fun k e => .inl e).trans h9.only fun k _ hb => .inr (h7 k hb)) ?_)
    · rintro k (rfl | hk)
      · exact ⟨by omega, hna⟩
      · have hb := h.block k hk
        refine ⟨hb.1, fun hf => ?_⟩
        rcases h4 _ hf with h' | h'
        · exact hb.2.1 h'
        · have := gv k hk; omega
  · refine ((((h.only.trans (Only.of_below h1 (F := fun _ => False)) (fun _ _ hf => hf.elim)).trans h3 fun k hk hf => ?_).trans h5 fun k hk hf => ?_).trans h9.only fun k hk hf => ?_)
    · rcases h.grow k hf with h' | h'
      · exact h'
      · omega
    · omega
    · have := (h.block k (h7 k hf)).1; omega
  · intro k hf
    rcases h4 k hf with h' | h'
    · exact h.grow k h'
    · exact .inr (by omega)
  · intro g hg
    rcases h9.next g hg with h' | h'
    · have hb := h.block g (h7 g h')
      refine ⟨hb.1, fun hf => ?_, hb.2.2⟩
      rcases h4 _ hf with h'' | h''
      · exact hb.2.1 h''
      · have := gv g (h7 g h'); omega
    · refine ⟨by omega, fun hf => ?_, by omega⟩
      have := V.lt _ _ _ h2 g hf
      omega
end
end Go.Proofs.YtkkkblghihheeaaDoor
