/- A map of distances: what stands at a pair. -/
import Derived.Test.YtdpannjnhhjicaaLMem
import Derived.Maps.OwnSet
import Derived.DeepKeys4
namespace Go.Proofs.Ytdpannjnhhjicaa
open Go.RowKit
open Go.Maps (Keyed)

theorem Try.laid0 : laidOutB Try.prog = true := by kernel_rfl
theorem Try.rowPair : (68 : TypeId) < Try.prog.types.size := of_decide_eq_true (by kernel_rfl)
theorem Try.widePair : (match Try.prog.underlying 68 with | some (.array _ _) | some (.struct _) => true | _ => false) = true := by kernel_rfl
theorem lawPair : Keyed Try.prog 68 := Keyed.of_law (deep_law_laid Try.laid0 (m := 3) (by omega) Try.rowPair (by kernel_rfl) Try.widePair)
abbrev pairV (i j : Int) : Value := .agg #[.int .i64 i, .int .i64 j]
theorem zeroI (w : World) : (zeroValue 3).run Try.prog w = .ok (.int .i64 0) w := by kernel_rfl
theorem keyTypePair : Try.prog.keyType 68 = true := by kernel_rfl
theorem sizeP : ∃ d, Try.prog.types.size + 1 = d + 2 := ⟨Try.prog.types.size - 1, by have h : (68 : Nat) < Try.prog.types.size := Try.rowPair; omega⟩
theorem cellsI : Try.prog.cellsOf 3 = 1 := by kernel_rfl
theorem cellsPair : Try.prog.cellsOf 68 = 2 := by kernel_rfl
theorem i64_wfI {n : Int} (h : I64 n) : (Lit.int .i64 n).wf = true := by
  have h1 : IntKind.i64.min = -9223372036854775808 := rfl
  have h2 : IntKind.i64.max = 9223372036854775807 := rfl
  unfold I64 at h
  simp only [Lit.wf, Bool.and_eq_true, decide_eq_true_eq]
  omega
theorem formedPair (i j : Int) : (pairV i j).formed Try.prog 68 = true := by simp [Value.formed, Try.underlying68, cellsPair]
theorem key_pair {i j : Int} (hi : I64 i) (hj : I64 j) : keyOf Try.prog 68 (pairV i j) = some (.string (keyBytes [.int .i64 i, .int .i64 j])) := by
  obtain ⟨d, hd⟩ := sizeP
  unfold keyOf
  rw [hd, keyTypePair, formedPair]
  simp [Try.underlying68, Program.keyLits, Value.cells, cellsPair, Try.underlying3, cellsI, i64_wfI hi, i64_wfI hj]

/-- The key of a pair. -/
abbrev keyL (i j : Int) : Lit := .string (keyBytes [.int .i64 i, .int .i64 j])
theorem keyL_inj {i j i' j' : Int} (hi : I64 i) (hj : I64 j) (hi' : I64 i') (hj' : I64 j') (h : keyL i j = keyL i' j') : i = i' ∧ j = j' := by
  have h1 := key_pair hi hj
  have h2 := key_pair hi' hj'
  rw [show (Lit.string (keyBytes [.int .i64 i, .int .i64 j])) = keyL i' j' from h] at h1
  have := lawPair.inj h1 h2
  simp at this
  exact this
theorem keyL_is (i j : Int) : WideAt.IsKeyLit (keyL i j) := trivial
def putD (d : Dist) (i j y : Int) : Dist := fun p q => if p = i ∧ q = j then some y else d p q
theorem raise_put {d : Dist} {i j y : Int} (h : d i j = none ∨ ∃ k, d i j = some k ∧ k < y) : raiseD d i j y = putD d i j y := by
  funext p q
  unfold raiseD putD
  split
  · rcases h with h | ⟨k, h, h2⟩ <;> rw [h] <;> simp [comb, *]
  · rfl
theorem raise_stay {d : Dist} {i j y k : Int} (h : d i j = some k) (h2 : ¬ k < y) : raiseD d i j y = d := by
  funext p q
  unfold raiseD
  split
  · rename_i e
    obtain ⟨rfl, rfl⟩ := e
    rw [h]; simp [comb, h2]
  · rfl
/-- What the map tells of a pair. -/
def Tells (D : DataW Unit) (x : Option Int) (kl : Lit) : Prop := Maps.has D kl = x.isSome ∧ ∀ c, x = some c → D.atKey kl (.lit (.int .i64 0)) = .lit (.int .i64 c)
/-- Block g is a map of distances, of at most n pairs. -/
def OwnsD (w : World) (g n : Nat) (d : Dist) : Prop := ∃ D : DataW Unit, w.ownsMap Try.prog 68 (plainElem Try.prog 3) g n D ∧ ∀ i j, I64 i → I64 j → Tells D (d i j) (keyL i j)
namespace OwnsD
variable {w w' : World} {g n : Nat} {d : Dist}
theorem made (w : World) : OwnsD (w.alloc (.map #[] 0)) w.heap.size 0 (fun _ _ => none) :=
  ⟨.map [], World.ownsMap_made w _ _ _, fun _ _ _ _ => ⟨rfl, fun _ h => by cases h⟩⟩
theorem mono (h : OwnsD w g n d) {n' : Nat} (hn : n ≤ n') : OwnsD w g n' d := by
  obtain ⟨D, h1, h2⟩ := h
  exact ⟨D, h1.mono hn, h2⟩
theorem lt (h : OwnsD w g n d) : g < w.heap.size := by
  obtain ⟨D, h1, h2⟩ := h
  exact h1.lt
theorem kept (h : OwnsD w g n d) {row : Option Nat} (hg : w.grownBy w' row) (hne : some g ≠ row) : OwnsD w' g n d := by
  obtain ⟨D, h1, h2⟩ := h
  exact ⟨D, h1.kept hg hne, h2⟩
theorem alloc (h : OwnsD w g n d) (o : Obj) : OwnsD (w.alloc o) g n d := h.kept (World.grownBy_alloc w o none) (by simp)
theorem drew (h : OwnsD w g n d) : OwnsD w.drew g n d := h
theorem drewN (h : OwnsD w g n d) (k : Nat) : OwnsD (w.drewN k) g n d := h
theorem setCell (h : OwnsD w g n d) {a : Addr} (ha : g ≠ a.block) (u : Value) : OwnsD (w.setCell a u) g n d := by
  obtain ⟨D, h1, h2⟩ := h
  exact ⟨D, h1.setCell ha u, h2⟩
theorem below (h : OwnsD w g n d) (hb : Below w.heap.size w w') : OwnsD w' g n d := by
  have hlt := h.lt
  obtain ⟨D, ⟨es, clock, h1, h3⟩, h2⟩ := h
  exact ⟨D, ⟨es, clock, (hb.block g hlt).trans h1, h3⟩, h2⟩
end OwnsD

section
variable {w : World} {ops : Array Oper} {rest : List Oper} {o : Oper} {a : Act} {Q : Exit → Act → World → Prop} {g n : Nat} {d : Dist}
/-- v, ok := m[pair], where it stands. -/
theorem wpList_look_some (hg : o.guard = none) (m x : Operand) (t : TypeId) (hop : o.op = Op.lookup t m x true) (ht : Try.prog.underlying t = some (.map 68 3)) (hm : a.eval m = .map (some g)) (hown : OwnsD w g n d) (i j c : Int) (hx : a.eval x = pairV i j) (hi : I64 i) (hj : I64 j) (hd : d i j = some c)
    (hK : wpList Try.prog ops Q rest (a.put o.dst (.tuple #[.int .i64 c, .bool true])) w) : wpList Try.prog ops Q (o :: rest) a w := by
  obtain ⟨D, h1, h2⟩ := hown
  obtain ⟨h3, h4⟩ := h2 i j hi hj
  refine wpList_lookup_own_ok_int w hg m x t hop _ _ .i64 lawPair ht Try.underlying3 (zeroI w) g n D hm h1 _ _ hx (key_pair hi hj) ?_
  intro c' hat _
  rw [h4 c hd] at hat
  rw [hd] at h3
  have e : c' = c := by simpa using hat.symm
  rw [show Maps.has D (Lit.string (keyBytes [.int .i64 i, .int .i64 j])) = true from h3, e]
  exact hK
theorem wpList_look_none (hg : o.guard = none) (m x : Operand) (t : TypeId) (hop : o.op = Op.lookup t m x true) (ht : Try.prog.underlying t = some (.map 68 3)) (hm : a.eval m = .map (some g)) (hown : OwnsD w g n d) (i j : Int) (hx : a.eval x = pairV i j) (hi : I64 i) (hj : I64 j) (hd : d i j = none)
    (hK : wpList Try.prog ops Q rest (a.put o.dst (.tuple #[.int .i64 0, .bool false])) w) : wpList Try.prog ops Q (o :: rest) a w := by
  obtain ⟨D, h1, h2⟩ := hown
  obtain ⟨h3, h4⟩ := h2 i j hi hj
  refine wpList_lookup_own_ok_int w hg m x t hop _ _ .i64 lawPair ht Try.underlying3 (zeroI w) g n D hm h1 _ _ hx (key_pair hi hj) ?_
  intro c' hat _
  rw [hd] at h3
  have h5 : Maps.has D (Lit.string (keyBytes [.int .i64 i, .int .i64 j])) = false := h3
  rw [Maps.atKey_of_not_has h5] at hat
  have e : c' = 0 := by simpa using hat.symm
  rw [h5, e]
  exact hK
/-- m[pair]. -/
theorem wpList_look_plain (hg : o.guard = none) (m x : Operand) (t : TypeId) (hop : o.op = Op.lookup t m x false) (ht : Try.prog.underlying t = some (.map 68 3)) (hm : a.eval m = .map (some g)) (hown : OwnsD w g n d) (i j c : Int) (hx : a.eval x = pairV i j) (hi : I64 i) (hj : I64 j) (hd : (d i j).getD 0 = c)
    (hK : wpList Try.prog ops Q rest (a.put o.dst (.int .i64 c)) w) : wpList Try.prog ops Q (o :: rest) a w := by
  obtain ⟨D, h1, h2⟩ := hown
  obtain ⟨h3, h4⟩ := h2 i j hi hj
  refine wpList_lookup_own_int w hg m x t hop _ _ .i64 lawPair ht Try.underlying3 (zeroI w) g n D hm h1 _ _ hx (key_pair hi hj) ?_
  intro c' hat _
  have e : c' = c := by
    cases hv : d i j with
    | none =>
      rw [hv] at h3 hd
      have h5 : Maps.has D (Lit.string (keyBytes [.int .i64 i, .int .i64 j])) = false := h3
      rw [Maps.atKey_of_not_has h5] at hat
      have : c' = 0 := by simpa using hat.symm
      rw [this, ← hd]; rfl
    | some y =>
      rw [h4 y hv] at hat
      rw [hv] at hd
      have : y = c' := by simpa using hat
      rw [← this, ← hd]; rfl
  rw [e]
  exact hK
/-- m[pair] = y. -/
theorem wpList_storeD (hg : o.guard = none) (m x v : Operand) (t : TypeId) (hop : o.op = Op.mapUpdate t m x v) (ht : Try.prog.underlying t = some (.map 68 3)) (hm : a.eval m = .map (some g)) (hown : OwnsD w g n d) (hn : n < 1000000000) (i j y : Int) (hx : a.eval x = pairV i j) (hv : a.eval v = .int .i64 y) (hi : I64 i) (hj : I64 j) (hy : I64 y)
    (hK : ∀ w', OwnsD w' g (n + 1) (putD d i j y) → w.grownBy w' (some g) → wpList Try.prog ops Q rest (a.put o.dst undef) w') : wpList Try.prog ops Q (o :: rest) a w := by
  obtain ⟨D, h1, h2⟩ := hown
  refine wpList_mapUpdate_own w hg m x v t hop _ _ lawPair ht _ g n D hm h1 (by unfold maxLen; omega) _ _ _ hx hv (key_pair hi hj) _ [] (plainElem_int Try.underlying3 (i64_wfI hy)) ?_
  intro w' h3 h4
  refine hK w' ⟨_, h3, fun p q hp hq => ?_⟩ h4
  show Tells _ (if p = i ∧ q = j then some y else d p q) _
  by_cases e : p = i ∧ q = j
  · obtain ⟨rfl, rfl⟩ := e
    rw [if_pos ⟨rfl, rfl⟩]
    refine ⟨Maps.has_put_same h1.isMap (keyL_is _ _) _, fun c hc => ?_⟩
    cases hc
    exact Maps.atKey_put_same h1.isMap (keyL_is _ _) _ _
  · rw [if_neg e]
    have hne : keyL p q ≠ keyL i j := fun h => e (keyL_inj hp hq hi hj h)
    obtain ⟨h5, h6⟩ := h2 p q hp hq
    refine ⟨?_, fun c hc => ?_⟩
    · rw [Maps.has_put_other hne]; exact h5
    · rw [Maps.atKey_put_other hne]; exact h6 c hc
end
end Go.Proofs.Ytdpannjnhhjicaa
