/- Slices that hold cells, own rows, nodes: small facts about memory. -/
import Derived.Test.YtkkkblghihheeaaDoorTWalkP
import Derived.Test.YtkkkblghihheeaaDoorRows
import Derived.WalkKit
import Derived.Deep.OwnRows
import Derived.Deep.LoopGhost
import Derived.Deep.Draws
import Derived.Lib.Hide
import Derived.WalkSpells
import Derived.WalkLawsBesides
import Derived.Laws.CopyOwn
import Derived.Deep.QuietTactic
import Derived.BigQuiet
import Derived.Laws.OwnMore
import Derived.Laws.AppendOwnNone
import Derived.Deep.DeepMust
import Derived.Deep.RegionWith
namespace Go.Proofs.YtkkkblghihheeaaDoor
open Go.RowKit


theorem add_off (b o j : Nat) : (⟨b, o, none⟩ : Addr).add j = ⟨b, o + j, none⟩ := by unfold Addr.add; split <;> simp_all
theorem below_drewN {B : Nat} {a w : World} (h : Below B a w) (n : Nat) : Below B a (w.drewN n) := ⟨h.os, h.tape, h.output, h.size, h.block⟩
theorem below_step {w w1 w2 : World} (h : Below w.heap.size w w1) (k : Below w1.heap.size w1 w2) : Below w.heap.size w w2 := h.trans (k.mono h.size)
theorem below_alloc {w w1 : World} (h : Below w.heap.size w w1) (o : Obj) : Below w.heap.size w (w1.alloc o) := h.alloc h.size o
theorem ret_bool {a b : Bool} (h : a = b) : Ending.returned (.bool a) = .returned (.bool b) := by rw [h]
theorem ret_slice {A : Option Addr} {n m c : Nat} (h : n = m) : Ending.returned (.slice A n c) = .returned (.slice A m c) := by rw [h]

/-- The memory at A holds these cells. -/
def Holds (w : World) (A : Option Addr) (vs : List Value) : Prop := 0 < vs.length → ∃ b o, A = some ⟨b, o, none⟩ ∧ ∀ j u, vs[j]? = some u → w.cell? ⟨b, o + j, none⟩ = some u
namespace Holds
variable {w w' : World} {A : Option Addr} {vs : List Value}
theorem nil (w : World) (A : Option Addr) : Holds w A [] := fun h => absurd h (by simp)
theorem at_ (h : Holds w A vs) (hn : 0 < vs.length) : ∃ b o, A = some ⟨b, o, none⟩ ∧ b < w.heap.size ∧ ∀ j u, vs[j]? = some u → w.cell? ⟨b, o + j, none⟩ = some u := by
  obtain ⟨b, o, e, hc⟩ := h hn
  exact ⟨b, o, e, World.block_lt_of_cell? _ _ (hc 0 vs[0] (List.getElem?_eq_getElem hn)), hc⟩
theorem keep (h : Holds w A vs) (hk : ∀ p : Addr, p.block < w.heap.size → w'.cell? p = w.cell? p) : Holds w' A vs := fun hn => by
  obtain ⟨b, o, e, hb, hc⟩ := h.at_ hn
  exact ⟨b, o, e, fun j u hu => (hk _ hb).trans (hc j u hu)⟩
theorem below (h : Holds w A vs) (hb : Below w.heap.size w w') : Holds w' A vs := h.keep fun _ hp => hb.cell hp
theorem drew (h : Holds w A vs) : Holds w.drew A vs := h
theorem drewN (h : Holds w A vs) (k : Nat) : Holds (w.drewN k) A vs := h
theorem alloc (h : Holds w A vs) (o : Obj) : Holds (w.alloc o) A vs := h.keep fun p hp => World.cell?_alloc_lt w o p (by omega)
/-- As the source of an append. -/
theorem news {a : Addr} (h : Holds w A vs) (e : A = some a) : ∀ j u, vs[j]? = some u → w.cell? (a.add j) = some u := by
  intro j u hu
  have hj : 0 < vs.length := by
    rcases Nat.eq_zero_or_pos vs.length with h0 | h0
    · rw [List.eq_nil_of_length_eq_zero h0] at hu; simp at hu
    · exact h0
  obtain ⟨b, o, e', hc⟩ := h hj
  rw [e] at e'
  cases e'
  rw [add_off, hc j u hu]
end Holds
theorem holds_lit (w : World) (cs : List Value) (t : TypeId) : Holds (w.alloc (.cells cs.toArray t)) (some ⟨w.heap.size, 0, none⟩) cs := fun _ => ⟨_, 0, rfl, fun j u hu => by
  rw [World.cell?_alloc_at _ _ _ _ rfl]
  simpa using hu⟩
theorem holds_at (w : World) (cs : Array Value) (t : TypeId) (vs : List Value) (h : cs.toList = vs) : Holds (w.alloc (.cells cs t)) (some ⟨w.heap.size, 0, none⟩) vs := by
  subst h
  exact holds_lit w cs.toList t
theorem Holds.cell {w : World} {b o : Nat} {vs : List Value} (h : Holds w (some ⟨b, o, none⟩) vs) {j : Nat} {u : Value} (hu : vs[j]? = some u) : w.cell? ⟨b, o + j, none⟩ = some u := by
  obtain ⟨b', o', e, hc⟩ := h (by have := (List.getElem?_eq_some_iff.1 hu).1; omega)
  cases e
  exact hc j u hu
/-- A slice that comes in or was answered: nil has no cells. -/
def Slice (A : Option Addr) (n c : Nat) : Prop := n ≤ c ∧ c ≤ 9223372036854775807 ∧ (A = none → n = 0 ∧ c = 0)
theorem own_slice {w : World} {B e sz n : Nat} {v : Value} {xs : List Value} (h : w.ownsRow B e sz v n xs) : ∃ A c, v = .slice A n c ∧ Slice A n c ∧ ∀ g o, A = some ⟨g, o, none⟩ → B ≤ g ∧ g < w.heap.size ∧ o = 0 := by
  rcases h.2 with ⟨rfl, rfl⟩ | ⟨g, cap, cur, rfl, hB, hg, h1, h2, _⟩
  · exact ⟨none, 0, rfl, ⟨Nat.le_refl _, by omega, fun _ => ⟨rfl, rfl⟩⟩, fun _ _ h => by cases h⟩
  · refine ⟨_, _, rfl, ⟨h1, h2, fun h => by cases h⟩, fun g' o' h => ?_⟩
    cases h
    refine ⟨hB, ?_, rfl⟩
    rcases Nat.lt_or_ge g w.heap.size with h3 | h3
    · exact h3
    · rw [Array.getElem?_eq_none h3] at hg; cases hg
theorem own_holds {w : World} {B e sz n c : Nat} {A : Option Addr} {xs : List Value} (h : w.ownsRow B e sz (.slice A n c) n xs) : Holds w A xs := by
  have hl := h.1
  rcases h.2 with ⟨e, h0⟩ | ⟨g, cap, cur, e, _, hb, hn, hc, hs, ht⟩
  · intro h1
    rw [hl, h0, Nat.zero_mul] at h1
    exact absurd h1 (by omega)
  · cases e
    refine fun _ => ⟨g, 0, rfl, fun j u hu => ?_⟩
    rw [← ht, List.getElem?_take] at hu
    split at hu
    · rw [Array.getElem?_toList] at hu
      rw [Nat.zero_add]
      simp [World.cell?, hb, hu]
    · cases hu
theorem own_base {w : World} {B B' sz n : Nat} {e : TypeId} {v : Value} {xs : List Value} (h : w.ownsRow B e sz v n xs) (hB : B' ≤ B) : w.ownsRow B' e sz v n xs :=
  ⟨h.1, h.2.imp id fun ⟨g, cap, cur, e, hg, h⟩ => ⟨g, cap, cur, e, by omega, h⟩⟩
theorem own_below {w w' : World} {B sz n : Nat} {e : TypeId} {v : Value} {xs : List Value} (h : w.ownsRow B e sz v n xs) (hb : Below w.heap.size w w') : w'.ownsRow B e sz v n xs := by
  refine ⟨h.1, h.2.imp id fun ⟨g, cap, cur, ev, hg, hh, h⟩ => ⟨g, cap, cur, ev, hg, ?_, h⟩⟩
  rw [hb.block g ?_]
  · exact hh
  · rcases Nat.lt_or_ge g w.heap.size with h3 | h3
    · exact h3
    · rw [Array.getElem?_eq_none h3] at hh; cases hh


theorem infoInt : (Tryd.prog.info? 3).map (fun i => (i.zero, i.size, i.bytes)) = some (some (.int .i64 0), 1, 8) := by kernel_rfl
theorem infoNode : (Tryd.prog.info? 53).map (fun i => (i.zero, i.size, i.bytes)) = some (some (.agg #[.int .i64 0, .int .i64 0, .int .i64 0]), 3, 24) := by kernel_rfl
/-- A whole number of 64 bits. -/
def I64 (x : Int) : Prop := -9223372036854775808 ≤ x ∧ x ≤ 9223372036854775807
/-- Numbers as cells. -/
def intsV (l : List Int) : List Value := l.map fun (x : Int) => Value.int .i64 x
theorem intsV_len (l : List Int) : (intsV l).length = l.length := List.length_map ..
theorem intsV_get {l : List Int} {j : Nat} (h : j < l.length) : (intsV l)[j]? = some (.int .i64 l[j]) := by
  unfold intsV
  rw [List.getElem?_map, List.getElem?_eq_getElem h]; rfl
def WideI (l : List Int) : Prop := ∀ x ∈ l, I64 x
/-- A node's three cells. -/
def nodeV (x : Node3) : List Value := [.int .i64 x.1, .int .i64 x.2.1, .int .i64 x.2.2]
def nodesV (t : List Node3) : List Value := t.flatMap nodeV
theorem nodesV_cons (x : Node3) (t : List Node3) : nodesV (x :: t) = nodeV x ++ nodesV t := by unfold nodesV; rw [List.flatMap_cons]
theorem nodesV_snoc (t : List Node3) (x : Node3) : nodesV (t ++ [x]) = nodesV t ++ nodeV x := by unfold nodesV; rw [List.flatMap_append]; simp
theorem nodesV_len (t : List Node3) : (nodesV t).length = t.length * 3 := by
  induction t with
  | nil => rfl
  | cons x t ih => rw [nodesV_cons, List.length_append, ih, List.length_cons]; simp [nodeV]; omega
theorem nodesV_get {t : List Node3} {j f : Nat} (h : j < t.length) (hf : f < 3) : (nodesV t)[j * 3 + f]? = (nodeV t[j])[f]? := by
  induction t generalizing j with
  | nil => simp at h
  | cons x t ih =>
    rw [nodesV_cons]
    cases j with
    | zero => rw [List.getElem?_append_left (by simp [nodeV]; omega)]; simp
    | succ j =>
      rw [List.getElem?_append_right (by simp [nodeV]; omega), show (j + 1) * 3 + f - (nodeV x).length = j * 3 + f by simp [nodeV]; omega, ih (by simpa using h)]
      rfl
theorem nodesV_get0 {t : List Node3} {j : Nat} (h : j < t.length) : (nodesV t)[j * 3]? = some (.int .i64 t[j].1) := nodesV_get (f := 0) h (by decide)
theorem nodesV_get1 {t : List Node3} {j : Nat} (h : j < t.length) : (nodesV t)[j * 3 + 1]? = some (.int .i64 t[j].2.1) := nodesV_get (f := 1) h (by decide)
theorem nodesV_get2 {t : List Node3} {j : Nat} (h : j < t.length) : (nodesV t)[j * 3 + 2]? = some (.int .i64 t[j].2.2) := nodesV_get (f := 2) h (by decide)
theorem intsV_one {l : List Int} : ∀ u ∈ intsV l, u.oneCell' = true := by
  intro u hu
  obtain ⟨j, _, rfl⟩ := List.mem_map.1 hu
  rfl
theorem nodesV_one {t : List Node3} : ∀ u ∈ nodesV t, u.oneCell' = true := by
  intro u hu
  obtain ⟨x, _, hx⟩ := List.mem_flatMap.1 hu
  simp only [nodeV, List.mem_cons, List.not_mem_nil, or_false] at hx
  rcases hx with rfl | rfl | rfl <;> rfl

/-- append(s, x...) of cells, onto an own row: nil or not. -/
theorem wpList_append_cells {w : World} {ops : Array Oper} {rest : List Oper} {o : Oper} {a : Act} {Q : Exit → Act → World → Prop} (hgd : o.guard = none) (s x : Operand) (t : TypeId)
    (ho : o.op = .call { callee := .builtin .append, args := #[s, x], argTypes := #[t, t] }) (E : TypeId) (z : Value) (sz by_ : Nat) (hinfo : (Tryd.prog.info? E).map (fun i => (i.zero, i.size, i.bytes)) = some (some z, sz, by_))
    (hzs : z.cells.size = sz) (hsz : 0 < sz) (ht : Tryd.prog.underlying t = some (.slice E))
    (base : Nat) (v : Value) (n m : Nat) (xs ys : List Value) (hs : a.eval s = v) (hown : w.ownsRow base E sz v n xs) (A : Option Addr) (c : Nat) (hx : a.eval x = .slice A m c)
    (hsl : Slice A m c) (hh : Holds w A ys) (hy : ys.length = m * sz) (hone : ∀ u ∈ ys, u.oneCell' = true) (hbig : n + m ≤ 1000000000) (hby : by_ ≤ 100000) (w0 : World) (hb : Below base w0 w) (hbase : base ≤ w.heap.size)
    (h : ∀ A' c' w', w'.ownsRow base E sz (.slice A' (n + m) c') (n + m) (xs ++ ys) → Slice A' (n + m) c' → Below base w0 w' → base ≤ w'.heap.size → w.grownBy w' v.ownBlock →
      wpList Tryd.prog ops Q rest (a.put o.dst (.slice A' (n + m) c')) w') : wpList Tryd.prog ops Q (o :: rest) a w := by
  obtain ⟨i0, hi, hz0, hz1, hz2⟩ := info_parts hinfo
  have hmul : (n + m) * by_ ≤ 140737488355328 := Nat.le_trans (Nat.mul_le_mul hbig hby) (by decide)
  cases A with
  | none =>
    obtain ⟨rfl, rfl⟩ := hsl.2.2 rfl
    have hr : ys = [] := List.eq_nil_of_length_eq_zero (by rw [hy, Nat.zero_mul])
    subst hr
    obtain ⟨A', c', e, hs', _⟩ := own_slice hown
    subst e
    refine wpList_append_own_none hgd s x t ho base E i0 sz ht hi _ n _ hs hown hx ?_
    rw [List.append_nil] at h
    exact h A' c' w hown hs' hb hbase (World.grownBy.refl w _)
  | some ad =>
    refine wpList_append_own w hgd s x t ho base E i0 z sz by_ ht hi hz0 hz1 hz2 hzs hsz v n _ hs hown ad m c ys hx hy (hh.news rfl) hone (by unfold maxLen; omega) hmul hbase ?_
    intro v' w' hown' hg' _
    obtain ⟨A', c', e, hs', _⟩ := own_slice hown'
    subst e
    exact h A' c' w' hown' hs' (hb.grown hg' hbase (fun k hk => (hown.lt k hk).1)) (Nat.le_trans hbase hg'.size) hg'
/-- A block that is known whole. -/
def Whole (w : World) (g : Nat) (cs : Array Value) (t : TypeId) : Prop := w.heap[g]? = some (.cells cs t (0, 0))
namespace Whole
variable {g : Nat} {w w' : World} {cs : Array Value} {t : TypeId}
theorem lt (h : Whole w g cs t) : g < w.heap.size := by
  rcases Nat.lt_or_ge g w.heap.size with h1 | h1
  · exact h1
  · unfold Whole at h; rw [Array.getElem?_eq_none h1] at h; cases h
theorem cell (h : Whole w g cs t) (i : Nat) : w.cell? ⟨g, i, none⟩ = cs[i]? := by
  unfold Whole at h
  simp [World.cell?, h]
theorem frozen (h : Whole w g cs t) (i : Nat) : w.frozen? ⟨g, i, none⟩ = false := by
  unfold Whole at h
  simp [World.frozen?, h]
theorem set_ (h : Whole w g cs t) (i : Nat) (u : Value) : Whole (w.setCell ⟨g, i, none⟩ u) g (cs.setIfInBounds i u) t := by
  unfold Whole at h ⊢
  simp [World.setCell, Array.getElem?_modify, h]
theorem keep (h : Whole w g cs t) (e : w'.heap[g]? = w.heap[g]?) : Whole w' g cs t := e.trans h
theorem below {B : Nat} (h : Whole w g cs t) (hb : Below B w w') (hg : g < B) : Whole w' g cs t := h.keep (hb.block g hg)
theorem new (w : World) (cs : Array Value) (t : TypeId) : Whole (w.alloc (.cells cs t)) w.heap.size cs t := heap_alloc_new w _
end Whole


/-- Only blocks of F may have changed, and new ones. -/
structure Only (F : Nat → Prop) (w w' : World) : Prop where
  os : w'.os = w.os
  tape : w'.tape = w.tape
  output : w'.output = w.output
  size : w.heap.size ≤ w'.heap.size
  block : ∀ k, k < w.heap.size → ¬ F k → w'.heap[k]? = w.heap[k]?
namespace Only
variable {F : Nat → Prop} {w w' w2 : World}
theorem refl (F : Nat → Prop) (w : World) : Only F w w := ⟨rfl, rfl, rfl, Nat.le_refl _, fun _ _ _ => rfl⟩
theorem of_below (h : Below w.heap.size w w') : Only F w w' := ⟨h.os, h.tape, h.output, h.size, fun k hk _ => h.block k hk⟩
theorem trans {F2 : Nat → Prop} (h : Only F w w') (h2 : Only F2 w' w2) (hF : ∀ k, k < w.heap.size → F2 k → F k) : Only F w w2 :=
  ⟨h2.os.trans h.os, h2.tape.trans h.tape, h2.output.trans h.output, Nat.le_trans h.size h2.size, fun k hk hn => (h2.block k (Nat.lt_of_lt_of_le hk h.size) fun hf => hn (hF k hk hf)).trans (h.block k hk hn)⟩
theorem below {B : Nat} (h : Only F w w') (hB : B ≤ w.heap.size) (hF : ∀ k, k < B → ¬ F k) : Below B w w' := ⟨h.os, h.tape, h.output, h.size, fun k hk => h.block k (by omega) (hF k hk)⟩
theorem cell (h : Only F w w') {p : Addr} (hp : p.block < w.heap.size) (hn : ¬ F p.block) : w'.cell? p = w.cell? p := World.cell?_of_block (h.block p.block hp hn)
theorem mono {F2 : Nat → Prop} (h : Only F w w') (hF : ∀ k, F k → F2 k) : Only F2 w w' := ⟨h.os, h.tape, h.output, h.size, fun k hk hn => h.block k hk fun hf => hn (hF k hf)⟩
theorem set_ (h : Only F w w') {g : Nat} (hg : F g ∨ w.heap.size ≤ g) (i : Nat) (u : Value) : Only F w (w'.setCell ⟨g, i, none⟩ u) :=
  ⟨h.os, h.tape, h.output, by simpa [World.setCell] using h.size, fun k hk hn => by
    have hne : k ≠ g := fun e => by
      subst e
      rcases hg with hg | hg
      · exact hn hg
      · exact absurd hk (by omega)
    rw [Below.heap_setCell _ _ _ _ hne]
    exact h.block k hk hn⟩
theorem alloc (h : Only F w w') (o : Obj) : Only F w (w'.alloc o) :=
  ⟨h.os, h.tape, h.output, Nat.le_trans h.size (by simp), fun k hk hn => by rw [Below.heap_alloc _ _ _ (Nat.lt_of_lt_of_le hk h.size)]; exact h.block k hk hn⟩
theorem drew (h : Only F w w') : Only F w w'.drew := ⟨h.os, h.tape, h.output, h.size, h.block⟩
end Only
theorem Holds.only {F : Nat → Prop} {w w' : World} {A : Option Addr} {vs : List Value} (h : Holds w A vs) (ho : Only F w w') (hF : ∀ b o, A = some ⟨b, o, none⟩ → ¬ F b) : Holds w' A vs := fun hn => by
  obtain ⟨b, o, e, hb, hc⟩ := h.at_ hn
  exact ⟨b, o, e, fun j u hu => (ho.cell (p := ⟨b, o + j, none⟩) hb (hF b o e)).trans (hc j u hu)⟩
theorem Whole.only {F : Nat → Prop} {w w' : World} {g : Nat} {cs : Array Value} {t : TypeId} (h : Whole w g cs t) (ho : Only F w w') (hF : ¬ F g) : Whole w' g cs t := h.keep (ho.block g h.lt hF)

theorem infoPart : (Tryd.prog.info? 93).map (fun i => (i.zero, i.size, i.bytes)) = some (some (.agg #[.int .i64 0, .int .i64 0]), 2, 16) := by kernel_rfl
/-- The table of limits. -/
def limTable : List Node3 := [(0, 0, 0), (1048576, 0, 0), (1, 1, 4), (16, 0, 1000), (0, 0, 0), (0, 0, 0), (0, 0, 0), (0, 0, 0), (63, 0, 0), (63, 0, 0), (63, 0, 15), (63, 0, 16), (3, 1, 4), (15, 0, 0)]
/-- The variable limits holds its table. -/
def Lim (w : World) : Prop := Holds w (some ⟨0, 0, none⟩) (nodesV limTable)
theorem Lim.pos {w : World} (h : Lim w) : 0 < w.heap.size := by
  obtain ⟨b, o, e, hb, _⟩ := Holds.at_ h (by simp [nodesV_len, limTable])
  cases e; exact hb
theorem Lim.below {B : Nat} {w w' : World} (h : Lim w) (hb : Below B w w') (hB : 0 < B) : Lim w' := fun hn => by
  obtain ⟨b, o, e, hc⟩ := h hn
  cases e
  exact ⟨0, 0, rfl, fun j u hu => (hb.cell (p := ⟨0, 0 + j, none⟩) hB).trans (hc j u hu)⟩
theorem Lim.next {w w' : World} (h : Lim w) (hb : Below w.heap.size w w') : Lim w' := h.below hb h.pos
end Go.Proofs.YtkkkblghihheeaaDoor
