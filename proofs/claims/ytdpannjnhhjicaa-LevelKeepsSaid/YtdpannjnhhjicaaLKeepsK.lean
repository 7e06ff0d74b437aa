/- Atoms and orders appended one by one, slices cut short; a row that one may write to. -/
import Derived.Test.YtdpannjnhhjicaaLTightK
import Derived.Test.YtdpannjnhhjicaaLJoinsP
import Derived.Test.YtdpannjnhhjicaaLOrdersLaw
namespace Go.Proofs.Ytdpannjnhhjicaa
open Go.RowKit

theorem OwnA.alloc {w : World} {base : Nat} {v : Value} {l : List Atom2} (h : OwnA w base v l) (o : Obj) : OwnA (w.alloc o) base v l := World.ownsRow.alloc h o
theorem OwnA.empty (w : World) : OwnA (w.alloc (.cells #[] 57)) w.heap.size (.slice (some ⟨w.heap.size, 0, none⟩) 0 0) [] :=
  World.ownsRow_lit (base := w.heap.size) (e := 57) (size := 2) w #[] 0 (Nat.le_refl _) (by unfold maxLen; omega) rfl
/-- The first elements alone. -/
theorem Holds.pre {w : World} {A : Option Addr} {xs ys : List Value} (h : Holds w A (xs ++ ys)) : Holds w A xs := fun hn => by
  obtain ⟨b, o, e, hc⟩ := h (by simp; omega)
  refine ⟨b, o, e, fun j u hu => hc j u ?_⟩
  have hj := (List.getElem?_eq_some_iff.1 hu).1
  rw [List.getElem?_append_left hj]
  exact hu
theorem LevelAt.pre {w : World} {b o n c m : Nat} {l r : List Atom2} (h : LevelAt w (some ⟨b, o, none⟩) n c (l ++ r)) (hl : l.length = m) : LevelAt w (some ⟨b, o, none⟩) m c l := by
  obtain ⟨h1, h2, h3⟩ := h
  rw [List.length_append] at h1
  rw [atomsV_append] at h3
  exact ⟨hl, ⟨by have := h2.1; omega, h2.2.1, fun e => by cases e⟩, h3.pre⟩
theorem LevelAt.last {w : World} {b c m : Nat} {l : List Atom2} {z : Atom2} (h : LevelAt w (some ⟨b, 0, none⟩) (m + 1) c (l ++ [z])) : w.cell? ⟨b, m * 2, none⟩ = some (.int .i64 z.1) := by
  have hm : l.length = m := by have := h.1; simpa using this
  have h2 : (atomsV (l ++ [z]))[m * 2]? = some (.int .i64 ((l ++ [z])[m]'(by simp; omega)).1) := atomsV_get0 (by simp; omega)
  have h3 := h.2.2.cell h2
  rw [Nat.zero_add] at h3
  rw [h3]
  subst hm
  simp
theorem orders_last {w : World} {b m : Nat} {l : List Ord3} {z : Ord3} (hm : l.length = m) (h : Holds w (some ⟨b, 0, none⟩) (ordsV (l ++ [z]))) : w.cell? ⟨b, m * 3, none⟩ = some (.int .i64 z.1) := by
  have h2 : (ordsV (l ++ [z]))[m * 3]? = some (.int .i64 ((l ++ [z])[m]'(by simp; omega)).1) := ordsV_get0 (by simp; omega)
  have h3 := h.cell h2
  rw [Nat.zero_add] at h3
  rw [h3]
  subst hm
  simp
theorem orders_pre {w : World} {A : Option Addr} {l r : List Ord3} (h : Holds w A (ordsV (l ++ r))) : Holds w A (ordsV l) := by
  rw [ordsV_append] at h
  exact h.pre
theorem cut_run (t s : TypeId) (ht : Try.prog.underlying t = some (.slice (Try.prog.elem t))) (b k n c : Nat) (hk : k ≤ c) (w : World) (hz : (sizeOf (Try.prog.elem t)).run Try.prog w = .ok s w) :
    (Instr.slice t (.slice (some ⟨b, 0, none⟩) n c) none (some (.int .i64 k)) none).run Try.prog w = .ok (.slice (some ⟨b, 0, none⟩) k c) w := by
  rw [run_slice_h (P := Try.prog) (t := t) (len := n) (cap := c) (ht := ht) (kh := .i64) (h := (k : Int)) (h0 := by omega) (h2 := by omega), hz]
  simp [Result.andThen, sliced, add_off]
theorem cut_atoms (b k n c : Nat) (hk : k ≤ c) (w : World) : (Instr.slice 23 (.slice (some ⟨b, 0, none⟩) n c) none (some (.int .i64 k)) none).run Try.prog w = .ok (.slice (some ⟨b, 0, none⟩) k c) w :=
  cut_run _ 2 (by kernel_rfl) b k n c hk w (by kernel_rfl)
theorem cut_orders (b k n c : Nat) (hk : k ≤ c) (w : World) : (Instr.slice 37 (.slice (some ⟨b, 0, none⟩) n c) none (some (.int .i64 k)) none).run Try.prog w = .ok (.slice (some ⟨b, 0, none⟩) k c) w :=
  cut_run _ 3 (by kernel_rfl) b k n c hk w (by kernel_rfl)
/-- append(s, z) of one atom, laid in a new block. -/
theorem wpList_push_atom {w : World} {ops : Array Oper} {rest : List Oper} {o : Oper} {a : Act} {Q : Exit → Act → World → Prop} (hgd : o.guard = none) (s x : Operand) (t : TypeId)
    (ho : o.op = .call { callee := .builtin .append, args := #[s, x], argTypes := #[t, t] }) (ht : Try.prog.underlying t = some (.slice 57))
    (base : Nat) (v : Value) (l : List Atom2) (z : Atom2) (n : Nat) (hn : l.length = n) (hs : a.eval s = v) (hown : OwnA w base v l) (hx : a.eval x = .slice (some ⟨w.heap.size, 0, none⟩) 1 1) (hbig : n + 1 ≤ 1000000000)
    (w0 : World) (hb : Below base w0 w) (hbase : base ≤ w.heap.size)
    (h : ∀ g c w', LevelAt w' (some ⟨g, 0, none⟩) (n + 1) c (l ++ [z]) → base ≤ g → n + 1 ≤ c → c ≤ 9223372036854775807 → Below base w0 w' → base ≤ w'.heap.size →
      wpList Try.prog ops Q rest (a.put o.dst (.slice (some ⟨g, 0, none⟩) (n + 1) c)) w') : wpList Try.prog ops Q (o :: rest) a (w.alloc (.cells #[.int .i64 z.1, .int .i64 z.2] 57)) := by
  refine wpList_append_atoms hgd s x t ho ht base v l [z] hs (hown.alloc _) (some ⟨w.heap.size, 0, none⟩) 1 1 hx ⟨rfl, ⟨Nat.le_refl _, by omega, fun e => by cases e⟩, holds_at w _ _ _ rfl⟩ (by omega) w0 (hb.alloc hbase _) (Nat.le_trans hbase (by simp)) ?_
  intro v' w' hown' hb' hz' _ _
  have hl : (l ++ [z]).length = n + 1 := by simp [hn]
  have hform := hown'.form (by rw [hl]; omega)
  obtain ⟨g, c, rfl, hg, hg2⟩ := hform
  obtain ⟨A', c', e, hlev⟩ := hown'.level
  cases e
  rw [hl] at hlev ⊢
  exact h g c w' hlev hg hlev.2.1.1 hlev.2.1.2.1 hb' hz'
/-- append(s, x...) of orders onto an own row. -/
theorem wpList_append_orders {w : World} {ops : Array Oper} {rest : List Oper} {o : Oper} {a : Act} {Q : Exit → Act → World → Prop} (hgd : o.guard = none) (s x : Operand) (t : TypeId)
    (ho : o.op = .call { callee := .builtin .append, args := #[s, x], argTypes := #[t, t] }) (ht : Try.prog.underlying t = some (.slice 53))
    (base : Nat) (v : Value) (l r : List Ord3) (hs : a.eval s = v) (hown : OwnO w base v l) (A : Option Addr) (m c : Nat) (hx : a.eval x = .slice A m c)
    (hl : r.length = m) (hsl : Slice A m c) (hh : Holds w A (ordsV r)) (N : Nat) (hN : l.length + m = N) (hbig : N ≤ 1000000000) (w0 : World) (hb : Below base w0 w) (hbase : base ≤ w.heap.size)
    (h : ∀ A' c' w', OwnO w' base (.slice A' N c') (l ++ r) → Slice A' N c' → Below base w0 w' → base ≤ w'.heap.size → wpList Try.prog ops Q rest (a.put o.dst (.slice A' N c')) w') : wpList Try.prog ops Q (o :: rest) a w := by
  refine wpList_plain hgd fun K hK => wp_append_orders s x t ho ht base v l r hs hown A m c hx hl hsl hh N hN hbig hbase ?_
  intro A' c' w' h1 h2 hg
  exact hK _ _ (h A' c' w' h1 h2 (hb.grown hg hbase (fun k hk => (hown.lt k hk).1)) (Nat.le_trans hbase hg.size))
/-- append(s, z) of one order, laid in a new block. -/
theorem wpList_push_order {w : World} {ops : Array Oper} {rest : List Oper} {o : Oper} {a : Act} {Q : Exit → Act → World → Prop} (hgd : o.guard = none) (s x : Operand) (t : TypeId)
    (ho : o.op = .call { callee := .builtin .append, args := #[s, x], argTypes := #[t, t] }) (ht : Try.prog.underlying t = some (.slice 53))
    (base : Nat) (v : Value) (l : List Ord3) (z : Ord3) (n : Nat) (hn : l.length = n) (hs : a.eval s = v) (hown : OwnO w base v l) (hx : a.eval x = .slice (some ⟨w.heap.size, 0, none⟩) 1 1) (hbig : n + 1 ≤ 1000000000)
    (w0 : World) (hb : Below base w0 w) (hbase : base ≤ w.heap.size)
    (h : ∀ g c w', Holds w' (some ⟨g, 0, none⟩) (ordsV (l ++ [z])) → base ≤ g → n + 1 ≤ c → c ≤ 9223372036854775807 → Below base w0 w' → base ≤ w'.heap.size →
      wpList Try.prog ops Q rest (a.put o.dst (.slice (some ⟨g, 0, none⟩) (n + 1) c)) w') : wpList Try.prog ops Q (o :: rest) a (w.alloc (.cells #[.int .i64 z.1, .int .i64 z.2.1, .int .i64 z.2.2] 53)) := by
  refine wpList_append_orders hgd s x t ho ht base v l [z] hs (hown.alloc _) (some ⟨w.heap.size, 0, none⟩) 1 1 hx rfl ⟨Nat.le_refl _, by omega, fun e => by cases e⟩ (holds_at w _ _ _ rfl) (n + 1) (by rw [hn]) (by omega) w0 (hb.alloc hbase _) (Nat.le_trans hbase (by simp)) ?_
  intro A' c' w' h1 h2 hb' hz'
  have hl : (l ++ [z]).length = n + 1 := by simp [hn]
  have h1' : w'.ownsRow base 53 3 (.slice A' (n + 1) c') (n + 1) (ordsV (l ++ [z])) := by rw [← hl] at h1 ⊢; exact h1
  obtain ⟨g, c, e, hg, hg2⟩ := h1'.form (by omega)
  cases e
  exact h g c' w' (own_holds h1') hg h2.1 h2.2.1 hb' hz'
/-- What Least answers: an own row of numbers. -/
def IntsOwn (l : List Int) (x : Int) (w : World) (e : Ending) (w' : World) : Prop := ∃ A n c, e = .returned (.tuple #[.slice A n c, .int .i64 x]) ∧ n ≤ 1000 ∧ w'.ownsRow w.heap.size 3 1 (.slice A n c) n (intsV l) ∧ Below w.heap.size w w'
theorem leastPost_own {v : Int} {E : List Ord3} {w : World} {e : Ending} {w' : World} (h : LeastPost v E w e w') : IntsOwn (leastRes v E) (errS v E) w e w' := by
  have hlen := leastRes_len v E
  rcases h with ⟨_, h1, h2, h3⟩ | ⟨_, n, d, g, rfl, h1, h2, h3, h4, h5⟩
  · exact ⟨none, 0, 0, rfl, by omega, by unfold leastRes; rw [h2]; exact ⟨by simp [intsV], .inl ⟨rfl, rfl⟩⟩, h3⟩
  · have e : leastRes n E = leastD n d := by simp [leastRes, h2]
    rw [e, leastD_length] at hlen
    exact ⟨_, n, n, by rw [h1], by omega, by rw [e]; exact h4, h5⟩
/-- One may write to a row: it stays one's own. -/
def RowAt (w : World) (base : Nat) (e : TypeId) (sz : Nat) (A : Option Addr) (n c : Nat) : Prop := ∃ xs, w.ownsRow base e sz (.slice A n c) n xs
theorem RowAt.below {w w' : World} {base sz n c : Nat} {e : TypeId} {A : Option Addr} (h : RowAt w base e sz A n c) (hb : Below w.heap.size w w') : RowAt w' base e sz A n c := h.imp fun _ h => own_below h hb
theorem RowAt.block {w : World} {base sz n c : Nat} {e : TypeId} {A : Option Addr} (h : RowAt w base e sz A n c) (hn : 0 < n) : ∃ g, A = some ⟨g, 0, none⟩ ∧ base ≤ g ∧ g < w.heap.size := by
  obtain ⟨xs, h⟩ := h
  obtain ⟨g, cap, e, hg, hg2⟩ := h.form hn
  cases e
  exact ⟨g, rfl, hg, hg2⟩
theorem RowAt.cell {w : World} {base sz n c g : Nat} {e : TypeId} (h : RowAt w base e sz (some ⟨g, 0, none⟩) n c) {j : Nat} (hj : j < n * sz) : ∃ u, w.cell? ⟨g, j, none⟩ = some u ∧ w.frozen? ⟨g, j, none⟩ = false := by
  obtain ⟨xs, h⟩ := h
  have hl := h.1
  exact ⟨xs[j]'(by omega), by rw [h.cellAt j hj]; exact List.getElem?_eq_getElem _, h.frozenAt j⟩
theorem RowAt.set_ {w : World} {base sz n c g : Nat} {e : TypeId} (h : RowAt w base e sz (some ⟨g, 0, none⟩) n c) (j : Nat) (u : Value) : RowAt (w.setCell ⟨g, j, none⟩ u) base e sz (some ⟨g, 0, none⟩) n c := by
  obtain ⟨xs, h⟩ := h
  exact ⟨_, (h.stored j u).1⟩
theorem RowAt.off {w : World} {base sz n c g : Nat} {e : TypeId} {A : Option Addr} (h : RowAt w base e sz A n c) (hg : g < base) (j : Nat) (u : Value) : RowAt (w.setCell ⟨g, j, none⟩ u) base e sz A n c := by
  obtain ⟨xs, h⟩ := h
  refine ⟨xs, World.ownsRow.kept h (grown_set w g j u) ?_⟩
  by_cases hn : (Value.slice A n c).ownBlock = none
  · exact Or.inl hn
  · refine Or.inr fun e => ?_
    have := (h.lt g e).1
    omega
end Go.Proofs.Ytdpannjnhhjicaa
