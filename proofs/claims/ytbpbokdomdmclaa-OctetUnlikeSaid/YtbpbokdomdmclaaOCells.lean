/- Cells that are appended to an own row, of whatever element type. -/
import Derived.Test.YtbpbokdomdmclaaOAppend
import Derived.Test.YtbpbokdomdmclaaONode
namespace Go.Proofs.Ytbpbokdomdmclaa
open Go.RowKit

theorem infoInt : (Try.prog.info? 3).map (fun i => (i.zero, i.size, i.bytes)) = some (some (.int .i64 0), 1, 8) := by kernel_rfl
theorem infoNode : (Try.prog.info? 63).map (fun i => (i.zero, i.size, i.bytes)) = some (some (.agg #[.int .i64 0, .int .i64 0, .int .i64 0]), 3, 24) := by kernel_rfl
theorem intsV_one {l : List Int} : ∀ u ∈ intsV l, u.oneCell' = true := by
  intro u hu
  obtain ⟨j, _, rfl⟩ := List.mem_map.1 hu
  rfl
theorem nodesV_one {t : List Node3} : ∀ u ∈ nodesV t, u.oneCell' = true := by
  intro u hu
  obtain ⟨x, _, hx⟩ := List.mem_flatMap.1 hu
  simp only [nodeV, List.mem_cons, List.not_mem_nil, or_false] at hx
  rcases hx with rfl | rfl | rfl <;> rfl

/-- append(s, x...) of cells, onto an own row: nil or not. -/
theorem wpList_append_cells {w : World} {ops : Array Oper} {rest : List Oper} {o : Oper} {a : Act} {Q : Exit → Act → World → Prop} (hgd : o.guard = none) (s x : Operand) (t : TypeId)
    (ho : o.op = .call { callee := .builtin .append, args := #[s, x], argTypes := #[t, t] }) (E : TypeId) (z : Value) (sz by_ : Nat) (hinfo : (Try.prog.info? E).map (fun i => (i.zero, i.size, i.bytes)) = some (some z, sz, by_))
    (hzs : z.cells.size = sz) (hsz : 0 < sz) (ht : Try.prog.underlying t = some (.slice E))
    (base : Nat) (v : Value) (n m : Nat) (xs ys : List Value) (hs : a.eval s = v) (hown : w.ownsRow base E sz v n xs) (A : Option Addr) (c : Nat) (hx : a.eval x = .slice A m c)
    (hsl : Slice A m c) (hh : Holds w A ys) (hy : ys.length = m * sz) (hone : ∀ u ∈ ys, u.oneCell' = true) (hbig : n + m ≤ 1000000000) (hby : by_ ≤ 100000) (w0 : World) (hb : Below base w0 w) (hbase : base ≤ w.heap.size)
    (h : ∀ A' c' w', w'.ownsRow base E sz (.slice A' (n + m) c') (n + m) (xs ++ ys) → Slice A' (n + m) c' → Below base w0 w' → base ≤ w'.heap.size → w.grownBy w' v.ownBlock →
      wpList Try.prog ops Q rest (a.put o.dst (.slice A' (n + m) c')) w') : wpList Try.prog ops Q (o :: rest) a w := by
  obtain ⟨i0, hi, hz0, hz1, hz2⟩ := info_parts hinfo
  have hmul : (n + m) * by_ ≤ 140737488355328 := Nat.le_trans (Nat.mul_le_mul hbig hby) (by decide)
  cases A with
  | none =>
    obtain ⟨rfl, rfl⟩ := hsl.2.2 rfl
    have hr : ys = [] := List.eq_nil_of_length_eq_zero (by rw [hy, Nat.zero_mul])
    subst hr
    obtain ⟨A', c', e, hs', _⟩ := own_slice hown
    subst e
    refine wpList_append_own_none hgd s x t ho base E i0 sz ht hi _ n _ hs hown hx ?_
    rw [List.append_nil] at h
    exact h A' c' w hown hs' hb hbase (World.grownBy.refl w _)
  | some ad =>
    refine wpList_append_own w hgd s x t ho base E i0 z sz by_ ht hi hz0 hz1 hz2 hzs hsz v n _ hs hown ad m c ys hx hy (hh.news rfl) hone (by unfold maxLen; omega) hmul hbase ?_
    intro v' w' hown' hg' _
    obtain ⟨A', c', e, hs', _⟩ := own_slice hown'
    subst e
    exact h A' c' w' hown' hs' (hb.grown hg' hbase (fun k hk => (hown.lt k hk).1)) (Nat.le_trans hbase hg'.size) hg'
end Go.Proofs.Ytbpbokdomdmclaa
