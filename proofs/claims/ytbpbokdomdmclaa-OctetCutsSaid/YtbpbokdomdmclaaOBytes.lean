/- Bytes that are appended. -/
import Derived.Test.YtbpbokdomdmclaaOMem
namespace Go.Proofs.Ytbpbokdomdmclaa
open Go.RowKit

/-- A fresh block holds its cells. -/
theorem holds_lit (w : World) (cs : List Value) (t : TypeId) : Holds (w.alloc (.cells cs.toArray t)) (some ⟨w.heap.size, 0, none⟩) cs := fun _ => ⟨_, 0, rfl, fun j u hu => by
  rw [World.cell?_alloc_at _ _ _ _ rfl]
  simpa using hu⟩
theorem slice_lit (w : World) (n : Nat) (h : n ≤ 9223372036854775807) : Slice (some ⟨w.heap.size, 0, none⟩) n n := ⟨Nat.le_refl _, h, fun h => by cases h⟩

/-- append(s, x...) of bytes, onto an own row: nil or not. -/
theorem wpList_append_bytes {w : World} {ops : Array Oper} {rest : List Oper} {o : Oper} {a : Act} {Q : Exit → Act → World → Prop} (hgd : o.guard = none) (s x : Operand) (t : TypeId)
    (ho : o.op = .call { callee := .builtin .append, args := #[s, x], argTypes := #[t, t] }) (ht : Try.prog.underlying t = some (.slice 5))
    (base : Nat) (v : Value) (l r : List Nat) (hs : a.eval s = v) (hown : w.ownsRow base 5 1 v l.length (bytesV l)) (A : Option Addr) (c : Nat) (hx : a.eval x = .slice A r.length c)
    (hsl : Slice A r.length c) (hh : Holds w A (bytesV r)) (hbig : l.length + r.length ≤ 1000000000) (w0 : World) (hb : Below base w0 w) (hbase : base ≤ w.heap.size)
    (h : ∀ A' c' w', w'.ownsRow base 5 1 (.slice A' (l ++ r).length c') (l ++ r).length (bytesV (l ++ r)) → Slice A' (l ++ r).length c' → Below base w0 w' → base ≤ w'.heap.size →
      wpList Try.prog ops Q rest (a.put o.dst (.slice A' (l ++ r).length c')) w') : wpList Try.prog ops Q (o :: rest) a w := by
  obtain ⟨i0, hi, hz0, hz1, hz2⟩ := info_parts info8
  cases A with
  | none =>
    obtain ⟨h0, rfl⟩ := hsl.2.2 rfl
    have hr : r = [] := List.eq_nil_of_length_eq_zero h0
    subst hr
    obtain ⟨A', c', e, hs', _⟩ := own_slice hown
    subst e
    refine wpList_append_own_none hgd s x t ho base 5 i0 1 ht hi _ l.length _ hs hown hx ?_
    rw [List.append_nil] at h
    exact h A' c' w hown hs' hb hbase
  | some ad =>
    refine wpList_append_own w hgd s x t ho base 5 i0 _ 1 1 ht hi hz0 hz1 hz2 rfl (by omega) v l.length _ hs hown ad r.length c (bytesV r) hx (by rw [bytesV_len]; omega) (hh.news rfl) bytesV_one (by unfold maxLen; omega) (by omega) hbase ?_
    intro v' w' hown' hg' _
    obtain ⟨A', c', e, hs', _⟩ := own_slice hown'
    subst e
    rw [← List.length_append] at hown' hs' ⊢
    rw [← bytesV_append] at hown'
    exact h A' c' w' hown' hs' (hb.grown hg' hbase (fun k hk => (hown.lt k hk).1)) (Nat.le_trans hbase hg'.size)
end Go.Proofs.Ytbpbokdomdmclaa
