/- append onto an own row, of a slice of another name; at an operation. -/
import Derived.Test.YtkkkblghihheeaaDoorTFree
namespace Go.Proofs.YtkkkblghihheeaaDoor
open Go.RowKit

theorem append_tx (w : World) (t tx ty e e' : TypeId) (ht : Tryd.prog.underlying t = some (.slice e)) (hk : Tryd.prog.underlying tx = some (.slice e')) (s x : Value) :
    (Builtin.append_ #[t, tx] ty #[s, x]).run Tryd.prog w = (Builtin.append_ #[t, t] ty #[s, x]).run Tryd.prog w := by
  unfold Builtin.append_
  cases s <;> simp [run_underlying ht, run_underlying hk]
/-- append(s, x...) onto an own row, at the operation itself. -/
theorem wp_append_at {w : World} {o : Oper} {a : Act} {K : Act → World → Prop} {Q : Exit → Act → World → Prop} (s x : Operand) (t tx e' : TypeId)
    (ho : o.op = .call { callee := .builtin .append, args := #[s, x], argTypes := #[t, tx] }) (hk : Tryd.prog.underlying tx = some (.slice e')) (E : TypeId) (z : Value) (sz by_ : Nat) (hinfo : (Tryd.prog.info? E).map (fun i => (i.zero, i.size, i.bytes)) = some (some z, sz, by_))
    (hzs : z.cells.size = sz) (hsz : 0 < sz) (ht : Tryd.prog.underlying t = some (.slice E))
    (v : Value) (n m : Nat) (xs ys : List Value) (hs : a.eval s = v) (hown : w.ownsRow 0 E sz v n xs) (A : Option Addr) (c : Nat) (hx : a.eval x = .slice A m c)
    (hsl : Slice A m c) (hh : Holds w A ys) (hy : ys.length = m * sz) (hone : ∀ u ∈ ys, u.oneCell' = true) (hbig : n + m ≤ 1000000000) (hby : by_ ≤ 100000)
    (h : ∀ v' w', w'.ownsRow 0 E sz v' (n + m) (xs ++ ys) → Moves w v w' v' → K (a.put o.dst v') w') : o.wp Tryd.prog a w K Q := by
  obtain ⟨i0, hi, hz0, hz1, hz2⟩ := info_parts hinfo
  have hmul : (n + m) * by_ ≤ 140737488355328 := Nat.le_trans (Nat.mul_le_mul hbig hby) (by decide)
  cases A with
  | none =>
    obtain ⟨rfl, rfl⟩ := hsl.2.2 rfl
    have hr : ys = [] := List.eq_nil_of_length_eq_zero (by rw [hy, Nat.zero_mul])
    subst hr
    have hrun := run_append_owned_none (P := Tryd.prog) (w := w) 0 t o.type E i0 sz ht hi v n _ hown
    have hrun' := (append_tx w t tx o.type E e' ht hk v (.slice none 0 0)).trans hrun
    unfold Oper.wp execOp
    simp only [ho, resolve, invoke, builtin, Sem.run_bind, Sem.run_pure, Result.andThen_ok, List.map_toArray, List.map_cons, List.map_nil, hs, hx, hrun']
    exact h v w (by rw [List.append_nil]; exact hown) (Moves.refl _ _)
  | some ad =>
    obtain ⟨v', w', hr, h2, hg', h4, hat⟩ := run_append_own_at (P := Tryd.prog) w 0 t o.type E i0 z sz by_ ht hi hz0 hz1 hz2 hzs hsz v n _ hown ad m c ys hy (hh.news rfl) hone (by unfold maxLen; omega) hmul (Nat.zero_le _)
    have hrun' := (append_tx w t tx o.type E e' ht hk v (.slice (some ad) m c)).trans hr
    unfold Oper.wp execOp
    simp only [ho, resolve, invoke, builtin, Sem.run_bind, Sem.run_pure, Result.andThen_ok, List.map_toArray, List.map_cons, List.map_nil, hs, hx, hrun']
    refine h v' w' h2 ⟨⟨hg'.os, hg'.tape, hg'.output, hg'.size, fun k hk hn => hg'.block k hk fun e => hn e.symm⟩, fun g hg => ?_⟩
    rcases hat with e | e
    · exact .inl (e ▸ hg)
    · rw [e] at hg; cases hg; exact .inr (Nat.le_refl _)
theorem wpList_append_tx {w : World} {ops : Array Oper} {rest : List Oper} {o : Oper} {a : Act} {Q : Exit → Act → World → Prop} (hgd : o.guard = none) (s x : Operand) (t tx e' : TypeId)
    (ho : o.op = .call { callee := .builtin .append, args := #[s, x], argTypes := #[t, tx] }) (hk : Tryd.prog.underlying tx = some (.slice e')) (E : TypeId) (z : Value) (sz by_ : Nat) (hinfo : (Tryd.prog.info? E).map (fun i => (i.zero, i.size, i.bytes)) = some (some z, sz, by_))
    (hzs : z.cells.size = sz) (hsz : 0 < sz) (ht : Tryd.prog.underlying t = some (.slice E))
    (v : Value) (n m : Nat) (xs ys : List Value) (hs : a.eval s = v) (hown : w.ownsRow 0 E sz v n xs) (A : Option Addr) (c : Nat) (hx : a.eval x = .slice A m c)
    (hsl : Slice A m c) (hh : Holds w A ys) (hy : ys.length = m * sz) (hone : ∀ u ∈ ys, u.oneCell' = true) (hbig : n + m ≤ 1000000000) (hby : by_ ≤ 100000)
    (h : ∀ v' w', w'.ownsRow 0 E sz v' (n + m) (xs ++ ys) → Moves w v w' v' → wpList Tryd.prog ops Q rest (a.put o.dst v') w') : wpList Tryd.prog ops Q (o :: rest) a w :=
  wpList_plain hgd fun _ hK => wp_append_at s x t tx e' ho hk E z sz by_ hinfo hzs hsz ht v n m xs ys hs hown A c hx hsl hh hy hone hbig hby fun v' w' h1 h2 => hK _ _ (h v' w' h1 h2)
end Go.Proofs.YtkkkblghihheeaaDoor
