/- Orders appended: at a region's operation; an own row of orders. -/
import Derived.Test.YtdpannjnhhjicaaLTightP
import Derived.Test.YtdpannjnhhjicaaLSoundK
namespace Go.Proofs.Ytdpannjnhhjicaa
open Go.RowKit

section
variable {P : Program} {ops : Array Oper} {Q : Exit → Act → World → Prop} {S : World → Prop}
theorem region_begin_any {id : Nat} {a : Act} {w : World} (hm : P.follows .mixedOrders = true) (hS : S w.drew)
    (h : ∀ W, W = w.drew → S W → wpAnyH P .any ops (NoPanic Q) S ops.size (Array.replicate ops.size false) a W) : (Code.region id ops true).wp P Q a w := region_begin hm hS (h _ rfl)
theorem region_two (i j : Nat) {oi oj : Oper} {ri rj : List Oper} {fuel : Nat} {listed : Array Bool} {a : Act} {w : World} (hi : ops.toList.drop i = oi :: ri) (hj : ops.toList.drop j = oj :: rj) (hr : Region.ready .any ops listed = [i, j])
    (hwi : Region.wanted oi (yielded ops a.tmps) = true) (hwj : Region.wanted oj (yielded ops a.tmps) = true)
    (h1 : ∀ K : Act → World → Prop, Shut (∀ a w, S w → (S w → wpAnyH P .any ops (NoPanic Q) S fuel (listed.setIfInBounds i true) a w) → K a w) → Oper.wp P oi a w K (NoPanic Q))
    (h2 : ∀ K : Act → World → Prop, Shut (∀ a w, S w → (S w → wpAnyH P .any ops (NoPanic Q) S fuel (listed.setIfInBounds j true) a w) → K a w) → Oper.wp P oj a w K (NoPanic Q)) : wpAnyH P .any ops (NoPanic Q) S (fuel + 1) listed a w :=
  wpAnyH_ready hr (by simp) (AllReadyH.cons (get_of_drop hi) (fun K hK => by rw [if_pos hwi]; exact h1 K hK) (AllReadyH.cons (get_of_drop hj) (fun K hK => by rw [if_pos hwj]; exact h2 K hK) AllReadyH.nil))
end
/-- Orders in an own row. -/
def OwnO (w : World) (base : Nat) (v : Value) (l : List Ord3) : Prop := w.ownsRow base 53 3 v l.length (ordsV l)
theorem OwnO.slice {w : World} {base : Nat} {v : Value} {l : List Ord3} (h : OwnO w base v l) : ∃ A c, v = .slice A l.length c ∧ Slice A l.length c ∧ Holds w A (ordsV l) := by
  obtain ⟨A, c, rfl, hs, _⟩ := own_slice h
  exact ⟨A, c, rfl, hs, own_holds h⟩
theorem OwnO.holds {w : World} {base N c : Nat} {A : Option Addr} {l : List Ord3} (h : OwnO w base (.slice A N c) l) : Holds w A (ordsV l) := by
  obtain ⟨A', c', e, _, hh⟩ := h.slice
  cases e
  exact hh
theorem OwnO.alloc {w : World} {base : Nat} {v : Value} {l : List Ord3} (h : OwnO w base v l) (o : Obj) : OwnO (w.alloc o) base v l := World.ownsRow.alloc h o
theorem OwnO.empty (w : World) (base : Nat) (h : base ≤ w.heap.size) : OwnO (w.alloc (.cells #[] 53)) base (.slice (some ⟨w.heap.size, 0, none⟩) 0 0) [] :=
  World.ownsRow_lit (base := base) (e := 53) (size := 3) w #[] 0 h (by unfold maxLen; omega) rfl
/-- append(s, x...) of orders, at the operation itself. -/
theorem wp_append_orders {w : World} {o : Oper} {a : Act} {K : Act → World → Prop} {Q : Exit → Act → World → Prop} (s x : Operand) (t : TypeId)
    (ho : o.op = .call { callee := .builtin .append, args := #[s, x], argTypes := #[t, t] }) (ht : Try.prog.underlying t = some (.slice 53))
    (base : Nat) (v : Value) (l r : List Ord3) (hs : a.eval s = v) (hown : OwnO w base v l) (A : Option Addr) (m c : Nat) (hx : a.eval x = .slice A m c)
    (hl : r.length = m) (hsl : Slice A m c) (hh : Holds w A (ordsV r)) (N : Nat) (hN : l.length + m = N) (hbig : N ≤ 1000000000) (hbase : base ≤ w.heap.size)
    (h : ∀ A' c' w', OwnO w' base (.slice A' N c') (l ++ r) → Slice A' N c' → w.grownBy w' v.ownBlock → K (a.put o.dst (.slice A' N c')) w') : o.wp Try.prog a w K Q := by
  obtain ⟨i0, hi, hz0, hz1, hz2⟩ := info_parts infoOrder
  subst hN
  have hmul : (l.length + m) * 24 ≤ 140737488355328 := by omega
  cases A with
  | none =>
    obtain ⟨rfl, rfl⟩ := hsl.2.2 rfl
    have hr : r = [] := List.eq_nil_of_length_eq_zero hl
    subst hr
    have hrun := run_append_owned_none (P := Try.prog) (w := w) base t o.type 53 i0 3 ht hi v l.length _ hown
    obtain ⟨A', c', e, hs', _⟩ := own_slice hown
    subst e
    unfold Oper.wp execOp
    simp only [ho, resolve, invoke, builtin, Sem.run_bind, Sem.run_pure, Result.andThen_ok, List.map_toArray, List.map_cons, List.map_nil, hs, hx, hrun]
    exact h A' c' w (by rw [List.append_nil]; exact hown) hs' (World.grownBy.refl w _)
  | some ad =>
    obtain ⟨v', w', hr, h2, h3, h4, h5⟩ := run_append_own_at (P := Try.prog) w base t o.type 53 i0 _ 3 24 ht hi hz0 hz1 hz2 rfl (by omega) v l.length _ hown ad m c (ordsV r) (by rw [ordsV_len, hl]) (hh.news rfl) ordsV_one (by unfold maxLen; omega) hmul hbase
    obtain ⟨A', c', e, hs', _⟩ := own_slice h2
    subst e
    unfold Oper.wp execOp
    simp only [ho, resolve, invoke, builtin, Sem.run_bind, Sem.run_pure, Result.andThen_ok, List.map_toArray, List.map_cons, List.map_nil, hs, hx, hr]
    refine h A' c' w' ?_ hs' h3
    show w'.ownsRow _ _ _ _ _ _
    rw [List.length_append, hl, ordsV_append]
    exact h2
theorem Holds.grown {w w' : World} {g o : Nat} {vs : List Value} {row : Option Nat} (h : Holds w (some ⟨g, o, none⟩) vs) (hg : w.grownBy w' row) (hne : some g ≠ row) : Holds w' (some ⟨g, o, none⟩) vs := fun hn => by
  obtain ⟨b, o', e, hb, hc⟩ := h.at_ hn
  cases e
  refine ⟨g, o, rfl, fun j u hu => ?_⟩
  rw [World.cell?_of_block (hg.block g hb hne)]
  exact hc j u hu
end Go.Proofs.Ytdpannjnhhjicaa
