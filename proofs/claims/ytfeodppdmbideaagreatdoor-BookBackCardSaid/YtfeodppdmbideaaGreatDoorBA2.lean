/- The way to the laws of books: TFollow to TWalk0. -/
import Derived.Test.YtfeodppdmbideaaGreatDoorBA1
import Derived.Maps.AppendAt
import Derived.StillTailTactics
namespace Go.Proofs.YtfeodppdmbideaaGreatDoor
open Go.RowKit

theorem ret_int {k : IntKind} {a b : Int} (h : a = b) : Ending.returned (.int k a) = .returned (.int k b) := by rw [h]
theorem slice_nil : Slice none 0 0 := ⟨Nat.le_refl _, by omega, fun _ => ⟨rfl, rfl⟩⟩
theorem slice_new {w : World} (n : Nat) (h : n ≤ 9223372036854775807) : Slice (some ⟨w.heap.size, 0, none⟩) n n := ⟨Nat.le_refl _, h, fun h => by cases h⟩
/-- The row v moved on to v': only its block was written, and new ones. -/
structure Moves (w : World) (v : Value) (w' : World) (v' : Value) : Prop where
  only : Only (fun g => v.ownBlock = some g) w w'
  next : ∀ g, v'.ownBlock = some g → v.ownBlock = some g ∨ w.heap.size ≤ g
namespace Moves
variable {w w1 w2 : World} {v v1 v2 : Value}
theorem refl (w : World) (v : Value) : Moves w v w v := ⟨Only.refl _ _, fun _ h => .inl h⟩
theorem trans (h : Moves w v w1 v1) (k : Moves w1 v1 w2 v2) : Moves w v w2 v2 :=
  ⟨h.only.trans k.only fun g hg hb => (h.next g hb).elim id fun h => absurd hg (by omega), fun g hg => by
    rcases k.next g hg with h1 | h1
    · exact h.next g h1
    · exact .inr (Nat.le_trans h.only.size h1)⟩
theorem alloc (h : Moves w v w1 v1) (o : Obj) : Moves w v (w1.alloc o) v1 := ⟨h.only.alloc o, h.next⟩
theorem drew (h : Moves w v w1 v1) : Moves w v w1.drew v1 := ⟨h.only.drew, h.next⟩
theorem of_below (h : Below w.heap.size w w1) (v : Value) : Moves w v w1 v := ⟨Only.of_below h, fun _ h => .inl h⟩
theorem below (h : Moves w v w1 v1) {B : Nat} (hB : B ≤ w.heap.size) (hv : ∀ g, v.ownBlock = some g → B ≤ g) : Below B w w1 := h.only.below hB fun k hk hb => by have := hv k hb; omega
end Moves
/-- append(s, x...) of cells onto an own row, nil or not; which block is written. -/
theorem wpList_append_at {w : World} {ops : Array Oper} {rest : List Oper} {o : Oper} {a : Act} {Q : Exit → Act → World → Prop} (hgd : o.guard = none) (s x : Operand) (t : TypeId)
    (ho : o.op = .call { callee := .builtin .append, args := #[s, x], argTypes := #[t, t] }) (E : TypeId) (z : Value) (sz by_ : Nat) (hinfo : (Tryz.prog.info? E).map (fun i => (i.zero, i.size, i.bytes)) = some (some z, sz, by_))
    (hzs : z.cells.size = sz) (hsz : 0 < sz) (ht : Tryz.prog.underlying t = some (.slice E))
    (v : Value) (n m : Nat) (xs ys : List Value) (hs : a.eval s = v) (hown : w.ownsRow 0 E sz v n xs) (A : Option Addr) (c : Nat) (hx : a.eval x = .slice A m c)
    (hsl : Slice A m c) (hh : Holds w A ys) (hy : ys.length = m * sz) (hone : ∀ u ∈ ys, u.oneCell' = true) (hbig : n + m ≤ 1000000000) (hby : by_ ≤ 100000) (w0 : World) (v0 : Value) (hM : Moves w0 v0 w v)
    (h : ∀ v' w', w'.ownsRow 0 E sz v' (n + m) (xs ++ ys) → Moves w0 v0 w' v' → wpList Tryz.prog ops Q rest (a.put o.dst v') w') : wpList Tryz.prog ops Q (o :: rest) a w := by
  obtain ⟨i0, hi, hz0, hz1, hz2⟩ := info_parts hinfo
  have hmul : (n + m) * by_ ≤ 140737488355328 := Nat.le_trans (Nat.mul_le_mul hbig hby) (by decide)
  cases A with
  | none =>
    obtain ⟨rfl, rfl⟩ := hsl.2.2 rfl
    have hr : ys = [] := List.eq_nil_of_length_eq_zero (by rw [hy, Nat.zero_mul])
    subst hr
    refine wpList_append_own_none hgd s x t ho 0 E i0 sz ht hi _ n _ hs hown hx ?_
    rw [List.append_nil] at h
    exact h v w hown hM
  | some ad =>
    refine wpList_append_own_at w hgd s x t ho 0 E i0 z sz by_ ht hi hz0 hz1 hz2 hzs hsz v n _ hs hown ad m c ys hx hy (hh.news rfl) hone (by unfold maxLen; omega) hmul (Nat.zero_le _) ?_
    intro v' w' hown' hg' _ hat
    refine h v' w' hown' (hM.trans ⟨⟨hg'.os, hg'.tape, hg'.output, hg'.size, fun k hk hn => hg'.block k hk fun e => hn e.symm⟩, fun g hg => ?_⟩)
    rcases hat with e | e
    · exact .inl (e ▸ hg)
    · rw [e] at hg; cases hg; exact .inr (Nat.le_refl _)

/-- Parts as cells. -/
def partV (p : Part) : List Value := [.int .i64 p.op, .int .i64 (p.k : Int)]
def partsV (l : List Part) : List Value := l.flatMap partV
theorem partsV_cons (p : Part) (l : List Part) : partsV (p :: l) = partV p ++ partsV l := by unfold partsV; rw [List.flatMap_cons]
theorem partsV_append (l r : List Part) : partsV (l ++ r) = partsV l ++ partsV r := by unfold partsV; rw [List.flatMap_append]
theorem partsV_len (l : List Part) : (partsV l).length = l.length * 2 := by
  induction l with
  | nil => rfl
  | cons p l ih => rw [partsV_cons, List.length_append, ih, List.length_cons]; simp [partV]; omega
theorem partsV_one {l : List Part} : ∀ u ∈ partsV l, u.oneCell' = true := by
  intro u hu
  obtain ⟨x, _, hx⟩ := List.mem_flatMap.1 hu
  simp only [partV, List.mem_cons, List.not_mem_nil, or_false] at hx
  rcases hx with rfl | rfl <;> rfl
/-- Parts in an own row. -/
def OwnP (w : World) (v : Value) (l : List Part) : Prop := w.ownsRow 0 181 2 v l.length (partsV l)
theorem OwnP.alloc {w : World} {v : Value} {l : List Part} (h : OwnP w v l) (o : Obj) : OwnP (w.alloc o) v l := World.ownsRow.alloc h o
theorem OwnP.nil (w : World) : OwnP w (.slice none 0 0) [] := World.ownsRow_nil w 0 _ 2
theorem wpList_append_parts {w : World} {ops : Array Oper} {rest : List Oper} {o : Oper} {a : Act} {Q : Exit → Act → World → Prop} (hgd : o.guard = none) (s x : Operand)
    (ho : o.op = .call { callee := .builtin .append, args := #[s, x], argTypes := #[179, 179] })
    (v : Value) (l r : List Part) (hs : a.eval s = v) (hown : OwnP w v l) (A : Option Addr) (m c : Nat) (hx : a.eval x = .slice A m c) (hm : r.length = m)
    (hsl : Slice A m c) (hh : Holds w A (partsV r)) (hbig : l.length + m ≤ 1000000000) (w0 : World) (v0 : Value) (hM : Moves w0 v0 w v)
    (h : ∀ v' w', OwnP w' v' (l ++ r) → Moves w0 v0 w' v' → wpList Tryz.prog ops Q rest (a.put o.dst v') w') : wpList Tryz.prog ops Q (o :: rest) a w := by
  subst hm
  refine wpList_append_at hgd s x _ ho 181 _ 2 16 infoPart rfl (by decide) Tryz.underlying179 v l.length r.length (partsV l) (partsV r) hs hown A c hx hsl hh (partsV_len r) partsV_one hbig (by decide) w0 v0 hM fun v' w' h1 h2 => h v' w' ?_ h2
  unfold OwnP
  rw [List.length_append, partsV_append]
  exact h1
/-- What follow answers. -/
def FollowPost (w : World) (v : Value) (l : List Part) (e : Ending) (w' : World) : Prop := ∃ v', e = .returned v' ∧ OwnP w' v' l ∧ Moves w v w' v'
theorem follow_none {n : Node3} {k : Nat} (h : n.1 ≠ 2 ∧ n.1 ≠ 4 ∧ n.1 ≠ 5 ∧ n.1 ≠ 6 ∧ n.1 ≠ 7 ∧ n.1 ≠ 11 ∧ n.1 ≠ 12) : follow n k = [] := by
  unfold follow
  simp [h.1, h.2.1, h.2.2.1, h.2.2.2.1, h.2.2.2.2.1, h.2.2.2.2.2.1, h.2.2.2.2.2.2]
set_option maxHeartbeats 2000000 in
theorem tfollow_none (v : Value) (l : List Part) (o A B : Int) (k : Nat) (w : World) (hv : OwnP w v l) (ho : o = 1 ∨ o = 3 ∨ o = 8 ∨ o = 9 ∨ o = 10 ∨ o = 13) (hk : k ≤ 1000000000) :
    Calls Tryz.prog 120 #[v, nodeA (o, A, B), .int .i64 (k : Int)] w (FollowPost w v l) := by
  have hM := (((Moves.refl w v).alloc (.cells #[.int .i64 o, .int .i64 A, .int .i64 B] 67)).alloc (.cells #[.int .i64 0, .int .i64 (k : Int)] 181)).alloc (.cells #[.int .i64 0, .int .i64 ((k : Int) + 1)] 181)
  have hv3 := ((hv.alloc (.cells #[.int .i64 o, .int .i64 A, .int .i64 B] 67)).alloc (.cells #[.int .i64 0, .int .i64 (k : Int)] 181)).alloc (.cells #[.int .i64 0, .int .i64 ((k : Int) + 1)] 181)
  have HM := Lib.hid hM
  have HV := Lib.hid hv3
  clear hM hv3 hv
  rcases ho with rfl | rfl | rfl | rfl | rfl | rfl <;>
  · go_enter Tryz.func120, Tryz.ntmps120
    go_wp2_with fail
    go_ret
    exact ⟨v, rfl, HV.out, HM.out⟩
set_option maxHeartbeats 2000000 in
theorem tfollow_pi (v : Value) (l : List Part) (A B : Int) (k : Nat) (w : World) (hv : OwnP w v l) (hk : k ≤ 1000000000) (hl : l.length ≤ 100000000) :
    Calls Tryz.prog 120 #[v, nodeA (4, A, B), .int .i64 (k : Int)] w (FollowPost w v (l ++ [⟨0, k + 1⟩, ⟨0, k⟩])) := by
  have hM := (((Moves.refl w v).alloc (.cells #[.int .i64 4, .int .i64 A, .int .i64 B] 67)).alloc (.cells #[.int .i64 0, .int .i64 (k : Int)] 181)).alloc (.cells #[.int .i64 0, .int .i64 ((k : Int) + 1)] 181)
  have hv3 := ((hv.alloc (.cells #[.int .i64 4, .int .i64 A, .int .i64 B] 67)).alloc (.cells #[.int .i64 0, .int .i64 (k : Int)] 181)).alloc (.cells #[.int .i64 0, .int .i64 ((k : Int) + 1)] 181)
  have hh : Holds ((((w.alloc (.cells #[.int .i64 4, .int .i64 A, .int .i64 B] 67)).alloc (.cells #[.int .i64 0, .int .i64 (k : Int)] 181)).alloc (.cells #[.int .i64 0, .int .i64 ((k : Int) + 1)] 181)).alloc (.cells #[.int .i64 0, .int .i64 ((k : Int) + 1), .int .i64 0, .int .i64 (k : Int)] 181)) (some ⟨(((w.alloc (.cells #[.int .i64 4, .int .i64 A, .int .i64 B] 67)).alloc (.cells #[.int .i64 0, .int .i64 (k : Int)] 181)).alloc (.cells #[.int .i64 0, .int .i64 ((k : Int) + 1)] 181)).heap.size, 0, none⟩) (partsV [⟨0, k + 1⟩, ⟨0, k⟩]) := holds_lit _ [.int .i64 0, .int .i64 ((k : Int) + 1), .int .i64 0, .int .i64 (k : Int)] _
  have hs := slice_new (w := (((w.alloc (.cells #[.int .i64 4, .int .i64 A, .int .i64 B] 67)).alloc (.cells #[.int .i64 0, .int .i64 (k : Int)] 181)).alloc (.cells #[.int .i64 0, .int .i64 ((k : Int) + 1)] 181))) 2 (by decide)
  simp only [World.size_alloc] at hh hs
  have HM := Lib.hid hM
  have HV := Lib.hid hv3
  have HH := Lib.hid hh
  have HS := Lib.hid hs
  clear hM hv3 hv hh hs
  go_enter Tryz.func120, Tryz.ntmps120
  go_wp2_with (at_builtin; go_must (refine wpList_append_parts rfl (.tmp 31) (.tmp 34) rfl v l [⟨0, k + 1⟩, ⟨0, k⟩] rfl (HV.out.alloc _) _ _ _ rfl rfl HS.out HH.out (by omega) w v (HM.out.alloc _) ?_); intro v' w' hv' hm')
  go_ret
  exact ⟨v', rfl, hv', hm'⟩
set_option maxHeartbeats 2000000 in
theorem tfollow_lam (v : Value) (l : List Part) (A B : Int) (k : Nat) (w : World) (hv : OwnP w v l) (hk : k ≤ 1000000000) (hl : l.length ≤ 100000000) :
    Calls Tryz.prog 120 #[v, nodeA (5, A, B), .int .i64 (k : Int)] w (FollowPost w v (l ++ [⟨0, k + 1⟩, ⟨0, k⟩])) := by
  have hM := (((Moves.refl w v).alloc (.cells #[.int .i64 5, .int .i64 A, .int .i64 B] 67)).alloc (.cells #[.int .i64 0, .int .i64 (k : Int)] 181)).alloc (.cells #[.int .i64 0, .int .i64 ((k : Int) + 1)] 181)
  have hv3 := ((hv.alloc (.cells #[.int .i64 5, .int .i64 A, .int .i64 B] 67)).alloc (.cells #[.int .i64 0, .int .i64 (k : Int)] 181)).alloc (.cells #[.int .i64 0, .int .i64 ((k : Int) + 1)] 181)
  have hh : Holds ((((w.alloc (.cells #[.int .i64 5, .int .i64 A, .int .i64 B] 67)).alloc (.cells #[.int .i64 0, .int .i64 (k : Int)] 181)).alloc (.cells #[.int .i64 0, .int .i64 ((k : Int) + 1)] 181)).alloc (.cells #[.int .i64 0, .int .i64 ((k : Int) + 1), .int .i64 0, .int .i64 (k : Int)] 181)) (some ⟨(((w.alloc (.cells #[.int .i64 5, .int .i64 A, .int .i64 B] 67)).alloc (.cells #[.int .i64 0, .int .i64 (k : Int)] 181)).alloc (.cells #[.int .i64 0, .int .i64 ((k : Int) + 1)] 181)).heap.size, 0, none⟩) (partsV [⟨0, k + 1⟩, ⟨0, k⟩]) := holds_lit _ [.int .i64 0, .int .i64 ((k : Int) + 1), .int .i64 0, .int .i64 (k : Int)] _
  have hs := slice_new (w := (((w.alloc (.cells #[.int .i64 5, .int .i64 A, .int .i64 B] 67)).alloc (.cells #[.int .i64 0, .int .i64 (k : Int)] 181)).alloc (.cells #[.int .i64 0, .int .i64 ((k : Int) + 1)] 181))) 2 (by decide)
  simp only [World.size_alloc] at hh hs
  have HM := Lib.hid hM
  have HV := Lib.hid hv3
  have HH := Lib.hid hh
  have HS := Lib.hid hs
  clear hM hv3 hv hh hs
  go_enter Tryz.func120, Tryz.ntmps120
  go_wp2_with (at_builtin; go_must (refine wpList_append_parts rfl (.tmp 31) (.tmp 34) rfl v l [⟨0, k + 1⟩, ⟨0, k⟩] rfl (HV.out.alloc _) _ _ _ rfl rfl HS.out HH.out (by omega) w v (HM.out.alloc _) ?_); intro v' w' hv' hm')
  go_ret
  exact ⟨v', rfl, hv', hm'⟩
set_option maxHeartbeats 2000000 in
theorem tfollow_app (v : Value) (l : List Part) (A B : Int) (k : Nat) (w : World) (hv : OwnP w v l) (hk : k ≤ 1000000000) (hl : l.length ≤ 100000000) :
    Calls Tryz.prog 120 #[v, nodeA (6, A, B), .int .i64 (k : Int)] w (FollowPost w v (l ++ [⟨0, k⟩, ⟨0, k⟩])) := by
  have hM := (((Moves.refl w v).alloc (.cells #[.int .i64 6, .int .i64 A, .int .i64 B] 67)).alloc (.cells #[.int .i64 0, .int .i64 (k : Int)] 181)).alloc (.cells #[.int .i64 0, .int .i64 ((k : Int) + 1)] 181)
  have hv3 := ((hv.alloc (.cells #[.int .i64 6, .int .i64 A, .int .i64 B] 67)).alloc (.cells #[.int .i64 0, .int .i64 (k : Int)] 181)).alloc (.cells #[.int .i64 0, .int .i64 ((k : Int) + 1)] 181)
  have hh : Holds ((((w.alloc (.cells #[.int .i64 6, .int .i64 A, .int .i64 B] 67)).alloc (.cells #[.int .i64 0, .int .i64 (k : Int)] 181)).alloc (.cells #[.int .i64 0, .int .i64 ((k : Int) + 1)] 181)).alloc (.cells #[.int .i64 0, .int .i64 (k : Int), .int .i64 0, .int .i64 (k : Int)] 181)) (some ⟨(((w.alloc (.cells #[.int .i64 6, .int .i64 A, .int .i64 B] 67)).alloc (.cells #[.int .i64 0, .int .i64 (k : Int)] 181)).alloc (.cells #[.int .i64 0, .int .i64 ((k : Int) + 1)] 181)).heap.size, 0, none⟩) (partsV [⟨0, k⟩, ⟨0, k⟩]) := holds_lit _ [.int .i64 0, .int .i64 (k : Int), .int .i64 0, .int .i64 (k : Int)] _
  have hs := slice_new (w := (((w.alloc (.cells #[.int .i64 6, .int .i64 A, .int .i64 B] 67)).alloc (.cells #[.int .i64 0, .int .i64 (k : Int)] 181)).alloc (.cells #[.int .i64 0, .int .i64 ((k : Int) + 1)] 181))) 2 (by decide)
  simp only [World.size_alloc] at hh hs
  have HM := Lib.hid hM
  have HV := Lib.hid hv3
  have HH := Lib.hid hh
  have HS := Lib.hid hs
  clear hM hv3 hv hh hs
  go_enter Tryz.func120, Tryz.ntmps120
  go_wp2_with (at_builtin; go_must (refine wpList_append_parts rfl (.tmp 38) (.tmp 41) rfl v l [⟨0, k⟩, ⟨0, k⟩] rfl (HV.out.alloc _) _ _ _ rfl rfl HS.out HH.out (by omega) w v (HM.out.alloc _) ?_); intro v' w' hv' hm')
  go_ret
  exact ⟨v', rfl, hv', hm'⟩
set_option maxHeartbeats 2000000 in
theorem tfollow_let (v : Value) (l : List Part) (A B : Int) (k : Nat) (w : World) (hv : OwnP w v l) (hk : k ≤ 1000000000) (hl : l.length ≤ 100000000) :
    Calls Tryz.prog 120 #[v, nodeA (7, A, B), .int .i64 (k : Int)] w (FollowPost w v (l ++ [⟨0, k + 1⟩, ⟨0, k⟩, ⟨0, k⟩])) := by
  have hM := (((Moves.refl w v).alloc (.cells #[.int .i64 7, .int .i64 A, .int .i64 B] 67)).alloc (.cells #[.int .i64 0, .int .i64 (k : Int)] 181)).alloc (.cells #[.int .i64 0, .int .i64 ((k : Int) + 1)] 181)
  have hv3 := ((hv.alloc (.cells #[.int .i64 7, .int .i64 A, .int .i64 B] 67)).alloc (.cells #[.int .i64 0, .int .i64 (k : Int)] 181)).alloc (.cells #[.int .i64 0, .int .i64 ((k : Int) + 1)] 181)
  have hh : Holds ((((w.alloc (.cells #[.int .i64 7, .int .i64 A, .int .i64 B] 67)).alloc (.cells #[.int .i64 0, .int .i64 (k : Int)] 181)).alloc (.cells #[.int .i64 0, .int .i64 ((k : Int) + 1)] 181)).alloc (.cells #[.int .i64 0, .int .i64 ((k : Int) + 1), .int .i64 0, .int .i64 (k : Int), .int .i64 0, .int .i64 (k : Int)] 181)) (some ⟨(((w.alloc (.cells #[.int .i64 7, .int .i64 A, .int .i64 B] 67)).alloc (.cells #[.int .i64 0, .int .i64 (k : Int)] 181)).alloc (.cells #[.int .i64 0, .int .i64 ((k : Int) + 1)] 181)).heap.size, 0, none⟩) (partsV [⟨0, k + 1⟩, ⟨0, k⟩, ⟨0, k⟩]) := holds_lit _ [.int .i64 0, .int .i64 ((k : Int) + 1), .int .i64 0, .int .i64 (k : Int), .int .i64 0, .int .i64 (k : Int)] _
  have hs := slice_new (w := (((w.alloc (.cells #[.int .i64 7, .int .i64 A, .int .i64 B] 67)).alloc (.cells #[.int .i64 0, .int .i64 (k : Int)] 181)).alloc (.cells #[.int .i64 0, .int .i64 ((k : Int) + 1)] 181))) 3 (by decide)
  simp only [World.size_alloc] at hh hs
  have HM := Lib.hid hM
  have HV := Lib.hid hv3
  have HH := Lib.hid hh
  have HS := Lib.hid hs
  clear hM hv3 hv hh hs
  go_enter Tryz.func120, Tryz.ntmps120
  go_wp2_with (at_builtin; go_must (refine wpList_append_parts rfl (.tmp 45) (.tmp 49) rfl v l [⟨0, k + 1⟩, ⟨0, k⟩, ⟨0, k⟩] rfl (HV.out.alloc _) _ _ _ rfl rfl HS.out HH.out (by omega) w v (HM.out.alloc _) ?_); intro v' w' hv' hm')
  go_ret
  exact ⟨v', rfl, hv', hm'⟩
theorem rep_snoc (l : List Part) (p : Part) (j : Nat) : l ++ List.replicate j p ++ [p] = l ++ List.replicate (j + 1) p := by
  rw [List.append_assoc, List.replicate_succ']
theorem fix_len (k b m : Nat) : (fixParts k b m).length = 3 * m := by
  induction m with
  | zero => rfl
  | succ m ih => simp only [fixParts, List.length_cons, ih]; omega
theorem fix_snoc (l : List Part) (k b j : Nat) : l ++ (fixParts k b j).reverse ++ [⟨0, k + b⟩, ⟨0, k⟩, ⟨13, k⟩] = l ++ (fixParts k b (j + 1)).reverse := by
  simp [fixParts]
set_option maxHeartbeats 4000000 in
theorem tfollow_sort (v : Value) (l : List Part) (A : Int) (b k : Nat) (w : World) (hv : OwnP w v l) (hk : k ≤ 1000000000) (hl : l.length ≤ 100000000) (hb : b ≤ 1000) :
    Calls Tryz.prog 120 #[v, nodeA (2, A, (b : Int)), .int .i64 (k : Int)] w (FollowPost w v (l ++ List.replicate (b) ⟨3, k⟩)) := by
  have hM : Moves w v (((w.alloc (.cells #[.int .i64 2, .int .i64 A, .int .i64 (b : Int)] 67)).alloc (.cells #[.int .i64 0, .int .i64 (k : Int)] 181)).alloc (.cells #[.int .i64 0, .int .i64 ((k : Int) + 1)] 181)) v := (((Moves.refl w v).alloc (.cells #[.int .i64 2, .int .i64 A, .int .i64 (b : Int)] 67)).alloc (.cells #[.int .i64 0, .int .i64 (k : Int)] 181)).alloc (.cells #[.int .i64 0, .int .i64 ((k : Int) + 1)] 181)
  have hv3 : OwnP (((w.alloc (.cells #[.int .i64 2, .int .i64 A, .int .i64 (b : Int)] 67)).alloc (.cells #[.int .i64 0, .int .i64 (k : Int)] 181)).alloc (.cells #[.int .i64 0, .int .i64 ((k : Int) + 1)] 181)) v l := ((hv.alloc (.cells #[.int .i64 2, .int .i64 A, .int .i64 (b : Int)] 67)).alloc (.cells #[.int .i64 0, .int .i64 (k : Int)] 181)).alloc (.cells #[.int .i64 0, .int .i64 ((k : Int) + 1)] 181)
  have g0 : Holds (((w.alloc (.cells #[.int .i64 2, .int .i64 A, .int .i64 (b : Int)] 67)).alloc (.cells #[.int .i64 0, .int .i64 (k : Int)] 181)).alloc (.cells #[.int .i64 0, .int .i64 ((k : Int) + 1)] 181)) (some ⟨w.heap.size, 0, none⟩) [.int .i64 2, .int .i64 A, .int .i64 (b : Int)] := ((holds_at w #[.int .i64 2, .int .i64 A, .int .i64 (b : Int)] 67 _ rfl).alloc _).alloc _
  have g1 : Holds (((w.alloc (.cells #[.int .i64 2, .int .i64 A, .int .i64 (b : Int)] 67)).alloc (.cells #[.int .i64 0, .int .i64 (k : Int)] 181)).alloc (.cells #[.int .i64 0, .int .i64 ((k : Int) + 1)] 181)) (some ⟨w.heap.size + 1, 0, none⟩) [.int .i64 0, .int .i64 (k : Int)] := by
    have := (holds_at (w.alloc (.cells #[.int .i64 2, .int .i64 A, .int .i64 (b : Int)] 67)) #[.int .i64 0, .int .i64 (k : Int)] 181 _ rfl).alloc (.cells #[.int .i64 0, .int .i64 ((k : Int) + 1)] 181)
    rwa [World.size_alloc] at this
  have hlt : ∀ g, v.ownBlock = some g → g < w.heap.size := fun g hg => (World.ownsRow.lt hv g hg).2
  have hz : (((w.alloc (.cells #[.int .i64 2, .int .i64 A, .int .i64 (b : Int)] 67)).alloc (.cells #[.int .i64 0, .int .i64 (k : Int)] 181)).alloc (.cells #[.int .i64 0, .int .i64 ((k : Int) + 1)] 181)).heap.size = w.heap.size + 1 + 1 + 1 := by simp
  have HM := Lib.hid hM
  have HV := Lib.hid hv3
  have H0 := Lib.hid g0
  have H1 := Lib.hid g1
  have HLT := Lib.hid hlt
  have HZ := Lib.hid hz
  clear hM hv3 hv g0 g1 hlt hz
  go_enter Tryz.func120, Tryz.ntmps120
  go_wp2_with fail
  go_loopw [0, 20] (fun v' i wr => ∃ j : Nat, i = .int .i64 (j : Int) ∧ j ≤ b ∧ OwnP wr v' (l ++ List.replicate (j) (Part.mk 3 k)) ∧ Moves (((w.alloc (.cells #[.int .i64 2, .int .i64 A, .int .i64 (b : Int)] 67)).alloc (.cells #[.int .i64 0, .int .i64 (k : Int)] 181)).alloc (.cells #[.int .i64 0, .int .i64 ((k : Int) + 1)] 181)) v wr v') (fun _ i _ => b - (intOf i).toNat)
  case atStart => exact ⟨0, rfl, Nat.zero_le _, by simpa using HV.out, Moves.refl _ _⟩
  case round =>
    obtain ⟨j, rfl, hj, hown, hmv⟩ := hrel
    have hlen : (l ++ List.replicate (j) (Part.mk 3 k)).length ≤ 100100000 := by rw [List.length_append, List.length_replicate]; omega
    have HOWN := Lib.hid hown
    have HMV := Lib.hid hmv
    have k0 := HMV.out.only
    have K0 := H0.out.only k0 (fun b o e hb => by cases e; have := HLT.out _ hb; omega)
    have K1 := H1.out.only k0 (fun b o e hb => by cases e; have := HLT.out _ hb; omega)
    have c2 := K0.cell (j := 2) rfl
    have d0 := K1.cell (j := 0) rfl
    have d1 := K1.cell (j := 1) rfl
    simp only [Nat.zero_add] at c2 d0 d1
    clear k0 K0 K1 hown hmv
    by_cases hlt : j < b
    · have hh : Holds (wr.alloc (.cells #[.int .i64 3, .int .i64 (k : Int)] 181)) (some ⟨wr.heap.size, 0, none⟩) (partsV [⟨3, k⟩]) := holds_lit wr [.int .i64 3, .int .i64 (k : Int)] _
      have hs := slice_new (w := wr) 1 (by decide)
      have HH := Lib.hid hh
      have HS := Lib.hid hs
      clear hh hs
      go_wp2_with (at_builtin; go_must (refine wpList_append_parts rfl (.tmp 22) (.tmp 25) rfl _ _ [⟨3, k⟩] rfl (HOWN.out.alloc _) _ _ _ rfl rfl HS.out HH.out (by omega) (((w.alloc (.cells #[.int .i64 2, .int .i64 A, .int .i64 (b : Int)] 67)).alloc (.cells #[.int .i64 0, .int .i64 (k : Int)] 181)).alloc (.cells #[.int .i64 0, .int .i64 ((k : Int) + 1)] 181)) v (HMV.out.alloc _) ?_); intro v' w' hv' hm')
      go_roundw
      case rel => exact ⟨j + 1, by go_num, by omega, by rw [← rep_snoc]; exact hv', hm'⟩
      case measure => simp [intOf] <;> omega
    · obtain rfl : j = b := by omega
      have hf := HM.out.trans HMV.out
      have HF := Lib.hid hf
      clear hf
      go_wp2_with fail
      go_ret
      exact ⟨_, rfl, HOWN.out, HF.out⟩
set_option maxHeartbeats 4000000 in
theorem tfollow_match (v : Value) (l : List Part) (A : Int) (b k : Nat) (w : World) (hv : OwnP w v l) (hk : k ≤ 1000000000) (hl : l.length ≤ 100000000) (hb : b ≤ 1000) :
    Calls Tryz.prog 120 #[v, nodeA (11, A, (b : Int)), .int .i64 (k : Int)] w (FollowPost w v (l ++ List.replicate ((b + 2)) ⟨0, k⟩)) := by
  have hM : Moves w v (((w.alloc (.cells #[.int .i64 11, .int .i64 A, .int .i64 (b : Int)] 67)).alloc (.cells #[.int .i64 0, .int .i64 (k : Int)] 181)).alloc (.cells #[.int .i64 0, .int .i64 ((k : Int) + 1)] 181)) v := (((Moves.refl w v).alloc (.cells #[.int .i64 11, .int .i64 A, .int .i64 (b : Int)] 67)).alloc (.cells #[.int .i64 0, .int .i64 (k : Int)] 181)).alloc (.cells #[.int .i64 0, .int .i64 ((k : Int) + 1)] 181)
  have hv3 : OwnP (((w.alloc (.cells #[.int .i64 11, .int .i64 A, .int .i64 (b : Int)] 67)).alloc (.cells #[.int .i64 0, .int .i64 (k : Int)] 181)).alloc (.cells #[.int .i64 0, .int .i64 ((k : Int) + 1)] 181)) v l := ((hv.alloc (.cells #[.int .i64 11, .int .i64 A, .int .i64 (b : Int)] 67)).alloc (.cells #[.int .i64 0, .int .i64 (k : Int)] 181)).alloc (.cells #[.int .i64 0, .int .i64 ((k : Int) + 1)] 181)
  have g0 : Holds (((w.alloc (.cells #[.int .i64 11, .int .i64 A, .int .i64 (b : Int)] 67)).alloc (.cells #[.int .i64 0, .int .i64 (k : Int)] 181)).alloc (.cells #[.int .i64 0, .int .i64 ((k : Int) + 1)] 181)) (some ⟨w.heap.size, 0, none⟩) [.int .i64 11, .int .i64 A, .int .i64 (b : Int)] := ((holds_at w #[.int .i64 11, .int .i64 A, .int .i64 (b : Int)] 67 _ rfl).alloc _).alloc _
  have g1 : Holds (((w.alloc (.cells #[.int .i64 11, .int .i64 A, .int .i64 (b : Int)] 67)).alloc (.cells #[.int .i64 0, .int .i64 (k : Int)] 181)).alloc (.cells #[.int .i64 0, .int .i64 ((k : Int) + 1)] 181)) (some ⟨w.heap.size + 1, 0, none⟩) [.int .i64 0, .int .i64 (k : Int)] := by
    have := (holds_at (w.alloc (.cells #[.int .i64 11, .int .i64 A, .int .i64 (b : Int)] 67)) #[.int .i64 0, .int .i64 (k : Int)] 181 _ rfl).alloc (.cells #[.int .i64 0, .int .i64 ((k : Int) + 1)] 181)
    rwa [World.size_alloc] at this
  have hlt : ∀ g, v.ownBlock = some g → g < w.heap.size := fun g hg => (World.ownsRow.lt hv g hg).2
  have hz : (((w.alloc (.cells #[.int .i64 11, .int .i64 A, .int .i64 (b : Int)] 67)).alloc (.cells #[.int .i64 0, .int .i64 (k : Int)] 181)).alloc (.cells #[.int .i64 0, .int .i64 ((k : Int) + 1)] 181)).heap.size = w.heap.size + 1 + 1 + 1 := by simp
  have HM := Lib.hid hM
  have HV := Lib.hid hv3
  have H0 := Lib.hid g0
  have H1 := Lib.hid g1
  have HLT := Lib.hid hlt
  have HZ := Lib.hid hz
  clear hM hv3 hv g0 g1 hlt hz
  go_enter Tryz.func120, Tryz.ntmps120
  go_wp2_with fail
  go_loopw [0, 56] (fun v' i wr => ∃ j : Nat, i = .int .i64 (j : Int) ∧ j ≤ (b + 2) ∧ OwnP wr v' (l ++ List.replicate (j) (Part.mk 0 k)) ∧ Moves (((w.alloc (.cells #[.int .i64 11, .int .i64 A, .int .i64 (b : Int)] 67)).alloc (.cells #[.int .i64 0, .int .i64 (k : Int)] 181)).alloc (.cells #[.int .i64 0, .int .i64 ((k : Int) + 1)] 181)) v wr v') (fun _ i _ => (b + 2) - (intOf i).toNat)
  case atStart => exact ⟨0, rfl, Nat.zero_le _, by simpa using HV.out, Moves.refl _ _⟩
  case round =>
    obtain ⟨j, rfl, hj, hown, hmv⟩ := hrel
    have hlen : (l ++ List.replicate (j) (Part.mk 0 k)).length ≤ 100100000 := by rw [List.length_append, List.length_replicate]; omega
    have HOWN := Lib.hid hown
    have HMV := Lib.hid hmv
    have k0 := HMV.out.only
    have K0 := H0.out.only k0 (fun b o e hb => by cases e; have := HLT.out _ hb; omega)
    have K1 := H1.out.only k0 (fun b o e hb => by cases e; have := HLT.out _ hb; omega)
    have c2 := K0.cell (j := 2) rfl
    have d0 := K1.cell (j := 0) rfl
    have d1 := K1.cell (j := 1) rfl
    simp only [Nat.zero_add] at c2 d0 d1
    clear k0 K0 K1 hown hmv
    by_cases hlt : j < (b + 2)
    · have hh : Holds (wr.alloc (.cells #[.int .i64 0, .int .i64 (k : Int)] 181)) (some ⟨wr.heap.size, 0, none⟩) (partsV [⟨0, k⟩]) := holds_lit wr [.int .i64 0, .int .i64 (k : Int)] _
      have hs := slice_new (w := wr) 1 (by decide)
      have HH := Lib.hid hh
      have HS := Lib.hid hs
      clear hh hs
      go_wp2_with (at_builtin; go_must (refine wpList_append_parts rfl (.tmp 58) (.tmp 60) rfl _ _ [⟨0, k⟩] rfl (HOWN.out.alloc _) _ _ _ rfl rfl HS.out HH.out (by omega) (((w.alloc (.cells #[.int .i64 11, .int .i64 A, .int .i64 (b : Int)] 67)).alloc (.cells #[.int .i64 0, .int .i64 (k : Int)] 181)).alloc (.cells #[.int .i64 0, .int .i64 ((k : Int) + 1)] 181)) v (HMV.out.alloc _) ?_); intro v' w' hv' hm')
      go_roundw
      case rel => exact ⟨j + 1, by go_num, by omega, by rw [← rep_snoc]; exact hv', hm'⟩
      case measure => simp [intOf] <;> omega
    · obtain rfl : j = (b + 2) := by omega
      have hf := HM.out.trans HMV.out
      have HF := Lib.hid hf
      clear hf
      go_wp2_with fail
      go_ret
      exact ⟨_, rfl, HOWN.out, HF.out⟩
set_option maxHeartbeats 4000000 in
theorem tfollow_fix (v : Value) (l : List Part) (A : Int) (b k : Nat) (w : World) (hv : OwnP w v l) (hk : k ≤ 1000000000) (hl : l.length ≤ 100000000) (hb : b ≤ 1000) :
    Calls Tryz.prog 120 #[v, nodeA (12, A, (b : Int)), .int .i64 (k : Int)] w (FollowPost w v (l ++ (fixParts k b (b)).reverse)) := by
  have hM : Moves w v (((w.alloc (.cells #[.int .i64 12, .int .i64 A, .int .i64 (b : Int)] 67)).alloc (.cells #[.int .i64 0, .int .i64 (k : Int)] 181)).alloc (.cells #[.int .i64 0, .int .i64 ((k : Int) + 1)] 181)) v := (((Moves.refl w v).alloc (.cells #[.int .i64 12, .int .i64 A, .int .i64 (b : Int)] 67)).alloc (.cells #[.int .i64 0, .int .i64 (k : Int)] 181)).alloc (.cells #[.int .i64 0, .int .i64 ((k : Int) + 1)] 181)
  have hv3 : OwnP (((w.alloc (.cells #[.int .i64 12, .int .i64 A, .int .i64 (b : Int)] 67)).alloc (.cells #[.int .i64 0, .int .i64 (k : Int)] 181)).alloc (.cells #[.int .i64 0, .int .i64 ((k : Int) + 1)] 181)) v l := ((hv.alloc (.cells #[.int .i64 12, .int .i64 A, .int .i64 (b : Int)] 67)).alloc (.cells #[.int .i64 0, .int .i64 (k : Int)] 181)).alloc (.cells #[.int .i64 0, .int .i64 ((k : Int) + 1)] 181)
  have g0 : Holds (((w.alloc (.cells #[.int .i64 12, .int .i64 A, .int .i64 (b : Int)] 67)).alloc (.cells #[.int .i64 0, .int .i64 (k : Int)] 181)).alloc (.cells #[.int .i64 0, .int .i64 ((k : Int) + 1)] 181)) (some ⟨w.heap.size, 0, none⟩) [.int .i64 12, .int .i64 A, .int .i64 (b : Int)] := ((holds_at w #[.int .i64 12, .int .i64 A, .int .i64 (b : Int)] 67 _ rfl).alloc _).alloc _
  have g1 : Holds (((w.alloc (.cells #[.int .i64 12, .int .i64 A, .int .i64 (b : Int)] 67)).alloc (.cells #[.int .i64 0, .int .i64 (k : Int)] 181)).alloc (.cells #[.int .i64 0, .int .i64 ((k : Int) + 1)] 181)) (some ⟨w.heap.size + 1, 0, none⟩) [.int .i64 0, .int .i64 (k : Int)] := by
    have := (holds_at (w.alloc (.cells #[.int .i64 12, .int .i64 A, .int .i64 (b : Int)] 67)) #[.int .i64 0, .int .i64 (k : Int)] 181 _ rfl).alloc (.cells #[.int .i64 0, .int .i64 ((k : Int) + 1)] 181)
    rwa [World.size_alloc] at this
  have hlt : ∀ g, v.ownBlock = some g → g < w.heap.size := fun g hg => (World.ownsRow.lt hv g hg).2
  have hz : (((w.alloc (.cells #[.int .i64 12, .int .i64 A, .int .i64 (b : Int)] 67)).alloc (.cells #[.int .i64 0, .int .i64 (k : Int)] 181)).alloc (.cells #[.int .i64 0, .int .i64 ((k : Int) + 1)] 181)).heap.size = w.heap.size + 1 + 1 + 1 := by simp
  have HM := Lib.hid hM
  have HV := Lib.hid hv3
  have H0 := Lib.hid g0
  have H1 := Lib.hid g1
  have HLT := Lib.hid hlt
  have HZ := Lib.hid hz
  clear hM hv3 hv g0 g1 hlt hz
  go_enter Tryz.func120, Tryz.ntmps120
  go_wp2_with fail
  go_loopw [0, 67] (fun v' i wr => ∃ j : Nat, i = .int .i64 (j : Int) ∧ j ≤ b ∧ OwnP wr v' (l ++ (fixParts k b (j)).reverse) ∧ Moves (((w.alloc (.cells #[.int .i64 12, .int .i64 A, .int .i64 (b : Int)] 67)).alloc (.cells #[.int .i64 0, .int .i64 (k : Int)] 181)).alloc (.cells #[.int .i64 0, .int .i64 ((k : Int) + 1)] 181)) v wr v') (fun _ i _ => b - (intOf i).toNat)
  case atStart => exact ⟨0, rfl, Nat.zero_le _, by simpa [fixParts] using HV.out, Moves.refl _ _⟩
  case round =>
    obtain ⟨j, rfl, hj, hown, hmv⟩ := hrel
    have hlen : (l ++ (fixParts k b (j)).reverse).length ≤ 100100000 := by rw [List.length_append, List.length_reverse, fix_len]; omega
    have HOWN := Lib.hid hown
    have HMV := Lib.hid hmv
    have k0 := HMV.out.only
    have K0 := H0.out.only k0 (fun b o e hb => by cases e; have := HLT.out _ hb; omega)
    have K1 := H1.out.only k0 (fun b o e hb => by cases e; have := HLT.out _ hb; omega)
    have c2 := K0.cell (j := 2) rfl
    have d0 := K1.cell (j := 0) rfl
    have d1 := K1.cell (j := 1) rfl
    simp only [Nat.zero_add] at c2 d0 d1
    clear k0 K0 K1 hown hmv
    by_cases hlt : j < b
    · have hh : Holds (wr.alloc (.cells #[.int .i64 0, .int .i64 ((k : Int) + (b : Int)), .int .i64 0, .int .i64 (k : Int), .int .i64 13, .int .i64 (k : Int)] 181)) (some ⟨wr.heap.size, 0, none⟩) (partsV [⟨0, k + b⟩, ⟨0, k⟩, ⟨13, k⟩]) := holds_lit wr [.int .i64 0, .int .i64 ((k : Int) + (b : Int)), .int .i64 0, .int .i64 (k : Int), .int .i64 13, .int .i64 (k : Int)] _
      have hs := slice_new (w := wr) 3 (by decide)
      have HH := Lib.hid hh
      have HS := Lib.hid hs
      clear hh hs
      go_wp2_with (at_builtin; go_must (refine wpList_append_parts rfl (.tmp 69) (.tmp 78) rfl _ _ [⟨0, k + b⟩, ⟨0, k⟩, ⟨13, k⟩] rfl (HOWN.out.alloc _) _ _ _ rfl rfl HS.out HH.out (by omega) (((w.alloc (.cells #[.int .i64 12, .int .i64 A, .int .i64 (b : Int)] 67)).alloc (.cells #[.int .i64 0, .int .i64 (k : Int)] 181)).alloc (.cells #[.int .i64 0, .int .i64 ((k : Int) + 1)] 181)) v (HMV.out.alloc _) ?_); intro v' w' hv' hm')
      go_roundw
      case rel => exact ⟨j + 1, by go_num, by omega, by rw [← fix_snoc]; exact hv', hm'⟩
      case measure => simp [intOf] <;> omega
    · obtain rfl : j = b := by omega
      have hf := HM.out.trans HMV.out
      have HF := Lib.hid hf
      clear hf
      go_wp2_with fail
      go_ret
      exact ⟨_, rfl, HOWN.out, HF.out⟩
theorem follow_any (v : Value) (l : List Part) (n : Node3) (k : Nat) (w : World) (hv : OwnP w v l) (hn : holdsN n) (hk : k ≤ 1000000000) (hl : l.length ≤ 100000000) :
    Calls Tryz.prog 120 #[v, nodeA n, .int .i64 (k : Int)] w (FollowPost w v (l ++ (follow n k).reverse)) := by
  obtain ⟨o, A, B⟩ := n
  have hB := holds_b hn
  simp only at hB
  obtain ⟨b, rfl⟩ : ∃ b : Nat, B = b := ⟨B.toNat, by omega⟩
  have h := holds_op hn
  simp only at h
  rcases (by omega : o = 2 ∨ o = 4 ∨ o = 5 ∨ o = 6 ∨ o = 7 ∨ o = 11 ∨ o = 12 ∨ (o = 1 ∨ o = 3 ∨ o = 8 ∨ o = 9 ∨ o = 10 ∨ o = 13)) with rfl | rfl | rfl | rfl | rfl | rfl | rfl | ho
  · have := tfollow_sort v l A b k w hv hk hl (by omega)
    simpa [follow] using this
  · have := tfollow_pi v l A b k w hv hk hl
    simpa [follow] using this
  · have := tfollow_lam v l A b k w hv hk hl
    simpa [follow] using this
  · have := tfollow_app v l A b k w hv hk hl
    simpa [follow] using this
  · have := tfollow_let v l A b k w hv hk hl
    simpa [follow] using this
  · have := tfollow_match v l A b k w hv hk hl (by omega)
    have e : ((b : Int) + 2).toNat = b + 2 := by omega
    simpa [follow, e] using this
  · have := tfollow_fix v l A b k w hv hk hl (by omega)
    simpa [follow] using this
  · have := tfollow_none v l o A b k w hv ho hk
    rw [follow_none (by simp only; omega)]
    simpa using this
end Go.Proofs.YtfeodppdmbideaaGreatDoor
namespace Go.Proofs.YtfeodppdmbideaaGreatDoor
open Go.RowKit

/-- A visitor of a walk: I i F W: i nodes have been visited, and F are the blocks that the visitor may write. -/
structure Vis (Vf : FuncId) (cap : Array Value) (a : Ann) (at0 B0 : Nat) (I : Nat → (Nat → Prop) → World → Prop) (Stop : List PanicEntry → World → Prop) : Prop where
  enters : ∀ args w, (callFunc Vf args).run Tryz.prog w = .ok (.enter Vf args) w
  lt : ∀ i F W, I i F W → ∀ k, F k → k < W.heap.size
  abide : ∀ i F W W', I i F W → Only (fun k => B0 ≤ k ∧ ¬ F k) W W' → I i F W'
  call : ∀ i F W (h : i < a.length), I i F W → Calls Tryz.prog Vf (#[.int .i64 ((at0 + i : Nat) : Int), .int .i64 ((a[i].2 : Nat) : Int)] ++ cap) W
    (fun e W' => (e = .returned (.tuple #[]) ∧ ∃ F', I (i + 1) F' W' ∧ Only F W W' ∧ ∀ k, F' k → F k ∨ W.heap.size ≤ k) ∨ (∃ ch, e = .panicked ch ∧ Stop ch W'))
/-- What a walk answers. -/
def WalkPost (I : Nat → (Nat → Prop) → World → Prop) (Stop : List PanicEntry → World → Prop) (F0 : Nat → Prop) (N : Nat) (n : Nat) (w : World) (e : Ending) (w' : World) : Prop :=
  (e = .returned (.int .i64 (N : Int)) ∧ ∃ F', I n F' w' ∧ Only F0 w w' ∧ ∀ k, F' k → F0 k ∨ w.heap.size ≤ k) ∨ (∃ ch, e = .panicked ch ∧ Stop ch w')

def zeros128 : Array Value := Array.replicate 128 (.int .i64 0)
theorem make_run (w : World) : (Instr.makeSlice 179 (.int .i64 1) (.int .i64 64)).run Tryz.prog w = .ok (.slice (some ⟨w.heap.size, 0, none⟩) 1 64) (w.alloc (.cells zeros128 181)) := by kernel_rfl
theorem make_parts (w : World) : OwnP (w.alloc (.cells zeros128 181)) (.slice (some ⟨w.heap.size, 0, none⟩) 1 64) [⟨0, 0⟩] :=
  ⟨rfl, .inr ⟨w.heap.size, 64, _, rfl, Nat.zero_le _, heap_alloc_new w _, by decide, by unfold maxLen; omega, rfl, rfl⟩⟩
/-- The state of a walk at a round's head: i nodes have been visited, the next stands at j. -/
structure WalkAt (w : World) (A : Option Addr) (t : List Node3) (a : Ann) (s : List Node3) (e0 : Node3) (at0 : Nat) (I : Nat → (Nat → Prop) → World → Prop) (F0 : Nat → Prop) (i j : Nat) (F : Nat → Prop) (todo : List Part) (hd : Node3) (v : Value) (wr : World) : Prop where
  le : i ≤ a.length
  at_ : j = at0 + i
  rest : W (t.drop j) hd todo = some (a.drop i, s, e0)
  own : OwnP wr v todo.reverse
  ahead : Whole wr (w.heap.size + 1) #[.int .i64 hd.1, .int .i64 hd.2.1, .int .i64 hd.2.2] 67
  inv : I i F wr
  only : Only F0 w wr
  grow : ∀ k, F k → F0 k ∨ w.heap.size ≤ k
  off : ¬ F (w.heap.size + 1)
  block : ∀ g, v.ownBlock = some g → w.heap.size ≤ g ∧ ¬ F g ∧ g ≠ w.heap.size + 1
theorem own_cut {w : World} {A : Option Addr} {c n m sz : Nat} {e : TypeId} {xs ys : List Value} (h : w.ownsRow 0 e sz (.slice A n c) n (xs ++ ys)) (hx : xs.length = m * sz) (hm : m ≤ n) (h0 : 0 < n) : w.ownsRow 0 e sz (.slice A m c) m xs := by
  rcases h.2 with ⟨_, h1⟩ | ⟨g, cap, cur, e1, hg, hh, h1, h2, h3, h4⟩
  · omega
  · cases e1
    refine ⟨hx, .inr ⟨g, c, cur, rfl, hg, hh, by omega, h2, h3, ?_⟩⟩
    have h5 : (cur.toList.take (n * sz)).take (m * sz) = (xs ++ ys).take (m * sz) := by rw [h4]
    rw [List.take_take, Nat.min_eq_left (Nat.mul_le_mul_right _ hm), ← hx, List.take_left'  rfl] at h5
    rw [← hx]; exact h5
theorem drop_cons {t : List Node3} {j : Nat} {n : Node3} {r : List Node3} (h : t.drop j = n :: r) : ∃ hj : j < t.length, t[j] = n ∧ t.drop (j + 1) = r := by
  have hj : j < t.length := by
    rcases Nat.lt_or_ge j t.length with h1 | h1
    · exact h1
    · rw [List.drop_eq_nil_of_le h1] at h; cases h
  rw [List.drop_eq_getElem_cons hj] at h
  cases h
  exact ⟨hj, rfl, rfl⟩
section
variable {w wr w1 w2 w3 w4 : World} {A : Option Addr} {t : List Node3} {a : Ann} {s : List Node3} {e0 hd : Node3} {at0 i j : Nat} {I : Nat → (Nat → Prop) → World → Prop} {F0 F F' : Nat → Prop} {todo : List Part} {p : Part} {v v' v'' : Value}
theorem WalkAt.part (h : WalkAt w A t a s e0 at0 I F0 i j F (p :: todo) hd v wr) : ∃ (n : Node3) (a' : Ann) (hj : j < t.length) (hi : i < a.length), t[j] = n ∧ begB p.op n hd = true ∧ a[i] = (n, p.k) ∧ a.drop (i + 1) = a' ∧
    W (t.drop (j + 1)) n (follow n p.k ++ todo) = some (a.drop (i + 1), s, e0) ∧ todo.length + 1 ≤ t.length - j := by
  have hr := h.rest
  cases hd' : t.drop j with
  | nil => rw [hd'] at hr; cases hr
  | cons n r =>
    have hl := W_row _ _ _ _ _ _ hr
    rw [hd'] at hr
    obtain ⟨hb, a', ha, hw⟩ := W_cons hr
    obtain ⟨hj, h1, h2⟩ := drop_cons hd'
    have hi : i < a.length := by
      rcases Nat.lt_or_ge i a.length with h3 | h3
      · exact h3
      · rw [List.drop_eq_nil_of_le h3] at ha; cases ha
    rw [List.drop_eq_getElem_cons hi] at ha
    simp only [List.cons.injEq] at ha
    refine ⟨n, a', hj, hi, h1, hb, ha.1, ha.2, by rw [h2, ha.2]; exact hw, ?_⟩
    have h3 := congrArg List.length hl.1
    have h4 := hl.2
    simp only [List.length_drop, List.length_append, List.length_map, List.length_cons] at h3 h4
    omega
theorem WalkAt.none (h : WalkAt w A t a s e0 at0 I F0 i j F [] hd v wr) : i = a.length := by
  have hr := h.rest
  rw [W_nil] at hr
  simp only [Option.some.injEq, Prod.mk.injEq] at hr
  have h1 := congrArg List.length hr.1
  have := h.le
  simp only [List.length_nil, List.length_drop] at h1
  omega
theorem WalkAt.step {Vf : FuncId} {cap : Array Value} {Stop : List PanicEntry → World → Prop} {n : Node3} (V : Vis Vf cap a at0 w.heap.size I Stop) (h : WalkAt w A t a s e0 at0 I F0 i j F (p :: todo) hd v wr) (hi : i < a.length) (hw : W (t.drop (j + 1)) n (follow n p.k ++ todo) = some (a.drop (i + 1), s, e0))
    (h1 : Below wr.heap.size wr w1) (h2 : I (i + 1) F' w2) (h3 : Only F w1 w2) (h4 : ∀ k, F' k → F k ∨ w1.heap.size ≤ k) (h5 : Only (fun k => k = w.heap.size + 1) w2 w3) (h6 : Whole w3 (w.heap.size + 1) #[.int .i64 n.1, .int .i64 n.2.1, .int .i64 n.2.2] 67)
    (h7 : ∀ g, v'.ownBlock = some g → v.ownBlock = some g) (h8 : OwnP w4 v'' (todo.reverse ++ (follow n p.k).reverse)) (h9 : Moves w3 v' w4 v'') : WalkAt w A t a s e0 at0 I F0 (i + 1) (j + 1) F' (follow n p.k ++ todo) n v'' w4 := by
  have ga := h.ahead.lt
  have gw := h.only.size
  have g1 := h1.size
  have g2 := h3.size
  have g3 := h5.size
  have gv : ∀ g, v.ownBlock = some g → g < wr.heap.size := fun g hg => (World.ownsRow.lt h.own g hg).2
  have hna : ¬ F' (w.heap.size + 1) := fun hf => by
    rcases h4 _ hf with h' | h'
    · exact h.off h'
    · omega
  refine ⟨hi, by have := h.at_; omega, hw, ?_, ?_, ?_, ?_, ?_, hna, ?_⟩
  · rw [List.reverse_append]; exact h8
  · exact h6.only h9.only fun hb => (h.block _ (h7 _ hb)).2.2 rfl
  · refine V.abide (i + 1) F' w2 w4 h2 (Only.mono (F := fun k => k = w.heap.size + 1 ∨ v.ownBlock = some k) ((h5.mono fun k e => .inl e).trans h9.only fun k _ hb => .inr (h7 k hb)) ?_)
    · rintro k (rfl | hk)
      · exact ⟨by omega, hna⟩
      · have hb := h.block k hk
        refine ⟨hb.1, fun hf => ?_⟩
        rcases h4 _ hf with h' | h'
        · exact hb.2.1 h'
        · have := gv k hk; omega
  · refine ((((h.only.trans (Only.of_below h1 (F := fun _ => False)) (fun _ _ hf => hf.elim)).trans h3 fun k hk hf => ?_).trans h5 fun k hk hf => ?_).trans h9.only fun k hk hf => ?_)
    · rcases h.grow k hf with h' | h'
      · exact h'
      · omega
    · omega
    · have := (h.block k (h7 k hf)).1; omega
  · intro k hf
    rcases h4 k hf with h' | h'
    · exact h.grow k h'
    · exact .inr (by omega)
  · intro g hg
    rcases h9.next g hg with h' | h'
    · have hb := h.block g (h7 g h')
      refine ⟨hb.1, fun hf => ?_, hb.2.2⟩
      rcases h4 _ hf with h'' | h''
      · exact hb.2.1 h''
      · have := gv g (h7 g h'); omega
    · refine ⟨by omega, fun hf => ?_, by omega⟩
      have := V.lt _ _ _ h2 g hf
      omega
end
end Go.Proofs.YtfeodppdmbideaaGreatDoor
