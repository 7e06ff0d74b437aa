/- The way to the laws of books: TAppend to TSpineD. -/
import Derived.Test.YtfeodppdmbideaaGreatDoorBA5
import Derived.Laws.MakeOwn
namespace Go.Proofs.YtfeodppdmbideaaGreatDoor
open Go.RowKit

theorem append_tx (w : World) (t tx ty e e' : TypeId) (ht : Tryz.prog.underlying t = some (.slice e)) (hk : Tryz.prog.underlying tx = some (.slice e')) (s x : Value) :
    (Builtin.append_ #[t, tx] ty #[s, x]).run Tryz.prog w = (Builtin.append_ #[t, t] ty #[s, x]).run Tryz.prog w := by
  unfold Builtin.append_
  cases s <;> simp [run_underlying ht, run_underlying hk]
/-- append(s, x...) onto an own row, at the operation itself. -/
theorem wp_append_at {w : World} {o : Oper} {a : Act} {K : Act → World → Prop} {Q : Exit → Act → World → Prop} (s x : Operand) (t tx e' : TypeId)
    (ho : o.op = .call { callee := .builtin .append, args := #[s, x], argTypes := #[t, tx] }) (hk : Tryz.prog.underlying tx = some (.slice e')) (E : TypeId) (z : Value) (sz by_ : Nat) (hinfo : (Tryz.prog.info? E).map (fun i => (i.zero, i.size, i.bytes)) = some (some z, sz, by_))
    (hzs : z.cells.size = sz) (hsz : 0 < sz) (ht : Tryz.prog.underlying t = some (.slice E))
    (v : Value) (n m : Nat) (xs ys : List Value) (hs : a.eval s = v) (hown : w.ownsRow 0 E sz v n xs) (A : Option Addr) (c : Nat) (hx : a.eval x = .slice A m c)
    (hsl : Slice A m c) (hh : Holds w A ys) (hy : ys.length = m * sz) (hone : ∀ u ∈ ys, u.oneCell' = true) (hbig : n + m ≤ 1000000000) (hby : by_ ≤ 100000)
    (h : ∀ v' w', w'.ownsRow 0 E sz v' (n + m) (xs ++ ys) → Moves w v w' v' → K (a.put o.dst v') w') : o.wp Tryz.prog a w K Q := by
  obtain ⟨i0, hi, hz0, hz1, hz2⟩ := info_parts hinfo
  have hmul : (n + m) * by_ ≤ 140737488355328 := Nat.le_trans (Nat.mul_le_mul hbig hby) (by decide)
  cases A with
  | none =>
    obtain ⟨rfl, rfl⟩ := hsl.2.2 rfl
    have hr : ys = [] := List.eq_nil_of_length_eq_zero (by rw [hy, Nat.zero_mul])
    subst hr
    have hrun := run_append_owned_none (P := Tryz.prog) (w := w) 0 t o.type E i0 sz ht hi v n _ hown
    have hrun' := (append_tx w t tx o.type E e' ht hk v (.slice none 0 0)).trans hrun
    unfold Oper.wp execOp
    simp only [ho, resolve, invoke, builtin, Sem.run_bind, Sem.run_pure, Result.andThen_ok, List.map_toArray, List.map_cons, List.map_nil, hs, hx, hrun']
    exact h v w (by rw [List.append_nil]; exact hown) (Moves.refl _ _)
  | some ad =>
    obtain ⟨v', w', hr, h2, hg', h4, hat⟩ := run_append_own_at (P := Tryz.prog) w 0 t o.type E i0 z sz by_ ht hi hz0 hz1 hz2 hzs hsz v n _ hown ad m c ys hy (hh.news rfl) hone (by unfold maxLen; omega) hmul (Nat.zero_le _)
    have hrun' := (append_tx w t tx o.type E e' ht hk v (.slice (some ad) m c)).trans hr
    unfold Oper.wp execOp
    simp only [ho, resolve, invoke, builtin, Sem.run_bind, Sem.run_pure, Result.andThen_ok, List.map_toArray, List.map_cons, List.map_nil, hs, hx, hrun']
    refine h v' w' h2 ⟨⟨hg'.os, hg'.tape, hg'.output, hg'.size, fun k hk hn => hg'.block k hk fun e => hn e.symm⟩, fun g hg => ?_⟩
    rcases hat with e | e
    · exact .inl (e ▸ hg)
    · rw [e] at hg; cases hg; exact .inr (Nat.le_refl _)
theorem wpList_append_tx {w : World} {ops : Array Oper} {rest : List Oper} {o : Oper} {a : Act} {Q : Exit → Act → World → Prop} (hgd : o.guard = none) (s x : Operand) (t tx e' : TypeId)
    (ho : o.op = .call { callee := .builtin .append, args := #[s, x], argTypes := #[t, tx] }) (hk : Tryz.prog.underlying tx = some (.slice e')) (E : TypeId) (z : Value) (sz by_ : Nat) (hinfo : (Tryz.prog.info? E).map (fun i => (i.zero, i.size, i.bytes)) = some (some z, sz, by_))
    (hzs : z.cells.size = sz) (hsz : 0 < sz) (ht : Tryz.prog.underlying t = some (.slice E))
    (v : Value) (n m : Nat) (xs ys : List Value) (hs : a.eval s = v) (hown : w.ownsRow 0 E sz v n xs) (A : Option Addr) (c : Nat) (hx : a.eval x = .slice A m c)
    (hsl : Slice A m c) (hh : Holds w A ys) (hy : ys.length = m * sz) (hone : ∀ u ∈ ys, u.oneCell' = true) (hbig : n + m ≤ 1000000000) (hby : by_ ≤ 100000)
    (h : ∀ v' w', w'.ownsRow 0 E sz v' (n + m) (xs ++ ys) → Moves w v w' v' → wpList Tryz.prog ops Q rest (a.put o.dst v') w') : wpList Tryz.prog ops Q (o :: rest) a w :=
  wpList_plain hgd fun _ hK => wp_append_at s x t tx e' ho hk E z sz by_ hinfo hzs hsz ht v n m xs ys hs hown A c hx hsl hh hy hone hbig hby fun v' w' h1 h2 => hK _ _ (h v' w' h1 h2)
end Go.Proofs.YtfeodppdmbideaaGreatDoor
namespace Go.Proofs.YtfeodppdmbideaaGreatDoor
open Go.RowKit

theorem nodesV_append (l r : List Node3) : nodesV (l ++ r) = nodesV l ++ nodesV r := by unfold nodesV; rw [List.flatMap_append]
/-- A growing row at block g: L has been put; what is kept is v. -/
structure GrowAt (w : World) (g : Nat) (L : List Node3) (v : Value) : Prop where
  whole : Whole w g #[v, .int .i64 (L.length : Int)] 147
  own : ∃ l, w.ownsRow 0 67 3 v l.length (nodesV l) ∧ l.length ≤ 4096 ∧ (L.length ≤ 4096 → l = L)
  ne : v.ownBlock ≠ some g
/-- The blocks of a growing row. -/
def GrowF (g : Nat) (v : Value) (k : Nat) : Prop := k = g ∨ v.ownBlock = some k
theorem GrowAt.lt {w : World} {g : Nat} {L : List Node3} {v : Value} (h : GrowAt w g L v) : ∀ k, GrowF g v k → k < w.heap.size := by
  rintro k (rfl | hk)
  · exact h.whole.lt
  · obtain ⟨l, ho, _⟩ := h.own
    exact (World.ownsRow.lt ho k hk).2
theorem own_only {w w' : World} {F : Nat → Prop} {B e sz n : Nat} {v : Value} {xs : List Value} (h : w.ownsRow B e sz v n xs) (ho : Only F w w') (hF : ∀ k, v.ownBlock = some k → ¬ F k) : w'.ownsRow B e sz v n xs := by
  refine ⟨h.1, h.2.imp id ?_⟩
  rintro ⟨g, cap, cur, rfl, hB, hg, hr⟩
  exact ⟨g, cap, cur, rfl, hB, (ho.block g (World.ownsRow.lt h _ rfl).2 (hF _ rfl)).trans hg, hr⟩
theorem GrowAt.only {w w' : World} {F : Nat → Prop} {g : Nat} {L : List Node3} {v : Value} (h : GrowAt w g L v) (ho : Only F w w') (hF : ∀ k, GrowF g v k → ¬ F k) : GrowAt w' g L v := by
  obtain ⟨l, hl, h1⟩ := h.own
  exact ⟨h.whole.only ho (hF g (.inl rfl)), ⟨l, own_only hl ho fun k hk => hF k (.inr hk), h1⟩, h.ne⟩
set_option maxHeartbeats 1000000 in
theorem fits_any (g N more : Nat) (v : Value) (w : World) (hw : Whole w g #[v, .int .i64 (N : Int)] 147) (hb : N + more ≤ 1000000000) :
    Calls Tryz.prog 134 #[.pointer (some ⟨g, 0, none⟩), .int .i64 (more : Int)] w fun e w' => e = .returned (.bool (decide (N + more ≤ 4096))) ∧ w' = w.setCell ⟨g, 1, none⟩ (.int .i64 ((N : Int) + (more : Int))) := by
  have c1 := hw.cell 1
  have f1 := hw.frozen 1
  replace c1 : w.cell? ⟨g, 1, none⟩ = some (.int .i64 (N : Int)) := c1
  clear hw
  by_cases h : N + more ≤ 4096
  · have h1 : (N : Int) + (more : Int) ≤ 4096 := by omega
    rw [decide_eq_true h]
    go_enter Tryz.func134, Tryz.ntmps134
    go_wp2_with fail
    go_ret
    exact ⟨rfl, rfl⟩
  · have h1 : ¬ (N : Int) + (more : Int) ≤ 4096 := by omega
    rw [decide_eq_false h]
    go_enter Tryz.func134, Tryz.ntmps134
    go_wp2_with fail
    go_ret
    exact ⟨rfl, rfl⟩
/-- What puts answer. -/
def PutPost (g : Nat) (L : List Node3) (v : Value) (w : World) (e : Ending) (w' : World) : Prop :=
  e = .returned (.tuple #[]) ∧ ∃ v', GrowAt w' g L v' ∧ Only (GrowF g v) w w' ∧ ∀ k, GrowF g v' k → GrowF g v k ∨ w.heap.size ≤ k
theorem put_full {w : World} {g m : Nat} {L r : List Node3} {v : Value} (h : GrowAt w g L v) (hm : r.length = m) (hf : ¬ L.length + m ≤ 4096) :
    PutPost g (L ++ r) v w (.returned (.tuple #[])) (w.setCell ⟨g, 1, none⟩ (.int .i64 ((L.length : Int) + (m : Int)))) := by
  have ho : Only (fun k => k = g) w (w.setCell ⟨g, 1, none⟩ (.int .i64 ((L.length : Int) + (m : Int)))) := (Only.refl (fun k => k = g) w).set_ (.inl rfl) 1 _
  obtain ⟨l, hl, h1, h2⟩ := h.own
  refine ⟨rfl, v, ⟨?_, ⟨l, own_only hl ho fun k hk e => h.ne (e ▸ hk), h1, fun hh => ?_⟩, h.ne⟩, ho.mono fun k e => .inl e, fun _ h => .inl h⟩
  · have := h.whole.set_ 1 (.int .i64 ((L.length : Int) + (m : Int)))
    rw [List.length_append, hm]
    exact_mod_cast this
  · rw [List.length_append] at hh; omega
theorem put_room {w w1 w2 : World} {g m : Nat} {L r : List Node3} {v v' : Value} (h : GrowAt w g L v) (hm : r.length = m) (hf : L.length + m ≤ 4096) (h1 : Below w.heap.size (w.setCell ⟨g, 1, none⟩ (.int .i64 ((L.length : Int) + (m : Int)))) w1)
    (hown : w2.ownsRow 0 67 3 v' (L.length + m) (nodesV (L ++ r))) (hmv : Moves w1 v w2 v') :
    PutPost g (L ++ r) v w (.returned (.tuple #[])) (w2.setCell ⟨g, 0, none⟩ v') := by
  have hg := h.whole.lt
  have hs1 := h1.size
  simp only [World.setCell, Array.size_modify] at hs1
  have hs2 := hmv.only.size
  have ho : Only (fun k => k = g) w (w.setCell ⟨g, 1, none⟩ (.int .i64 ((L.length : Int) + (m : Int)))) := (Only.refl (fun k => k = g) w).set_ (.inl rfl) 1 _
  have hlt : ∀ k, v.ownBlock = some k → k < w.heap.size := fun k hk => h.lt k (.inr hk)
  have ho1 : Only (GrowF g v) w w1 := (ho.mono fun k e => .inl e).trans (F2 := fun _ => False) ⟨h1.os, h1.tape, h1.output, by simpa [World.setCell] using hs1, fun k hk _ => h1.block k (by simpa [World.setCell] using hk)⟩ fun _ _ h => h.elim
  have ho2 : Only (GrowF g v) w w2 := ho1.trans hmv.only fun k _ e => .inr e
  have hw1 : Whole w1 g #[v, .int .i64 ((L.length : Int) + (m : Int))] 147 := (h.whole.set_ 1 (.int .i64 ((L.length : Int) + (m : Int)))).keep (h1.block g hg)
  have hw2 := hw1.only hmv.only h.ne
  have hv' : ∀ k, v'.ownBlock = some k → v.ownBlock = some k ∨ w.heap.size ≤ k := fun k hk => (hmv.next k hk).imp id fun h => by omega
  have hne : v'.ownBlock ≠ some g := fun e => by
    rcases hv' g e with h' | h'
    · exact h.ne h'
    · omega
  have ho3 : Only (fun k => k = g) w2 (w2.setCell ⟨g, 0, none⟩ v') := (Only.refl (fun k => k = g) w2).set_ (.inl rfl) 0 _
  refine ⟨rfl, v', ⟨?_, ⟨L ++ r, ?_, by rw [List.length_append, hm]; exact hf, fun _ => rfl⟩, hne⟩, ho2.trans ho3 fun k _ e => .inl e, ?_⟩
  · have := hw2.set_ 0 v'
    rw [List.length_append, hm]
    exact_mod_cast this
  · rw [List.length_append, hm]
    exact own_only hown ho3 fun k hk e => hne (e ▸ hk)
  · rintro k (rfl | hk)
    · exact .inl (.inl rfl)
    · exact (hv' k hk).imp .inr id
set_option maxHeartbeats 2000000 in
theorem put_any (g : Nat) (L r : List Node3) (v : Value) (A : Option Addr) (m c : Nat) (w : World) (h : GrowAt w g L v) (hm : r.length = m) (hs : Slice A m c) (hA : Holds w A (nodesV r)) (hg : ∀ b o, A = some ⟨b, o, none⟩ → b ≠ g) (hb : L.length + m ≤ 1000000000) :
    Calls Tryz.prog 93 #[.pointer (some ⟨g, 0, none⟩), .slice A m c] w (PutPost g (L ++ r) v w) := by
  have HFI := Lib.hid (fits_any g L.length m v w h.whole hb)
  by_cases hf : L.length + m ≤ 4096
  · have PR := Lib.hid fun w2 v' => put_room (w2 := w2) (v' := v') h hm hf (Below.refl _ _)
    obtain ⟨l, hl, h1, h2⟩ := h.own
    obtain rfl := h2 (by omega)
    have ho : Only (fun k => k = g) w (w.setCell ⟨g, 1, none⟩ (.int .i64 ((l.length : Int) + (m : Int)))) := (Only.refl (fun k => k = g) w).set_ (.inl rfl) 1 _
    have hw1 := h.whole.set_ 1 (.int .i64 ((l.length : Int) + (m : Int)))
    have hl1 := own_only hl ho fun k hk e => h.ne (e ▸ hk)
    have hA1 := hA.only ho hg
    have c0 := hw1.cell 0
    replace c0 : (w.setCell ⟨g, 1, none⟩ (.int .i64 ((l.length : Int) + (m : Int)))).cell? ⟨g, 0, none⟩ = some v := c0
    rw [decide_eq_true hf] at HFI
    have HX := Lib.hid hw1
    have HL := Lib.hid hl1
    have HAA := Lib.hid hA1
    have HM := Lib.hid hm
    have HNE := Lib.hid h.ne
    have hll : l.length + m ≤ 1000000000 := hb
    have HGG := Lib.hid h
    clear hw1 hl1 hA1 hA hl h hm ho h2
    go_enter Tryz.func93, Tryz.ntmps93
    go_wp2_with fail
    refine (HFI.out).mono ?_
    rintro e w1 ⟨rfl, rfl⟩
    generalize hW1 : w.setCell ⟨g, 1, none⟩ (.int .i64 ((l.length : Int) + (m : Int))) = W1 at *
    go_wp2_with (at_builtin; go_must (refine wpList_append_tx rfl (.tmp 12) (.tmp 13) _ _ _ rfl Tryz.underlying27 67 _ 3 24 infoNode rfl (by decide) Tryz.underlying28 v l.length m _ (nodesV r) rfl HL.out A c rfl hs HAA.out (by rw [nodesV_len, HM.out]) nodesV_one hll (by decide) ?_); intro v' w2 hown' hmv'; obtain ⟨A', c', rfl, -, -⟩ := own_slice hown'; have c02 : w2.cell? ⟨g, 0, none⟩ = some v := (HX.out.only hmv'.only HNE.out).cell 0; have f02 : w2.frozen? ⟨g, 0, none⟩ = false := (HX.out.only hmv'.only HNE.out).frozen 0; have HO' := Lib.hid hown'; have HM' := Lib.hid hmv'; clear hown' hmv')
    go_end0
    exact PR.out w2 _ (by rw [nodesV_append]; exact HO'.out) HM'.out
  · rw [decide_eq_false hf] at HFI
    have HP := Lib.hid (put_full h hm hf)
    clear h hm hs hA hg hf hb
    go_enter Tryz.func93, Tryz.ntmps93
    go_wp2_with fail
    refine (HFI.out).mono ?_
    rintro e w1 ⟨rfl, rfl⟩
    go_wp2_with fail
    go_end0
    exact HP.out
/-- What row answers. -/
def GRowPost (L : List Node3) (v : Value) (w : World) (e : Ending) (w' : World) : Prop :=
  w = w' ∧ ((4096 < L.length ∧ e = .returned (.tuple #[.slice none 0 0, .int .i64 9])) ∨ (L.length ≤ 4096 ∧ e = .returned (.tuple #[v, .int .i64 0])))
set_option maxHeartbeats 1000000 in
theorem grow_row (g : Nat) (L : List Node3) (v : Value) (w : World) (h : GrowAt w g L v) :
    Calls Tryz.prog 94 #[.pointer (some ⟨g, 0, none⟩)] w (GRowPost L v w) := by
  obtain ⟨l, hl, -, -⟩ := h.own
  obtain ⟨A', c', rfl, -, -⟩ := own_slice hl
  have c0 : w.cell? ⟨g, 0, none⟩ = some (.slice A' l.length c') := h.whole.cell 0
  have c1 : w.cell? ⟨g, 1, none⟩ = some (.int .i64 (L.length : Int)) := h.whole.cell 1
  clear h hl
  by_cases h1 : 4096 < L.length
  · have h2 : (4096 : Int) < (L.length : Int) := by omega
    go_enter Tryz.func94, Tryz.ntmps94
    go_wp2_with fail
    go_ret2
    exact ⟨rfl, .inl ⟨h1, rfl⟩⟩
  · have h2 : ¬ (4096 : Int) < (L.length : Int) := by omega
    go_enter Tryz.func94, Tryz.ntmps94
    go_wp2_with fail
    go_ret2
    exact ⟨rfl, .inr ⟨by omega, rfl⟩⟩
end Go.Proofs.YtfeodppdmbideaaGreatDoor
namespace Go.Proofs.YtfeodppdmbideaaGreatDoor
open Go.RowKit

theorem PutPost.start {g : Nat} {L : List Node3} {v : Value} {W w1 w' : World} {e : Ending} (hb : Below W.heap.size W w1) (_hlt : ∀ k, GrowF g v k → k < W.heap.size) (h : PutPost g L v w1 e w') : PutPost g L v W e w' := by
  obtain ⟨he, v', h1, h2, h3⟩ := h
  exact ⟨he, v', h1, (Only.of_below hb).trans h2 (fun _ _ h => h), fun k hk => (h3 k hk).imp id fun h => Nat.le_trans hb.size h⟩
theorem GrowAt.below {w w' : World} {g : Nat} {L : List Node3} {v : Value} (h : GrowAt w g L v) (hb : Below w.heap.size w w') : GrowAt w' g L v := h.only (F := fun _ => False) (Only.of_below hb) fun _ _ h => h
end Go.Proofs.YtfeodppdmbideaaGreatDoor
namespace Go.Proofs.YtfeodppdmbideaaGreatDoor
open Go.RowKit

theorem RowAns.row {r : List Node3} {w w1 : World} {A : Option Addr} {n c : Nat} (hl : r.length = n) (h : OwnN w1 w.heap.size (.slice A n c) n r) (hb : Below w.heap.size w w1) : RowAns (r, 0) w (.returned (.tuple #[.slice A n c, .int .i64 0])) w1 := ⟨A, n, c, rfl, hl, h, hb⟩
end Go.Proofs.YtfeodppdmbideaaGreatDoor
namespace Go.Proofs.YtfeodppdmbideaaGreatDoor
open Go.RowKit

/-- Atoms are asked for ahead of all else, or not at all. -/
def Good (todo : List Part) : Prop := ∃ m k rest, todo = List.replicate m ⟨3, k⟩ ++ rest ∧ NoAt rest
theorem NoAt.good {todo : List Part} (h : NoAt todo) : Good todo := ⟨0, 0, todo, rfl, h⟩
theorem fixParts_no (k b m : Nat) : NoAt (fixParts k b m) := by
  induction m with
  | zero => intro p hp; cases hp
  | succ m ih =>
    intro p hp
    simp only [fixParts, List.mem_cons] at hp
    rcases hp with rfl | rfl | rfl | hp
    · simp
    · simp
    · simp
    · exact ih p hp
theorem follow_no {n : Node3} {k : Nat} (h : n.1 ≠ 2) : NoAt (follow n k) := by
  intro p hp
  unfold follow at hp
  rw [if_neg h] at hp
  split at hp
  · simp only [List.mem_cons, List.not_mem_nil, or_false] at hp; rcases hp with rfl | rfl <;> simp
  split at hp
  · simp only [List.mem_cons, List.not_mem_nil, or_false] at hp; rcases hp with rfl | rfl <;> simp
  split at hp
  · simp only [List.mem_cons, List.not_mem_nil, or_false] at hp; rcases hp with rfl | rfl | rfl <;> simp
  split at hp
  · rw [(List.mem_replicate.1 hp).2]; simp
  split at hp
  · exact fixParts_no _ _ _ p hp
  · cases hp
theorem begB_op {op : Int} {n h : Node3} (hb : begB op n h = true) : (n.1 = 3 ∧ op = 3) ∨ (n.1 = 13 ∧ op = 13) ∨ (n.1 ≠ 3 ∧ n.1 ≠ 13 ∧ op = 0) := by
  unfold begB at hb
  simp only [Bool.and_eq_true] at hb
  have h2 := hb.2
  split at h2
  · rename_i h3
    simp only [Bool.and_eq_true, decide_eq_true_eq] at h2
    exact .inl ⟨h3, h2.1⟩
  split at h2
  · rename_i h3 h13
    exact .inr (.inl ⟨h13, of_decide_eq_true h2⟩)
  · rename_i h3 h13
    exact .inr (.inr ⟨h3, h13, of_decide_eq_true h2⟩)
theorem Good.tail {p : Part} {todo : List Part} (h : Good (p :: todo)) (hp : p.op ≠ 3) : NoAt todo := by
  obtain ⟨m, k, rest, e, hn⟩ := h
  cases m with
  | zero =>
    simp only [List.replicate_zero, List.nil_append] at e
    subst e
    exact fun q hq => hn q (List.mem_cons_of_mem _ hq)
  | succ m =>
    rw [List.replicate_succ, List.cons_append] at e
    cases e
    exact absurd rfl hp
theorem Good.next {p : Part} {todo : List Part} {n h : Node3} (hg : Good (p :: todo)) (hb : begB p.op n h = true) : Good (follow n p.k ++ todo) := by
  rcases begB_op hb with ⟨h1, h2⟩ | ⟨h1, h2⟩ | ⟨h1, h2, h3⟩
  · have e : follow n p.k = [] := follow_none (by omega)
    rw [e, List.nil_append]
    obtain ⟨m, k, rest, e, hn⟩ := hg
    cases m with
    | zero =>
      simp only [List.replicate_zero, List.nil_append] at e
      subst e
      exact NoAt.good fun q hq => hn q (List.mem_cons_of_mem _ hq)
    | succ m =>
      rw [List.replicate_succ, List.cons_append] at e
      cases e
      exact ⟨m, k, rest, rfl, hn⟩
  · have hn := hg.tail (by omega)
    refine NoAt.good fun q hq => ?_
    rcases List.mem_append.1 hq with hq | hq
    · exact follow_no (by omega) q hq
    · exact hn q hq
  · have hn := hg.tail (by omega)
    by_cases h4 : n.1 = 2
    · refine ⟨n.2.2.toNat, p.k, todo, ?_, hn⟩
      unfold follow
      rw [if_pos h4]
    · refine NoAt.good fun q hq => ?_
      rcases List.mem_append.1 hq with hq | hq
      · exact follow_no h4 q hq
      · exact hn q hq
end Go.Proofs.YtfeodppdmbideaaGreatDoor
namespace Go.Proofs.YtfeodppdmbideaaGreatDoor
open Go.RowKit

/-- The row's nodes with how many binders are around each: the row is one term. -/
def IsAnn (t : List Node3) (a : Ann) : Prop := ∃ e, W t (0, 0, 0) [⟨0, 0⟩] = some (a, [], e)
theorem IsAnn.row {t : List Node3} {a : Ann} (h : IsAnn t a) : t = a.map Prod.fst := by
  obtain ⟨e, h⟩ := h
  have := (W_row _ _ _ _ _ _ h).1
  rwa [List.append_nil] at this
theorem IsAnn.len {t : List Node3} {a : Ann} (h : IsAnn t a) : a.length = t.length := by rw [h.row, List.length_map]
theorem IsAnn.ok {t : List Node3} {a : Ann} (h : IsAnn t a) : ∀ x ∈ a, holdsN x.1 := by obtain ⟨e, h⟩ := h; exact W_holds _ _ _ _ _ _ h
theorem IsAnn.pos {t : List Node3} {a : Ann} (h : IsAnn t a) : 0 < a.length := by
  obtain ⟨e, h⟩ := h
  have := (W_row _ _ _ _ _ _ h).2
  simp only [List.length_cons, List.length_nil] at this
  omega
theorem ann_of {t : List Node3} (h : shapeOf t = 0) : IsAnn t (annOf t) ∧ t.length ≤ 4096 := by
  obtain ⟨h1, _, e, h3⟩ := right_of h
  exact ⟨⟨e, h3⟩, h1⟩
end Go.Proofs.YtfeodppdmbideaaGreatDoor
namespace Go.Proofs.YtfeodppdmbideaaGreatDoor
open Go.RowKit

/-- How many binders a node lays around its kid. -/
def aroundN (n : Node3) (i : Nat) : Nat := if ((n.1 = 4 ∨ n.1 = 5) ∧ i = 1) ∨ (n.1 = 7 ∧ i = 2) then 1 else if n.1 = 12 ∧ i % 2 = 1 then n.2.2.toNat else 0
/-- The nodes of a tree's kids, from one on. -/
def funA (n : Node3) (fs : List Node3) (i : Nat) : Ann := if n.1 = 12 ∧ i % 2 = 0 then [(fs.getD (i / 2) (0, 0, 0), 0)] else []
def kidsA (n : Node3) (fs : List Node3) : Nat → List Ann → Ann
  | _, [] => []
  | i, k :: ks => funA n fs i ++ (shA (aroundN n i) k ++ kidsA n fs (i + 1) ks)
/-- A tree's row. -/
def treeA (n : Node3) (ats fs : List Node3) (ks : List Ann) : Ann := (n, 0) :: (ats.map (fun x => (x, 0)) ++ kidsA n fs 0 ks)
end Go.Proofs.YtfeodppdmbideaaGreatDoor
namespace Go.Proofs.YtfeodppdmbideaaGreatDoor
open Go.RowKit

/-- A tree's value: its node, and where its kids, atoms and functions lie. -/
structure TV where
  n : Node3
  K : Option Addr
  nk : Nat
  ck : Nat
  A : Option Addr
  na : Nat
  ca : Nat
  F : Option Addr
  nf : Nat
  cf : Nat
def TV.cells (v : TV) : List Value := [.int .i64 v.n.1, .int .i64 v.n.2.1, .int .i64 v.n.2.2, .slice v.K v.nk v.ck, .slice v.A v.na v.ca, .slice v.F v.nf v.cf]
abbrev TV.val (v : TV) : Value := .agg #[.int .i64 v.n.1, .int .i64 v.n.2.1, .int .i64 v.n.2.2, .slice v.K v.nk v.ck, .slice v.A v.na v.ca, .slice v.F v.nf v.cf]
def TV.zero : TV := ⟨(0, 0, 0), none, 0, 0, none, 0, 0, none, 0, 0⟩
def treesV (l : List TV) : List Value := l.flatMap TV.cells
/-- A row in memory that lies in blocks of G. -/
def HoldsG (w : World) (G : Nat → Prop) (A : Option Addr) (vs : List Value) : Prop := Holds w A vs ∧ ∀ b o, A = some ⟨b, o, none⟩ → 0 < vs.length → G b
theorem HoldsG.keep {w w' : World} {G : Nat → Prop} {A : Option Addr} {vs : List Value} (h : HoldsG w G A vs) (hk : ∀ k, G k → k < w.heap.size → w'.heap[k]? = w.heap[k]?) : HoldsG w' G A vs :=
  ⟨fun hn => by
    obtain ⟨b, o, e, hb, hc⟩ := h.1.at_ hn
    exact ⟨b, o, e, fun j u hu => (World.cell?_of_block (hk b (h.2 b o e hn) hb)).trans (hc j u hu)⟩, h.2⟩
theorem HoldsG.mono {w : World} {G G' : Nat → Prop} {A : Option Addr} {vs : List Value} (h : HoldsG w G A vs) (hG : ∀ k, G k → k < w.heap.size → G' k) : HoldsG w G' A vs :=
  ⟨h.1, fun b o e hn => by
    obtain ⟨b', o', e', hb, _⟩ := h.1.at_ hn
    rw [e] at e'; cases e'
    exact hG b (h.2 b o e hn) hb⟩
/-- What is always so of a tree's parts. -/
structure Sound (v : TV) (ks ats fs : Nat) : Prop where
  nk : v.nk = ks
  na : v.na = ats
  nf : v.nf = fs
  sk : Slice v.K v.nk v.ck
  sa : Slice v.A v.na v.ca
  sf : Slice v.F v.nf v.cf
  var : v.n.1 = 1 → ks = 0 ∧ ats = 0 ∧ v.n.2.2 = 0
  fix : v.n.1 = 12 → 0 ≤ v.n.2.2 ∧ v.n.2.2 ≤ 4 ∧ ks ≤ 2 * fs
/-- The tree stands in memory, in blocks of G, for this row; of each node's parts R holds. -/
inductive TreeP (R : Node3 → List Node3 → List Node3 → List Ann → Prop) (w : World) (G : Nat → Prop) : TV → Ann → Prop
  | mk (v : TV) (ks : List (TV × Ann)) (ats fs : List Node3) (hs : Sound v ks.length ats.length fs.length) (hK : HoldsG w G v.K (treesV (ks.map Prod.fst))) (hA : HoldsG w G v.A (nodesV ats)) (hF : HoldsG w G v.F (nodesV fs)) (hv : ∀ x, x ∈ ats ∨ x ∈ fs → x.1 ≠ 1)
    (sub : ∀ p, p ∈ ks → TreeP R w G p.1 p.2) (hR : R v.n ats fs (ks.map Prod.snd)) : TreeP R w G v (treeA v.n ats fs (ks.map Prod.snd))
abbrev TreeAt := TreeP fun _ _ _ _ => True
theorem TreeAt.mk {w : World} {G : Nat → Prop} (v : TV) (ks : List (TV × Ann)) (ats fs : List Node3) (hs : Sound v ks.length ats.length fs.length) (hK : HoldsG w G v.K (treesV (ks.map Prod.fst))) (hA : HoldsG w G v.A (nodesV ats)) (hF : HoldsG w G v.F (nodesV fs)) (hv : ∀ x, x ∈ ats ∨ x ∈ fs → x.1 ≠ 1)
    (sub : ∀ p, p ∈ ks → TreeAt w G p.1 p.2) : TreeAt w G v (treeA v.n ats fs (ks.map Prod.snd)) := TreeP.mk v ks ats fs hs hK hA hF hv sub trivial
section
variable {R : Node3 → List Node3 → List Node3 → List Ann → Prop} {w w' : World} {G G' : Nat → Prop} {v : TV} {a : Ann}
theorem TreeP.keep (h : TreeP R w G v a) (hk : ∀ k, G k → k < w.heap.size → w'.heap[k]? = w.heap[k]?) : TreeP R w' G v a := by
  induction h with
  | mk v ks ats fs hs hK hA hF hv _ hR ih => exact .mk v ks ats fs hs (hK.keep hk) (hA.keep hk) (hF.keep hk) hv ih hR
theorem TreeP.mono (h : TreeP R w G v a) (hG : ∀ k, G k → k < w.heap.size → G' k) : TreeP R w G' v a := by
  induction h with
  | mk v ks ats fs hs hK hA hF hv _ hR ih => exact .mk v ks ats fs hs (hK.mono hG) (hA.mono hG) (hF.mono hG) hv ih hR
theorem TreeP.next (h : TreeP R w G v a) (hb : Below w.heap.size w w') : TreeP R w' G v a := h.keep fun k _ hk => hb.block k hk
end
theorem TreeAt.keep {w w' : World} {G : Nat → Prop} {v : TV} {a : Ann} (h : TreeAt w G v a) (hk : ∀ k, G k → k < w.heap.size → w'.heap[k]? = w.heap[k]?) : TreeAt w' G v a := TreeP.keep h hk
theorem TreeAt.mono {w : World} {G G' : Nat → Prop} {v : TV} {a : Ann} (h : TreeAt w G v a) (hG : ∀ k, G k → k < w.heap.size → G' k) : TreeAt w G' v a := TreeP.mono h hG
theorem TreeAt.next {w w' : World} {G : Nat → Prop} {v : TV} {a : Ann} (h : TreeAt w G v a) (hb : Below w.heap.size w w') : TreeAt w' G v a := TreeP.next h hb
end Go.Proofs.YtfeodppdmbideaaGreatDoor
namespace Go.Proofs.YtfeodppdmbideaaGreatDoor
open Go.RowKit

theorem kidsA_in {n : Node3} {fs : List Node3} : ∀ (ks : List Ann) (i : Nat) (k : Ann), k ∈ ks → ∀ x ∈ k, ∃ d, (x.1, x.2 + d) ∈ kidsA n fs i ks
  | [], _, _, h, _, _ => by cases h
  | y :: ks, i, k, h, x, hx => by
    unfold kidsA
    rcases List.mem_cons.1 h with rfl | h
    · exact ⟨aroundN n i, List.mem_append_right _ (List.mem_append_left _ (List.mem_map.2 ⟨x, hx, rfl⟩))⟩
    · obtain ⟨d, hd⟩ := kidsA_in (n := n) (fs := fs) ks (i + 1) k h x hx
      exact ⟨d, List.mem_append_right _ (List.mem_append_right _ hd)⟩
theorem treeA_in {n : Node3} {ats fs : List Node3} {ks : List Ann} {k : Ann} (h : k ∈ ks) {x : Node3 × Nat} (hx : x ∈ k) : ∃ d, (x.1, x.2 + d) ∈ treeA n ats fs ks := by
  obtain ⟨d, hd⟩ := kidsA_in (n := n) (fs := fs) ks 0 k h x hx
  exact ⟨d, List.mem_cons_of_mem _ (List.mem_append_right _ hd)⟩
/-- The numbers of a row are small. -/
def SmallA (a : Ann) : Prop := ∀ x ∈ a, 0 ≤ x.1.2.1 ∧ x.1.2.1 ≤ 4000000000
theorem SmallA.kid {n : Node3} {ats fs : List Node3} {ks : List Ann} {k : Ann} (h : SmallA (treeA n ats fs ks)) (hk : k ∈ ks) : SmallA k := fun x hx => by
  obtain ⟨d, hd⟩ := treeA_in (n := n) (ats := ats) (fs := fs) hk hx
  exact h (x.1, x.2 + d) hd
theorem SmallA.top {n : Node3} {ats fs : List Node3} {ks : List Ann} (h : SmallA (treeA n ats fs ks)) : 0 ≤ n.2.1 ∧ n.2.1 ≤ 4000000000 := h (n, 0) (by unfold treeA; simp)
theorem TreeAt.pos {w : World} {G : Nat → Prop} {v : TV} {a : Ann} (h : TreeAt w G v a) : 0 < a.length := by
  cases h with
  | mk v ks ats fs hs hK hA hF hv sub => simp [treeA]
/-- The greatest of what f finds, under so many binders. -/
def top (f : Node3 → Nat → Int) (u : Nat) (a : Ann) : Int := a.foldr (fun x m => max (f x.1 (x.2 + u)) m) (-1)
/-- The greatest free variable, under so many binders. -/
def gr (u : Nat) (a : Ann) : Int := top freeN u a
/-- The greatest index, once the variables from one on are raised. -/
def hiF (by_ : Nat) (n : Node3) (k : Nat) : Int := if n.1 = 1 ∧ (k : Int) ≤ n.2.1 then n.2.1 + by_ else -1
def hi (by_ u : Nat) (a : Ann) : Int := top (hiF by_) u a
end Go.Proofs.YtfeodppdmbideaaGreatDoor
namespace Go.Proofs.YtfeodppdmbideaaGreatDoor
open Go.RowKit

/-- No node stands under more binders. -/
def DeepA (K : Nat) (a : Ann) : Prop := ∀ x ∈ a, x.2 ≤ K
theorem DeepA.kid {K : Nat} {n : Node3} {ats fs : List Node3} {ks : List Ann} {k : Ann} (h : DeepA K (treeA n ats fs ks)) (hk : k ∈ ks) : DeepA K k := fun x hx => by
  obtain ⟨d, hd⟩ := treeA_in (n := n) (ats := ats) (fs := fs) hk hx
  have := h (x.1, x.2 + d) hd
  simp only at this
  omega
end Go.Proofs.YtfeodppdmbideaaGreatDoor
namespace Go.Proofs.YtfeodppdmbideaaGreatDoor
open Go.RowKit

/-- Node by node, by the number of binders around. -/
def each (φ : Node3 → Nat → Ann) (u : Nat) (a : Ann) : Ann := a.flatMap fun x => shA x.2 (φ x.1 (x.2 + u))
end Go.Proofs.YtfeodppdmbideaaGreatDoor
namespace Go.Proofs.YtfeodppdmbideaaGreatDoor
open Go.RowKit

/-- What these parts take of a row, and what is left. -/
def V (r : List Node3) (h : Node3) (todo : List Part) : Option (Ann × List Node3) := (W r h todo).map fun x => (x.1, x.2.1)
/-- What a term's beginning takes. -/
def top0 (t : List Node3) : Option (Ann × List Node3) := V t (0, 0, 0) [⟨0, 0⟩]
theorem top0_row {t : List Node3} {a : Ann} {s : List Node3} (h : top0 t = some (a, s)) : t = a.map Prod.fst ++ s ∧ 1 ≤ a.length := by
  unfold top0 V at h
  cases hw : W t (0, 0, 0) [⟨0, 0⟩] with
  | none => rw [hw] at h; cases h
  | some x =>
    rw [hw] at h
    obtain ⟨a', s', e⟩ := x
    cases h
    exact W_row _ _ _ _ _ _ hw
/-- One term, as these nodes tell. -/
def isT (a : Ann) : Prop := top0 (a.map Prod.fst) = some (a, [])
theorem isT.more {a : Ann} (h : isT a) (s : List Node3) : top0 (a.map Prod.fst ++ s) = some (a, s) := by
  unfold isT top0 V at h
  cases hw : W (a.map Prod.fst) (0, 0, 0) [⟨0, 0⟩] with
  | none => rw [hw] at h; cases h
  | some x =>
    obtain ⟨a', s', e⟩ := x
    rw [hw] at h
    cases h
    have := W_trim _ _ _ s _ _ _ hw
    unfold top0 V
    rw [this]
    rfl
end Go.Proofs.YtfeodppdmbideaaGreatDoor
namespace Go.Proofs.YtfeodppdmbideaaGreatDoor
open Go.RowKit

/-- A row that is one term. -/
def RowT1 (x : List Node3) : Prop := ∃ a, isT a ∧ a.map Prod.fst = x
theorem RowT1.top {x : List Node3} (h : RowT1 x) (s : List Node3) : ∃ a, top0 (x ++ s) = some (a, s) ∧ a.map Prod.fst = x := by
  obtain ⟨a, h1, rfl⟩ := h
  exact ⟨a, h1.more s, rfl⟩
theorem RowT1.same {x y s r : List Node3} (hx : RowT1 x) (hy : RowT1 y) (h : x ++ s = y ++ r) : x = y ∧ s = r := by
  obtain ⟨a, h1, ha⟩ := hx.top s
  obtain ⟨b, h2, hb⟩ := hy.top r
  rw [h, h2] at h1
  cases h1
  exact ⟨ha.symm.trans hb, rfl⟩
theorem RowT1.pos {x : List Node3} (h : RowT1 x) : 0 < x.length := by
  obtain ⟨a, h1, rfl⟩ := h
  have := (top0_row h1).2
  rw [List.length_map]
  omega
/-- The row's spine. -/
structure SpineOk (t f : List Node3) (args : List (List Node3)) : Prop where
  row : t = List.replicate args.length (6, 0, 0) ++ (f ++ args.flatten)
  fn : RowT1 f
  kids : ∀ x ∈ args, RowT1 x
  head : ∀ n, f[0]? = some n → n.1 ≠ 6
theorem flat_same : ∀ {l m : List (List Node3)}, (∀ x ∈ l, RowT1 x) → (∀ x ∈ m, RowT1 x) → l.flatten = m.flatten → l = m
  | [], [], _, _, _ => rfl
  | [], y :: m, _, hm, h => by
    have := (hm y (by simp)).pos
    have h2 := congrArg List.length h
    simp only [List.flatten_nil, List.length_nil, List.flatten_cons, List.length_append] at h2
    omega
  | x :: l, [], hl, _, h => by
    have := (hl x (by simp)).pos
    have h2 := congrArg List.length h
    simp only [List.flatten_nil, List.length_nil, List.flatten_cons, List.length_append] at h2
    omega
  | x :: l, y :: m, hl, hm, h => by
    rw [List.flatten_cons, List.flatten_cons] at h
    obtain ⟨rfl, h2⟩ := (hl x (by simp)).same (hm y (by simp)) h
    rw [flat_same (fun z hz => hl z (by simp [hz])) (fun z hz => hm z (by simp [hz])) h2]
theorem lead_same : ∀ {k j : Nat} {r s : List Node3}, List.replicate k ((6, 0, 0) : Node3) ++ r = List.replicate j (6, 0, 0) ++ s → (∀ n, r[0]? = some n → n.1 ≠ 6) → (∀ n, s[0]? = some n → n.1 ≠ 6) → k = j ∧ r = s
  | 0, 0, _, _, h, _, _ => ⟨rfl, by simpa using h⟩
  | 0, j + 1, r, s, h, hr, _ => by
    rw [List.replicate_succ] at h
    simp only [List.replicate_zero, List.nil_append, List.cons_append] at h
    subst h
    exact absurd rfl (hr (6, 0, 0) rfl)
  | k + 1, 0, r, s, h, _, hs => by
    rw [List.replicate_succ] at h
    simp only [List.replicate_zero, List.nil_append, List.cons_append] at h
    subst h
    exact absurd rfl (hs (6, 0, 0) rfl)
  | k + 1, j + 1, r, s, h, hr, hs => by
    rw [List.replicate_succ, List.replicate_succ, List.cons_append, List.cons_append, List.cons.injEq] at h
    obtain ⟨h1, h2⟩ := lead_same h.2 hr hs
    exact ⟨by rw [h1], h2⟩
theorem SpineOk.headr {t f : List Node3} {args : List (List Node3)} (h : SpineOk t f args) : ∀ n, (f ++ args.flatten)[0]? = some n → n.1 ≠ 6 := fun n hn => by
  rw [List.getElem?_append_left h.fn.pos] at hn
  exact h.head n hn
theorem SpineOk.same {t f g : List Node3} {l m : List (List Node3)} (h : SpineOk t f l) (k : SpineOk t g m) : f = g ∧ l = m := by
  obtain ⟨-, h2⟩ := lead_same (h.row.symm.trans k.row) h.headr k.headr
  obtain ⟨h3, h4⟩ := h.fn.same k.fn h2
  exact ⟨h3, flat_same h.kids k.kids h4⟩
end Go.Proofs.YtfeodppdmbideaaGreatDoor
namespace Go.Proofs.YtfeodppdmbideaaGreatDoor
open Go.RowKit

theorem infoRowT : (Tryz.prog.info? 28).map (fun i => (i.zero, i.size, i.bytes)) = some (some (.slice none 0 0), 1, 24) := by kernel_rfl
def mkRows (n : Nat) : Array Value := madeCells #[.slice none 0 0] n
theorem mkRows_eq (n : Nat) : mkRows n = (List.replicate n (Value.slice none 0 0)).toArray := by
  unfold mkRows madeCells
  apply Array.ext
  · simp
  · intro i h1 h2
    simp at h1
    simp [Nat.mod_one]
theorem make_rows (n : Nat) (hn : n ≤ 100000) (w : World) : (Instr.makeSlice 40 (.int .i64 (n : Int)) (.int .i64 (n : Int))).run Tryz.prog w = .ok (.slice (some ⟨w.heap.size, 0, none⟩) n n) (w.alloc (.cells (mkRows n) 28)) := by
  obtain ⟨i0, hi, hz0, hz1, hz2⟩ := info_parts infoRowT
  have := run_make (P := Tryz.prog) w 40 28 i0 _ Tryz.underlying40 hi hz0 .i64 .i64 n n (by omega) (Int.le_refl _) (by rw [hz2]; omega) (by omega)
  rw [hz1] at this
  simp only [Int.toNat_natCast, Nat.mul_one] at this
  exact this
theorem own_row_ok {w : World} {B : Nat} {x : RowT} (h : OwnN w B (rowV x) x.2.2.length x.2.2) : Slice x.1 x.2.2.length x.2.1 ∧ Holds w x.1 (nodesV x.2.2) := by
  obtain ⟨A, c, e, hs, -⟩ := own_slice h
  unfold rowV at e
  cases e
  exact ⟨hs, own_holds h⟩
theorem rowV_block {w : World} {B : Nat} {x : RowT} (h : OwnN w B (rowV x) x.2.2.length x.2.2) {k : Nat} (hk : (rowV x).ownBlock = some k) : x.1 = some ⟨k, 0, none⟩ := by
  unfold rowV at h hk
  rcases h.2 with ⟨e, -⟩ | ⟨g, cap, cur, e, -⟩
  · rw [e] at hk; cases hk
  · rw [e] at hk
    simp only [Value.ownBlock, Option.some.injEq] at hk
    injection e with e1
    rw [e1, hk]
/-- The rows that are answered, so far: their row is in block gR. -/
structure RowsRun (w wr : World) (gR m : Nat) (L : List RowT) : Prop where
  whole : Whole wr gR (L.map rowV ++ List.replicate (m - L.length) (Value.slice none 0 0)).toArray 28
  rows : ∀ x ∈ L, OwnN wr w.heap.size (rowV x) x.2.2.length x.2.2
  ne : ∀ x ∈ L, ∀ b o, x.1 = some ⟨b, o, none⟩ → gR < b
  ap : L.Pairwise fun x y => ∀ b o o', x.1 = some ⟨b, o, none⟩ → y.1 ≠ some ⟨b, o', none⟩
  bl : Below w.heap.size w wr
  new : w.heap.size ≤ gR
theorem RowsRun.ok {w wr : World} {gR m : Nat} {L : List RowT} (h : RowsRun w wr gR m L) : RowsOk wr L := fun x hx => own_row_ok (h.rows x hx)
theorem RowsRun.start {w w1 : World} (m : Nat) (hb : Below w.heap.size w w1) : RowsRun w (w1.alloc (.cells (mkRows m) 28)) w1.heap.size m [] :=
  ⟨by rw [mkRows_eq]; exact Whole.new w1 _ _, fun x hx => (by cases hx), fun x hx => (by cases hx), List.Pairwise.nil, below_alloc hb _, hb.size⟩
theorem RowsRun.step {w wr w1 : World} {gR m k c : Nat} {L : List RowT} {A : Option Addr} {x : List Node3} (h : RowsRun w wr gR m L) (hb : Below wr.heap.size wr w1) (ho : OwnN w1 wr.heap.size (.slice A k c) k x) (hk : x.length = k) (hm : L.length < m) :
    RowsRun w (w1.setCell ⟨gR, L.length, none⟩ (.slice A k c)) gR m (L ++ [(A, c, x)]) := by
  subst hk
  have hlt := h.whole.lt
  have hof : Only (fun j => j = gR) w1 (w1.setCell ⟨gR, L.length, none⟩ (.slice A x.length c)) := (Only.refl (fun j => j = gR) w1).set_ (.inl rfl) L.length _
  obtain ⟨A', c', e, hsl, hat⟩ := own_slice ho
  cases e
  refine ⟨?_, fun y hy => ?_, fun y hy b o e => ?_, ?_, h.bl.trans ((hb.mono h.bl.size).trans (hof.below (Nat.le_trans h.bl.size hb.size) fun j hj e => by have := h.new; omega)), h.new⟩
  · have hw := (h.whole.below hb hlt).set_ L.length (.slice A x.length c)
    have e1 : (L.map rowV ++ List.replicate (m - L.length) (Value.slice none 0 0)).toArray.setIfInBounds L.length (.slice A x.length c) = ((L ++ [(A, c, x)]).map rowV ++ List.replicate (m - (L ++ [(A, c, x)]).length) (Value.slice none 0 0)).toArray := by
      rw [List.setIfInBounds_toArray, List.set_append_right _ _ (by simp), List.length_map, Nat.sub_self, show m - L.length = (m - L.length - 1) + 1 by omega, List.replicate_succ, List.set_cons_zero, List.map_append, List.length_append, List.length_cons, List.length_nil, show m - (L.length + (0 + 1)) = m - L.length - 1 by omega]
      simp [rowV]
    rw [e1] at hw
    exact hw
  · rcases List.mem_append.1 hy with hy | hy
    · exact own_only (own_below (h.rows y hy) hb) hof fun k hk e => by have := h.ne y hy k 0 (rowV_block (h.rows y hy) hk); omega
    · rw [List.mem_singleton] at hy
      subst hy
      exact own_only (own_base ho h.bl.size) hof fun k hk e => by have := (hat k 0 (rowV_block ho hk)).1; omega
  · rcases List.mem_append.1 hy with hy | hy
    · exact h.ne y hy b o e
    · rw [List.mem_singleton] at hy
      subst hy
      have := hat b o e
      omega
  · refine List.pairwise_append.2 ⟨h.ap, List.pairwise_singleton _ _, fun y hy z hz b o o' e e' => ?_⟩
    rw [List.mem_singleton] at hz
    subst hz
    obtain ⟨A5, c5, e5, -, h5⟩ := own_slice (h.rows y hy)
    unfold rowV at e5
    cases e5
    have h1 := (h5 b o e).2
    have h2 := (hat b o' e').1
    omega
theorem RowsRun.cell {w wr : World} {gR m : Nat} {L : List RowT} (h : RowsRun w wr gR m L) (hm : L.length < m) : wr.cell? ⟨gR, L.length, none⟩ = some (.slice none 0 0) := by
  rw [h.whole.cell, List.getElem?_toArray, List.getElem?_append_right (by rw [List.length_map]; exact Nat.le_refl _), List.length_map, Nat.sub_self, List.getElem?_replicate, if_pos (by omega)]
theorem RowsRun.done {w wr : World} {gR m : Nat} {L : List RowT} (h : RowsRun w wr gR m L) (hm : L.length = m) : Holds wr (some ⟨gR, 0, none⟩) (L.map rowV) := fun _ => ⟨gR, 0, rfl, fun j u hu => by
  rw [Nat.zero_add, h.whole.cell, List.getElem?_toArray, hm, Nat.sub_self, List.replicate_zero, List.append_nil]
  exact hu⟩
/-- What Spine answers: the function and the arguments, in new memory; of a row that is not right nothing. -/
def SpinePost (t : List Node3) (w : World) (e : Ending) (w' : World) : Prop :=
  ∃ (A : Option Addr) (n c : Nat) (f : List Node3) (R : Option Addr) (cr : Nat) (l : List RowT), e = .returned (.tuple #[.slice A n c, .slice R l.length cr]) ∧ f.length = n ∧ OwnN w' w.heap.size (.slice A n c) n f ∧ Slice R l.length cr ∧ Holds w' R (l.map rowV) ∧ RowsOk w' l ∧
    (∀ x ∈ l, ∀ b o, x.1 = some ⟨b, o, none⟩ → w.heap.size ≤ b) ∧ (∀ b o, R = some ⟨b, o, none⟩ → w.heap.size ≤ b) ∧ Below w.heap.size w w' ∧ ((shapeOf t ≠ 0 ∧ f = [] ∧ l = []) ∨ (shapeOf t = 0 ∧ SpineOk t f (l.map fun x => x.2.2)))
/-- Moreover: each row owns its memory, and no two share any. -/
def SpinePost2 (t : List Node3) (w : World) (e : Ending) (w' : World) : Prop :=
  ∃ (A : Option Addr) (n c : Nat) (f : List Node3) (R : Option Addr) (cr : Nat) (l : List RowT), (e = .returned (.tuple #[.slice A n c, .slice R l.length cr]) ∧ f.length = n ∧ OwnN w' w.heap.size (.slice A n c) n f ∧ Slice R l.length cr ∧ Holds w' R (l.map rowV) ∧ RowsOk w' l ∧
    (∀ x ∈ l, ∀ b o, x.1 = some ⟨b, o, none⟩ → w.heap.size ≤ b) ∧ (∀ b o, R = some ⟨b, o, none⟩ → w.heap.size ≤ b) ∧ Below w.heap.size w w' ∧ ((shapeOf t ≠ 0 ∧ f = [] ∧ l = []) ∨ (shapeOf t = 0 ∧ SpineOk t f (l.map fun x => x.2.2)))) ∧
    (∀ x ∈ l, OwnN w' w.heap.size (rowV x) x.2.2.length x.2.2) ∧ ((A, c, f) :: l).Pairwise fun x y => ∀ b o o', x.1 = some ⟨b, o, none⟩ → y.1 ≠ some ⟨b, o', none⟩
theorem SpinePost2.spine {t : List Node3} {w w' : World} {e : Ending} (h : SpinePost2 t w e w') : SpinePost t w e w' := by
  obtain ⟨A, n, c, f, R, cr, l, h, -⟩ := h
  exact ⟨A, n, c, f, R, cr, l, h⟩
theorem SpinePost.none {t : List Node3} {w w' : World} (h : shapeOf t ≠ 0) (hb : Below w.heap.size w w') : SpinePost t w (.returned (.tuple #[.slice Option.none 0 0, .slice Option.none 0 0])) w' :=
  ⟨Option.none, 0, 0, [], Option.none, 0, [], rfl, rfl, World.ownsRow_nil _ _ _ _, slice_nil, Holds.nil _ _, fun x hx => (by cases hx), fun x hx => (by cases hx), fun b o e => (by cases e), hb, .inl ⟨h, rfl, rfl⟩⟩
end Go.Proofs.YtfeodppdmbideaaGreatDoor
