/- Grow of nil, Concat of three levels. -/
import Derived.Test.YtdpannjnhhjicaaLMergeP
import Derived.Deep.AppendLies
import Derived.Deep.RegionHeld3
import Derived.Lib.AppendZeros
import Derived.Deep.DeepCutAuto
namespace Go.Proofs.Ytdpannjnhhjicaa
open Go.RowKit

/-- A slice of atoms that lies in memory. -/
def LevelAt (w : World) (A : Option Addr) (n c : Nat) (l : List Atom2) : Prop := l.length = n ∧ Slice A n c ∧ Holds w A (atomsV l)
theorem LevelAt.below {w w' : World} {A : Option Addr} {n c : Nat} {l : List Atom2} (h : LevelAt w A n c l) (hb : Below w.heap.size w w') : LevelAt w' A n c l := ⟨h.1, h.2.1, h.2.2.below hb⟩
theorem LevelAt.alloc {w : World} {A : Option Addr} {n c : Nat} {l : List Atom2} (h : LevelAt w A n c l) (o : Obj) : LevelAt (w.alloc o) A n c l := ⟨h.1, h.2.1, h.2.2.alloc o⟩
/-- A level in an own row. -/
def OwnA (w : World) (base : Nat) (v : Value) (l : List Atom2) : Prop := w.ownsRow base 57 2 v l.length (atomsV l)
theorem OwnA.level {w : World} {base : Nat} {v : Value} {l : List Atom2} (h : OwnA w base v l) : ∃ A c, v = .slice A l.length c ∧ LevelAt w A l.length c l := by
  obtain ⟨A, c, rfl, hs, _⟩ := own_slice h
  exact ⟨A, c, rfl, rfl, hs, own_holds h⟩
theorem OwnA.below {w w' : World} {base : Nat} {v : Value} {l : List Atom2} (h : OwnA w base v l) (hb : Below w.heap.size w w') : OwnA w' base v l := own_below h hb
theorem OwnA.nil (w : World) (base : Nat) : OwnA w base (.slice none 0 0) [] := ⟨by simp [atomsV], .inl ⟨rfl, rfl⟩⟩

/-- append(s, x...) of atoms, onto an own row: nil or not. -/
theorem wpList_append_atoms {w : World} {ops : Array Oper} {rest : List Oper} {o : Oper} {a : Act} {Q : Exit → Act → World → Prop} (hgd : o.guard = none) (s x : Operand) (t : TypeId)
    (ho : o.op = .call { callee := .builtin .append, args := #[s, x], argTypes := #[t, t] }) (ht : Try.prog.underlying t = some (.slice 57))
    (base : Nat) (v : Value) (l r : List Atom2) (hs : a.eval s = v) (hown : OwnA w base v l) (A : Option Addr) (m c : Nat) (hx : a.eval x = .slice A m c)
    (hr : LevelAt w A m c r) (hbig : l.length + m ≤ 1000000000) (w0 : World) (hb : Below base w0 w) (hbase : base ≤ w.heap.size)
    (h : ∀ v' w', OwnA w' base v' (l ++ r) → Below base w0 w' → base ≤ w'.heap.size → w.grownBy w' v.ownBlock → (v'.ownBlock = v.ownBlock ∨ ∀ k, v'.ownBlock = some k → w.heap.size ≤ k) →
      wpList Try.prog ops Q rest (a.put o.dst v') w') : wpList Try.prog ops Q (o :: rest) a w := by
  obtain ⟨i0, hi, hz0, hz1, hz2⟩ := info_parts infoAtom
  obtain ⟨hl, hsl, hh⟩ := hr
  have hmul : (l.length + m) * 16 ≤ 140737488355328 := by omega
  cases A with
  | none =>
    obtain ⟨rfl, rfl⟩ := hsl.2.2 rfl
    have hr : r = [] := List.eq_nil_of_length_eq_zero hl
    subst hr
    refine wpList_append_own_none hgd s x t ho base 57 i0 2 ht hi _ l.length _ hs hown hx ?_
    rw [List.append_nil] at h
    exact h v w hown hb hbase (World.grownBy.refl w _) (Or.inl rfl)
  | some ad =>
    refine wpList_append_own_at w hgd s x t ho base 57 i0 _ 2 16 ht hi hz0 hz1 hz2 rfl (by omega) v l.length _ hs hown ad m c (atomsV r) hx (by rw [atomsV_len, hl]) (hh.news rfl) atomsV_one (by unfold maxLen; omega) hmul hbase ?_
    intro v' w' hown' hg' _ hat
    refine h v' w' ?_ (hb.grown hg' hbase (fun k hk => (hown.lt k hk).1)) (Nat.le_trans hbase hg'.size) hg' ?_
    · show w'.ownsRow _ _ _ _ _ _
      rw [List.length_append, hl, atomsV_append]
      exact hown'
    · rcases hat with hat | hat
      · exact Or.inl hat
      · refine Or.inr fun k hk => ?_
        rw [hat] at hk
        cases hk
        exact Nat.le_refl _

/-- append(nil, make(..)...). -/
theorem wpList_append_zeros {w : World} {ops : Array Oper} {rest : List Oper} {o : Oper} {a : Act} {Q : Exit → Act → World → Prop} (hgd : o.guard = none) (s x : Operand)
    (ho : o.op = .call { callee := .builtin .append, args := #[s, x], argTypes := #[23, 3] }) (n : Nat) (h0 : 0 < n) (h1 : n ≤ 1000000) (hs : a.eval s = .slice none 0 0) (hx : a.eval x = .int .i64 n)
    (h : ∀ g c w', n ≤ c → c ≤ 9223372036854775807 → g = w.heap.size → OwnA w' w.heap.size (.slice (some ⟨g, 0, none⟩) 0 c) [] → Below w.heap.size w w' → wpList Try.prog ops Q rest (a.put o.dst (.slice (some ⟨g, 0, none⟩) n c)) w') : wpList Try.prog ops Q (o :: rest) a w := by
  obtain ⟨i0, hi, hz0, hz1, hz2⟩ := info_parts infoAtom
  have hr := Lib.run_append_nil_zeros (P := Try.prog) w 23 3 o.type 57 i0 _ .i64 .i64 Try.underlying23 Try.underlying3 hi hz0 n h0 (by rw [hz1]; omega) (by omega) (by rw [hz2]; omega)
  have hG := grownCap_ge w n 0 57
  have hG2 := grownCap_le_maxLen w n 0 57 (by unfold maxLen; omega)
  generalize grownCap w n 0 57 = G at *
  refine wpList_plain hgd fun K hK => ?_
  unfold Oper.wp execOp
  simp only [ho, resolve, invoke, builtin, Sem.run_bind, Sem.run_pure, Result.andThen_ok, List.map_toArray, List.map_cons, List.map_nil, hs, hx, hr]
  refine hK _ _ (h _ G _ hG hG2 rfl ⟨by simp [atomsV], .inr ⟨_, G, _, rfl, Nat.le_refl _, (MapKept.heap_alloc w.drew _).1, Nat.zero_le _, hG2, ?_, by simp [atomsV]⟩⟩ ((Below.refl _ _).drew.alloc (Nat.le_refl _) _))
  simp only [Array.size_append, size_zeroCells, Value.cells]
  show n * 2 + (G - n) * 2 = G * 2
  omega
/-- What Grow of nil answers: an own row without elements. -/
def GrowPost (w : World) (e : Ending) (w' : World) : Prop := ∃ v, e = .returned v ∧ OwnA w' w.heap.size v [] ∧ Below w.heap.size w w'
set_option maxHeartbeats 1000000 in
theorem grow_any (n : Nat) (w : World) (hn : 0 < n) (hn2 : n ≤ 1000000) :
    Calls Try.prog 49 #[.slice none 0 0, .int .i64 n] w (GrowPost w) := by
  have p1 : (0 : Int) < (n : Int) := by omega
  go_enter Try.func49, Try.ntmps49
  go_wp2_with (at_builtin; refine wpList_append_zeros rfl _ _ rfl n hn hn2 rfl rfl ?_; rintro g c w' hc hc2 rfl hown hb)
  go_ret
  exact ⟨_, rfl, hown, hb⟩
theorem grow_x (x : Int) (n : Nat) (w : World) (hx : x = n) (hn : 0 < n) (hn2 : n ≤ 1000000) :
    Calls Try.prog 49 #[.slice none 0 0, .int .i64 x] w (GrowPost w) := by
  subst hx
  exact grow_any n w hn hn2
/-- What Concat answers. -/
def ConcatPost (l : List Atom2) (w : World) (e : Ending) (w' : World) : Prop := ∃ v, e = .returned v ∧ OwnA w' w.heap.size v l ∧ Below w.heap.size w w'
set_option maxHeartbeats 2000000 in
theorem concat_any (g : Nat) (A0 A1 A2 : Option Addr) (n0 n1 n2 c0 c1 c2 : Nat) (l0 l1 l2 : List Atom2) (w : World) (hg : Holds w (some ⟨g, 0, none⟩) [.slice A0 n0 c0, .slice A1 n1 c1, .slice A2 n2 c2])
    (h0 : LevelAt w A0 n0 c0 l0) (h1 : LevelAt w A1 n1 c1 l1) (h2 : LevelAt w A2 n2 c2 l2) (hp : 0 < n0 + n1 + n2) (hb : n0 + n1 + n2 ≤ 1000) :
    Calls Try.prog 44 #[.slice (some ⟨g, 0, none⟩) 3 3] w (ConcatPost (l0 ++ l1 ++ l2) w) := by
  have s0 : w.cell? ⟨g, 0, none⟩ = some (.slice A0 n0 c0) := hg.cell (j := 0) rfl
  have s1 : w.cell? ⟨g, 1, none⟩ = some (.slice A1 n1 c1) := hg.cell (j := 1) rfl
  have s2 : w.cell? ⟨g, 2, none⟩ = some (.slice A2 n2 c2) := hg.cell (j := 2) rfl
  have HL0 := Lib.hid h0.1
  have HL1 := Lib.hid h1.1
  have HL2 := Lib.hid h2.1
  go_enter Try.func44, Try.ntmps44
  go_wp2_with fail
  refine wp_loop_rounds 4 ?_
  rw [rounds_succ]
  go_wp2_with fail
  rw [rounds_succ]
  go_wp2_with fail
  rw [rounds_succ]
  go_wp2_with fail
  rw [rounds_succ]
  go_wp2_with fail
  refine (grow_x _ (n0 + n1 + n2) _ (by omega) hp (by omega)).mono ?_
  rintro e w1 ⟨v, rfl, hown, hb1⟩
  have hz1 := hb1.size
  clear s0 s1 s2
  go_wp2_with fail
  refine wp_loop_rounds 4 ?_
  have s0 : w1.cell? ⟨g, 0, none⟩ = some (.slice A0 n0 c0) := (hg.below hb1).cell (j := 0) rfl
  have H0 := h0.below hb1
  have q0 := HL0.out
  rw [rounds_succ]
  go_wp2_with (at_builtin; go_must (refine wpList_append_atoms rfl (.tmp 31) (.tmp 32) _ rfl Try.underlying23 w.heap.size _ [] l0 rfl hown A0 n0 c0 rfl H0 (by simp only [List.length_nil]; omega) w hb1 hz1 ?_); intro v1 w2 hown1 hb2 hz2 _ _)
  clear s0 H0
  have s1 : w2.cell? ⟨g, 1, none⟩ = some (.slice A1 n1 c1) := (hg.below hb2).cell (j := 1) rfl
  have H1 := h1.below hb2
  have q1 := HL1.out
  rw [rounds_succ]
  go_wp2_with (at_builtin; go_must (refine wpList_append_atoms rfl (.tmp 31) (.tmp 32) _ rfl Try.underlying23 w.heap.size _ ([] ++ l0) l1 rfl hown1 A1 n1 c1 rfl H1 (by simp only [List.length_append, List.length_nil]; omega) w hb2 hz2 ?_); intro v2 w3 hown2 hb3 hz3 _ _)
  clear s1 H1
  have s2 : w3.cell? ⟨g, 2, none⟩ = some (.slice A2 n2 c2) := (hg.below hb3).cell (j := 2) rfl
  have H2 := h2.below hb3
  have q2 := HL2.out
  rw [rounds_succ]
  go_wp2_with (at_builtin; go_must (refine wpList_append_atoms rfl (.tmp 31) (.tmp 32) _ rfl Try.underlying23 w.heap.size _ (([] ++ l0) ++ l1) l2 rfl hown2 A2 n2 c2 rfl H2 (by simp only [List.length_append, List.length_nil]; omega) w hb3 hz3 ?_); intro v3 w4 hown3 hb4 hz4 _ _)
  clear s2 H2
  rw [rounds_succ]
  go_wp2_with fail
  go_ret
  exact ⟨_, rfl, by simpa using hown3, hb4⟩
end Go.Proofs.Ytdpannjnhhjicaa
