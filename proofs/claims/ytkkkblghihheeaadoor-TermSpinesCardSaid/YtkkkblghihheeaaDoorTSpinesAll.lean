/- TermSpines holds for every input, where the program's table of limits is what its text says (the tied card): spines, applications and what is bound are as the document says. -/
import Derived.Test.YtkkkblghihheeaaDoorTReadP
import Derived.Test.YtkkkblghihheeaaDoorTSubstW
import Derived.Laws.MakeOwn
import Derived.Test.YtkkkblghihheeaaDoorTAppend
import Derived.Test.YtkkkblghihheeaaDoorTAwake
import Derived.Test.YtkkkblghihheeaaDoorTOfAll
import Derived.Test.YtkkkblghihheeaaDoorTRow
import Derived.Test.YtkkkblghihheeaaDoorTLawKitAll
import Derived.Test.YtkkkblghihheeaaDoorTie
import Derived.Test.YtkkkblghihheeaaDoorCards
import Derived.Stop.Joined
namespace Go.Proofs.YtkkkblghihheeaaDoor
open Go.RowKit

/-- A row that is one term. -/
def RowT1 (x : List Node3) : Prop := ∃ a, isT a ∧ a.map Prod.fst = x
theorem RowT1.top {x : List Node3} (h : RowT1 x) (s : List Node3) : ∃ a, top0 (x ++ s) = some (a, s) ∧ a.map Prod.fst = x := by
  obtain ⟨a, h1, rfl⟩ := h
  exact ⟨a, h1.more s, rfl⟩
theorem RowT1.same {x y s r : List Node3} (hx : RowT1 x) (hy : RowT1 y) (h : x ++ s = y ++ r) : x = y ∧ s = r := by
  obtain ⟨a, h1, ha⟩ := hx.top s
  obtain ⟨b, h2, hb⟩ := hy.top r
  rw [h, h2] at h1
  cases h1
  exact ⟨ha.symm.trans hb, rfl⟩
theorem RowT1.pos {x : List Node3} (h : RowT1 x) : 0 < x.length := by
  obtain ⟨a, h1, rfl⟩ := h
  have := (top0_row h1).2
  rw [List.length_map]
  omega
/-- The row's spine. -/
structure SpineOk (t f : List Node3) (args : List (List Node3)) : Prop where
  row : t = List.replicate args.length (6, 0, 0) ++ (f ++ args.flatten)
  fn : RowT1 f
  kids : ∀ x ∈ args, RowT1 x
  head : ∀ n, f[0]? = some n → n.1 ≠ 6
theorem flat_same : ∀ {l m : List (List Node3)}, (∀ x ∈ l, RowT1 x) → (∀ x ∈ m, RowT1 x) → l.flatten = m.flatten → l = m
  | [], [], _, _, _ => rfl
  | [], y :: m, _, hm, h => by
    have := (hm y (by simp)).pos
    have h2 := congrArg List.length h
    simp only [List.flatten_nil, List.length_nil, List.flatten_cons, List.length_append] at h2
    omega
  | x :: l, [], hl, _, h => by
    have := (hl x (by simp)).pos
    have h2 := congrArg List.length h
    simp only [List.flatten_nil, List.length_nil, List.flatten_cons, List.length_append] at h2
    omega
  | x :: l, y :: m, hl, hm, h => by
    rw [List.flatten_cons, List.flatten_cons] at h
    obtain ⟨rfl, h2⟩ := (hl x (by simp)).same (hm y (by simp)) h
    rw [flat_same (fun z hz => hl z (by simp [hz])) (fun z hz => hm z (by simp [hz])) h2]
theorem lead_same : ∀ {k j : Nat} {r s : List Node3}, List.replicate k ((6, 0, 0) : Node3) ++ r = List.replicate j (6, 0, 0) ++ s → (∀ n, r[0]? = some n → n.1 ≠ 6) → (∀ n, s[0]? = some n → n.1 ≠ 6) → k = j ∧ r = s
  | 0, 0, _, _, h, _, _ => ⟨rfl, by simpa using h⟩
  | 0, j + 1, r, s, h, hr, _ => by
    rw [List.replicate_succ] at h
    simp only [List.replicate_zero, List.nil_append, List.cons_append] at h
    subst h
    exact absurd rfl (hr (6, 0, 0) rfl)
  | k + 1, 0, r, s, h, _, hs => by
    rw [List.replicate_succ] at h
    simp only [List.replicate_zero, List.nil_append, List.cons_append] at h
    subst h
    exact absurd rfl (hs (6, 0, 0) rfl)
  | k + 1, j + 1, r, s, h, hr, hs => by
    rw [List.replicate_succ, List.replicate_succ, List.cons_append, List.cons_append, List.cons.injEq] at h
    obtain ⟨h1, h2⟩ := lead_same h.2 hr hs
    exact ⟨by rw [h1], h2⟩
theorem SpineOk.headr {t f : List Node3} {args : List (List Node3)} (h : SpineOk t f args) : ∀ n, (f ++ args.flatten)[0]? = some n → n.1 ≠ 6 := fun n hn => by
  rw [List.getElem?_append_left h.fn.pos] at hn
  exact h.head n hn
theorem SpineOk.same {t f g : List Node3} {l m : List (List Node3)} (h : SpineOk t f l) (k : SpineOk t g m) : f = g ∧ l = m := by
  obtain ⟨-, h2⟩ := lead_same (h.row.symm.trans k.row) h.headr k.headr
  obtain ⟨h3, h4⟩ := h.fn.same k.fn h2
  exact ⟨h3, flat_same h.kids k.kids h4⟩
theorem top_head {n : Node3} {r : List Node3} {x : Ann × List Node3} (h : top0 (n :: r) = some x) : topB n = true := by
  cases hb : topB n with
  | true => rfl
  | false => rw [cont_topno rfl hb] at h; cases h
theorem top_app {n : Node3} {r : List Node3} {a : Ann} {s : List Node3} (h : top0 (n :: r) = some (a, s)) (h6 : n.1 = 6) : n = (6, 0, 0) ∧ ∃ x y, isT x ∧ isT y ∧ r = x.map Prod.fst ++ (y.map Prod.fst ++ s) := by
  have hb := top_head h
  have hn : n = (6, 0, 0) := by
    unfold topB at hb
    simp only [Bool.and_eq_true, decide_eq_true_eq] at hb
    have hh := hb.1.1
    obtain ⟨o, A, B⟩ := n
    unfold holdsN at hh
    simp only at hh h6
    have : A = 0 ∧ B = 0 := by omega
    rw [h6, this.1, this.2]
  refine ⟨hn, ?_⟩
  rw [topB_beg n (0, 0, 0)] at hb
  unfold top0 at h
  have hf : follow n 0 = [⟨0, 0⟩, ⟨0, 0⟩] := by
    unfold follow
    rw [if_neg (by omega), if_neg (by omega), if_pos h6]
  rw [V_yes hb, hf] at h
  show ∃ x y, _
  have e : ([⟨0, 0⟩, ⟨0, 0⟩] ++ [] : List Part) = ⟨0, 0⟩ :: [⟨0, 0⟩] := rfl
  rw [e, V_kid (by intro p hp; simp only [List.mem_cons, List.not_mem_nil, or_false] at hp; subst hp; show (0 : Int) ≠ 3; decide)] at h
  cases h1 : top0 r with
  | none => rw [h1] at h; cases h
  | some x =>
    obtain ⟨x, s1⟩ := x
    rw [h1] at h
    simp only [Option.bind_some] at h
    have e2 : V s1 n [⟨0, 0⟩] = top0 s1 := V_ahead n (0, 0, 0) (by intro p hp; simp only [List.mem_cons, List.not_mem_nil, or_false] at hp; subst hp; show (0 : Int) ≠ 3; decide)
    rw [e2] at h
    cases h2 : top0 s1 with
    | none => rw [h2] at h; cases h
    | some y =>
      obtain ⟨y, s2⟩ := y
      rw [h2] at h
      simp only [Option.map_some, Option.some.injEq, Prod.mk.injEq] at h
      obtain ⟨-, rfl⟩ := h
      refine ⟨x, y, isT_of h1, isT_of h2, ?_⟩
      rw [(top0_row h1).1, (top0_row h2).1]
/-- An application's parts. -/
theorem app_parts {x : List Node3} (h : RowT1 x) {n : Node3} (hn : x[0]? = some n) (h6 : n.1 = 6) : ∃ u v, RowT1 u ∧ RowT1 v ∧ x = (6, 0, 0) :: (u ++ v) := by
  obtain ⟨a, h1, rfl⟩ := h
  cases e : a.map Prod.fst with
  | nil => rw [e] at hn; cases hn
  | cons m r =>
    rw [e] at hn
    obtain rfl : m = n := by simpa using hn
    unfold isT at h1
    rw [e] at h1
    obtain ⟨rfl, u, v, hu, hv, hr⟩ := top_app h1 h6
    refine ⟨_, _, ⟨u, hu, rfl⟩, ⟨v, hv, rfl⟩, ?_⟩
    rw [hr, List.append_nil]
theorem spine_step {t u v : List Node3} {f : List Node3} {args : List (List Node3)} (ht : t = (6, 0, 0) :: (u ++ v)) (hv : RowT1 v) (h : SpineOk u f args) : SpineOk t f (args ++ [v]) := by
  refine ⟨?_, h.fn, fun x hx => ?_, h.head⟩
  · rw [ht]
    conv => lhs; rw [h.row]
    simp [List.replicate_succ]
  · rcases List.mem_append.1 hx with hx | hx
    · exact h.kids x hx
    · rw [List.mem_singleton] at hx; subst hx; exact hv
theorem spine_of : ∀ (N : Nat) (t : List Node3), t.length ≤ N → RowT1 t → ∃ f args, SpineOk t f args
  | 0, t, hN, h => by have := h.pos; omega
  | N + 1, t, hN, h => by
    by_cases h6 : ∃ n, t[0]? = some n ∧ n.1 = 6
    · obtain ⟨n, hn, h6⟩ := h6
      obtain ⟨u, v, hu, hv, e⟩ := app_parts h hn h6
      have hl : u.length ≤ N := by
        have := congrArg List.length e
        simp only [List.length_cons, List.length_append] at this
        omega
      obtain ⟨f, args, hs⟩ := spine_of N u hl hu
      exact ⟨f, args ++ [v], spine_step e hv hs⟩
    · refine ⟨t, [], ⟨by simp, h, fun x hx => (by cases hx), fun n hn hc => h6 ⟨n, hn, hc⟩⟩⟩
end Go.Proofs.YtkkkblghihheeaaDoor
namespace Go.Proofs.YtkkkblghihheeaaDoor
open Go.RowKit

theorem piece_nodes {w : World} {g o j : Nat} {t x s : List Node3} (h : Holds w (some ⟨g, o, none⟩) (nodesV t)) (hx : t.drop j = x ++ s) (hj : j ≤ t.length) : Holds w (some ⟨g, o + j * 3, none⟩) (nodesV x) := fun hn => by
  refine ⟨g, o + j * 3, rfl, fun i u hu => ?_⟩
  have e : nodesV t = nodesV (t.take j) ++ (nodesV x ++ nodesV s) := by rw [← nodesV_append, ← nodesV_append, ← hx, List.take_append_drop]
  have hi : i < (nodesV x).length := (List.getElem?_eq_some_iff.1 hu).1
  have := h.cell (j := j * 3 + i) (u := u) (by rw [e, List.getElem?_append_right (by rw [nodesV_len, List.length_take]; omega), nodesV_len, List.length_take, show j * 3 + i - min j t.length * 3 = i by omega, List.getElem?_append_left hi]; exact hu)
  rwa [← Nat.add_assoc] at this
set_option maxHeartbeats 2000000 in
theorem cut_any (g o n c p m : Nat) (t x s : List Node3) (w : World) (hn : t.length = n) (hnb : n ≤ 100000) (hsl : Slice (some ⟨g, o, none⟩) n c) (hA : Holds w (some ⟨g, o, none⟩) (nodesV t)) (hL : Lim w) (hp : p ≤ n) (hx : t.drop p = x ++ s) (h1 : RowT1 x) (hm : x.length = m) :
    Calls Tryd.prog 71 #[.slice (some ⟨g, o, none⟩) n c, .int .i64 (p : Int)] w fun e w' => ∃ A' c', e = .returned (.tuple #[.slice A' m c', .int .i64 ((p : Int) + (m : Int))]) ∧ OwnN w' w.heap.size (.slice A' m c') m x ∧ Below w.heap.size w w' := by
  have HW := Lib.hid (walk_pass (some ⟨g, o, none⟩) n c t (p : Int) w hn hnb hA hL (by unfold I64; omega))
  have hpos := h1.pos
  have hE : endOf t (p : Int) = (p : Int) + (m : Int) := by
    obtain ⟨a, ha, hr⟩ := h1.top s
    unfold top0 V at ha
    cases hw : W (x ++ s) (0, 0, 0) [⟨0, 0⟩] with
    | none => rw [hw] at ha; cases ha
    | some y =>
      obtain ⟨a', s', e⟩ := y
      rw [hw] at ha
      simp only [Option.map_some, Option.some.injEq, Prod.mk.injEq] at ha
      unfold endOf
      rw [if_neg (by omega), Int.toNat_natCast, hx, hw]
      simp only
      rw [ha.1, ← hm, ← hr, List.length_map]
  rw [hE] at HW
  have hle : p + m ≤ n := by
    have := congrArg List.length hx
    rw [List.length_drop, List.length_append, hn, hm] at this
    omega
  have HP := Lib.hid (show ∀ w', Below w.heap.size w w' → Holds w' (some ⟨g, o + p * 3, none⟩) (nodesV x) from fun w' hb => piece_nodes (hA.below hb) hx (by omega))
  have hcn : n ≤ c := hsl.1
  have hcm : c ≤ 9223372036854775807 := hsl.2.1
  have HM := Lib.hid hm
  have hmp : 0 < m := by omega
  have hpc : p < c := by omega
  have hpm : p + m ≤ c := by omega
  clear hn hA hL hx h1 hm hsl hE hpos
  go_enter Tryd.func71, Tryd.ntmps71
  go_wp2_with fail
  refine (HW.out).mono ?_
  rintro e w1 ⟨hb1, (⟨y, -, -, -, rfl⟩ | ⟨hbad, -⟩)⟩
  case inr => omega
  have HC := Lib.hid (tclone_any (some ⟨g, o + p * 3, none⟩) m (c - p) x w1 HM.out ⟨by omega, by omega, fun h => by cases h⟩ (HP.out _ hb1) (by omega))
  have HB1 := Lib.hid hb1
  clear hb1
  go_wp2_with fail
  refine (HC.out).mono ?_
  rintro e w2 ⟨A2, c2, rfl, ho2, hb2⟩
  have HO := Lib.hid ho2
  have HB2 := Lib.hid hb2
  clear ho2 hb2
  go_wp2_with fail
  go_ret2
  refine ⟨A2, c2, rfl, ⟨HO.out.1, HO.out.2.imp id ?_⟩, below_step HB1.out HB2.out⟩
  rintro ⟨g', cap, cur, e, h1, h2⟩
  exact ⟨g', cap, cur, e, Nat.le_trans HB1.out.size h1, h2⟩
theorem infoRowT : (Tryd.prog.info? 23).map (fun i => (i.zero, i.size, i.bytes)) = some (some (.slice none 0 0), 1, 24) := by kernel_rfl
def mkRows (n : Nat) : Array Value := madeCells #[.slice none 0 0] n
theorem mkRows_eq (n : Nat) : mkRows n = (List.replicate n (Value.slice none 0 0)).toArray := by
  unfold mkRows madeCells
  apply Array.ext
  · simp
  · intro i h1 h2
    simp at h1
    simp [Nat.mod_one]
theorem make_rows (n : Nat) (hn : n ≤ 100000) (w : World) : (Instr.makeSlice 30 (.int .i64 (n : Int)) (.int .i64 (n : Int))).run Tryd.prog w = .ok (.slice (some ⟨w.heap.size, 0, none⟩) n n) (w.alloc (.cells (mkRows n) 23)) := by
  obtain ⟨i0, hi, hz0, hz1, hz2⟩ := info_parts infoRowT
  have := run_make (P := Tryd.prog) w 30 23 i0 _ Tryd.underlying30 hi hz0 .i64 .i64 n n (by omega) (Int.le_refl _) (by rw [hz2]; omega) (by omega)
  rw [hz1] at this
  simp only [Int.toNat_natCast, Nat.mul_one] at this
  exact this
/-- The rows that are answered, so far: their row is in block gR. -/
structure RowsRun (w wr : World) (gR m : Nat) (L : List RowT) : Prop where
  whole : Whole wr gR (L.map rowV ++ List.replicate (m - L.length) (Value.slice none 0 0)).toArray 23
  ok : RowsOk wr L
  ne : ∀ x ∈ L, ∀ b o, x.1 = some ⟨b, o, none⟩ → gR < b
  bl : Below w.heap.size w wr
  new : w.heap.size ≤ gR
theorem RowsRun.start {w w1 : World} (m : Nat) (hb : Below w.heap.size w w1) : RowsRun w (w1.alloc (.cells (mkRows m) 23)) w1.heap.size m [] :=
  ⟨by rw [mkRows_eq]; exact Whole.new w1 _ _, fun x hx => (by cases hx), fun x hx => (by cases hx), below_alloc hb _, hb.size⟩
theorem RowsRun.step {w wr w1 : World} {gR m k c : Nat} {L : List RowT} {A : Option Addr} {x : List Node3} (h : RowsRun w wr gR m L) (hb : Below wr.heap.size wr w1) (ho : OwnN w1 wr.heap.size (.slice A k c) k x) (hk : x.length = k) (hm : L.length < m) :
    RowsRun w (w1.setCell ⟨gR, L.length, none⟩ (.slice A k c)) gR m (L ++ [(A, c, x)]) := by
  subst hk
  have hlt := h.whole.lt
  have hof : Only (fun j => j = gR) w1 (w1.setCell ⟨gR, L.length, none⟩ (.slice A x.length c)) := (Only.refl (fun j => j = gR) w1).set_ (.inl rfl) L.length _
  obtain ⟨A', c', e, hsl, hat⟩ := own_slice ho
  cases e
  refine ⟨?_, fun y hy => ?_, fun y hy b o e => ?_, h.bl.trans ((hb.mono h.bl.size).trans (hof.below (Nat.le_trans h.bl.size hb.size) fun j hj e => by have := h.new; omega)), h.new⟩
  · have hw := (h.whole.below hb hlt).set_ L.length (.slice A x.length c)
    have e1 : (L.map rowV ++ List.replicate (m - L.length) (Value.slice none 0 0)).toArray.setIfInBounds L.length (.slice A x.length c) = ((L ++ [(A, c, x)]).map rowV ++ List.replicate (m - (L ++ [(A, c, x)]).length) (Value.slice none 0 0)).toArray := by
      rw [List.setIfInBounds_toArray, List.set_append_right _ _ (by simp), List.length_map, Nat.sub_self, show m - L.length = (m - L.length - 1) + 1 by omega, List.replicate_succ, List.set_cons_zero, List.map_append, List.length_append, List.length_cons, List.length_nil, show m - (L.length + (0 + 1)) = m - L.length - 1 by omega]
      simp [rowV]
    rw [e1] at hw
    exact hw
  · rcases List.mem_append.1 hy with hy | hy
    · have := h.ok y hy
      exact ⟨this.1, (this.2.below hb).only hof fun b o e e' => by have := h.ne y hy b o e; omega⟩
    · rw [List.mem_singleton] at hy
      subst hy
      exact ⟨hsl, (own_holds ho).only hof fun b o e e' => by have := hat b o e; omega⟩
  · rcases List.mem_append.1 hy with hy | hy
    · exact h.ne y hy b o e
    · rw [List.mem_singleton] at hy
      subst hy
      have := hat b o e
      omega
theorem RowsRun.cell {w wr : World} {gR m : Nat} {L : List RowT} (h : RowsRun w wr gR m L) (hm : L.length < m) : wr.cell? ⟨gR, L.length, none⟩ = some (.slice none 0 0) := by
  rw [h.whole.cell, List.getElem?_toArray, List.getElem?_append_right (by rw [List.length_map]; exact Nat.le_refl _), List.length_map, Nat.sub_self, List.getElem?_replicate, if_pos (by omega)]
theorem RowsRun.done {w wr : World} {gR m : Nat} {L : List RowT} (h : RowsRun w wr gR m L) (hm : L.length = m) : Holds wr (some ⟨gR, 0, none⟩) (L.map rowV) := fun _ => ⟨gR, 0, rfl, fun j u hu => by
  rw [Nat.zero_add, h.whole.cell, List.getElem?_toArray, hm, Nat.sub_self, List.replicate_zero, List.append_nil]
  exact hu⟩
/-- What Spine answers: the function and the arguments, in new memory; of a row that is not right nothing. -/
def SpinePost (t : List Node3) (w : World) (e : Ending) (w' : World) : Prop :=
  ∃ (A : Option Addr) (n c : Nat) (f : List Node3) (R : Option Addr) (cr : Nat) (l : List RowT), e = .returned (.tuple #[.slice A n c, .slice R l.length cr]) ∧ f.length = n ∧ OwnN w' w.heap.size (.slice A n c) n f ∧ Slice R l.length cr ∧ Holds w' R (l.map rowV) ∧ RowsOk w' l ∧
    (∀ x ∈ l, ∀ b o, x.1 = some ⟨b, o, none⟩ → w.heap.size ≤ b) ∧ (∀ b o, R = some ⟨b, o, none⟩ → w.heap.size ≤ b) ∧ Below w.heap.size w w' ∧ ((shapeOf t ≠ 0 ∧ f = [] ∧ l = []) ∨ (shapeOf t = 0 ∧ SpineOk t f (l.map fun x => x.2.2)))
theorem SpinePost.none {t : List Node3} {w w' : World} (h : shapeOf t ≠ 0) (hb : Below w.heap.size w w') : SpinePost t w (.returned (.tuple #[.slice Option.none 0 0, .slice Option.none 0 0])) w' :=
  ⟨Option.none, 0, 0, [], Option.none, 0, [], rfl, rfl, World.ownsRow_nil _ _ _ _, slice_nil, Holds.nil _ _, fun x hx => (by cases hx), fun x hx => (by cases hx), fun b o e => (by cases e), hb, .inl ⟨h, rfl, rfl⟩⟩
theorem right_T1 {t : List Node3} (h : shapeOf t = 0) : RowT1 t := by
  obtain ⟨-, -, e, hW⟩ := right_of h
  have h1 : top0 t = some (annOf t, []) := by unfold top0 V; rw [hW]; rfl
  refine ⟨annOf t, isT_of h1, ?_⟩
  have := (top0_row h1).1
  rw [List.append_nil] at this
  exact this.symm
set_option maxRecDepth 100000 in
set_option maxHeartbeats 4000000 in
theorem tspine_any (A : Option Addr) (n c : Nat) (t : List Node3) (w : World) (hn : t.length = n) (hsl : Slice A n c) (hA : Holds w A (nodesV t)) (hL : Lim w) :
    Calls Tryd.prog 34 #[.slice A n c] w (SpinePost t w) := by
  have HSH := Lib.hid (shape_any A n c t w hn hA hL)
  by_cases hs : shapeOf t = 0
  case neg =>
    have e1 : (shapeOf t != 0) = true := by simpa using hs
    have HX := Lib.hid hs
    clear hs hA
    obtain ⟨s1, hs1⟩ : ∃ s1, shapeOf t = s1 := ⟨_, rfl⟩
    rw [hs1] at HSH e1
    clear hs1
    go_enter Tryd.func34, Tryd.ntmps34
    go_wp2_with fail
    refine (HSH.out).mono ?_
    rintro e w1 ⟨rfl, hb1⟩
    go_wp2_with fail
    go_ret2
    exact SpinePost.none HX.out hb1
  rw [hs] at HSH
  have hnb : n ≤ 4096 := by have := (ann_of hs).2; omega
  obtain ⟨f, args, hsp⟩ := spine_of t.length t (Nat.le_refl _) (right_T1 hs)
  have hpos : 0 < n := by have := (right_T1 hs).pos; omega
  obtain ⟨g, o, rfl, hg, -⟩ := hA.at_ (by rw [nodesV_len]; omega)
  have HSP := Lib.hid hsp
  obtain ⟨m, hm⟩ : ∃ m, args.length = m := ⟨_, rfl⟩
  have hrow := hsp.row
  rw [hm] at hrow
  have hfp := hsp.fn.pos
  have hdr : t.drop m = f ++ args.flatten := by rw [hrow, List.drop_left' (List.length_replicate)]
  have hml : m + f.length + args.flatten.length = n := by
    have := congrArg List.length hrow
    rw [List.length_append, List.length_append, List.length_replicate, hn] at this
    omega
  have HOP := Lib.hid (show ∀ k (hk : k < m), t[k]? = some (6, 0, 0) from fun k hk => by
    rw [hrow, List.getElem?_append_left (by rw [List.length_replicate]; exact hk), List.getElem?_replicate]
    rw [if_pos hk])
  have HHD := Lib.hid (show ∃ x : Node3, t[m]? = some x ∧ x.1 ≠ 6 from by
    have h0 : (f ++ args.flatten)[0]? = some (f[0]'hfp) := by rw [List.getElem?_append_left hfp, List.getElem?_eq_getElem hfp]
    refine ⟨f[0]'hfp, ?_, hsp.headr _ h0⟩
    rw [← h0, ← hdr, List.getElem?_drop, Nat.add_zero])
  have HA := Lib.hid (show ∀ w', Below w.heap.size w w' → Holds w' (some ⟨g, o, none⟩) (nodesV t) from fun w' hb => hA.below hb)
  have HL := Lib.hid (show ∀ w', Below w.heap.size w w' → Lim w' from fun w' hb => hL.next hb)
  have HN := Lib.hid hn
  have HM := Lib.hid hm
  have HS := Lib.hid hs
  have HDR := Lib.hid hdr
  have HSL := Lib.hid hsl
  have HG := Lib.hid hg
  have hmn : m < n := by omega
  clear hs hsp hrow hfp hdr hA hL hn hm hsl hg
  go_enter Tryd.func34, Tryd.ntmps34
  go_wp2_with fail
  refine (HSH.out).mono ?_
  rintro e w1 ⟨rfl, hb1⟩
  have HB1 := Lib.hid hb1
  clear hb1
  go_wp2_with fail
  go_loopw [4] (fun i wr => ∃ k : Nat, i = .int .i64 (k : Int) ∧ k ≤ m ∧ Hid (Below w.heap.size w wr)) (fun i _ => m - (intOf i).toNat)
  case atStart => exact ⟨0, rfl, Nat.zero_le _, HB1⟩
  case round =>
    obtain ⟨k, rfl, hk, HB⟩ := hrel
    have hAr := HA.out _ HB.out
    by_cases hlt : k < m
    · have hkt : k < t.length := by have := HN.out; omega
      have r0 := hAr.cell (nodesV_get0 hkt)
      have h6 : t[k] = (6, 0, 0) := by have := HOP.out k hlt; rwa [List.getElem?_eq_getElem hkt, Option.some.injEq] at this
      rw [h6] at r0
      simp only at r0
      clear hAr h6 hkt
      go_wp2_with fail
      go_roundw
      case rel => exact ⟨k + 1, by go_num, by omega, HB⟩
      case measure => simp [intOf] <;> omega
    · obtain rfl : k = m := by omega
      have hkt : k < t.length := by have := HN.out; omega
      have r0 := hAr.cell (nodesV_get0 hkt)
      obtain ⟨x, hx, hx6⟩ := HHD.out
      rw [List.getElem?_eq_getElem hkt, Option.some.injEq] at hx
      rw [hx] at r0
      obtain ⟨xo, xA, xB⟩ := x
      simp only at r0 hx6
      have e6 : (xo == 6) = false := by simpa using hx6
      obtain ⟨nf, hnf⟩ : ∃ nf, f.length = nf := ⟨_, rfl⟩
      have HNF := Lib.hid hnf
      have HC := Lib.hid (cut_any g o n c k nf t f args.flatten wr HN.out (by omega) HSL.out hAr (HL.out _ HB.out) (by omega) HDR.out HSP.out.fn hnf)
      clear hAr hx hkt hnf
      go_wp2_with fail
      refine (HC.out).mono ?_
      rintro e w2 ⟨A2, c2, rfl, ho2, hb2⟩
      have HO2 := Lib.hid (show OwnN w2 w.heap.size (.slice A2 nf c2) nf f from ⟨ho2.1, ho2.2.imp id (by
        rintro ⟨g', cap, cur, e, h1, h2⟩
        exact ⟨g', cap, cur, e, Nat.le_trans HB.out.size h1, h2⟩)⟩)
      have HB2 := Lib.hid (below_step HB.out hb2)
      have HZ2 := Lib.hid hb2
      have HFL := Lib.hid HSP.out
      have hmk := make_rows k (by omega) w2
      have HST := Lib.hid (RowsRun.start k HB2.out)
      have HM2 := Lib.hid hmk
      have hfl : k + nf ≤ n := by have := HNF.out; omega
      have HD0 : Hid (t.drop (k + nf) = args.flatten) := Lib.hid (by rw [← List.drop_drop, HDR.out, List.drop_left' HNF.out])
      clear ho2 hb2 HC
      go_wp2_with fail
      obtain ⟨wo, hwo⟩ : ∃ wo : World, wo = w2.alloc (.cells (mkRows k) 23) := ⟨_, rfl⟩
      rw [← hwo] at HST ⊢
      have HOF := Lib.hid (show Below w2.heap.size w2 wo by rw [hwo]; exact (Below.refl _ _).alloc (Nat.le_refl _) _)
      clear hwo hmk HM2
      go_loopw [6, 30] (fun at_ i wr => ∃ (j p : Nat) (L : List RowT), at_ = .int .i64 (p : Int) ∧ i = .int .i64 (j : Int) ∧ j ≤ k ∧ p ≤ n ∧ L.length = j ∧ Hid (L.map (fun x => x.2.2) = args.take j) ∧ Hid (t.drop p = (args.drop j).flatten) ∧ Hid (RowsRun w wr w2.heap.size k L) ∧ Hid (Below w2.heap.size w2 wr)) (fun _ i _ => k - (intOf i).toNat)
      case atStart => exact ⟨0, k + nf, [], by go_num, rfl, Nat.zero_le _, hfl, rfl, Lib.hid (by simp), Lib.hid (by rw [HD0.out, List.drop_zero]), HST, HOF⟩
      case round =>
        obtain ⟨j, p, L, rfl, rfl, hj, hp, hlen, HLR, HDP, HR, HBW⟩ := hrel
        by_cases hlt2 : j < k
        · have hja : j < args.length := by rw [HM.out]; exact hlt2
          have hdj : args.drop j = args[j] :: args.drop (j + 1) := List.drop_eq_getElem_cons hja
          have hdp := HDP.out
          rw [hdj, List.flatten_cons] at hdp
          obtain ⟨mj, hmj⟩ : ∃ mj, args[j].length = mj := ⟨_, rfl⟩
          have hbr := HR.out.bl
          have HC := Lib.hid (cut_any g o n c p mj t args[j] (args.drop (j + 1)).flatten wr HN.out (by omega) HSL.out (HA.out _ hbr) (HL.out _ hbr) hp hdp (HSP.out.kids _ (List.getElem_mem hja)) hmj)
          have hpm : p + mj ≤ n := by
            have := congrArg List.length hdp
            rw [List.length_drop, List.length_append, HN.out, hmj] at this
            have := (HSP.out.kids _ (List.getElem_mem hja)).pos
            omega
          have HD1 : Hid (t.drop (p + mj) = (args.drop (j + 1)).flatten) := Lib.hid (by rw [← List.drop_drop, hdp, List.drop_left' hmj])
          have HLR1 : Hid (∀ A c, (L ++ [((A, c, args[j]) : RowT)]).map (fun x => x.2.2) = args.take (j + 1)) := Lib.hid fun A c => by
            rw [List.map_append, HLR.out, List.take_succ_eq_append_getElem hja]
            rfl
          have HMJ := Lib.hid hmj
          have hgR := HR.out.whole.lt
          have cR := HR.out.cell (by omega)
          rw [hlen] at cR
          have HWR := Lib.hid HR.out.whole
          clear hdj hdp hbr hmj
          go_wp2_with fail
          refine (HC.out).mono ?_
          rintro e w4 ⟨A4, c4, rfl, ho4, hb4⟩
          have cR4 := (hb4.cell (p := ⟨w2.heap.size, j, none⟩) hgR).trans cR
          have fR4 : w4.frozen? ⟨w2.heap.size, j, none⟩ = false := (HWR.out.below hb4 hgR).frozen j
          have hst := HR.out.step hb4 ho4 HMJ.out (by omega)
          rw [hlen] at hst
          have HR4 := Lib.hid hst
          have HB4 : Hid (Below w2.heap.size w2 (w4.setCell ⟨w2.heap.size, j, none⟩ (.slice A4 mj c4))) := Lib.hid ((HBW.out.trans (hb4.mono HBW.out.size)).setCell (by simp only; omega) _)
          clear hst hb4 ho4 HC cR hgR HWR
          go_wp2_with fail
          go_roundw
          case rel => exact ⟨j + 1, p + mj, L ++ [(A4, c4, args[j])], by go_num, by go_num, by omega, hpm, by rw [List.length_append, hlen]; rfl, Lib.hid (HLR1.out A4 c4), HD1, HR4, HB4⟩
          case measure => simp [intOf] <;> omega
        · obtain rfl : j = k := by omega
          have hr := HR.out
          have HX : Hid (L.map (fun x => x.2.2) = args) := Lib.hid (by rw [HLR.out, List.take_of_length_le (by rw [HM.out]; exact Nat.le_refl _)])
          go_wp2_with fail
          go_ret2
          refine ⟨A2, nf, c2, f, some ⟨w2.heap.size, 0, none⟩, j, L, by rw [hlen]; rfl, HNF.out, ?_, ⟨by omega, by omega, fun h => by cases h⟩, hr.done hlen, hr.ok, fun x hx b o e => ?_, fun b o e => ?_, hr.bl, .inr ⟨HS.out, by rw [HX.out]; exact HSP.out⟩⟩
          · exact own_below HO2.out HBW.out
          · have := hr.ne x hx b o e; have := hr.new; omega
          · cases e; exact hr.new
end Go.Proofs.YtkkkblghihheeaaDoor
namespace Go.Proofs.YtkkkblghihheeaaDoor
open Go.RowKit

/-- The rows' nodes, one behind the other. -/
def flatR (l : List RowT) : List Node3 := (l.map fun x => x.2.2).flatten
theorem flatR_take {l : List RowT} {k : Nat} (h : k < l.length) : flatR (l.take (k + 1)) = flatR (l.take k) ++ l[k].2.2 := by
  unfold flatR
  rw [List.take_succ_eq_append_getElem h, List.map_append, List.flatten_append]
  simp
theorem flatR_le (l : List RowT) (k : Nat) : (flatR (l.take k)).length ≤ (flatR l).length := by
  have : flatR l = flatR (l.take k) ++ flatR (l.drop k) := by
    unfold flatR
    rw [← List.flatten_append, ← List.map_append, List.take_append_drop]
  rw [this, List.length_append]
  omega
theorem GrowAt.start (w : World) : GrowAt (w.alloc (.cells #[.slice none 0 0, .int .i64 0] 80)) w.heap.size [] (.slice none 0 0) :=
  ⟨Whole.new w _ _, ⟨[], World.ownsRow_nil _ _ _ _, Nat.zero_le _, fun _ => rfl⟩, by simp [Value.ownBlock]⟩
/-- A growing row among the new blocks. -/
structure GRun (w wr : World) (g : Nat) (L : List Node3) (v : Value) : Prop where
  gr : GrowAt wr g L v
  new : ∀ k, GrowF g v k → w.heap.size ≤ k
  bl : Below w.heap.size w wr
theorem GRun.next {w wr w1 : World} {g : Nat} {L : List Node3} {v : Value} (h : GRun w wr g L v) (hb : Below wr.heap.size wr w1) : GRun w w1 g L v :=
  ⟨h.gr.below hb, h.new, below_step h.bl hb⟩
theorem GRun.put {w wr w1 : World} {g : Nat} {L r : List Node3} {v : Value} {e : Ending} (h : GRun w wr g L v) (hp : PutPost g (L ++ r) v wr e w1) : e = .returned (.tuple #[]) ∧ ∃ v', GRun w w1 g (L ++ r) v' := by
  obtain ⟨he, v', h1, h2, h3⟩ := hp
  refine ⟨he, v', h1, fun k hk => ?_, h.bl.trans (h2.below h.bl.size fun k hk hl => by have := h.new k hl; omega)⟩
  rcases h3 k hk with h' | h'
  · exact h.new k h'
  · exact Nat.le_trans h.bl.size h'
theorem GRun.row {w wr : World} {g : Nat} {L : List Node3} {v : Value} (h : GRun w wr g L v) (hl : L.length ≤ 4096) : ∃ A n c, v = .slice A n c ∧ L.length = n ∧ OwnN wr w.heap.size (.slice A n c) n L := by
  obtain ⟨l, ho, -, h1⟩ := h.gr.own
  obtain rfl := h1 hl
  obtain ⟨A, c, rfl, -, -⟩ := own_slice ho
  refine ⟨A, _, c, rfl, rfl, ho.1, ho.2.imp id ?_⟩
  rintro ⟨g', cap, cur, e, _, hr⟩
  cases e
  exact ⟨g', _, cur, rfl, h.new g' (.inr rfl), hr⟩
theorem ffS_cons (t : List Node3) (r : List (List Node3)) : ffS (t :: r) = if shapeOf t ≠ 0 then shapeOf t else ffS r := rfl
/-- What Apply and Bind answer of the whole. -/
def bigS (r : List Node3) : List Node3 × Int := if 4096 < r.length then ([], 9) else (r, 0)
theorem bind_flat {op : Int} {l : List RowT} {k : Nat} (h : k < l.length) : (l.take (k + 1)).flatMap (fun x => (op, 0, 0) :: x.2.2) = (l.take k).flatMap (fun x => (op, 0, 0) :: x.2.2) ++ [(op, 0, 0)] ++ l[k].2.2 := by
  rw [List.take_succ_eq_append_getElem h, List.flatMap_append]
  simp
def applyS (t : List Node3) (ls : List (List Node3)) : List Node3 × Int := if ffS (t :: ls) ≠ 0 then ([], ffS (t :: ls)) else bigS (List.replicate ls.length (6, 0, 0) ++ t ++ ls.flatten)
def bindS (op : Int) (ls : List (List Node3)) (t : List Node3) : List Node3 × Int := if op ≠ 4 ∧ op ≠ 5 then ([], 1) else if ffS ls ≠ 0 then ([], ffS ls) else if shapeOf t ≠ 0 then ([], shapeOf t) else bigS (ls.flatMap (fun r => (op, 0, 0) :: r) ++ t)
set_option maxHeartbeats 4000000 in
theorem tapply_any (A : Option Addr) (n c : Nat) (t : List Node3) (R : Option Addr) (m cr : Nat) (l : List RowT) (w : World) (hn : t.length = n) (hs : Slice A n c) (hA : Holds w A (nodesV t)) (hm : l.length = m) (hmb : m ≤ 100000) (hR : Holds w R (l.map rowV)) (hok : RowsOk w l) (hL : Lim w) (hnb : n ≤ 100000) (htot : (flatR l).length ≤ 100000) :
    Calls Tryd.prog 36 #[.slice A n c, .slice R m cr] w (RowAns (applyS t (l.map fun x => x.2.2)) w) := by
  have HA := Lib.hid (show ∀ w', Below w.heap.size w w' → Holds w' A (nodesV t) from fun w' hb => hA.below hb)
  have HR := Lib.hid (show ∀ w', Below w.heap.size w w' → Holds w' R (l.map rowV) from fun w' hb => hR.below hb)
  have HOK := Lib.hid (show ∀ w', Below w.heap.size w w' → RowsOk w' l from fun w' hb => hok.below hb)
  have HAN := Lib.hid (show ∀ b o, A = some ⟨b, o, none⟩ → 0 < n → b < w.heap.size from fun b o e h0 => by
    obtain ⟨b', o', e', hb, _⟩ := hA.at_ (by rw [nodesV_len]; omega)
    rw [e] at e'; cases e'; exact hb)
  have HLIT := Lib.hid (show Holds (w.alloc (.cells #[.slice A n c] 23)) (some ⟨w.heap.size, 0, none⟩) (([(A, c, t)] : List RowT).map rowV) by
    have := holds_at w #[.slice A n c] 23 (([(A, c, t)] : List RowT).map rowV) (by simp [rowV, hn])
    exact this)
  have hb0 : Below w.heap.size w (w.alloc (.cells #[.slice A n c] 23)) := (Below.refl _ _).alloc (Nat.le_refl _) _
  have HB0 := Lib.hid hb0
  have HF1 := Lib.hid (firstFault_any (some ⟨w.heap.size, 0, none⟩) 1 1 [(A, c, t)] (w.alloc (.cells #[.slice A n c] 23)) rfl (by omega) HLIT.out (fun x hx => by
    simp only [List.mem_cons, List.not_mem_nil, or_false] at hx; subst hx
    simp only
    rw [hn]
    exact ⟨hs, hA.below hb0⟩) (hL.next hb0))
  have HF2 := Lib.hid (show ∀ w', Below w.heap.size w w' → _ from fun w' hb => firstFault_any R m cr l w' hm (by omega) (hR.below hb) (hok.below hb) (hL.next hb))
  have HN := Lib.hid hn
  have HM := Lib.hid hm
  have HS := Lib.hid hs
  have HTOT := Lib.hid htot
  have HOKL := Lib.hid (show ∀ x ∈ l, ∀ b o, x.1 = some ⟨b, o, none⟩ → 0 < x.2.2.length → b < w.heap.size from fun x hx b o e h0 => by
    obtain ⟨b', o', e', hb, _⟩ := (hok x hx).2.at_ (by rw [nodesV_len]; omega)
    rw [e] at e'; cases e'; exact hb)
  have e1 : ffS ([(A, c, t)].map fun x : RowT => x.2.2) = shapeOf t := by
    show (if shapeOf t ≠ 0 then shapeOf t else 0) = shapeOf t
    split <;> omega
  rw [e1] at HF1
  clear hA hR hok hL hb0 hn hs htot e1
  obtain ⟨s1, hs1⟩ : ∃ s1, shapeOf t = s1 := ⟨_, rfl⟩
  obtain ⟨s2, hs2⟩ : ∃ s2, ffS (l.map fun x => x.2.2) = s2 := ⟨_, rfl⟩
  rw [hs1] at HF1
  rw [hs2] at HF2
  by_cases z1 : s1 = 0
  case neg =>
    have HAN' : Hid (applyS t (l.map fun x => x.2.2) = ([], s1)) := Lib.hid (by unfold applyS; rw [ffS_cons, hs1, if_pos z1, if_pos z1])
    have e1 : (s1 != 0) = true := by simpa using z1
    clear hs1 hs2 z1 HF2
    go_enter Tryd.func36, Tryd.ntmps36
    go_wp2_with fail
    refine (HF1.out).mono ?_
    rintro e w1 ⟨rfl, hb1⟩
    go_wp2_with fail
    go_ret2
    rw [HAN'.out]
    exact RowAns.none _ (below_step HB0.out hb1)
  subst z1
  by_cases z2 : s2 = 0
  case neg =>
    have HAN' : Hid (applyS t (l.map fun x => x.2.2) = ([], s2)) := Lib.hid (by unfold applyS; rw [show ffS (t :: l.map fun x => x.2.2) = s2 by rw [ffS_cons, hs1, hs2]; simp, if_pos z2])
    have e1 : (s2 != 0) = true := by simpa using z2
    clear hs1 hs2 z2
    go_enter Tryd.func36, Tryd.ntmps36
    go_wp2_with fail
    refine (HF1.out).mono ?_
    rintro e w1 ⟨rfl, hb1⟩
    have HB1 := Lib.hid (below_step HB0.out hb1)
    clear hb1
    go_wp2_with fail
    refine (HF2.out _ HB1.out).mono ?_
    rintro e w2 ⟨rfl, hb2⟩
    go_wp2_with fail
    go_ret2
    rw [HAN'.out]
    exact RowAns.none _ (below_step HB1.out hb2)
  subst z2
  have HAPP : Hid (applyS t (l.map fun x => x.2.2) = bigS (List.replicate m (6, 0, 0) ++ t ++ flatR l)) := Lib.hid (by
    unfold applyS
    rw [show ffS (t :: l.map fun x => x.2.2) = 0 by rw [ffS_cons, hs1, hs2]; simp, if_neg (by simp), List.length_map, HM.out]
    rfl)
  have hpos : 0 < n := by have := (right_of hs1).2.1; have := HN.out; omega
  have HPOS := Lib.hid (show ∀ x ∈ l, 0 < x.2.2.length from fun x hx => (right_of (ff_zero hs2 _ (List.mem_map.2 ⟨x, hx, rfl⟩))).2.1)
  clear hs1 hs2
  go_enter Tryd.func36, Tryd.ntmps36
  go_wp2_with fail
  refine (HF1.out).mono ?_
  rintro e w1 ⟨rfl, hb1⟩
  have HB1 := Lib.hid (below_step HB0.out hb1)
  clear hb1
  go_wp2_with fail
  refine (HF2.out _ HB1.out).mono ?_
  rintro e w2 ⟨rfl, hb2⟩
  have HB2 := Lib.hid (below_step HB1.out hb2)
  have hst : GRun w (w2.alloc (.cells #[.slice none 0 0, .int .i64 0] 80)) w2.heap.size [] (.slice none 0 0) := ⟨GrowAt.start w2, fun k hk => by
    rcases hk with rfl | hk
    · exact HB2.out.size
    · simp [Value.ownBlock] at hk, below_alloc HB2.out _⟩
  have HST := Lib.hid hst
  have HGS := Lib.hid HB2.out.size
  clear hb2 hst
  go_wp2_with fail
  go_loopw [24] (fun i wr => ∃ (k : Nat) (v : Value), i = .int .i64 (k : Int) ∧ k ≤ m ∧ Hid (GRun w wr w2.heap.size (List.replicate k (6, 0, 0)) v)) (fun i _ => m - (intOf i).toNat)
  case atStart => exact ⟨0, _, rfl, Nat.zero_le _, HST⟩
  case round =>
    obtain ⟨k, v, rfl, hk, HG⟩ := hrel
    by_cases hlt : k < m
    · have hg1 := HG.out.next (w1 := (wr.alloc (.cells #[.int .i64 6, .int .i64 0, .int .i64 0] 53))) ((Below.refl _ _).alloc (Nat.le_refl _) _)
      have HP := Lib.hid (put_any w2.heap.size (List.replicate k (6, 0, 0)) [(6, 0, 0)] v (some ⟨wr.heap.size, 0, none⟩) 1 1 (wr.alloc (.cells #[.int .i64 6, .int .i64 0, .int .i64 0] 53)) hg1.gr rfl ⟨Nat.le_refl _, by omega, fun h => by cases h⟩ (holds_at wr #[.int .i64 6, .int .i64 0, .int .i64 0] 53 _ rfl) (fun b o e => by cases e; have := HG.out.gr.whole.lt; omega) (by rw [List.length_replicate]; omega))
      have HG1 := Lib.hid hg1
      clear hg1
      go_wp2_with fail
      refine (HP.out).mono ?_
      intro e w3 hp
      obtain ⟨rfl, v', hg3⟩ := HG1.out.put hp
      rw [← List.replicate_succ'] at hg3
      have HG3 := Lib.hid hg3
      clear hp hg3 HP
      go_wp2_with fail
      go_roundw
      case rel => exact ⟨k + 1, v', by go_num, by omega, HG3⟩
      case measure => simp [intOf] <;> omega
    · obtain rfl : k = m := by omega
      have HP := Lib.hid (put_any w2.heap.size (List.replicate k (6, 0, 0)) t v A n c wr HG.out.gr HN.out HS.out (HA.out _ HG.out.bl) (fun b o e => by
        have := HAN.out b o e hpos; have := HGS.out; omega) (by rw [List.length_replicate]; omega))
      obtain ⟨wo, rfl⟩ : ∃ wo : World, wo = wr := ⟨_, rfl⟩
      go_wp2_with fail
      refine (HP.out).mono ?_
      intro e w3 hp
      obtain ⟨rfl, v', hg3⟩ := HG.out.put hp
      have HG3 := Lib.hid hg3
      clear hp hg3 HP
      go_wp2_with fail
      go_loopw [34] (fun i wr => ∃ (j : Nat) (v : Value), i = .int .i64 (j : Int) ∧ j ≤ k ∧ Hid (GRun w wr w2.heap.size (List.replicate k (6, 0, 0) ++ t ++ flatR (l.take j)) v)) (fun i _ => k - (intOf i).toNat)
      case atStart => exact ⟨0, _, rfl, Nat.zero_le _, Lib.hid (by simpa [flatR] using HG3.out)⟩
      case round =>
        obtain ⟨j, v, rfl, hj, HG⟩ := hrel
        by_cases hlt : j < k
        · have hkl : j < l.length := by rw [HM.out]; exact hlt
          obtain ⟨b, o, rfl, hbl, hc⟩ := (HR.out _ HG.out.bl).at_ (by rw [List.length_map]; omega)
          have r0 := hc j _ (rowsV_get hkl)
          have hrow := HOK.out _ HG.out.bl l[j] (List.getElem_mem hkl)
          have hlen : (List.replicate k ((6, 0, 0) : Node3) ++ t ++ flatR (l.take j)).length + l[j].2.2.length ≤ 1000000000 := by
            have h1 := flatR_le l (j + 1)
            rw [flatR_take hkl, List.length_append] at h1
            have h2 := HTOT.out
            have h3 := HN.out
            rw [List.length_append, List.length_append, List.length_replicate]
            omega
          have HP := Lib.hid (put_any w2.heap.size _ l[j].2.2 v l[j].1 l[j].2.2.length l[j].2.1 wr HG.out.gr rfl hrow.1 hrow.2 (fun b o e => by
            have h1 := HOKL.out l[j] (List.getElem_mem hkl) b o e (HPOS.out _ (List.getElem_mem hkl))
            have := HGS.out; omega) hlen)
          have HFT := Lib.hid (flatR_take hkl)
          clear hc hrow hlen
          generalize l[j].2.2.length = nj at *
          generalize l[j].1 = Aj at *
          generalize l[j].2.1 = cj at *
          go_wp2_with fail
          refine (HP.out).mono ?_
          intro e w4 hp
          obtain ⟨rfl, v', hg4⟩ := HG.out.put hp
          rw [List.append_assoc, ← HFT.out] at hg4
          have HG4 := Lib.hid hg4
          clear hp hg4 HP
          go_wp2_with fail
          go_roundw
          case rel => exact ⟨j + 1, v', by go_num, by omega, HG4⟩
          case measure => simp [intOf] <;> omega
        · obtain rfl : j = k := by omega
          have HGE : Hid (GRun w wr w2.heap.size (List.replicate j (6, 0, 0) ++ t ++ flatR l) v) := Lib.hid (by
            have := HG.out
            rwa [List.take_of_length_le (by rw [HM.out]; exact Nat.le_refl _)] at this)
          have HLR := Lib.hid (grow_row _ _ _ _ HGE.out.gr)
          go_wp2_with fail
          refine (HLR.out).mono ?_
          rintro e w5 ⟨rfl, (⟨hbig, rfl⟩ | ⟨hsm, rfl⟩)⟩
          · have HX : Hid (applyS t (l.map fun x => x.2.2) = ([], 9)) := Lib.hid (by rw [HAPP.out]; unfold bigS; rw [if_pos hbig])
            go_wp2_with fail
            go_ret2
            rw [HX.out]
            exact RowAns.none _ HGE.out.bl
          · have HX : Hid (applyS t (l.map fun x => x.2.2) = (List.replicate j (6, 0, 0) ++ t ++ flatR l, 0)) := Lib.hid (by rw [HAPP.out]; unfold bigS; rw [if_neg (by omega)])
            obtain ⟨A5, n5, c5, rfl, hn5, ho5⟩ := HGE.out.row (by omega)
            have HO5 := Lib.hid ho5
            clear ho5
            go_wp2_with fail
            go_ret2
            rw [HX.out]
            exact RowAns.row hn5 HO5.out HGE.out.bl
set_option maxHeartbeats 4000000 in
theorem tbind_any (op : Int) (A : Option Addr) (n c : Nat) (t : List Node3) (R : Option Addr) (m cr : Nat) (l : List RowT) (w : World) (hn : t.length = n) (hs : Slice A n c) (hA : Holds w A (nodesV t)) (hm : l.length = m) (hmb : m ≤ 100000) (hR : Holds w R (l.map rowV)) (hok : RowsOk w l) (hL : Lim w) (hnb : n ≤ 100000) (htot : (flatR l).length ≤ 100000) :
    Calls Tryd.prog 38 #[.int .i64 op, .slice R m cr, .slice A n c] w (RowAns (bindS op (l.map fun x => x.2.2) t) w) := by
  by_cases hop : op ≠ 4 ∧ op ≠ 5
  · have HX : Hid (bindS op (l.map fun x => x.2.2) t = ([], 1)) := Lib.hid (by unfold bindS; rw [if_pos hop])
    obtain ⟨h4, h5⟩ := hop
    have e4 : (op != 4) = true := by simpa using h4
    have e5 : (op != 5) = true := by simpa using h5
    clear hA hR hok hL
    go_enter Tryd.func38, Tryd.ntmps38
    go_wp2_with fail
    go_ret2
    rw [HX.out]
    exact RowAns.none _ (Below.refl _ _)
  have HA := Lib.hid (show ∀ w', Below w.heap.size w w' → Holds w' A (nodesV t) from fun w' hb => hA.below hb)
  have HR := Lib.hid (show ∀ w', Below w.heap.size w w' → Holds w' R (l.map rowV) from fun w' hb => hR.below hb)
  have HOK := Lib.hid (show ∀ w', Below w.heap.size w w' → RowsOk w' l from fun w' hb => hok.below hb)
  have HAN := Lib.hid (show ∀ b o, A = some ⟨b, o, none⟩ → 0 < n → b < w.heap.size from fun b o e h0 => by
    obtain ⟨b', o', e', hb, _⟩ := hA.at_ (by rw [nodesV_len]; omega)
    rw [e] at e'; cases e'; exact hb)
  have e1 : ffS ([(A, c, t)].map fun x : RowT => x.2.2) = shapeOf t := by
    show (if shapeOf t ≠ 0 then shapeOf t else 0) = shapeOf t
    split <;> omega
  have HF1 := Lib.hid (show ∀ w1, Below w.heap.size w w1 → _ from fun w1 hb1 => firstFault_any (some ⟨w1.heap.size, 0, none⟩) 1 1 [(A, c, t)] (w1.alloc (.cells #[.slice A n c] 23)) rfl (by omega) (by
    have := holds_at w1 #[.slice A n c] 23 (([(A, c, t)] : List RowT).map rowV) (by simp [rowV, hn])
    exact this) (fun x hx => by
    simp only [List.mem_cons, List.not_mem_nil, or_false] at hx; subst hx
    simp only
    rw [hn]
    exact ⟨hs, hA.below (below_alloc hb1 _)⟩) (hL.next (below_alloc hb1 _)))
  rw [e1] at HF1
  have HF2 := Lib.hid (firstFault_any R m cr l w hm (by omega) hR hok hL)
  have HN := Lib.hid hn
  have HM := Lib.hid hm
  have HS := Lib.hid hs
  have HTOT := Lib.hid htot
  have HOKL := Lib.hid (show ∀ x ∈ l, ∀ b o, x.1 = some ⟨b, o, none⟩ → 0 < x.2.2.length → b < w.heap.size from fun x hx b o e h0 => by
    obtain ⟨b', o', e', hb, _⟩ := (hok x hx).2.at_ (by rw [nodesV_len]; omega)
    rw [e] at e'; cases e'; exact hb)
  clear hA hR hok hL hn hs htot e1
  obtain ⟨s1, hs1⟩ : ∃ s1, shapeOf t = s1 := ⟨_, rfl⟩
  obtain ⟨s2, hs2⟩ : ∃ s2, ffS (l.map fun x => x.2.2) = s2 := ⟨_, rfl⟩
  rw [hs1] at HF1
  rw [hs2] at HF2
  have HBX : Hid (bindS op (l.map fun x => x.2.2) t = if s2 ≠ 0 then ([], s2) else if s1 ≠ 0 then ([], s1) else bigS ((l.map fun x => x.2.2).flatMap (fun r => (op, 0, 0) :: r) ++ t)) := Lib.hid (by unfold bindS; rw [if_neg hop, hs1, hs2])
  rw [show (l.map fun x => x.2.2).flatMap (fun r => ((op, 0, 0) : Node3) :: r) = l.flatMap (fun x => (op, 0, 0) :: x.2.2) by rw [List.flatMap_map]] at HBX
  have e45 : op = 4 ∨ op = 5 := by omega
  clear hop
  by_cases z2 : s2 = 0
  case neg =>
    have HX := Lib.hid (HBX.out.trans (if_pos z2))
    have e1 : (s2 != 0) = true := by simpa using z2
    clear hs1 hs2 z2 HBX
    rcases e45 with rfl | rfl
    all_goals
      go_enter Tryd.func38, Tryd.ntmps38
      go_wp2_with fail
      refine (HF2.out).mono ?_
      rintro e w1 ⟨rfl, hb1⟩
      go_wp2_with fail
      go_ret2
      rw [HX.out]
      exact RowAns.none _ hb1
  have HBX2 := Lib.hid (HBX.out.trans (if_neg (by simpa using z2)))
  subst z2
  by_cases z1 : s1 = 0
  case neg =>
    have HX := Lib.hid (HBX2.out.trans (if_pos z1))
    have e1 : (s1 != 0) = true := by simpa using z1
    clear hs1 hs2 z1 HBX HBX2
    rcases e45 with rfl | rfl
    all_goals
      go_enter Tryd.func38, Tryd.ntmps38
      go_wp2_with fail
      refine (HF2.out).mono ?_
      rintro e w1 ⟨rfl, hb1⟩
      go_wp2_with fail
      refine (HF1.out w1 hb1).mono ?_
      rintro e w2 ⟨rfl, hb2⟩
      go_wp2_with fail
      go_ret2
      rw [HX.out]
      exact RowAns.none _ (below_step (below_alloc hb1 _) hb2)
  have HBX3 := Lib.hid (HBX2.out.trans (if_neg (by simpa using z1)))
  subst z1
  have hpos : 0 < n := by have := (right_of hs1).2.1; have := HN.out; omega
  have HPOS := Lib.hid (show ∀ x ∈ l, 0 < x.2.2.length from fun x hx => (right_of (ff_zero hs2 _ (List.mem_map.2 ⟨x, hx, rfl⟩))).2.1)
  have HLB := Lib.hid (show ∀ k, ((l.take k).flatMap (fun x => ((op, 0, 0) : Node3) :: x.2.2)).length ≤ 200000 from fun k => by
    have h1 : ∀ l : List RowT, (l.flatMap (fun x => ((op, 0, 0) : Node3) :: x.2.2)).length = l.length + (flatR l).length := by
      intro l
      induction l with
      | nil => rfl
      | cons x l ih =>
        rw [List.flatMap_cons, List.length_append, ih]
        simp [flatR]
        omega
    rw [h1]
    have := flatR_le l k
    have := HTOT.out
    have := HM.out
    rw [List.length_take]
    omega)
  clear hs1 hs2 HBX HBX2
  have hne : (op != 4 && op != 5) = false := by rcases e45 with rfl | rfl <;> rfl
  have HE45 := Lib.hid e45
  clear e45
  rcases HE45.out with rfl | rfl
  · clear HE45 hne
    go_enter Tryd.func38, Tryd.ntmps38
    go_wp2_with fail
    refine (HF2.out).mono ?_
    rintro e w1 ⟨rfl, hb1⟩
    have HB1 := Lib.hid hb1
    have HB1' := Lib.hid (below_alloc hb1 (.cells #[.slice A n c] 23))
    clear hb1
    go_wp2_with fail
    refine (HF1.out w1 HB1.out).mono ?_
    rintro e w2 ⟨rfl, hb2⟩
    have HB2 := Lib.hid (below_step HB1'.out hb2)
    have hst : GRun w (w2.alloc (.cells #[.slice none 0 0, .int .i64 0] 80)) w2.heap.size [] (.slice none 0 0) := ⟨GrowAt.start w2, fun k hk => by
      rcases hk with rfl | hk
      · exact HB2.out.size
      · simp [Value.ownBlock] at hk, below_alloc HB2.out _⟩
    have HST := Lib.hid hst
    have HGS := Lib.hid HB2.out.size
    clear hb2 hst
    go_wp2_with fail
    go_loopw [32] (fun i wr => ∃ (k : Nat) (v : Value), i = .int .i64 (k : Int) ∧ k ≤ m ∧ Hid (GRun w wr w2.heap.size ((l.take k).flatMap (fun x => (4, 0, 0) :: x.2.2)) v)) (fun i _ => m - (intOf i).toNat)
    case atStart => exact ⟨0, _, rfl, Nat.zero_le _, Lib.hid (by simpa using HST.out)⟩
    case round =>
      obtain ⟨j, v, rfl, hj, HG⟩ := hrel
      by_cases hlt : j < m
      · have hkl : j < l.length := by rw [HM.out]; exact hlt
        obtain ⟨b, o, rfl, hbl, hc⟩ := (HR.out _ HG.out.bl).at_ (by rw [List.length_map]; omega)
        have r0 := hc j _ (rowsV_get hkl)
        have hg1 := HG.out.next (w1 := (wr.alloc (.cells #[.int .i64 4, .int .i64 0, .int .i64 0] 53))) ((Below.refl _ _).alloc (Nat.le_refl _) _)
        have HP := Lib.hid (put_any w2.heap.size _ [(4, 0, 0)] v (some ⟨wr.heap.size, 0, none⟩) 1 1 (wr.alloc (.cells #[.int .i64 4, .int .i64 0, .int .i64 0] 53)) hg1.gr rfl ⟨Nat.le_refl _, by omega, fun h => by cases h⟩ (holds_at wr #[.int .i64 4, .int .i64 0, .int .i64 0] 53 _ rfl) (fun b o e => by cases e; have := HG.out.gr.whole.lt; omega) (by have := HLB.out j; omega))
        have HG1 := Lib.hid hg1
        have HP2 := Lib.hid (fun w3 v3 (hg : GRun w w3 w2.heap.size ((l.take j).flatMap (fun x => (4, 0, 0) :: x.2.2) ++ [(4, 0, 0)]) v3) => put_any w2.heap.size _ l[j].2.2 v3 l[j].1 l[j].2.2.length l[j].2.1 w3 hg.gr rfl (HOK.out _ hg.bl l[j] (List.getElem_mem hkl)).1 (HOK.out _ hg.bl l[j] (List.getElem_mem hkl)).2 (fun b o e => by
          have h1 := HOKL.out l[j] (List.getElem_mem hkl) b o e (HPOS.out _ (List.getElem_mem hkl))
          have := HGS.out; omega) (by
          have h1 := HLB.out (j + 1)
          rw [bind_flat hkl, List.length_append] at h1
          omega))
        have HFT := Lib.hid (bind_flat (op := 4) hkl)
        clear hc hg1
        generalize l[j].2.2.length = nj at *
        generalize l[j].1 = Aj at *
        generalize l[j].2.1 = cj at *
        go_wp2_with fail
        refine (HP.out).mono ?_
        intro e w3 hp
        obtain ⟨rfl, v', hg3⟩ := HG1.out.put hp
        have HG3 := Lib.hid hg3
        have HP3 := Lib.hid (HP2.out w3 v' hg3)
        clear hp hg3 HP HP2
        go_wp2_with fail
        refine (HP3.out).mono ?_
        intro e w4 hp
        obtain ⟨rfl, v4, hg4⟩ := HG3.out.put hp
        rw [← HFT.out] at hg4
        have HG4 := Lib.hid hg4
        clear hp hg4 HP3
        go_wp2_with fail
        go_roundw
        case rel => exact ⟨j + 1, v4, by go_num, by omega, HG4⟩
        case measure => simp [intOf] <;> omega
      · obtain rfl : j = m := by omega
        have HGE : Hid (GRun w wr w2.heap.size (l.flatMap (fun x => (4, 0, 0) :: x.2.2)) v) := Lib.hid (by
          have := HG.out
          rwa [List.take_of_length_le (by rw [HM.out]; exact Nat.le_refl _)] at this)
        have HP := Lib.hid (put_any w2.heap.size _ t v A n c wr HGE.out.gr HN.out HS.out (HA.out _ HGE.out.bl) (fun b o e => by
          have := HAN.out b o e hpos; have := HGS.out; omega) (by
          have h1 := HLB.out j
          rw [List.take_of_length_le (by rw [HM.out]; exact Nat.le_refl _)] at h1
          omega))
        go_wp2_with fail
        refine (HP.out).mono ?_
        intro e w4 hp
        obtain ⟨rfl, v4, hg4⟩ := HGE.out.put hp
        have HG4 := Lib.hid hg4
        have HLR := Lib.hid (grow_row _ _ _ _ hg4.gr)
        clear hp hg4 HP
        go_wp2_with fail
        refine (HLR.out).mono ?_
        rintro e w5 ⟨rfl, (⟨hbig, rfl⟩ | ⟨hsm, rfl⟩)⟩
        · have HX := Lib.hid (HBX3.out.trans (show bigS _ = ([], 9) by unfold bigS; rw [if_pos hbig]))
          go_wp2_with fail
          go_ret2
          rw [HX.out]
          exact RowAns.none _ HG4.out.bl
        · have HX := Lib.hid (HBX3.out.trans (show bigS _ = (l.flatMap (fun x => (4, 0, 0) :: x.2.2) ++ t, 0) by unfold bigS; rw [if_neg (by omega)]))
          obtain ⟨A5, n5, c5, rfl, hn5, ho5⟩ := HG4.out.row (by omega)
          have HO5 := Lib.hid ho5
          clear ho5
          go_wp2_with fail
          go_ret2
          rw [HX.out]
          exact RowAns.row hn5 HO5.out HG4.out.bl
  · clear HE45 hne
    go_enter Tryd.func38, Tryd.ntmps38
    go_wp2_with fail
    refine (HF2.out).mono ?_
    rintro e w1 ⟨rfl, hb1⟩
    have HB1 := Lib.hid hb1
    have HB1' := Lib.hid (below_alloc hb1 (.cells #[.slice A n c] 23))
    clear hb1
    go_wp2_with fail
    refine (HF1.out w1 HB1.out).mono ?_
    rintro e w2 ⟨rfl, hb2⟩
    have HB2 := Lib.hid (below_step HB1'.out hb2)
    have hst : GRun w (w2.alloc (.cells #[.slice none 0 0, .int .i64 0] 80)) w2.heap.size [] (.slice none 0 0) := ⟨GrowAt.start w2, fun k hk => by
      rcases hk with rfl | hk
      · exact HB2.out.size
      · simp [Value.ownBlock] at hk, below_alloc HB2.out _⟩
    have HST := Lib.hid hst
    have HGS := Lib.hid HB2.out.size
    clear hb2 hst
    go_wp2_with fail
    go_loopw [32] (fun i wr => ∃ (k : Nat) (v : Value), i = .int .i64 (k : Int) ∧ k ≤ m ∧ Hid (GRun w wr w2.heap.size ((l.take k).flatMap (fun x => (5, 0, 0) :: x.2.2)) v)) (fun i _ => m - (intOf i).toNat)
    case atStart => exact ⟨0, _, rfl, Nat.zero_le _, Lib.hid (by simpa using HST.out)⟩
    case round =>
      obtain ⟨j, v, rfl, hj, HG⟩ := hrel
      by_cases hlt : j < m
      · have hkl : j < l.length := by rw [HM.out]; exact hlt
        obtain ⟨b, o, rfl, hbl, hc⟩ := (HR.out _ HG.out.bl).at_ (by rw [List.length_map]; omega)
        have r0 := hc j _ (rowsV_get hkl)
        have hg1 := HG.out.next (w1 := (wr.alloc (.cells #[.int .i64 5, .int .i64 0, .int .i64 0] 53))) ((Below.refl _ _).alloc (Nat.le_refl _) _)
        have HP := Lib.hid (put_any w2.heap.size _ [(5, 0, 0)] v (some ⟨wr.heap.size, 0, none⟩) 1 1 (wr.alloc (.cells #[.int .i64 5, .int .i64 0, .int .i64 0] 53)) hg1.gr rfl ⟨Nat.le_refl _, by omega, fun h => by cases h⟩ (holds_at wr #[.int .i64 5, .int .i64 0, .int .i64 0] 53 _ rfl) (fun b o e => by cases e; have := HG.out.gr.whole.lt; omega) (by have := HLB.out j; omega))
        have HG1 := Lib.hid hg1
        have HP2 := Lib.hid (fun w3 v3 (hg : GRun w w3 w2.heap.size ((l.take j).flatMap (fun x => (5, 0, 0) :: x.2.2) ++ [(5, 0, 0)]) v3) => put_any w2.heap.size _ l[j].2.2 v3 l[j].1 l[j].2.2.length l[j].2.1 w3 hg.gr rfl (HOK.out _ hg.bl l[j] (List.getElem_mem hkl)).1 (HOK.out _ hg.bl l[j] (List.getElem_mem hkl)).2 (fun b o e => by
          have h1 := HOKL.out l[j] (List.getElem_mem hkl) b o e (HPOS.out _ (List.getElem_mem hkl))
          have := HGS.out; omega) (by
          have h1 := HLB.out (j + 1)
          rw [bind_flat hkl, List.length_append] at h1
          omega))
        have HFT := Lib.hid (bind_flat (op := 5) hkl)
        clear hc hg1
        generalize l[j].2.2.length = nj at *
        generalize l[j].1 = Aj at *
        generalize l[j].2.1 = cj at *
        go_wp2_with fail
        refine (HP.out).mono ?_
        intro e w3 hp
        obtain ⟨rfl, v', hg3⟩ := HG1.out.put hp
        have HG3 := Lib.hid hg3
        have HP3 := Lib.hid (HP2.out w3 v' hg3)
        clear hp hg3 HP HP2
        go_wp2_with fail
        refine (HP3.out).mono ?_
        intro e w4 hp
        obtain ⟨rfl, v4, hg4⟩ := HG3.out.put hp
        rw [← HFT.out] at hg4
        have HG4 := Lib.hid hg4
        clear hp hg4 HP3
        go_wp2_with fail
        go_roundw
        case rel => exact ⟨j + 1, v4, by go_num, by omega, HG4⟩
        case measure => simp [intOf] <;> omega
      · obtain rfl : j = m := by omega
        have HGE : Hid (GRun w wr w2.heap.size (l.flatMap (fun x => (5, 0, 0) :: x.2.2)) v) := Lib.hid (by
          have := HG.out
          rwa [List.take_of_length_le (by rw [HM.out]; exact Nat.le_refl _)] at this)
        have HP := Lib.hid (put_any w2.heap.size _ t v A n c wr HGE.out.gr HN.out HS.out (HA.out _ HGE.out.bl) (fun b o e => by
          have := HAN.out b o e hpos; have := HGS.out; omega) (by
          have h1 := HLB.out j
          rw [List.take_of_length_le (by rw [HM.out]; exact Nat.le_refl _)] at h1
          omega))
        go_wp2_with fail
        refine (HP.out).mono ?_
        intro e w4 hp
        obtain ⟨rfl, v4, hg4⟩ := HGE.out.put hp
        have HG4 := Lib.hid hg4
        have HLR := Lib.hid (grow_row _ _ _ _ hg4.gr)
        clear hp hg4 HP
        go_wp2_with fail
        refine (HLR.out).mono ?_
        rintro e w5 ⟨rfl, (⟨hbig, rfl⟩ | ⟨hsm, rfl⟩)⟩
        · have HX := Lib.hid (HBX3.out.trans (show bigS _ = ([], 9) by unfold bigS; rw [if_pos hbig]))
          go_wp2_with fail
          go_ret2
          rw [HX.out]
          exact RowAns.none _ HG4.out.bl
        · have HX := Lib.hid (HBX3.out.trans (show bigS _ = (l.flatMap (fun x => (5, 0, 0) :: x.2.2) ++ t, 0) by unfold bigS; rw [if_neg (by omega)]))
          obtain ⟨A5, n5, c5, rfl, hn5, ho5⟩ := HG4.out.row (by omega)
          have HO5 := Lib.hid ho5
          clear ho5
          go_wp2_with fail
          go_ret2
          rw [HX.out]
          exact RowAns.row hn5 HO5.out HG4.out.bl
end Go.Proofs.YtkkkblghihheeaaDoor
namespace Go.Proofs.YtkkkblghihheeaaDoor
open Go.RowKit

theorem wpList_append_gd {w : World} {ops : Array Oper} {rest : List Oper} {o : Oper} {a : Act} {Q : Exit → Act → World → Prop} (hgd : Region.wanted o (yielded ops a.tmps) = true) (s x : Operand) (t tx e' : TypeId)
    (ho : o.op = .call { callee := .builtin .append, args := #[s, x], argTypes := #[t, tx] }) (hk : Tryd.prog.underlying tx = some (.slice e')) (E : TypeId) (z : Value) (sz by_ : Nat) (hinfo : (Tryd.prog.info? E).map (fun i => (i.zero, i.size, i.bytes)) = some (some z, sz, by_))
    (hzs : z.cells.size = sz) (hsz : 0 < sz) (ht : Tryd.prog.underlying t = some (.slice E))
    (v : Value) (n m : Nat) (xs ys : List Value) (hs : a.eval s = v) (hown : w.ownsRow 0 E sz v n xs) (A : Option Addr) (c : Nat) (hx : a.eval x = .slice A m c)
    (hsl : Slice A m c) (hh : Holds w A ys) (hy : ys.length = m * sz) (hone : ∀ u ∈ ys, u.oneCell' = true) (hbig : n + m ≤ 1000000000) (hby : by_ ≤ 100000)
    (h : ∀ v' w', w'.ownsRow 0 E sz v' (n + m) (xs ++ ys) → Moves w v w' v' → wpList Tryd.prog ops Q rest (a.put o.dst v') w') : wpList Tryd.prog ops Q (o :: rest) a w := by
  unfold wpList
  rw [if_pos hgd]
  exact .inl (wp_append_at s x t tx e' ho hk E z sz by_ hinfo hzs hsz ht v n m xs ys hs hown A c hx hsl hh hy hone hbig hby fun v' w' h1 h2 => h v' w' h1 h2)
end Go.Proofs.YtkkkblghihheeaaDoor
namespace Go.Proofs.YtkkkblghihheeaaDoor
open Go.RowKit

set_option maxHeartbeats 2000000 in
theorem samerows_any (A B : Option Addr) (m c d : Nat) (l r : List RowT) (w : World) (hl : l.length = m) (hr : r.length = m) (hA : Holds w A (l.map rowV)) (hB : Holds w B (r.map rowV)) (hol : RowsOk w l) (hor : RowsOk w r) (hbig : ∀ x ∈ l, x.2.2.length ≤ 1000000000) (he : l.map (fun x => x.2.2) = r.map (fun x => x.2.2)) (hmb : m ≤ 100000000) :
    Calls Tryd.prog 19 #[.slice A m c, .slice B m d] w fun e w' => e = .returned (.bool true) ∧ Below w.heap.size w w' := by
  have HSM := Lib.hid (show ∀ k (h1 : k < l.length) (h2 : k < r.length) w', Below w.heap.size w w' → _ from fun k h1 h2 w' hb => tsame_n l[k].1 r[k].1 l[k].2.2.length r[k].2.2.length l[k].2.1 r[k].2.1 l[k].2.2 r[k].2.2 w' rfl rfl ((hol _ (List.getElem_mem h1)).2.below hb) ((hor _ (List.getElem_mem h2)).2.below hb) (hbig _ (List.getElem_mem h1)) true (by
    have : l[k].2.2 = r[k].2.2 := by
      have h := congrArg (fun q => q[k]?) he
      simp only [List.getElem?_map, List.getElem?_eq_getElem h1, List.getElem?_eq_getElem h2, Option.map_some, Option.some.injEq] at h
      exact h
    rw [this]; simp))
  have HEQ := Lib.hid (show ∀ k (h1 : k < l.length) (h2 : k < r.length), r[k].2.2.length = l[k].2.2.length from fun k h1 h2 => by
    have h := congrArg (fun q => q[k]?) he
    simp only [List.getElem?_map, List.getElem?_eq_getElem h1, List.getElem?_eq_getElem h2, Option.map_some, Option.some.injEq] at h
    rw [h])
  have HA := Lib.hid (show ∀ w', Below w.heap.size w w' → Holds w' A (l.map rowV) from fun w' hb => hA.below hb)
  have HB0 := Lib.hid (show ∀ w', Below w.heap.size w w' → Holds w' B (r.map rowV) from fun w' hb => hB.below hb)
  have HL := Lib.hid hl
  have HR := Lib.hid hr
  clear hA hB hol hor hbig he hl hr
  go_enter Tryd.func19, Tryd.ntmps19
  go_wp2_with fail
  go_loopw [5] (fun i wr => ∃ k : Nat, i = .int .i64 (k : Int) ∧ k ≤ m ∧ Hid (Below w.heap.size w wr)) (fun i _ => m - (intOf i).toNat)
  case atStart => exact ⟨0, rfl, Nat.zero_le _, Lib.hid (Below.refl _ _)⟩
  case round =>
    obtain ⟨k, rfl, hk, HB⟩ := hrel
    by_cases hlt : k < m
    · have h1 : k < l.length := by rw [HL.out]; exact hlt
      have h2 : k < r.length := by rw [HR.out]; exact hlt
      obtain ⟨b, o, rfl, hbl, hc⟩ := (HA.out _ HB.out).at_ (by rw [List.length_map]; omega)
      obtain ⟨b', o', rfl, hbl', hc'⟩ := (HB0.out _ HB.out).at_ (by rw [List.length_map]; omega)
      have r0 := hc k _ (rowsV_get h1)
      have q0 := hc' k _ (rowsV_get h2)
      have HS := Lib.hid (HSM.out k h1 h2 wr.drew (HB.out.trans (below_drewN (Below.refl _ _) 1)))
      rw [HEQ.out k h1 h2] at q0 HS
      clear hc hc'
      generalize l[k].2.2.length = nk at *
      generalize l[k].1 = Ak at *
      generalize l[k].2.1 = ck at *
      generalize r[k].1 = Bk at *
      generalize r[k].2.1 = dk at *
      have HSS : Hid ((fun W => W.cell? ⟨b, o + k, none⟩ = some (.slice Ak nk ck) ∧ W.cell? ⟨b', o' + k, none⟩ = some (.slice Bk nk dk)) wr.drew) := Lib.hid ⟨r0, q0⟩
      clear r0 q0
      go_wp2_with fail
      refine region_begin_any (S := fun W => W.cell? ⟨b, o + k, none⟩ = some (.slice Ak nk ck) ∧ W.cell? ⟨b', o' + k, none⟩ = some (.slice Bk nk dk)) (by kernel_rfl) (HSS.out) (fun W hW hHeld => ?_)
      subst hW
      refine region_take 0 ?_ rfl (by kernel_rfl) (by rfl) hHeld ?_ ?_
      rotate_left
      · intro w hSw
        (try dsimp only at hSw)
        go_simp
        try with_reducible rfl
      try simp only [Act.put, List.setIfInBounds_toArray, List.set_cons_zero, List.set_cons_succ]
      refine region_take 1 ?_ rfl (by kernel_rfl) (by rfl) hHeld ?_ ?_
      rotate_left
      · intro w hSw
        (try dsimp only at hSw)
        go_simp
        try with_reducible rfl
      try simp only [Act.put, List.setIfInBounds_toArray, List.set_cons_zero, List.set_cons_succ]
      refine region_take 2 ?_ rfl (by kernel_rfl) (by rfl) hHeld ?_ ?_
      rotate_left
      · intro w hSw
        (try dsimp only at hSw)
        go_simp
        try with_reducible rfl
      try simp only [Act.put, List.setIfInBounds_toArray, List.set_cons_zero, List.set_cons_succ]
      refine region_take 3 ?_ rfl (by kernel_rfl) (by rfl) hHeld ?_ ?_
      rotate_left
      · intro w hSw
        (try dsimp only at hSw)
        go_simp
        try with_reducible rfl
      try simp only [Act.put, List.setIfInBounds_toArray, List.set_cons_zero, List.set_cons_succ]
      refine region_take 4 ?_ rfl (by kernel_rfl) (by rfl) hHeld ?_ ?_
      rotate_left
      · intro w hSw
        (try dsimp only at hSw)
        go_simp
        try with_reducible rfl
      try simp only [Act.put, List.setIfInBounds_toArray, List.set_cons_zero, List.set_cons_succ]
      refine region_take 5 ?_ rfl (by kernel_rfl) (by rfl) hHeld ?_ ?_
      rotate_left
      · intro w hSw
        (try dsimp only at hSw)
        go_simp
        try with_reducible rfl
      try simp only [Act.put, List.setIfInBounds_toArray, List.set_cons_zero, List.set_cons_succ]
      refine region_take 6 ?_ rfl (by kernel_rfl) (by rfl) hHeld ?_ ?_
      rotate_left
      · intro w hSw
        (try dsimp only at hSw)
        go_simp
        try with_reducible rfl
      try simp only [Act.put, List.setIfInBounds_toArray, List.set_cons_zero, List.set_cons_succ]
      refine region_take 7 ?_ rfl (by kernel_rfl) (by rfl) hHeld ?_ ?_
      rotate_left
      · intro w hSw
        (try dsimp only at hSw)
        go_simp
        try with_reducible rfl
      try simp only [Act.put, List.setIfInBounds_toArray, List.set_cons_zero, List.set_cons_succ]
      refine region_call 8 rfl (by kernel_rfl) (by rfl) (fun K hK => ?_)
      go_simp
      refine (HS.out).mono ?_
      rintro e w3 ⟨rfl, hb3⟩
      refine hK.out _ _ (⟨(hb3.cell (by simp only; exact hbl)).trans hHeld.1, (hb3.cell (by simp only; exact hbl')).trans hHeld.2⟩) (fun hHeld => ?_)
      clear hK K
      have HB3 := Lib.hid hb3
      clear hb3
      try simp only [Act.put, List.setIfInBounds_toArray, List.set_cons_zero, List.set_cons_succ]
      refine region_take 9 ?_ rfl (by kernel_rfl) (by rfl) hHeld ?_ ?_
      rotate_left
      · intro w hSw
        (try dsimp only at hSw)
        go_simp
        try with_reducible rfl
      try simp only [Act.put, List.setIfInBounds_toArray, List.set_cons_zero, List.set_cons_succ]
      refine region_done (by kernel_rfl) ?_
      clear hHeld
      go_wp2_with fail
      go_roundw
      case rel => exact ⟨k + 1, by go_num, by omega, Lib.hid ((HB.out.trans (below_drewN (Below.refl _ _) 1)).trans (HB3.out.mono HB.out.size))⟩
      case measure => simp [intOf] <;> omega
    · go_wp2_with fail
      go_ret
      exact ⟨rfl, HB.out⟩
end Go.Proofs.YtkkkblghihheeaaDoor
namespace Go.Proofs.YtkkkblghihheeaaDoor
open Go.RowKit

/-- A row that is put together: in a block from s on. -/
def NGrow (w : World) (s : Nat) (v : Value) (t : List Node3) : Prop := w.ownsRow 0 53 3 v t.length (nodesV t) ∧ ∀ k, v.ownBlock = some k → s ≤ k
theorem NGrow.next {w w' : World} {s : Nat} {v : Value} {t : List Node3} (h : NGrow w s v t) (hb : Below w.heap.size w w') : NGrow w' s v t := ⟨own_below h.1 hb, h.2⟩
theorem NGrow.app {w w' : World} {s : Nat} {v v' : Value} {t r : List Node3} (h : NGrow w s v t) (hown : w'.ownsRow 0 53 3 v' (t.length + r.length) (nodesV t ++ nodesV r)) (hmv : Moves w v w' v') (hs : s ≤ w.heap.size) : NGrow w' s v' (t ++ r) ∧ Below s w w' :=
  ⟨⟨by rw [List.length_append, nodesV_append]; exact hown, fun k hk => by rcases hmv.next k hk with h' | h'; exact h.2 k h'; omega⟩, hmv.below hs fun g hg => h.2 g hg⟩
theorem NGrow.own {w : World} {s m c : Nat} {A : Option Addr} {t : List Node3} (h : NGrow w s (.slice A m c) t) (hm : t.length = m) : OwnN w s (.slice A m c) m t := by
  subst hm
  refine ⟨h.1.1, h.1.2.imp id ?_⟩
  rintro ⟨g, cap, cur, e, _, hr⟩
  cases e
  exact ⟨g, _, cur, rfl, h.2 g rfl, hr⟩
theorem NGrow.none (w : World) (s : Nat) : NGrow w s (.slice Option.none 0 0) [] := ⟨World.ownsRow_nil _ _ _ _, fun k hk => by simp [Value.ownBlock] at hk⟩
theorem NGrow.empty (w : World) (s : Nat) (hs : s ≤ w.heap.size) : NGrow (w.alloc (.cells #[] 53)) s (.slice (some ⟨w.heap.size, 0, Option.none⟩) 0 0) [] :=
  ⟨World.ownsRow_lit (base := 0) (size := 3) (e := 53) w #[] 0 (Nat.zero_le _) (by decide) rfl, fun k hk => by simp [Value.ownBlock] at hk; omega⟩
theorem NGrow.lit (w : World) (s : Nat) (x : Node3) (hs : s ≤ w.heap.size) : NGrow (w.alloc (.cells #[.int .i64 x.1, .int .i64 x.2.1, .int .i64 x.2.2] 53)) s (.slice (some ⟨w.heap.size, 0, Option.none⟩) 1 1) [x] :=
  ⟨World.ownsRow_lit (base := 0) (size := 3) (e := 53) w #[.int .i64 x.1, .int .i64 x.2.1, .int .i64 x.2.2] 1 (Nat.zero_le _) (by decide) rfl, fun k hk => by simp [Value.ownBlock] at hk; omega⟩
/-- What Apply has put together of the first rows. -/
def fullA (t : List Node3) (l : List RowT) (k : Nat) : List Node3 := List.replicate k (6, 0, 0) ++ t ++ flatR (l.take k)
theorem fullA_step {t : List Node3} {l : List RowT} {k : Nat} (h : k < l.length) : fullA t l (k + 1) = [(6, 0, 0)] ++ fullA t l k ++ l[k].2.2 := by
  unfold fullA
  rw [flatR_take h, List.replicate_succ]
  simp
theorem full_more {f g : List Node3} {L r : List Node3} {x : Node3} (hg : g = [x] ++ f ++ r ∨ g = f ++ [x] ++ r) (h : L = f ∨ 4096 < L.length ∧ 4096 < f.length) (hl : ¬ L.length ≤ 4096) : L = g ∨ 4096 < L.length ∧ 4096 < g.length := by
  right
  refine ⟨by omega, ?_⟩
  have hf : 4096 < f.length := by
    rcases h with rfl | h
    · omega
    · exact h.2
  rcases hg with rfl | rfl
  · simp only [List.length_append]; omega
  · simp only [List.length_append]; omega
theorem full_eq {f : List Node3} {L : List Node3} (h : L = f ∨ 4096 < L.length ∧ 4096 < f.length) (hl : L.length ≤ 4096) : L = f := h.resolve_right fun h => by omega
theorem full_big {f : List Node3} {L : List Node3} (h : L = f ∨ 4096 < L.length ∧ 4096 < f.length) : bigS f = if 4096 < L.length then ([], 9) else (L, 0) := by
  unfold bigS
  rcases h with rfl | h
  · rfl
  · rw [if_pos h.1, if_pos h.2]
theorem ff_stop {l : List RowT} {k : Nat} (h : k < l.length) (h0 : ∀ j (_ : j < k) (hl : j < l.length), shapeOf l[j].2.2 = 0) (hk : shapeOf l[k].2.2 ≠ 0) : ffS (l.map fun x => x.2.2) = shapeOf l[k].2.2 := by
  have := ff_at (l := l.map fun x => x.2.2) (k := k) (by simpa using h) (fun j hj => by simpa using h0 j hj (by omega)) (by simpa using hk)
  simpa using this
theorem ff_all {l : List RowT} (h0 : ∀ j (hl : j < l.length), shapeOf l[j].2.2 = 0) : ffS (l.map fun x => x.2.2) = 0 := ff_none fun t ht => by
  obtain ⟨x, hx, rfl⟩ := List.mem_map.1 ht
  obtain ⟨j, hj, rfl⟩ := List.mem_iff_getElem.1 hx
  exact h0 j hj
/-- Rows in memory, of numbers that fit. -/
def WideR (l : List RowT) : Prop := ∀ x ∈ l, ∀ y ∈ x.2.2, Wide3 y
set_option maxRecDepth 100000 in
set_option maxHeartbeats 4000000 in
theorem rapply_any (A : Option Addr) (n c : Nat) (t : List Node3) (R : Option Addr) (m cr : Nat) (l : List RowT) (w : World) (hn : t.length = n) (hs : Slice A n c) (hA : Holds w A (nodesV t)) (hw : ∀ x ∈ t, Wide3 x) (hm : l.length = m) (hmb : m ≤ 100000) (hR : Holds w R (l.map rowV)) (hok : RowsOk w l) (hwr : WideR l) (hnb : n ≤ 100000) (htot : (flatR l).length ≤ 100000) :
    Calls Tryd.prog 37 #[.slice A n c, .slice R m cr] w (RowAns (applyS t (l.map fun x => x.2.2)) w) := by
  have HA := Lib.hid (show ∀ w', Below w.heap.size w w' → Holds w' A (nodesV t) from fun w' hb => hA.below hb)
  have HR := Lib.hid (show ∀ w', Below w.heap.size w w' → Holds w' R (l.map rowV) from fun w' hb => hR.below hb)
  have HOK := Lib.hid (show ∀ w', Below w.heap.size w w' → RowsOk w' l from fun w' hb => hok.below hb)
  have HSH := Lib.hid (show ∀ w', Below w.heap.size w w' → _ from fun w' hb => rshape_any A n c t w' hn hs (hA.below hb) hw)
  have HSR := Lib.hid (show ∀ k (hk : k < l.length) w', Below w.heap.size w w' → _ from fun k hk w' hb => rshape_any l[k].1 l[k].2.2.length l[k].2.1 l[k].2.2 w' rfl (hok _ (List.getElem_mem hk)).1 ((hok _ (List.getElem_mem hk)).2.below hb) (hwr _ (List.getElem_mem hk)))
  have HN := Lib.hid hn
  have HM := Lib.hid hm
  have HS := Lib.hid hs
  have HTL := Lib.hid (show ∀ k (hk : k < l.length), l[k].2.2.length ≤ 100000 from fun k hk => by
    have h1 := flatR_le l (k + 1)
    rw [flatR_take hk, List.length_append] at h1
    omega)
  have HRB := Lib.hid (show ∀ b o, R = some ⟨b, o, none⟩ → 0 < m → b < w.heap.size from fun b o e h0 => by
    obtain ⟨b', o', e', hb, _⟩ := hR.at_ (by rw [List.length_map]; omega)
    rw [e] at e'; cases e'; exact hb)
  have HFT : Hid (fullA t l 0 = t) := Lib.hid (by simp [fullA, flatR])
  clear hA hR hok hn hs hw hwr htot
  by_cases z1 : shapeOf t = 0
  case neg =>
    have HX : Hid (applyS t (l.map fun x => x.2.2) = ([], shapeOf t)) := Lib.hid (by unfold applyS; rw [ffS_cons, if_pos z1, if_pos z1])
    have e1 : (shapeOf t != 0) = true := by simpa using z1
    clear z1
    generalize shapeOf t = s1 at *
    go_enter Tryd.func37, Tryd.ntmps37
    go_wp2_with fail
    refine (HSH.out w (Below.refl _ _)).mono ?_
    rintro e w1 ⟨rfl, hb1⟩
    go_wp2_with fail
    go_ret2
    rw [HX.out]
    exact RowAns.none _ hb1
  rw [z1] at HSH
  have HAP1 : Hid (∀ s, s ≠ 0 → ffS (l.map fun x => x.2.2) = s → applyS t (l.map fun x => x.2.2) = ([], s)) := Lib.hid fun s hs0 h => by
    unfold applyS
    rw [show ffS (t :: l.map fun x => x.2.2) = s by rw [ffS_cons, z1, h]; simp, if_pos hs0]
  have HAP2 : Hid (ffS (l.map fun x => x.2.2) = 0 → applyS t (l.map fun x => x.2.2) = bigS (fullA t l m)) := Lib.hid fun h => by
    unfold applyS fullA
    rw [show ffS (t :: l.map fun x => x.2.2) = 0 by rw [ffS_cons, z1, h]; simp, if_neg (by simp), List.length_map, HM.out, List.take_of_length_le (by rw [HM.out]; exact Nat.le_refl _)]
    rfl
  have hpos : 0 < n := by have := (right_of z1).2.1; have := HN.out; omega
  clear z1
  go_enter Tryd.func37, Tryd.ntmps37
  go_wp2_with fail
  refine (HSH.out w (Below.refl _ _)).mono ?_
  rintro e w1 ⟨rfl, hb1⟩
  have hge := NGrow.empty w1 w.heap.size hb1.size
  have HOE := Lib.hid hge.1
  have HGE := Lib.hid hge
  have HBE := Lib.hid (below_alloc hb1 (.cells #[] 53))
  have HHT := Lib.hid (HA.out _ HBE.out)
  clear hge hb1
  go_wp2_with (at_builtin; go_must (refine wpList_append_tx rfl (.tmp 14) (.tmp 15) _ _ _ rfl Tryd.underlying23 53 _ 3 24 infoNode rfl (by decide) Tryd.underlying23 (.slice (some ⟨w1.heap.size, 0, none⟩) 0 0) 0 n _ (nodesV t) rfl HOE.out A c rfl HS.out HHT.out (by rw [nodesV_len, HN.out]) nodesV_one (by omega) (by decide) ?_); intro v2 w2 hown2 hmv2; obtain ⟨A2, c2, rfl, -, -⟩ := own_slice hown2; have HO2 := Lib.hid hown2; have HM2 := Lib.hid hmv2; clear hown2 hmv2)
  have hg2 := HGE.out.app (r := t) (by rw [HN.out]; exact HO2.out) HM2.out HBE.out.size
  have HG2 := Lib.hid (show NGrow w2 w.heap.size (.slice A2 n c2) t by simpa using hg2.1)
  have HB2 := Lib.hid (HBE.out.trans hg2.2)
  clear hg2
  go_loopw [7, 8] (fun out i wr => ∃ (k : Nat) (L : List Node3) (no : Nat) (Ao : Option Addr) (co : Nat), out = .slice Ao no co ∧ i = .int .i64 (k : Int) ∧ k ≤ m ∧ Hid (L.length = no) ∧ no ≤ 300000 ∧ Hid (NGrow wr w.heap.size (.slice Ao no co) L) ∧ Hid (L = fullA t l k ∨ 4096 < L.length ∧ 4096 < (fullA t l k).length) ∧ Hid (∀ j (hj : j < k) (hl : j < l.length), shapeOf l[j].2.2 = 0) ∧ Hid (Below w.heap.size w wr)) (fun _ i _ => m - (intOf i).toNat)
  case atStart => exact ⟨0, t, _, _, _, rfl, rfl, Nat.zero_le _, Lib.hid (by rw [HN.out]), by omega, HG2, Lib.hid (.inl HFT.out.symm), Lib.hid fun j hj => absurd hj (by omega), HB2⟩
  case round =>
    obtain ⟨k, L, no, Ao, co, rfl, rfl, hk, HNO, hno, HG, HFL, HZ, HBR⟩ := hrel
    by_cases hlt : k < m
    · have hkl : k < l.length := by rw [HM.out]; exact hlt
      obtain ⟨g, o, rfl, hgl, hc⟩ := (HR.out _ HBR.out).at_ (by rw [List.length_map]; omega)
      have hgw : g < w.heap.size := HRB.out g o rfl (by omega)
      have r0 := hc k _ (rowsV_get hkl)
      have HSK := Lib.hid (HSR.out k hkl wr HBR.out)
      have HNB := HTL.out k hkl
      have HSTP : Hid (shapeOf l[k].2.2 ≠ 0 → ffS (l.map fun x => x.2.2) = shapeOf l[k].2.2) := Lib.hid fun h => ff_stop hkl HZ.out h
      have HZN' : Hid (shapeOf l[k].2.2 = 0 → ∀ j (hj : j < k + 1) (hl : j < l.length), shapeOf l[j].2.2 = 0) := Lib.hid fun h0 j hj hl => by
        by_cases e : j = k
        · subst e; exact h0
        · exact HZ.out j (by omega) hl
      have HFS := Lib.hid (fullA_step (t := t) hkl)
      have HOKK := Lib.hid (show ∀ W, Below w.heap.size w W → _ from fun W hb => HOK.out W hb l[k] (List.getElem_mem hkl))
      obtain ⟨⟨Ak, ck, rk⟩, hlk⟩ : ∃ x, l[k] = x := ⟨_, rfl⟩
      rw [hlk] at r0 HSK HNB HSTP HZN' HFS HOKK
      simp only at r0 HSK HNB HSTP HZN' HFS HOKK
      obtain ⟨nk, hnk⟩ : ∃ nk, rk.length = nk := ⟨_, rfl⟩
      have HNK := Lib.hid hnk
      rw [hnk] at r0 HSK HNB HOKK
      obtain ⟨sk, hsk⟩ : ∃ sk, shapeOf rk = sk := ⟨_, rfl⟩
      rw [hsk] at HSK HSTP HZN'
      clear hc hlk hkl hnk hsk
      by_cases z2 : sk = 0
      · subst z2
        have HZN := Lib.hid (HZN'.out rfl)
        by_cases hfit : no ≤ 4096
        · have HFE := Lib.hid (full_eq HFL.out (by rw [HNO.out]; exact hfit))
          clear HZN' HSTP
          go_wp2_with fail
          refine (HSK.out).mono ?_
          rintro e w3 ⟨rfl, hb3⟩
          have r1 := (hb3.cell (p := ⟨g, o + k, none⟩) hgl).trans r0
          have hg3 := HG.out.next hb3
          have hb3' := below_step HBR.out hb3
          clear r0 hb3 HG HBR HSK hgl
          generalize w3 = wr at *
          have HG := Lib.hid hg3
          have HBR := Lib.hid hb3'
          clear hg3 hb3'
          have HKEEP : Hid (∀ W W' : World, Below w.heap.size W W' → (fun W => W.cell? ⟨g, o + k, none⟩ = some (.slice Ak nk ck)) W → (fun W => W.cell? ⟨g, o + k, none⟩ = some (.slice Ak nk ck)) W') := Lib.hid fun W W' hb h0 => (hb.cell (by simp only; exact hgw)).trans h0
          have HSS : Hid ((fun W => W.cell? ⟨g, o + k, none⟩ = some (.slice Ak nk ck)) wr.drew) := Lib.hid r1
          have HLN := Lib.hid (show Below wr.drew.heap.size wr.drew (wr.alloc (.cells #[.int .i64 6, .int .i64 0, .int .i64 0] 53)).drew from (Below.refl _ _).alloc (Nat.le_refl _) _)
          have HZS : Hid (w.heap.size ≤ wr.drew.heap.size) := Lib.hid HBR.out.size
          have HBL := Lib.hid (show Below w.heap.size w (wr.alloc (.cells #[.int .i64 6, .int .i64 0, .int .i64 0] 53)).drew from (below_alloc HBR.out _).trans (below_drewN (Below.refl _ _) 1))
          have HGL6 := Lib.hid (show NGrow (wr.alloc (.cells #[.int .i64 6, .int .i64 0, .int .i64 0] 53)).drew w.heap.size (.slice (some ⟨wr.heap.size, 0, none⟩) 1 1) [(6, 0, 0)] from NGrow.lit wr w.heap.size (6, 0, 0) HZS.out)
          have HOL := Lib.hid (show World.ownsRow (wr.alloc (.cells #[.int .i64 6, .int .i64 0, .int .i64 0] 53)).drew 0 53 3 (.slice (some ⟨wr.heap.size, 0, none⟩) 1 1) 1 (nodesV [(6, 0, 0)]) from HGL6.out.1)
          have hgo := HG.out.next (w' := (wr.alloc (.cells #[.int .i64 6, .int .i64 0, .int .i64 0] 53)).drew) (show Below wr.heap.size wr (wr.alloc (.cells #[.int .i64 6, .int .i64 0, .int .i64 0] 53)).drew from below_drewN ((Below.refl _ _).alloc (Nat.le_refl _) _) 1)
          have hgo1 := hgo.1
          rw [HNO.out] at hgo1
          have HHO := Lib.hid (own_holds hgo1)
          have HSO : Hid (Slice Ao no co) := Lib.hid (by
            obtain ⟨Ao', co', e', hso, -⟩ := own_slice hgo1
            cases e'
            exact hso)
          clear hgo hgo1 r1
          go_wp2_with fail
          refine region_begin_any (S := fun W => W.cell? ⟨g, o + k, none⟩ = some (.slice Ak nk ck)) (by kernel_rfl) (HSS.out) (fun W hW hHeld => ?_)
          subst hW
          refine region_take 0 ?_ rfl (by kernel_rfl) (by rfl) hHeld ?_ ?_
          rotate_left
          · intro w hSw
            (try dsimp only at hSw)
            go_simp
            try with_reducible rfl
          try simp only [Act.put, List.setIfInBounds_toArray, List.set_cons_zero, List.set_cons_succ]
          refine region_take 2 ?_ rfl (by kernel_rfl) (by rfl) hHeld ?_ ?_
          rotate_left
          · intro w hSw
            (try dsimp only at hSw)
            go_simp
            try with_reducible rfl
          try simp only [Act.put, List.setIfInBounds_toArray, List.set_cons_zero, List.set_cons_succ]
          refine region_take 4 ?_ rfl (by kernel_rfl) (by rfl) hHeld ?_ ?_
          rotate_left
          · intro w hSw
            (try dsimp only at hSw)
            go_simp
            try with_reducible rfl
          try simp only [Act.put, List.setIfInBounds_toArray, List.set_cons_zero, List.set_cons_succ]
          refine region_take 5 ?_ rfl (by kernel_rfl) (by rfl) hHeld ?_ ?_
          rotate_left
          · intro w hSw
            (try dsimp only at hSw)
            go_simp
            try with_reducible rfl
          try simp only [Act.put, List.setIfInBounds_toArray, List.set_cons_zero, List.set_cons_succ]
          refine region_take 6 ?_ rfl (by kernel_rfl) (by rfl) hHeld ?_ ?_
          rotate_left
          · intro w hSw
            (try dsimp only at hSw)
            go_simp
            try with_reducible rfl
          try simp only [Act.put, List.setIfInBounds_toArray, List.set_cons_zero, List.set_cons_succ]
          refine region_take 7 ?_ rfl (by kernel_rfl) (by rfl) hHeld ?_ ?_
          rotate_left
          · intro w hSw
            (try dsimp only at hSw)
            go_simp
            try with_reducible rfl
          try simp only [Act.put, List.setIfInBounds_toArray, List.set_cons_zero, List.set_cons_succ]
          refine region_call 1 rfl (by kernel_rfl) (by rfl) (fun K hK => ?_)
          go_simp
          refine hK.out _ _ (HKEEP.out _ _ (HLN.out.mono HZS.out) hHeld) (fun hHeld => ?_)
          clear hK K
          try simp only [Act.put, List.setIfInBounds_toArray, List.set_cons_zero, List.set_cons_succ]
          refine region_call 3 rfl (by kernel_rfl) (by rfl) (fun K hK => ?_)
          refine wp_append_at (.tmp 35) (.tmp 36) 23 23 _ rfl Tryd.underlying23 53 _ 3 24 infoNode rfl (by decide) Tryd.underlying23 (.slice (some ⟨wr.heap.size, 0, none⟩) 1 1) 1 no _ (nodesV L) rfl HOL.out Ao co rfl HSO.out HHO.out (by rw [nodesV_len, HNO.out]) nodesV_one (by omega) (by decide) ?_
          intro v3 w3 hown3 hmv3
          refine hK.out _ _ (HKEEP.out _ _ (hmv3.below (B := w.heap.size) (Nat.le_trans HZS.out HLN.out.size) (fun g hg => HGL6.out.2 g hg)) hHeld) (fun hHeld => ?_)
          clear hK K
          have hg3 := HGL6.out.app (r := L) (by rw [HNO.out]; exact hown3) hmv3 (Nat.le_trans HZS.out HLN.out.size)
          have hb3 := HBL.out.trans hg3.2
          obtain ⟨A3, c3, rfl, -, -⟩ := own_slice hown3
          have HO3 := Lib.hid hown3
          have HG3 := Lib.hid hg3.1
          have HB3 := Lib.hid hb3
          have HROW := Lib.hid (HOKK.out w3 hb3)
          clear hown3 hmv3 hg3 hb3
          try simp only [Act.put, List.setIfInBounds_toArray, List.set_cons_zero, List.set_cons_succ]
          refine region_call 8 rfl (by kernel_rfl) (by rfl) (fun K hK => ?_)
          refine wp_append_at (.tmp 37) (.tmp 41) 23 23 _ rfl Tryd.underlying23 53 _ 3 24 infoNode rfl (by decide) Tryd.underlying23 (.slice A3 (1 + no) c3) (1 + no) nk _ (nodesV rk) rfl HO3.out Ak ck rfl HROW.out.1 HROW.out.2 (by rw [nodesV_len, HNK.out]) nodesV_one (by omega) (by decide) ?_
          intro v8 w8 hown8 hmv8
          refine hK.out _ _ (HKEEP.out _ _ (hmv8.below (B := w.heap.size) HB3.out.size (fun g hg => HG3.out.2 g hg)) hHeld) (fun hHeld => ?_)
          clear hK K
          have hg8 := HG3.out.app (r := rk) (by rw [List.length_append, HNO.out, HNK.out, nodesV_append]; exact hown8) hmv8 HB3.out.size
          have hb8 := HB3.out.trans hg8.2
          obtain ⟨A8, c8, rfl, -, -⟩ := own_slice hown8
          have HG8 := Lib.hid hg8.1
          have HB8 := Lib.hid hb8
          clear hown8 hmv8 hg8 hb8
          try simp only [Act.put, List.setIfInBounds_toArray, List.set_cons_zero, List.set_cons_succ]
          refine region_take 9 ?_ rfl (by kernel_rfl) (by rfl) hHeld ?_ ?_
          rotate_left
          · intro w hSw
            (try dsimp only at hSw)
            go_simp
            try with_reducible rfl
          try simp only [Act.put, List.setIfInBounds_toArray, List.set_cons_zero, List.set_cons_succ]
          refine region_done (by kernel_rfl) ?_
          clear hHeld
          go_wp2_with fail
          go_roundw
          case rel => exact ⟨k + 1, [(6, 0, 0)] ++ L ++ rk, 1 + no + nk, A8, c8, rfl, by go_num, by omega, Lib.hid (by rw [List.length_append, List.length_append, HNO.out, HNK.out]; rfl), by omega, HG8, Lib.hid (.inl (by rw [HFE.out, HFS.out])), HZN, HB8⟩
          case measure => simp [intOf] <;> omega
        · have HFM := Lib.hid (full_more (.inl HFS.out) HFL.out (by rw [HNO.out]; exact hfit))
          clear HZN' HSTP
          go_wp2_with fail
          refine (HSK.out).mono ?_
          rintro e w3 ⟨rfl, hb3⟩
          have HG3 := Lib.hid (HG.out.next hb3)
          have HB3 := Lib.hid (below_step HBR.out hb3)
          clear hb3
          go_wp2_with fail
          go_roundw
          case rel => exact ⟨k + 1, L, no, Ao, co, rfl, by go_num, by omega, HNO, hno, HG3, HFM, HZN, HB3⟩
          case measure => simp [intOf] <;> omega
      · have HX := Lib.hid (HAP1.out _ z2 (HSTP.out z2))
        have e1 : (sk != 0) = true := by simpa using z2
        clear z2 HZN' HSTP
        go_wp2_with fail
        refine (HSK.out).mono ?_
        rintro e w3 ⟨rfl, hb3⟩
        have HB3 := Lib.hid (below_step HBR.out hb3)
        clear hb3
        go_wp2_with fail
        go_ret2
        rw [HX.out]
        exact RowAns.none _ HB3.out
    · obtain rfl : k = m := by omega
      have HX := Lib.hid ((HAP2.out (ff_all fun j hl => HZ.out j (by have := HM.out; omega) hl)).trans (full_big HFL.out))
      rw [HNO.out] at HX
      by_cases hbig : 4096 < no
      · rw [if_pos hbig] at HX
        go_wp2_with fail
        go_ret2
        rw [HX.out]
        exact RowAns.none _ HBR.out
      · rw [if_neg hbig] at HX
        have hng : ¬ (4096 : Int) < (no : Int) := by omega
        go_wp2_with fail
        go_ret2
        exact RowAns.of HX.out HNO.out (Nat.le_refl _) (HG.out.own HNO.out) HBR.out
/-- What Bind has put together of the first rows. -/
def fullB (op : Int) (l : List RowT) (k : Nat) : List Node3 := (l.take k).flatMap (fun x => (op, 0, 0) :: x.2.2)
theorem fullB_step {op : Int} {l : List RowT} {k : Nat} (h : k < l.length) : fullB op l (k + 1) = fullB op l k ++ [(op, 0, 0)] ++ l[k].2.2 := bind_flat h
theorem full_end {f L t : List Node3} (h : L = f ∨ 4096 < L.length ∧ 4096 < f.length) : L ++ t = f ++ t ∨ 4096 < (L ++ t).length ∧ 4096 < (f ++ t).length := by
  rcases h with rfl | h
  · exact .inl rfl
  · right
    simp only [List.length_append]
    omega
set_option maxRecDepth 100000 in
set_option maxHeartbeats 4000000 in
theorem rbind_any (op : Int) (A : Option Addr) (n c : Nat) (t : List Node3) (R : Option Addr) (m cr : Nat) (l : List RowT) (w : World) (hn : t.length = n) (hs : Slice A n c) (hA : Holds w A (nodesV t)) (hw : ∀ x ∈ t, Wide3 x) (hm : l.length = m) (hmb : m ≤ 100000) (hR : Holds w R (l.map rowV)) (hok : RowsOk w l) (hwr : WideR l) (hnb : n ≤ 100000) (htot : (flatR l).length ≤ 100000) :
    Calls Tryd.prog 39 #[.int .i64 op, .slice R m cr, .slice A n c] w (RowAns (bindS op (l.map fun x => x.2.2) t) w) := by
  by_cases hop : op ≠ 4 ∧ op ≠ 5
  · have HX : Hid (bindS op (l.map fun x => x.2.2) t = ([], 1)) := Lib.hid (by unfold bindS; rw [if_pos hop])
    obtain ⟨h4, h5⟩ := hop
    have e4 : (op != 4) = true := by simpa using h4
    have e5 : (op != 5) = true := by simpa using h5
    clear hA hR hok
    go_enter Tryd.func39, Tryd.ntmps39
    go_wp2_with fail
    go_ret2
    rw [HX.out]
    exact RowAns.none _ (Below.refl _ _)
  have HA := Lib.hid (show ∀ w', Below w.heap.size w w' → Holds w' A (nodesV t) from fun w' hb => hA.below hb)
  have HR := Lib.hid (show ∀ w', Below w.heap.size w w' → Holds w' R (l.map rowV) from fun w' hb => hR.below hb)
  have HOK := Lib.hid (show ∀ w', Below w.heap.size w w' → RowsOk w' l from fun w' hb => hok.below hb)
  have HSH := Lib.hid (show ∀ w', Below w.heap.size w w' → _ from fun w' hb => rshape_any A n c t w' hn hs (hA.below hb) hw)
  have HSR := Lib.hid (show ∀ k (hk : k < l.length) w', Below w.heap.size w w' → _ from fun k hk w' hb => rshape_any l[k].1 l[k].2.2.length l[k].2.1 l[k].2.2 w' rfl (hok _ (List.getElem_mem hk)).1 ((hok _ (List.getElem_mem hk)).2.below hb) (hwr _ (List.getElem_mem hk)))
  have HN := Lib.hid hn
  have HM := Lib.hid hm
  have HS := Lib.hid hs
  have HTL := Lib.hid (show ∀ k (hk : k < l.length), l[k].2.2.length ≤ 100000 from fun k hk => by
    have h1 := flatR_le l (k + 1)
    rw [flatR_take hk, List.length_append] at h1
    omega)
  have HRB := Lib.hid (show ∀ b o, R = some ⟨b, o, none⟩ → 0 < m → b < w.heap.size from fun b o e h0 => by
    obtain ⟨b', o', e', hb, _⟩ := hR.at_ (by rw [List.length_map]; omega)
    rw [e] at e'; cases e'; exact hb)
  have HBI1 : Hid (∀ s, s ≠ 0 → ffS (l.map fun x => x.2.2) = s → bindS op (l.map fun x => x.2.2) t = ([], s)) := Lib.hid fun s hs0 h => by
    unfold bindS
    rw [if_neg hop, h, if_pos hs0]
  have HBI2 : Hid (ffS (l.map fun x => x.2.2) = 0 → bindS op (l.map fun x => x.2.2) t = if shapeOf t ≠ 0 then ([], shapeOf t) else bigS (fullB op l m ++ t)) := Lib.hid fun h => by
    unfold bindS fullB
    rw [if_neg hop, h, if_neg (by simp), List.take_of_length_le (by rw [HM.out]; exact Nat.le_refl _), List.flatMap_map]
  have e45 : (op = 4 ∨ op = 5) := by omega
  have HEN : Hid ((op != 4) = true → (op != 5) = false) := Lib.hid fun h => by rcases e45 with rfl | rfl <;> simp_all
  clear hA hR hok hn hs hw hwr htot hop
  have HPART : Hid (op = 4 ∨ op = 5) := Lib.hid e45
  clear e45
  go_enter Tryd.func39, Tryd.ntmps39
  have HQ := HPART.out
  by_cases h4 : op = 4
  · have e4 : (op != 4) = false := by simpa using h4
    clear h4 HQ
    go_wp2_with fail
    go_loopw [8, 9] (fun out i wr => ∃ (k : Nat) (L : List Node3) (no : Nat) (Ao : Option Addr) (co : Nat), out = .slice Ao no co ∧ i = .int .i64 (k : Int) ∧ k ≤ m ∧ Hid (L.length = no) ∧ no ≤ 300000 ∧ Hid (NGrow wr w.heap.size (.slice Ao no co) L) ∧ Hid (L = fullB op l k ∨ 4096 < L.length ∧ 4096 < (fullB op l k).length) ∧ Hid (∀ j (hj : j < k) (hl : j < l.length), shapeOf l[j].2.2 = 0) ∧ Hid (Below w.heap.size w wr)) (fun _ i _ => m - (intOf i).toNat)
    case atStart => exact ⟨0, [], _, _, _, rfl, rfl, Nat.zero_le _, Lib.hid rfl, by omega, Lib.hid (NGrow.none _ _), Lib.hid (.inl (by simp [fullB])), Lib.hid fun j hj => absurd hj (by omega), Lib.hid (Below.refl _ _)⟩
    case round =>
      obtain ⟨k, L, no, Ao, co, rfl, rfl, hk, HNO, hno, HG, HFL, HZ, HBR⟩ := hrel
      by_cases hlt : k < m
      · have hkl : k < l.length := by rw [HM.out]; exact hlt
        obtain ⟨g, o, rfl, hgl, hc⟩ := (HR.out _ HBR.out).at_ (by rw [List.length_map]; omega)
        have hgw : g < w.heap.size := HRB.out g o rfl (by omega)
        have r0 := hc k _ (rowsV_get hkl)
        have HSK := Lib.hid (HSR.out k hkl wr HBR.out)
        have HNB := HTL.out k hkl
        have HSTP : Hid (shapeOf l[k].2.2 ≠ 0 → ffS (l.map fun x => x.2.2) = shapeOf l[k].2.2) := Lib.hid fun h => ff_stop hkl HZ.out h
        have HZN' : Hid (shapeOf l[k].2.2 = 0 → ∀ j (hj : j < k + 1) (hl : j < l.length), shapeOf l[j].2.2 = 0) := Lib.hid fun h0 j hj hl => by
          by_cases e : j = k
          · subst e; exact h0
          · exact HZ.out j (by omega) hl
        have HFS := Lib.hid (fullB_step (op := op) hkl)
        have HOKK := Lib.hid (show ∀ W, Below w.heap.size w W → _ from fun W hb => HOK.out W hb l[k] (List.getElem_mem hkl))
        obtain ⟨⟨Ak, ck, rk⟩, hlk⟩ : ∃ x, l[k] = x := ⟨_, rfl⟩
        rw [hlk] at r0 HSK HNB HSTP HZN' HFS HOKK
        simp only at r0 HSK HNB HSTP HZN' HFS HOKK
        obtain ⟨nk, hnk⟩ : ∃ nk, rk.length = nk := ⟨_, rfl⟩
        have HNK := Lib.hid hnk
        rw [hnk] at r0 HSK HNB HOKK
        obtain ⟨sk, hsk⟩ : ∃ sk, shapeOf rk = sk := ⟨_, rfl⟩
        rw [hsk] at HSK HSTP HZN'
        clear hc hlk hkl hnk hsk
        by_cases z2 : sk = 0
        · subst z2
          have HZN := Lib.hid (HZN'.out rfl)
          by_cases hfit : no ≤ 4096
          · have HFE := Lib.hid (full_eq HFL.out (by rw [HNO.out]; exact hfit))
            clear HZN' HSTP
            go_wp2_with fail
            refine (HSK.out).mono ?_
            rintro e w3 ⟨rfl, hb3⟩
            have r1 := (hb3.cell (p := ⟨g, o + k, none⟩) hgl).trans r0
            have hg3 := HG.out.next hb3
            have hb3' := below_step HBR.out hb3
            clear r0 hb3 HG HBR HSK hgl
            generalize w3 = wr at *
            have HG := Lib.hid hg3
            have HBR := Lib.hid hb3'
            clear hg3 hb3'
            have HKEEP : Hid (∀ W W' : World, Below w.heap.size W W' → (fun W => W.cell? ⟨g, o + k, none⟩ = some (.slice Ak nk ck)) W → (fun W => W.cell? ⟨g, o + k, none⟩ = some (.slice Ak nk ck)) W') := Lib.hid fun W W' hb h0 => (hb.cell (by simp only; exact hgw)).trans h0
            have HSS : Hid ((fun W => W.cell? ⟨g, o + k, none⟩ = some (.slice Ak nk ck)) wr.drew) := Lib.hid r1
            have HLN := Lib.hid (show Below wr.drew.heap.size wr.drew (wr.alloc (.cells #[.int .i64 op, .int .i64 0, .int .i64 0] 53)).drew from (Below.refl _ _).alloc (Nat.le_refl _) _)
            have HZS : Hid (w.heap.size ≤ wr.drew.heap.size) := Lib.hid HBR.out.size
            have HBL := Lib.hid (show Below w.heap.size w (wr.alloc (.cells #[.int .i64 op, .int .i64 0, .int .i64 0] 53)).drew from (below_alloc HBR.out _).trans (below_drewN (Below.refl _ _) 1))
            have HGO := Lib.hid (HG.out.next (w' := (wr.alloc (.cells #[.int .i64 op, .int .i64 0, .int .i64 0] 53)).drew) (show Below wr.heap.size wr (wr.alloc (.cells #[.int .i64 op, .int .i64 0, .int .i64 0] 53)).drew from below_drewN ((Below.refl _ _).alloc (Nat.le_refl _) _) 1))
            have HOG := Lib.hid (show World.ownsRow (wr.alloc (.cells #[.int .i64 op, .int .i64 0, .int .i64 0] 53)).drew 0 53 3 (.slice Ao no co) no (nodesV L) by have := HGO.out.1; rwa [HNO.out] at this)
            have HLH : Hid (Holds (wr.alloc (.cells #[.int .i64 op, .int .i64 0, .int .i64 0] 53)).drew (some ⟨wr.heap.size, 0, none⟩) (nodesV [(op, 0, 0)])) := Lib.hid (holds_at wr #[.int .i64 op, .int .i64 0, .int .i64 0] 53 _ rfl)
            clear r1
            go_wp2_with fail
            refine region_begin_any (S := fun W => W.cell? ⟨g, o + k, none⟩ = some (.slice Ak nk ck)) (by kernel_rfl) (HSS.out) (fun W hW hHeld => ?_)
            subst hW
            refine region_take 0 ?_ rfl (by kernel_rfl) (by rfl) hHeld ?_ ?_
            rotate_left
            · intro w hSw
              (try dsimp only at hSw)
              go_simp
              try with_reducible rfl
            try simp only [Act.put, List.setIfInBounds_toArray, List.set_cons_zero, List.set_cons_succ]
            refine region_take 1 ?_ rfl (by kernel_rfl) (by rfl) hHeld ?_ ?_
            rotate_left
            · intro w hSw
              (try dsimp only at hSw)
              go_simp
              try with_reducible rfl
            try simp only [Act.put, List.setIfInBounds_toArray, List.set_cons_zero, List.set_cons_succ]
            refine region_take 2 ?_ rfl (by kernel_rfl) (by rfl) hHeld ?_ ?_
            rotate_left
            · intro w hSw
              (try dsimp only at hSw)
              go_simp
              try with_reducible rfl
            try simp only [Act.put, List.setIfInBounds_toArray, List.set_cons_zero, List.set_cons_succ]
            refine region_take 5 ?_ rfl (by kernel_rfl) (by rfl) hHeld ?_ ?_
            rotate_left
            · intro w hSw
              (try dsimp only at hSw)
              go_simp
              try with_reducible rfl
            try simp only [Act.put, List.setIfInBounds_toArray, List.set_cons_zero, List.set_cons_succ]
            refine region_take 6 ?_ rfl (by kernel_rfl) (by rfl) hHeld ?_ ?_
            rotate_left
            · intro w hSw
              (try dsimp only at hSw)
              go_simp
              try with_reducible rfl
            try simp only [Act.put, List.setIfInBounds_toArray, List.set_cons_zero, List.set_cons_succ]
            refine region_take 7 ?_ rfl (by kernel_rfl) (by rfl) hHeld ?_ ?_
            rotate_left
            · intro w hSw
              (try dsimp only at hSw)
              go_simp
              try with_reducible rfl
            try simp only [Act.put, List.setIfInBounds_toArray, List.set_cons_zero, List.set_cons_succ]
            refine region_take 8 ?_ rfl (by kernel_rfl) (by rfl) hHeld ?_ ?_
            rotate_left
            · intro w hSw
              (try dsimp only at hSw)
              go_simp
              try with_reducible rfl
            try simp only [Act.put, List.setIfInBounds_toArray, List.set_cons_zero, List.set_cons_succ]
            refine region_call 3 rfl (by kernel_rfl) (by rfl) (fun K hK => ?_)
            go_simp
            refine hK.out _ _ (HKEEP.out _ _ (HLN.out.mono HZS.out) hHeld) (fun hHeld => ?_)
            clear hK K
            try simp only [Act.put, List.setIfInBounds_toArray, List.set_cons_zero, List.set_cons_succ]
            refine region_call 4 rfl (by kernel_rfl) (by rfl) (fun K hK => ?_)
            refine wp_append_at (.tmp 35) (.tmp 38) 23 23 _ rfl Tryd.underlying23 53 _ 3 24 infoNode rfl (by decide) Tryd.underlying23 (.slice Ao no co) no 1 _ _ rfl HOG.out (some ⟨wr.heap.size, 0, none⟩) 1 rfl ⟨by omega, by omega, fun h => by cases h⟩ HLH.out rfl nodesV_one (by omega) (by decide) ?_
            intro v3 w3 hown3 hmv3
            refine hK.out _ _ (HKEEP.out _ _ (hmv3.below (B := w.heap.size) (Nat.le_trans HZS.out HLN.out.size) (fun g hg => HGO.out.2 g hg)) hHeld) (fun hHeld => ?_)
            clear hK K
            have hg3 := HGO.out.app (r := [(op, 0, 0)]) (by rw [HNO.out]; exact hown3) hmv3 (Nat.le_trans HZS.out HLN.out.size)
            have hb3 := HBL.out.trans hg3.2
            obtain ⟨A3, c3, rfl, -, -⟩ := own_slice hown3
            have HO3 := Lib.hid hown3
            have HG3 := Lib.hid hg3.1
            have HB3 := Lib.hid hb3
            have HROW := Lib.hid (HOKK.out w3 hb3)
            clear hown3 hmv3 hg3 hb3
            try simp only [Act.put, List.setIfInBounds_toArray, List.set_cons_zero, List.set_cons_succ]
            refine region_call 9 rfl (by kernel_rfl) (by rfl) (fun K hK => ?_)
            refine wp_append_at (.tmp 39) (.tmp 43) 23 23 _ rfl Tryd.underlying23 53 _ 3 24 infoNode rfl (by decide) Tryd.underlying23 (.slice A3 (no + 1) c3) (no + 1) nk _ (nodesV rk) rfl HO3.out Ak ck rfl HROW.out.1 HROW.out.2 (by rw [nodesV_len, HNK.out]) nodesV_one (by omega) (by decide) ?_
            intro v8 w8 hown8 hmv8
            refine hK.out _ _ (HKEEP.out _ _ (hmv8.below (B := w.heap.size) HB3.out.size (fun g hg => HG3.out.2 g hg)) hHeld) (fun hHeld => ?_)
            clear hK K
            have hg8 := HG3.out.app (r := rk) (by rw [List.length_append, HNO.out, HNK.out, nodesV_append]; exact hown8) hmv8 HB3.out.size
            have hb8 := HB3.out.trans hg8.2
            obtain ⟨A8, c8, rfl, -, -⟩ := own_slice hown8
            have HG8 := Lib.hid hg8.1
            have HB8 := Lib.hid hb8
            clear hown8 hmv8 hg8 hb8
            try simp only [Act.put, List.setIfInBounds_toArray, List.set_cons_zero, List.set_cons_succ]
            refine region_take 10 ?_ rfl (by kernel_rfl) (by rfl) hHeld ?_ ?_
            rotate_left
            · intro w hSw
              (try dsimp only at hSw)
              go_simp
              try with_reducible rfl
            try simp only [Act.put, List.setIfInBounds_toArray, List.set_cons_zero, List.set_cons_succ]
            refine region_done (by kernel_rfl) ?_
            clear hHeld
            go_wp2_with fail
            go_roundw
            case rel => exact ⟨k + 1, L ++ [(op, 0, 0)] ++ rk, no + 1 + nk, A8, c8, rfl, by go_num, by omega, Lib.hid (by rw [List.length_append, List.length_append, HNO.out, HNK.out]; rfl), by omega, HG8, Lib.hid (.inl (by rw [HFE.out, HFS.out])), HZN, HB8⟩
            case measure => simp [intOf] <;> omega
          · have HFM := Lib.hid (full_more (.inr HFS.out) HFL.out (by rw [HNO.out]; exact hfit))
            clear HZN' HSTP
            go_wp2_with fail
            refine (HSK.out).mono ?_
            rintro e w3 ⟨rfl, hb3⟩
            have HG3 := Lib.hid (HG.out.next hb3)
            have HB3 := Lib.hid (below_step HBR.out hb3)
            clear hb3
            go_wp2_with fail
            go_roundw
            case rel => exact ⟨k + 1, L, no, Ao, co, rfl, by go_num, by omega, HNO, hno, HG3, HFM, HZN, HB3⟩
            case measure => simp [intOf] <;> omega
        · have HX := Lib.hid (HBI1.out _ z2 (HSTP.out z2))
          have e1 : (sk != 0) = true := by simpa using z2
          clear z2 HZN' HSTP
          go_wp2_with fail
          refine (HSK.out).mono ?_
          rintro e w3 ⟨rfl, hb3⟩
          have HB3 := Lib.hid (below_step HBR.out hb3)
          clear hb3
          go_wp2_with fail
          go_ret2
          rw [HX.out]
          exact RowAns.none _ HB3.out
      · obtain rfl : k = m := by omega
        have HX := Lib.hid (HBI2.out (ff_all fun j hl => HZ.out j (by have := HM.out; omega) hl))
        have HSH1 := Lib.hid (HSH.out _ HBR.out)
        obtain ⟨s1, hs1⟩ : ∃ s1, shapeOf t = s1 := ⟨_, rfl⟩
        rw [hs1] at HX HSH1
        clear hs1
        by_cases z1 : s1 = 0
        · subst z1
          have HX1 := Lib.hid (HX.out.trans (if_neg (by simp)))
          have HX2 := Lib.hid (HX1.out.trans (full_big (full_end HFL.out)))
          go_wp2_with fail
          refine (HSH1.out).mono ?_
          rintro e w3 ⟨rfl, hb3⟩
          have HG3 := Lib.hid (HG.out.next hb3)
          have HB3 := Lib.hid (below_step HBR.out hb3)
          have HO3 := Lib.hid (show w3.ownsRow 0 53 3 (.slice Ao no co) no (nodesV L) by have := HG3.out.1; rwa [HNO.out] at this)
          have HHT := Lib.hid (HA.out _ HB3.out)
          clear hb3
          by_cases hbig : 4096 < no + n
          · have HX3 := Lib.hid (HX2.out.trans (if_pos (by rw [List.length_append, HNO.out, HN.out]; exact hbig)))
            have hbi : (4096 : Int) < (no : Int) + (n : Int) := by omega
            go_wp2_with (at_builtin; go_must (refine wpList_append_tx rfl (.tmp 50) (.tmp 51) _ _ _ rfl Tryd.underlying23 53 _ 3 24 infoNode rfl (by decide) Tryd.underlying23 (.slice Ao no co) no n _ (nodesV t) rfl HO3.out A c rfl HS.out HHT.out (by rw [nodesV_len, HN.out]) nodesV_one (by omega) (by decide) ?_); intro v5 w5 hown5 hmv5; have hg5 := HG3.out.app (r := t) (by rw [HNO.out, HN.out]; exact hown5) hmv5 HB3.out.size; obtain ⟨A5, c5, rfl, -, -⟩ := own_slice hown5; have HG5 := Lib.hid hg5.1; have HB5 := Lib.hid (HB3.out.trans hg5.2); have HL5 : Hid ((L ++ t).length = no + n) := Lib.hid (by rw [List.length_append, HNO.out, HN.out]); clear hown5 hmv5 hg5)
            go_ret2
            rw [HX3.out]
            exact RowAns.none _ HB5.out
          · have HX3 := Lib.hid (HX2.out.trans (if_neg (by rw [List.length_append, HNO.out, HN.out]; exact hbig)))
            have hbi : ¬ (4096 : Int) < (no : Int) + (n : Int) := by omega
            go_wp2_with (at_builtin; go_must (refine wpList_append_tx rfl (.tmp 50) (.tmp 51) _ _ _ rfl Tryd.underlying23 53 _ 3 24 infoNode rfl (by decide) Tryd.underlying23 (.slice Ao no co) no n _ (nodesV t) rfl HO3.out A c rfl HS.out HHT.out (by rw [nodesV_len, HN.out]) nodesV_one (by omega) (by decide) ?_); intro v5 w5 hown5 hmv5; have hg5 := HG3.out.app (r := t) (by rw [HNO.out, HN.out]; exact hown5) hmv5 HB3.out.size; obtain ⟨A5, c5, rfl, -, -⟩ := own_slice hown5; have HG5 := Lib.hid hg5.1; have HB5 := Lib.hid (HB3.out.trans hg5.2); have HL5 : Hid ((L ++ t).length = no + n) := Lib.hid (by rw [List.length_append, HNO.out, HN.out]); clear hown5 hmv5 hg5)
            go_ret2
            exact RowAns.of HX3.out HL5.out (Nat.le_refl _) (HG5.out.own HL5.out) HB5.out
        · have HX1 := Lib.hid (HX.out.trans (if_pos z1))
          have e1 : (s1 != 0) = true := by simpa using z1
          clear z1
          go_wp2_with fail
          refine (HSH1.out).mono ?_
          rintro e w3 ⟨rfl, hb3⟩
          have HB3 := Lib.hid (below_step HBR.out hb3)
          clear hb3
          go_wp2_with fail
          go_ret2
          rw [HX1.out]
          exact RowAns.none _ HB3.out
  · have h5 : op = 5 := HQ.resolve_left h4
    have e4 : (op != 4) = true := by simpa using h4
    have e5 : (op != 5) = false := by simpa using h5
    clear h4 h5 HQ
    go_wp2_with fail
    go_loopw [8, 9] (fun out i wr => ∃ (k : Nat) (L : List Node3) (no : Nat) (Ao : Option Addr) (co : Nat), out = .slice Ao no co ∧ i = .int .i64 (k : Int) ∧ k ≤ m ∧ Hid (L.length = no) ∧ no ≤ 300000 ∧ Hid (NGrow wr w.heap.size (.slice Ao no co) L) ∧ Hid (L = fullB op l k ∨ 4096 < L.length ∧ 4096 < (fullB op l k).length) ∧ Hid (∀ j (hj : j < k) (hl : j < l.length), shapeOf l[j].2.2 = 0) ∧ Hid (Below w.heap.size w wr)) (fun _ i _ => m - (intOf i).toNat)
    case atStart => exact ⟨0, [], _, _, _, rfl, rfl, Nat.zero_le _, Lib.hid rfl, by omega, Lib.hid (NGrow.none _ _), Lib.hid (.inl (by simp [fullB])), Lib.hid fun j hj => absurd hj (by omega), Lib.hid (Below.refl _ _)⟩
    case round =>
      obtain ⟨k, L, no, Ao, co, rfl, rfl, hk, HNO, hno, HG, HFL, HZ, HBR⟩ := hrel
      by_cases hlt : k < m
      · have hkl : k < l.length := by rw [HM.out]; exact hlt
        obtain ⟨g, o, rfl, hgl, hc⟩ := (HR.out _ HBR.out).at_ (by rw [List.length_map]; omega)
        have hgw : g < w.heap.size := HRB.out g o rfl (by omega)
        have r0 := hc k _ (rowsV_get hkl)
        have HSK := Lib.hid (HSR.out k hkl wr HBR.out)
        have HNB := HTL.out k hkl
        have HSTP : Hid (shapeOf l[k].2.2 ≠ 0 → ffS (l.map fun x => x.2.2) = shapeOf l[k].2.2) := Lib.hid fun h => ff_stop hkl HZ.out h
        have HZN' : Hid (shapeOf l[k].2.2 = 0 → ∀ j (hj : j < k + 1) (hl : j < l.length), shapeOf l[j].2.2 = 0) := Lib.hid fun h0 j hj hl => by
          by_cases e : j = k
          · subst e; exact h0
          · exact HZ.out j (by omega) hl
        have HFS := Lib.hid (fullB_step (op := op) hkl)
        have HOKK := Lib.hid (show ∀ W, Below w.heap.size w W → _ from fun W hb => HOK.out W hb l[k] (List.getElem_mem hkl))
        obtain ⟨⟨Ak, ck, rk⟩, hlk⟩ : ∃ x, l[k] = x := ⟨_, rfl⟩
        rw [hlk] at r0 HSK HNB HSTP HZN' HFS HOKK
        simp only at r0 HSK HNB HSTP HZN' HFS HOKK
        obtain ⟨nk, hnk⟩ : ∃ nk, rk.length = nk := ⟨_, rfl⟩
        have HNK := Lib.hid hnk
        rw [hnk] at r0 HSK HNB HOKK
        obtain ⟨sk, hsk⟩ : ∃ sk, shapeOf rk = sk := ⟨_, rfl⟩
        rw [hsk] at HSK HSTP HZN'
        clear hc hlk hkl hnk hsk
        by_cases z2 : sk = 0
        · subst z2
          have HZN := Lib.hid (HZN'.out rfl)
          by_cases hfit : no ≤ 4096
          · have HFE := Lib.hid (full_eq HFL.out (by rw [HNO.out]; exact hfit))
            clear HZN' HSTP
            go_wp2_with fail
            refine (HSK.out).mono ?_
            rintro e w3 ⟨rfl, hb3⟩
            have r1 := (hb3.cell (p := ⟨g, o + k, none⟩) hgl).trans r0
            have hg3 := HG.out.next hb3
            have hb3' := below_step HBR.out hb3
            clear r0 hb3 HG HBR HSK hgl
            generalize w3 = wr at *
            have HG := Lib.hid hg3
            have HBR := Lib.hid hb3'
            clear hg3 hb3'
            have HKEEP : Hid (∀ W W' : World, Below w.heap.size W W' → (fun W => W.cell? ⟨g, o + k, none⟩ = some (.slice Ak nk ck)) W → (fun W => W.cell? ⟨g, o + k, none⟩ = some (.slice Ak nk ck)) W') := Lib.hid fun W W' hb h0 => (hb.cell (by simp only; exact hgw)).trans h0
            have HSS : Hid ((fun W => W.cell? ⟨g, o + k, none⟩ = some (.slice Ak nk ck)) wr.drew) := Lib.hid r1
            have HLN := Lib.hid (show Below wr.drew.heap.size wr.drew (wr.alloc (.cells #[.int .i64 op, .int .i64 0, .int .i64 0] 53)).drew from (Below.refl _ _).alloc (Nat.le_refl _) _)
            have HZS : Hid (w.heap.size ≤ wr.drew.heap.size) := Lib.hid HBR.out.size
            have HBL := Lib.hid (show Below w.heap.size w (wr.alloc (.cells #[.int .i64 op, .int .i64 0, .int .i64 0] 53)).drew from (below_alloc HBR.out _).trans (below_drewN (Below.refl _ _) 1))
            have HGO := Lib.hid (HG.out.next (w' := (wr.alloc (.cells #[.int .i64 op, .int .i64 0, .int .i64 0] 53)).drew) (show Below wr.heap.size wr (wr.alloc (.cells #[.int .i64 op, .int .i64 0, .int .i64 0] 53)).drew from below_drewN ((Below.refl _ _).alloc (Nat.le_refl _) _) 1))
            have HOG := Lib.hid (show World.ownsRow (wr.alloc (.cells #[.int .i64 op, .int .i64 0, .int .i64 0] 53)).drew 0 53 3 (.slice Ao no co) no (nodesV L) by have := HGO.out.1; rwa [HNO.out] at this)
            have HLH : Hid (Holds (wr.alloc (.cells #[.int .i64 op, .int .i64 0, .int .i64 0] 53)).drew (some ⟨wr.heap.size, 0, none⟩) (nodesV [(op, 0, 0)])) := Lib.hid (holds_at wr #[.int .i64 op, .int .i64 0, .int .i64 0] 53 _ rfl)
            clear r1
            go_wp2_with fail
            refine region_begin_any (S := fun W => W.cell? ⟨g, o + k, none⟩ = some (.slice Ak nk ck)) (by kernel_rfl) (HSS.out) (fun W hW hHeld => ?_)
            subst hW
            refine region_take 0 ?_ rfl (by kernel_rfl) (by rfl) hHeld ?_ ?_
            rotate_left
            · intro w hSw
              (try dsimp only at hSw)
              go_simp
              try with_reducible rfl
            try simp only [Act.put, List.setIfInBounds_toArray, List.set_cons_zero, List.set_cons_succ]
            refine region_take 1 ?_ rfl (by kernel_rfl) (by rfl) hHeld ?_ ?_
            rotate_left
            · intro w hSw
              (try dsimp only at hSw)
              go_simp
              try with_reducible rfl
            try simp only [Act.put, List.setIfInBounds_toArray, List.set_cons_zero, List.set_cons_succ]
            refine region_take 2 ?_ rfl (by kernel_rfl) (by rfl) hHeld ?_ ?_
            rotate_left
            · intro w hSw
              (try dsimp only at hSw)
              go_simp
              try with_reducible rfl
            try simp only [Act.put, List.setIfInBounds_toArray, List.set_cons_zero, List.set_cons_succ]
            refine region_take 5 ?_ rfl (by kernel_rfl) (by rfl) hHeld ?_ ?_
            rotate_left
            · intro w hSw
              (try dsimp only at hSw)
              go_simp
              try with_reducible rfl
            try simp only [Act.put, List.setIfInBounds_toArray, List.set_cons_zero, List.set_cons_succ]
            refine region_take 6 ?_ rfl (by kernel_rfl) (by rfl) hHeld ?_ ?_
            rotate_left
            · intro w hSw
              (try dsimp only at hSw)
              go_simp
              try with_reducible rfl
            try simp only [Act.put, List.setIfInBounds_toArray, List.set_cons_zero, List.set_cons_succ]
            refine region_take 7 ?_ rfl (by kernel_rfl) (by rfl) hHeld ?_ ?_
            rotate_left
            · intro w hSw
              (try dsimp only at hSw)
              go_simp
              try with_reducible rfl
            try simp only [Act.put, List.setIfInBounds_toArray, List.set_cons_zero, List.set_cons_succ]
            refine region_take 8 ?_ rfl (by kernel_rfl) (by rfl) hHeld ?_ ?_
            rotate_left
            · intro w hSw
              (try dsimp only at hSw)
              go_simp
              try with_reducible rfl
            try simp only [Act.put, List.setIfInBounds_toArray, List.set_cons_zero, List.set_cons_succ]
            refine region_call 3 rfl (by kernel_rfl) (by rfl) (fun K hK => ?_)
            go_simp
            refine hK.out _ _ (HKEEP.out _ _ (HLN.out.mono HZS.out) hHeld) (fun hHeld => ?_)
            clear hK K
            try simp only [Act.put, List.setIfInBounds_toArray, List.set_cons_zero, List.set_cons_succ]
            refine region_call 4 rfl (by kernel_rfl) (by rfl) (fun K hK => ?_)
            refine wp_append_at (.tmp 35) (.tmp 38) 23 23 _ rfl Tryd.underlying23 53 _ 3 24 infoNode rfl (by decide) Tryd.underlying23 (.slice Ao no co) no 1 _ _ rfl HOG.out (some ⟨wr.heap.size, 0, none⟩) 1 rfl ⟨by omega, by omega, fun h => by cases h⟩ HLH.out rfl nodesV_one (by omega) (by decide) ?_
            intro v3 w3 hown3 hmv3
            refine hK.out _ _ (HKEEP.out _ _ (hmv3.below (B := w.heap.size) (Nat.le_trans HZS.out HLN.out.size) (fun g hg => HGO.out.2 g hg)) hHeld) (fun hHeld => ?_)
            clear hK K
            have hg3 := HGO.out.app (r := [(op, 0, 0)]) (by rw [HNO.out]; exact hown3) hmv3 (Nat.le_trans HZS.out HLN.out.size)
            have hb3 := HBL.out.trans hg3.2
            obtain ⟨A3, c3, rfl, -, -⟩ := own_slice hown3
            have HO3 := Lib.hid hown3
            have HG3 := Lib.hid hg3.1
            have HB3 := Lib.hid hb3
            have HROW := Lib.hid (HOKK.out w3 hb3)
            clear hown3 hmv3 hg3 hb3
            try simp only [Act.put, List.setIfInBounds_toArray, List.set_cons_zero, List.set_cons_succ]
            refine region_call 9 rfl (by kernel_rfl) (by rfl) (fun K hK => ?_)
            refine wp_append_at (.tmp 39) (.tmp 43) 23 23 _ rfl Tryd.underlying23 53 _ 3 24 infoNode rfl (by decide) Tryd.underlying23 (.slice A3 (no + 1) c3) (no + 1) nk _ (nodesV rk) rfl HO3.out Ak ck rfl HROW.out.1 HROW.out.2 (by rw [nodesV_len, HNK.out]) nodesV_one (by omega) (by decide) ?_
            intro v8 w8 hown8 hmv8
            refine hK.out _ _ (HKEEP.out _ _ (hmv8.below (B := w.heap.size) HB3.out.size (fun g hg => HG3.out.2 g hg)) hHeld) (fun hHeld => ?_)
            clear hK K
            have hg8 := HG3.out.app (r := rk) (by rw [List.length_append, HNO.out, HNK.out, nodesV_append]; exact hown8) hmv8 HB3.out.size
            have hb8 := HB3.out.trans hg8.2
            obtain ⟨A8, c8, rfl, -, -⟩ := own_slice hown8
            have HG8 := Lib.hid hg8.1
            have HB8 := Lib.hid hb8
            clear hown8 hmv8 hg8 hb8
            try simp only [Act.put, List.setIfInBounds_toArray, List.set_cons_zero, List.set_cons_succ]
            refine region_take 10 ?_ rfl (by kernel_rfl) (by rfl) hHeld ?_ ?_
            rotate_left
            · intro w hSw
              (try dsimp only at hSw)
              go_simp
              try with_reducible rfl
            try simp only [Act.put, List.setIfInBounds_toArray, List.set_cons_zero, List.set_cons_succ]
            refine region_done (by kernel_rfl) ?_
            clear hHeld
            go_wp2_with fail
            go_roundw
            case rel => exact ⟨k + 1, L ++ [(op, 0, 0)] ++ rk, no + 1 + nk, A8, c8, rfl, by go_num, by omega, Lib.hid (by rw [List.length_append, List.length_append, HNO.out, HNK.out]; rfl), by omega, HG8, Lib.hid (.inl (by rw [HFE.out, HFS.out])), HZN, HB8⟩
            case measure => simp [intOf] <;> omega
          · have HFM := Lib.hid (full_more (.inr HFS.out) HFL.out (by rw [HNO.out]; exact hfit))
            clear HZN' HSTP
            go_wp2_with fail
            refine (HSK.out).mono ?_
            rintro e w3 ⟨rfl, hb3⟩
            have HG3 := Lib.hid (HG.out.next hb3)
            have HB3 := Lib.hid (below_step HBR.out hb3)
            clear hb3
            go_wp2_with fail
            go_roundw
            case rel => exact ⟨k + 1, L, no, Ao, co, rfl, by go_num, by omega, HNO, hno, HG3, HFM, HZN, HB3⟩
            case measure => simp [intOf] <;> omega
        · have HX := Lib.hid (HBI1.out _ z2 (HSTP.out z2))
          have e1 : (sk != 0) = true := by simpa using z2
          clear z2 HZN' HSTP
          go_wp2_with fail
          refine (HSK.out).mono ?_
          rintro e w3 ⟨rfl, hb3⟩
          have HB3 := Lib.hid (below_step HBR.out hb3)
          clear hb3
          go_wp2_with fail
          go_ret2
          rw [HX.out]
          exact RowAns.none _ HB3.out
      · obtain rfl : k = m := by omega
        have HX := Lib.hid (HBI2.out (ff_all fun j hl => HZ.out j (by have := HM.out; omega) hl))
        have HSH1 := Lib.hid (HSH.out _ HBR.out)
        obtain ⟨s1, hs1⟩ : ∃ s1, shapeOf t = s1 := ⟨_, rfl⟩
        rw [hs1] at HX HSH1
        clear hs1
        by_cases z1 : s1 = 0
        · subst z1
          have HX1 := Lib.hid (HX.out.trans (if_neg (by simp)))
          have HX2 := Lib.hid (HX1.out.trans (full_big (full_end HFL.out)))
          go_wp2_with fail
          refine (HSH1.out).mono ?_
          rintro e w3 ⟨rfl, hb3⟩
          have HG3 := Lib.hid (HG.out.next hb3)
          have HB3 := Lib.hid (below_step HBR.out hb3)
          have HO3 := Lib.hid (show w3.ownsRow 0 53 3 (.slice Ao no co) no (nodesV L) by have := HG3.out.1; rwa [HNO.out] at this)
          have HHT := Lib.hid (HA.out _ HB3.out)
          clear hb3
          by_cases hbig : 4096 < no + n
          · have HX3 := Lib.hid (HX2.out.trans (if_pos (by rw [List.length_append, HNO.out, HN.out]; exact hbig)))
            have hbi : (4096 : Int) < (no : Int) + (n : Int) := by omega
            go_wp2_with (at_builtin; go_must (refine wpList_append_tx rfl (.tmp 50) (.tmp 51) _ _ _ rfl Tryd.underlying23 53 _ 3 24 infoNode rfl (by decide) Tryd.underlying23 (.slice Ao no co) no n _ (nodesV t) rfl HO3.out A c rfl HS.out HHT.out (by rw [nodesV_len, HN.out]) nodesV_one (by omega) (by decide) ?_); intro v5 w5 hown5 hmv5; have hg5 := HG3.out.app (r := t) (by rw [HNO.out, HN.out]; exact hown5) hmv5 HB3.out.size; obtain ⟨A5, c5, rfl, -, -⟩ := own_slice hown5; have HG5 := Lib.hid hg5.1; have HB5 := Lib.hid (HB3.out.trans hg5.2); have HL5 : Hid ((L ++ t).length = no + n) := Lib.hid (by rw [List.length_append, HNO.out, HN.out]); clear hown5 hmv5 hg5)
            go_ret2
            rw [HX3.out]
            exact RowAns.none _ HB5.out
          · have HX3 := Lib.hid (HX2.out.trans (if_neg (by rw [List.length_append, HNO.out, HN.out]; exact hbig)))
            have hbi : ¬ (4096 : Int) < (no : Int) + (n : Int) := by omega
            go_wp2_with (at_builtin; go_must (refine wpList_append_tx rfl (.tmp 50) (.tmp 51) _ _ _ rfl Tryd.underlying23 53 _ 3 24 infoNode rfl (by decide) Tryd.underlying23 (.slice Ao no co) no n _ (nodesV t) rfl HO3.out A c rfl HS.out HHT.out (by rw [nodesV_len, HN.out]) nodesV_one (by omega) (by decide) ?_); intro v5 w5 hown5 hmv5; have hg5 := HG3.out.app (r := t) (by rw [HNO.out, HN.out]; exact hown5) hmv5 HB3.out.size; obtain ⟨A5, c5, rfl, -, -⟩ := own_slice hown5; have HG5 := Lib.hid hg5.1; have HB5 := Lib.hid (HB3.out.trans hg5.2); have HL5 : Hid ((L ++ t).length = no + n) := Lib.hid (by rw [List.length_append, HNO.out, HN.out]); clear hown5 hmv5 hg5)
            go_ret2
            exact RowAns.of HX3.out HL5.out (Nat.le_refl _) (HG5.out.own HL5.out) HB5.out
        · have HX1 := Lib.hid (HX.out.trans (if_pos z1))
          have e1 : (s1 != 0) = true := by simpa using z1
          clear z1
          go_wp2_with fail
          refine (HSH1.out).mono ?_
          rintro e w3 ⟨rfl, hb3⟩
          have HB3 := Lib.hid (below_step HBR.out hb3)
          clear hb3
          go_wp2_with fail
          go_ret2
          rw [HX1.out]
          exact RowAns.none _ HB3.out
end Go.Proofs.YtkkkblghihheeaaDoor
namespace Go.Proofs.YtkkkblghihheeaaDoor
open Go.RowKit

theorem tree_app {n : Node3} {ats fs : List Node3} {k0 k1 : Ann} (h : isT (treeA n ats fs [k0, k1])) (h6 : n.1 = 6) (ha : ats = []) : (treeA n ats fs [k0, k1]).map Prod.fst = (6, 0, 0) :: (k0.map Prod.fst ++ k1.map Prod.fst) := by
  subst ha
  have e : (treeA n [] fs [k0, k1]).map Prod.fst = n :: (k0.map Prod.fst ++ k1.map Prod.fst) := by
    unfold treeA kidsA funA shA
    rw [if_neg (by omega)]
    simp [kidsA, funA, shA, h6, List.map_map, Function.comp_def]
  have h1 := h
  unfold isT at h1
  rw [e] at h1 ⊢
  rw [(top_app h1 h6).1]
theorem spine_kids {w : World} {G : Nat → Prop} {vo vA vB : Int} {vK vP vF : Option Addr} {vnk vck vnp vcp vnf vcf : Nat} {a : Ann} (h : TreeR w G ⟨(vo, vA, vB), vK, vnk, vck, vP, vnp, vcp, vF, vnf, vcf⟩ a) (hi : isT a) (h6 : vo = 6) :
    ∃ (a0 a1 : Ann) (v0 v1 : TV) (g o : Nat), vK = some ⟨g, o, none⟩ ∧ g < w.heap.size ∧ Holds w (some ⟨g, o, none⟩) (treesV [v0, v1]) ∧ TreeR w G v0 a0 ∧ TreeR w G v1 a1 ∧ isT a0 ∧ isT a1 ∧ vnk = 2 ∧ a.map Prod.fst = (6, 0, 0) :: (a0.map Prod.fst ++ a1.map Prod.fst) := by
  cases h with
  | mk v' ks ats fs hs hK hA hF hv sub hR =>
  obtain ⟨hR1, hR2, hR3⟩ := hR
  have hk2 : kidsN (vo, vA, vB) = 2 := by unfold kidsN; rw [if_pos (.inr (.inr h6))]
  rw [List.length_map] at hR1
  simp only at hR1
  rw [hk2] at hR1
  obtain ⟨p0, p1, rfl⟩ : ∃ p0 p1, ks = [p0, p1] := by
    match ks, hR1 with
    | [p0, p1], _ => exact ⟨p0, p1, rfl⟩
  have hvk : vnk = 2 := hs.nk
  have hats : ats = [] := hR2 (by show vo ≠ 2; omega)
  obtain ⟨g, o, e, hg, -⟩ := hK.1.at_ (by rw [treesV_len]; simp)
  simp only at e
  have hh := hK.1
  simp only at hh
  subst e
  exact ⟨p0.2, p1.2, p0.1, p1.1, g, o, rfl, hg, hh, sub p0 (by simp), sub p1 (by simp), hR3 _ (by simp), hR3 _ (by simp), hvk, tree_app hi h6 hats⟩
theorem kid_cells0 {w : World} {g o : Nat} {v0 v1 : TV} (h : Holds w (some ⟨g, o, none⟩) (treesV [v0, v1])) : ∀ j u, v0.cells[j]? = some u → w.cell? ⟨g, o + j, none⟩ = some u := fun j u hu => by
  have := kid_cells (k := 0) h (by simp) j u hu
  simpa using this
theorem rows_one {l : List RowT} : ∀ u ∈ l.map rowV, u.oneCell' = true := fun u hu => by
  obtain ⟨x, -, rfl⟩ := List.mem_map.1 hu
  rfl
/-- The spine so far: bo is the box of what is left. -/
structure SpineRun (w wr : World) (bo n : Nat) (t : List Node3) (v : TV) (a : Ann) (R : Option Addr) (m c : Nat) (L : List RowT) : Prop where
  whole : Whole wr bo #[.int .i64 v.n.1, .int .i64 v.n.2.1, .int .i64 v.n.2.2, .slice v.K v.nk v.ck, .slice v.A v.na v.ca, .slice v.F v.nf v.cf] 59
  tree : TreeR wr (fun k => w.heap.size ≤ k ∧ k < bo) v a
  ist : isT a
  len : L.length = m
  row : t = List.replicate m (6, 0, 0) ++ (a.map Prod.fst ++ (L.map fun x => x.2.2).flatten)
  kids : ∀ x ∈ L, RowT1 x.2.2
  sl : Slice R m c
  ho : Holds wr R (L.map rowV)
  ok : RowsOk wr L
  ne : ∀ x ∈ L, ∀ b o, x.1 = some ⟨b, o, none⟩ → bo < b
  nr : ∀ b o, R = some ⟨b, o, none⟩ → bo < b
  bl : Below w.heap.size w wr
  bw : w.heap.size ≤ bo
theorem SpineRun.next {w wr w1 : World} {bo n : Nat} {t : List Node3} {v : TV} {a : Ann} {R : Option Addr} {m c : Nat} {L : List RowT} (h : SpineRun w wr bo n t v a R m c L) (hb : Below wr.heap.size wr w1) : SpineRun w w1 bo n t v a R m c L :=
  ⟨h.whole.below hb h.whole.lt, h.tree.next hb, h.ist, h.len, h.row, h.kids, h.sl, h.ho.below hb, h.ok.below hb, h.ne, h.nr, below_step h.bl hb, h.bw⟩
/-- What is left is put into the box. -/
theorem SpineRun.put {w wr w1 : World} {bo n : Nat} {t : List Node3} {v u : TV} {a b : Ann} {R R' : Option Addr} {m c m' c' : Nat} {L L' : List RowT} (h : SpineRun w wr bo n t v a R m c L) (hb : Below bo wr w1) (_ : bo < wr.heap.size) (ho : Only (fun k => k = bo) wr w1)
    (hwh : Whole w1 bo #[.int .i64 u.n.1, .int .i64 u.n.2.1, .int .i64 u.n.2.2, .slice u.K u.nk u.ck, .slice u.A u.na u.ca, .slice u.F u.nf u.cf] 59) (ht : TreeR wr (fun k => w.heap.size ≤ k ∧ k < bo) u b) (hi : isT b) (hl : L'.length = m')
    (hr : t = List.replicate m' (6, 0, 0) ++ (b.map Prod.fst ++ (L'.map fun x => x.2.2).flatten)) (hk : ∀ x ∈ L', RowT1 x.2.2) (hs : Slice R' m' c') (hh : Holds wr R' (L'.map rowV)) (hok : RowsOk wr L') (hne : ∀ x ∈ L', ∀ b o, x.1 = some ⟨b, o, none⟩ → bo < b) (hnr : ∀ b o, R' = some ⟨b, o, none⟩ → bo < b) :
    SpineRun w w1 bo n t u b R' m' c' L' :=
  ⟨hwh, ht.keep fun k hk _ => ho.block k (by omega) (by omega), hi, hl, hr, hk, hs, hh.only ho fun b o e e' => by have := hnr b o e; omega, fun x hx => ⟨(hok x hx).1, (hok x hx).2.only ho fun b o e e' => by have := hne x hx b o e; omega⟩, hne, hnr, h.bl.trans (hb.mono h.bw), h.bw⟩
set_option maxRecDepth 100000 in
set_option maxHeartbeats 4000000 in
theorem rspine_any (A : Option Addr) (n c : Nat) (t : List Node3) (w : World) (hn : t.length = n) (hsl : Slice A n c) (hA : Holds w A (nodesV t)) (hw : ∀ x ∈ t, Wide3 x) :
    Calls Tryd.prog 35 #[.slice A n c] w (SpinePost t w) := by
  have HO := Lib.hid (rof_any A n c t w hn hsl hA hw)
  have HN := Lib.hid hn
  clear hn hA hw hsl
  by_cases hs : shapeOf t = 0
  case neg =>
    have HX := Lib.hid hs
    clear hs
    go_enter Tryd.func35, Tryd.ntmps35
    go_wp2_with fail
    refine (HO.out).mono ?_
    rintro e w2 (⟨-, rfl, hb2⟩ | ⟨v, hy, -⟩)
    · have HB2 := Lib.hid (hb2.alloc hb2.size (.cells #[.int .i64 0, .int .i64 0, .int .i64 0, .slice none 0 0, .slice none 0 0, .slice none 0 0] 59))
      clear hb2
      go_wp2_with fail
      go_ret2
      exact SpinePost.none HX.out HB2.out
    · exact absurd hy HX.out
  have HS := Lib.hid hs
  have hnb : n ≤ 4096 := by have := (ann_of hs).2; have := HN.out; omega
  have HTR := Lib.hid (show isT (annOf t) ∧ t = (annOf t).map Prod.fst from by
    have h1 := shape_top hs
    have h2 := (top0_row h1).1
    rw [List.append_nil] at h2
    exact ⟨isT_of h1, h2⟩)
  clear hs
  go_enter Tryd.func35, Tryd.ntmps35
  go_wp2_with fail
  refine (HO.out).mono ?_
  rintro e w2 (⟨hno, -, -⟩ | ⟨v, -, rfl, ht, hb2⟩)
  · exact absurd HS.out hno
  obtain ⟨⟨yo, yA, yB⟩, yK, ynk, yck, yP, ynp, ycp, yF, ynf, ycf⟩ := v
  dsimp only [TV.val]
  have hrun : SpineRun w (w2.alloc (.cells #[.int .i64 yo, .int .i64 yA, .int .i64 yB, .slice yK ynk yck, .slice yP ynp ycp, .slice yF ynf ycf] 59)) w2.heap.size n t ⟨(yo, yA, yB), yK, ynk, yck, yP, ynp, ycp, yF, ynf, ycf⟩ (annOf t) none 0 0 [] :=
    ⟨Whole.new w2 _ _, ((ht.mono (G' := fun k => w.heap.size ≤ k ∧ k < w2.heap.size) fun k h1 h2 => ⟨h1, h2⟩).next ((Below.refl _ _).alloc (Nat.le_refl _) _)), HTR.out.1, rfl, by simpa using HTR.out.2, fun x hx => (by cases hx), slice_nil, Holds.nil _ _, fun x hx => (by cases hx), fun x hx => (by cases hx), fun b o e => (by cases e), below_alloc hb2 _, hb2.size⟩
  have HRUN := Lib.hid hrun
  clear ht hb2 hrun
  generalize annOf t = a0 at *
  go_wp2_with fail
  go_loopw [6] (fun out wr => ∃ (v : TV) (a : Ann) (R : Option Addr) (m c : Nat) (L : List RowT), out = .slice R m c ∧ m ≤ n ∧ Hid (SpineRun w wr w2.heap.size n t v a R m c L)) (fun out _ => n - (match out with | .slice _ m _ => m | _ => 0))
  case atStart => exact ⟨⟨(yo, yA, yB), yK, ynk, yck, yP, ynp, ycp, yF, ynf, ycf⟩, a0, none, 0, 0, [], rfl, Nat.zero_le _, HRUN⟩
  case round =>
    obtain ⟨v, a, R, m, c, L, rfl, hm, HR⟩ := hrel
    have hr := HR.out
    have hlt := hr.whole.lt
    have hal : a.length + m ≤ n := by
      have := congrArg List.length hr.row
      rw [List.length_append, List.length_append, List.length_replicate, List.length_map, HN.out] at this
      omega
    have hlt2 : w2.heap.size < wr.heap.size := hlt
    obtain ⟨⟨vo, vA, vB⟩, vK, vnk, vck, vP, vnp, vcp, vF, vnf, vcf⟩ := v
    have c0 : wr.cell? ⟨w2.heap.size, 0, none⟩ = some (.int .i64 vo) := hr.whole.cell 0
    have c1 : wr.cell? ⟨w2.heap.size, 1, none⟩ = some (.int .i64 vA) := hr.whole.cell 1
    have c2 : wr.cell? ⟨w2.heap.size, 2, none⟩ = some (.int .i64 vB) := hr.whole.cell 2
    have c3 : wr.cell? ⟨w2.heap.size, 3, none⟩ = some (.slice vK vnk vck) := hr.whole.cell 3
    have c4 : wr.cell? ⟨w2.heap.size, 4, none⟩ = some (.slice vP vnp vcp) := hr.whole.cell 4
    have c5 : wr.cell? ⟨w2.heap.size, 5, none⟩ = some (.slice vF vnf vcf) := hr.whole.cell 5
    by_cases h6 : vo = 6
    · have e6 : (vo == 6) = true := by simpa using h6
      obtain ⟨a0, a1, v0, v1, g, o, rfl, hg, hKh, ht0, ht1, hi0, hi1, hvk, hro⟩ : ∃ (a0 a1 : Ann) (v0 v1 : TV) (g o : Nat), vK = some ⟨g, o, none⟩ ∧ g < wr.heap.size ∧ Holds wr (some ⟨g, o, none⟩) (treesV [v0, v1]) ∧ TreeR wr (fun k => w.heap.size ≤ k ∧ k < w2.heap.size) v0 a0 ∧ TreeR wr (fun k => w.heap.size ≤ k ∧ k < w2.heap.size) v1 a1 ∧ isT a0 ∧ isT a1 ∧ vnk = 2 ∧ a.map Prod.fst = (6, 0, 0) :: (a0.map Prod.fst ++ a1.map Prod.fst) := spine_kids hr.tree hr.ist h6
      subst hvk
      have hl0 : a0.length + a1.length < a.length := by
        have := congrArg List.length hro
        simp only [List.length_map, List.length_cons, List.length_append] at this
        omega
      obtain ⟨⟨zo, zA, zB⟩, zK, znk, zck, zP, znp, zcp, zF, znf, zcf⟩ := v0
      obtain ⟨⟨uo, uA, uB⟩, uK, unk, uck, uP, unp, ucp, uF, unf, ucf⟩ := v1
      have HKHX := hKh
      have u0 : wr.cell? ⟨g, o + 6, none⟩ = some (.int .i64 uo) := by simpa using kid_cells (k := 1) HKHX (by simp) 0 _ rfl
      have u1 : wr.cell? ⟨g, o + 7, none⟩ = some (.int .i64 uA) := by simpa using kid_cells (k := 1) HKHX (by simp) 1 _ rfl
      have u2 : wr.cell? ⟨g, o + 8, none⟩ = some (.int .i64 uB) := by simpa using kid_cells (k := 1) HKHX (by simp) 2 _ rfl
      have u3 : wr.cell? ⟨g, o + 9, none⟩ = some (.slice uK unk uck) := by simpa using kid_cells (k := 1) HKHX (by simp) 3 _ rfl
      have u4 : wr.cell? ⟨g, o + 10, none⟩ = some (.slice uP unp ucp) := by simpa using kid_cells (k := 1) HKHX (by simp) 4 _ rfl
      have u5 : wr.cell? ⟨g, o + 11, none⟩ = some (.slice uF unf ucf) := by simpa using kid_cells (k := 1) HKHX (by simp) 5 _ rfl
      clear HKHX
      have HRW := Lib.hid (row_any a1.length ⟨(uo, uA, uB), uK, unk, uck, uP, unp, ucp, uF, unf, ucf⟩ a1 wr _ (Nat.le_refl _) ht1.plain (by omega))
      have HKH := Lib.hid hKh
      have HT0 := Lib.hid ht0
      have HI0 := Lib.hid hi0
      have HI1 := Lib.hid hi1
      have HRO := Lib.hid hro
      clear hr hKh ht0 ht1 hi0 hi1 hro h6 hlt
      go_wp2_with fail
      refine (HRW.out).mono ?_
      rintro e w3 ⟨Ak, nk, ck, rfl, hnk, hok, hb3⟩
      have HR3 := Lib.hid (HR.out.next hb3)
      have HB3 := Lib.hid hb3
      have HNK := Lib.hid hnk
      have HOK := Lib.hid hok
      have HOL := Lib.hid (show World.ownsRow (w3.alloc (.cells #[.slice Ak nk ck] 23)) 0 23 1 (.slice (some ⟨w3.heap.size, 0, none⟩) 1 1) 1 (([(Ak, ck, a1.map Prod.fst)] : List RowT).map rowV) by
        have := World.ownsRow_lit (base := 0) (size := 1) (e := 23) w3 #[.slice Ak nk ck] 1 (Nat.zero_le _) (by decide) rfl
        simpa [rowV, hnk] using this)
      have HBL := Lib.hid (show Below w3.heap.size w3 (w3.alloc (.cells #[.slice Ak nk ck] 23)) from (Below.refl _ _).alloc (Nat.le_refl _) _)
      have HHR := Lib.hid (HR3.out.ho.below HBL.out)
      have HSR := Lib.hid HR3.out.sl
      have HML := Lib.hid HR3.out.len
      clear hb3 hnk hok HRW
      go_wp2_with (at_builtin; go_must (refine wpList_append_tx rfl (.tmp 23) (.tmp 24) _ _ _ rfl Tryd.underlying30 23 _ 1 24 infoRowT rfl (by decide) Tryd.underlying30 (.slice (some ⟨w3.heap.size, 0, none⟩) 1 1) 1 m _ (L.map rowV) rfl HOL.out R c rfl HSR.out HHR.out (by simp [HML.out]) rows_one (by omega) (by decide) ?_; intro v7 w7 hown7 hmv7; obtain ⟨A7, c7, rfl, -, -⟩ := own_slice hown7; have h37 : Below w3.heap.size w3 w7 := HBL.out.trans (hmv7.below (B := w3.heap.size) HBL.out.size fun g hg => Nat.le_of_eq (by simpa [Value.ownBlock] using hg)); have h7 := below_step HB3.out h37; have hw7 := HR.out.whole.below h7 hlt2; have c07 : w7.cell? ⟨w2.heap.size, 0, none⟩ = some (.int .i64 vo) := hw7.cell 0; have f07 : w7.frozen? ⟨w2.heap.size, 0, none⟩ = false := hw7.frozen 0; have c17 : w7.cell? ⟨w2.heap.size, 1, none⟩ = some (.int .i64 vA) := hw7.cell 1; have f17 : w7.frozen? ⟨w2.heap.size, 1, none⟩ = false := hw7.frozen 1; have c27 : w7.cell? ⟨w2.heap.size, 2, none⟩ = some (.int .i64 vB) := hw7.cell 2; have f27 : w7.frozen? ⟨w2.heap.size, 2, none⟩ = false := hw7.frozen 2; have c37 : w7.cell? ⟨w2.heap.size, 3, none⟩ = some (.slice (some ⟨g, o, none⟩) 2 vck) := hw7.cell 3; have f37 : w7.frozen? ⟨w2.heap.size, 3, none⟩ = false := hw7.frozen 3; have c47 : w7.cell? ⟨w2.heap.size, 4, none⟩ = some (.slice vP vnp vcp) := hw7.cell 4; have f47 : w7.frozen? ⟨w2.heap.size, 4, none⟩ = false := hw7.frozen 4; have c57 : w7.cell? ⟨w2.heap.size, 5, none⟩ = some (.slice vF vnf vcf) := hw7.cell 5; have f57 : w7.frozen? ⟨w2.heap.size, 5, none⟩ = false := hw7.frozen 5; have HKHX := HKH.out.below h7; have z0 : w7.cell? ⟨g, o, none⟩ = some (.int .i64 zo) := kid_cells0 HKHX 0 _ rfl; have z1 : w7.cell? ⟨g, o + 1, none⟩ = some (.int .i64 zA) := kid_cells0 HKHX 1 _ rfl; have z2 : w7.cell? ⟨g, o + 2, none⟩ = some (.int .i64 zB) := kid_cells0 HKHX 2 _ rfl; have z3 : w7.cell? ⟨g, o + 3, none⟩ = some (.slice zK znk zck) := kid_cells0 HKHX 3 _ rfl; have z4 : w7.cell? ⟨g, o + 4, none⟩ = some (.slice zP znp zcp) := kid_cells0 HKHX 4 _ rfl; have z5 : w7.cell? ⟨g, o + 5, none⟩ = some (.slice zF znf zcf) := kid_cells0 HKHX 5 _ rfl; clear HKHX; have HO7 := Lib.hid hown7; have HM7 := Lib.hid hmv7; have H7 := Lib.hid h7; have H37 := Lib.hid h37; have HW7 := Lib.hid hw7; clear hown7 hmv7 h7 h37 hw7))
      have hR7 := HR.out.next H7.out
      have hlt7 := hR7.whole.lt
      have hw6 := ((((((HW7.out).set_ 0 (.int .i64 zo)).set_ 1 (.int .i64 zA)).set_ 2 (.int .i64 zB)).set_ 3 (.slice zK znk zck)).set_ 4 (.slice zP znp zcp)).set_ 5 (.slice zF znf zcf)
      have ho6 : Only (fun j => j = w2.heap.size) w7 ((((((w7.setCell ⟨w2.heap.size, 0, none⟩ (.int .i64 zo)).setCell ⟨w2.heap.size, 1, none⟩ (.int .i64 zA)).setCell ⟨w2.heap.size, 2, none⟩ (.int .i64 zB)).setCell ⟨w2.heap.size, 3, none⟩ (.slice zK znk zck)).setCell ⟨w2.heap.size, 4, none⟩ (.slice zP znp zcp)).setCell ⟨w2.heap.size, 5, none⟩ (.slice zF znf zcf)) := ((((((Only.refl (fun j => j = w2.heap.size) w7).set_ (.inl rfl) 0 _).set_ (.inl rfl) 1 _).set_ (.inl rfl) 2 _).set_ (.inl rfl) 3 _).set_ (.inl rfl) 4 _).set_ (.inl rfl) 5 _
      generalize ((((((w7.setCell ⟨w2.heap.size, 0, none⟩ (.int .i64 zo)).setCell ⟨w2.heap.size, 1, none⟩ (.int .i64 zA)).setCell ⟨w2.heap.size, 2, none⟩ (.int .i64 zB)).setCell ⟨w2.heap.size, 3, none⟩ (.slice zK znk zck)).setCell ⟨w2.heap.size, 4, none⟩ (.slice zP znp zcp)).setCell ⟨w2.heap.size, 5, none⟩ (.slice zF znf zcf)) = W6 at *
      have hw6' : Whole W6 w2.heap.size #[.int .i64 zo, .int .i64 zA, .int .i64 zB, .slice zK znk zck, .slice zP znp zcp, .slice zF znf zcf] 59 := hw6
      have hsp := hR7.put (u := ⟨(zo, zA, zB), zK, znk, zck, zP, znp, zcp, zF, znf, zcf⟩) (b := a0) (R' := A7) (m' := 1 + m) (c' := c7) (L' := (Ak, ck, a1.map Prod.fst) :: L) (ho6.below (B := w2.heap.size) (Nat.le_of_lt hlt7) fun k hk e => by omega) hlt7 ho6 hw6' (HT0.out.next H7.out) HI0.out (by rw [List.length_cons, HML.out]; omega) (by
        have h1 := HR.out.row
        rw [HRO.out] at h1
        rw [h1, Nat.add_comm 1 m, List.replicate_succ']
        simp) (fun x hx => by
        rcases List.mem_cons.1 hx with rfl | hx
        · exact ⟨a1, HI1.out, rfl⟩
        · exact HR.out.kids x hx) (by
        obtain ⟨A', c', e, hsl, -⟩ := own_slice HO7.out
        cases e
        exact hsl) (own_holds HO7.out) (fun x hx => by
        rcases List.mem_cons.1 hx with rfl | hx
        · obtain ⟨A', c', e, hsl, -⟩ := own_slice HOK.out
          cases e
          exact ⟨by simpa [HNK.out] using hsl, by simpa using (own_holds HOK.out).below H37.out⟩
        · exact hR7.ok x hx) (fun x hx b o e => by
        rcases List.mem_cons.1 hx with rfl | hx
        · obtain ⟨A', c', e', -, hat⟩ := own_slice HOK.out
          cases e'
          have := hat b o e
          omega
        · exact hR7.ne x hx b o e) (fun b o e => by
        subst e
        have hn7 := HM7.out.next b (by simp [Value.ownBlock])
        have hz3 := HB3.out.size
        simp only [Value.ownBlock, Option.some.injEq, World.size_alloc] at hn7
        omega)
      have HSP := Lib.hid hsp
      clear hsp hw6 hw6' ho6 hR7
      go_roundw
      case rel => exact ⟨⟨(zo, zA, zB), zK, znk, zck, zP, znp, zcp, zF, znf, zcf⟩, a0, A7, 1 + m, c7, (Ak, ck, a1.map Prod.fst) :: L, rfl, by omega, HSP⟩
      case measure => simp <;> omega
    · have e6 : (vo == 6) = false := by simpa using h6
      have HH6 := Lib.hid h6
      clear h6
      have HRW := Lib.hid (row_any a.length ⟨(vo, vA, vB), vK, vnk, vck, vP, vnp, vcp, vF, vnf, vcf⟩ a wr _ (Nat.le_refl _) hr.tree.plain (by omega))
      clear hr
      go_wp2_with fail
      refine (HRW.out).mono ?_
      rintro e w3 ⟨Ak, nk, ck, rfl, hnk, hok, hb3⟩
      have HOK := Lib.hid (show OwnN w3 w.heap.size (.slice Ak nk ck) nk (a.map Prod.fst) from ⟨hok.1, hok.2.imp id (by
        rintro ⟨g', cap, cur, e, h1, h2⟩
        exact ⟨g', cap, cur, e, Nat.le_trans HR.out.bl.size h1, h2⟩)⟩)
      have HR3 := Lib.hid (HR.out.next hb3)
      have HNK := Lib.hid hnk
      clear hok hb3 hnk HRW
      go_wp2_with fail
      go_ret2
      have h3 := HR3.out
      refine ⟨Ak, nk, ck, a.map Prod.fst, R, c, L, by rw [h3.len]; rfl, by rw [List.length_map]; exact HNK.out, HOK.out, by rw [h3.len]; exact h3.sl, h3.ho, h3.ok, fun x hx b o e => ?_, fun b o e => ?_, h3.bl, .inr ⟨HS.out, ⟨by rw [List.length_map, h3.len]; exact h3.row, ⟨a, h3.ist, rfl⟩, fun x hx => ?_, fun x hx => ?_⟩⟩⟩
      · have := h3.ne x hx b o e; have := h3.bw; omega
      · have := h3.nr b o e; have := h3.bw; omega
      · obtain ⟨y, hy, rfl⟩ := List.mem_map.1 hx
        exact h3.kids y hy
      · have ht3 := h3.tree
        cases ht3 with
        | mk v' ks ats fs hs hK hA hF hv sub hR =>
          unfold treeA at hx
          simp only [List.map_cons, List.getElem?_cons_zero, Option.some.injEq] at hx
          subst hx
          exact HH6.out
end Go.Proofs.YtkkkblghihheeaaDoor
namespace Go.Proofs.YtkkkblghihheeaaDoor
open Go.ChangeShapes Go.WideShapes Go.ChangeAt Go.RowKit

variable {H : Type} {enc : TypeId × Value → H}
set_option maxRecDepth 100000 in
theorem open_nodes_cs {W : World} {fuel : Nat} {cs : List Value} {x : DataW H × List MemPlace} (hf : DataW.trod enc Tryd.prog W 0 (fun _ => true) true fuel 23 cs = some x) :
    ∃ A c t, cs = [.slice A t.length c] ∧ Slice A t.length c ∧ Holds W A (nodesV t) ∧ WideT t ∧ (t = [] ∨ ∃ el sp, x.1 = .slice el sp ∧ t.length ≤ el.length + sp.length) := by
  rcases Deep.open_slice Tryd.underlying23 hf with ⟨hcs, hx0⟩ | ⟨a, n, c, m, q, D, Pl, hcs, _, hl, hm, hmm, hx0, hi⟩
  · subst hcs
    exact ⟨none, 0, [], rfl, slice_nil, Holds.nil _ _, fun x hx => (by cases hx), .inl rfl⟩
  · subst hcs
    simp only [if_true] at hmm
    subst hmm
    rw [Tryd.cellsNode] at hi
    have hel : ∀ i, i < n → ∃ x y z : Int, W.cell? (a.add (i * 3)) = some (.int .i64 x) ∧ W.cell? ((a.add (i * 3)).add 1) = some (.int .i64 y) ∧ W.cell? ((a.add (i * 3)).add 2) = some (.int .i64 z) ∧
        (-9223372036854775808 ≤ x ∧ x ≤ 9223372036854775807) ∧ (-9223372036854775808 ≤ y ∧ y ≤ 9223372036854775807) ∧ -9223372036854775808 ≤ z ∧ z ≤ 9223372036854775807 := by
      intro i hin
      obtain ⟨cs', hc, ht⟩ := hi i (by omega)
      obtain ⟨_, hcl, hat⟩ := World.cells?_some hc
      obtain ⟨xs, k, _, _, _, hxl, hfl⟩ := DataW.trod_struct Tryd.underlying53 ht
      match cs', hcl with
      | [u0, u1, u2], _ =>
        match xs, hxl with
        | [y0, y1, y2], _ =>
          have g0 := hfl 0 _ rfl
          have g1 := hfl 1 _ rfl
          have g2 := hfl 2 _ rfl
          simp [Tryd.cellsInt] at g0 g1 g2
          obtain ⟨x, e0, _, w0⟩ := DataW.trod_int Tryd.underlying3 g0
          obtain ⟨y, e1, _, w1⟩ := DataW.trod_int Tryd.underlying3 g1
          obtain ⟨z, e2, _, w2⟩ := DataW.trod_int Tryd.underlying3 g2
          simp at e0 e1 e2
          subst e0 e1 e2
          refine ⟨x, y, z, ?_, hat 1 (by omega), hat 2 (by omega), i64_wf w0, i64_wf w1, i64_wf w2⟩
          have := hat 0 (by omega)
          simpa [Addr.add] using this
    rcases Nat.eq_zero_or_pos n with h0 | h0
    · subst h0
      exact ⟨some a, m, [], rfl, ⟨Nat.zero_le _, hm, fun h => (by cases h)⟩, Holds.nil _ _, fun x hx => (by cases hx), .inl rfl⟩
    · obtain ⟨b, off, spot⟩ := a
      have hspot : spot = none := by
        obtain ⟨x, _, _, hx, _⟩ := hel 0 h0
        simpa [Addr.add] using World.cell?_spot hx
      subst hspot
      have hnode : ∀ i, i < n → ∃ x y z : Int, nodeAt W b off i = (x, y, z) ∧ W.cell? ⟨b, off + i * 3, none⟩ = some (.int .i64 x) ∧ W.cell? ⟨b, off + i * 3 + 1, none⟩ = some (.int .i64 y) ∧ W.cell? ⟨b, off + i * 3 + 2, none⟩ = some (.int .i64 z) ∧
          (-9223372036854775808 ≤ x ∧ x ≤ 9223372036854775807) ∧ (-9223372036854775808 ≤ y ∧ y ≤ 9223372036854775807) ∧ -9223372036854775808 ≤ z ∧ z ≤ 9223372036854775807 := by
        intro i hin
        obtain ⟨x, y, z, c0, c1, c2, hw⟩ := hel i hin
        rw [add_off] at c0
        rw [add_off, add_off] at c1 c2
        refine ⟨x, y, z, ?_, c0, c1, c2, hw⟩
        unfold nodeAt
        simp only [Nat.add_zero, ← Nat.add_assoc]
        rw [c0, c1, c2]
        rfl
      have hlen : ((List.range n).map (nodeAt W b off)).length = n := by simp
      refine ⟨some ⟨b, off, none⟩, m, (List.range n).map (nodeAt W b off), by rw [hlen], ⟨by rw [hlen]; exact hl, hm, fun h => (by cases h)⟩, fun _ => ⟨b, off, rfl, fun j u hu => ?_⟩, fun x hx => ?_, .inr ⟨_, _, congrArg Prod.fst hx0, by rw [hlen, List.length_map, List.length_range]; omega⟩⟩
      · have hj : j < n * 3 := by
          have := (List.getElem?_eq_some_iff.1 hu).1
          rw [nodesV_len, hlen] at this
          exact this
        obtain ⟨i, f, rfl, hf⟩ : ∃ i f, j = i * 3 + f ∧ f < 3 := ⟨j / 3, j % 3, by omega, by omega⟩
        have hin : i < n := by omega
        obtain ⟨x, y, z, hnd, c0, c1, c2, _⟩ := hnode i hin
        rw [nodesV_get (by rw [hlen]; exact hin) hf] at hu
        rw [List.getElem_map, List.getElem_range, hnd] at hu
        rcases (by omega : f = 0 ∨ f = 1 ∨ f = 2) with rfl | rfl | rfl
        · rw [← hu, Nat.add_zero, c0]; rfl
        · rw [← hu, ← Nat.add_assoc, c1]; rfl
        · rw [← hu, ← Nat.add_assoc, c2]; rfl
      · obtain ⟨i, hi, rfl⟩ := List.mem_map.1 hx
        obtain ⟨x, y, z, hnd, _, _, _, hw⟩ := hnode i (List.mem_range.1 hi)
        rw [hnd]
        exact hw
theorem Tryd.cellsTerm : Tryd.prog.cellsOf 23 = 1 := by kernel_rfl
theorem weights_all {P : Program} {e : TypeId} {d : DataW H} {n : Nat} : ∀ {l : List (DataW H)}, d ∈ l → n ∈ DataW.weights P e d → n ∈ DataW.weightsAll P e l
  | [], h, _ => by cases h
  | y :: l, h, hn => by
    unfold DataW.weightsAll
    rcases List.mem_cons.1 h with rfl | h
    · exact List.mem_append_left _ hn
    · exact List.mem_append_right _ (weights_all h hn)
set_option maxRecDepth 100000 in
/-- Rows that come in. -/
theorem open_rows {W : World} {base : Nat} {v : Value} {d : DataW H} {p : List MemPlace} {ts : List TypeId} {ds : List (DataW H)} (hsz : (DataW.weightsEach Tryd.prog ts ds).all (· ≤ reachBytes) = true) {j : Nat} (ht : ts[j]? = some 30) (hd : ds[j]? = some d)
    (hv : Value.okWide Tryd.prog W .any base 30 v) (h : DataW.Trod enc Tryd.prog W 0 (fun _ => true) true 30 v d p) :
    ∃ R c, ∃ l : List RowT, v = .slice R l.length c ∧ Slice R l.length c ∧ Holds W R (l.map rowV) ∧ RowsOk W l ∧ WideR l ∧ ∀ x ∈ l, x.2.2.length ≤ 4611686018427387904 := by
  obtain ⟨A, n, c, rfl⟩ := okWide_slice Tryd.underlying30 hv
  obtain ⟨fuel, hf⟩ := h
  rcases Deep.open_slice Tryd.underlying30 hf with ⟨hcs, _⟩ | ⟨a, len, cap, m, q, D, Pl, hcs, _, hl, hm, hmm, hx0, hi⟩
  · simp [Value.cells] at hcs
    obtain ⟨rfl, rfl, rfl⟩ := hcs
    exact ⟨none, 0, [], rfl, slice_nil, Holds.nil _ _, fun x hx => (by cases hx), fun x hx => (by cases hx), fun x hx => (by cases hx)⟩
  · simp [Value.cells] at hcs
    obtain ⟨rfl, rfl, rfl⟩ := hcs
    simp only [if_true] at hmm
    subst hmm
    rw [Tryd.cellsTerm] at hi
    have hdd : d = .slice ((List.range n).map D) ((List.range (m - n)).map fun j => D (n + j)) := congrArg Prod.fst hx0
    have hel : ∀ i, i < n → ∃ y : RowT, W.cell? (a.add i) = some (rowV y) ∧ Slice y.1 y.2.2.length y.2.1 ∧ Holds W y.1 (nodesV y.2.2) ∧ WideT y.2.2 ∧ y.2.2.length ≤ 4611686018427387904 := by
      intro i hin
      obtain ⟨cs', hc, htr⟩ := hi i (by omega)
      obtain ⟨_, hcl, hat⟩ := World.cells?_some hc
      obtain ⟨Ai, ci, ti, rfl, hsl, hho, hw, hlen⟩ := open_nodes_cs htr
      refine ⟨(Ai, ci, ti), ?_, hsl, hho, hw, ?_⟩
      · have := hat 0 (by omega)
        simpa [Addr.add, rowV] using this
      · rcases hlen with rfl | ⟨el, sp, e, hle⟩
        · exact Nat.zero_le _
        · have hmem : (el.length + sp.length) * Tryd.prog.bytesOf 53 ∈ DataW.weights Tryd.prog 30 d := by
            have h1 : (el.length + sp.length) * Tryd.prog.bytesOf 53 ∈ DataW.weights Tryd.prog 23 (D i) := by
              simp only at e
              rw [e]
              simp [DataW.weights, Tryd.underlying23]
            have h2 := weights_all (l := (List.range n).map D) (List.mem_map.2 ⟨i, List.mem_range.2 hin, rfl⟩) h1
            rw [hdd]
            simp only [DataW.weights, Tryd.underlying30]
            exact List.mem_cons_of_mem _ (List.mem_append_left _ h2)
          have hal := List.all_eq_true.1 hsz _ (DataW.weights_mem_each ht hd _ hmem)
          have hb : (el.length + sp.length) * Tryd.prog.bytesOf 53 ≤ reachBytes := by simpa using hal
          rw [Tryd.bytesNode] at hb
          simp only [reachBytes] at hb
          simp only
          omega
    obtain ⟨y, hy⟩ := Deep.choose_lt hel
    have hlen : ((List.range n).map y).length = n := by simp
    rcases Nat.eq_zero_or_pos n with h0 | h0
    · subst h0
      exact ⟨some a, m, [], rfl, ⟨Nat.zero_le _, hm, fun h => (by cases h)⟩, Holds.nil _ _, fun x hx => (by cases hx), fun x hx => (by cases hx), fun x hx => (by cases hx)⟩
    · obtain ⟨b, off, spot⟩ := a
      have hspot : spot = none := by
        have := World.cell?_spot (hy 0 h0).1
        simpa [Addr.add] using this
      subst hspot
      refine ⟨some ⟨b, off, none⟩, m, (List.range n).map y, by rw [hlen], ⟨by rw [hlen]; exact hl, hm, fun h => (by cases h)⟩, fun _ => ⟨b, off, rfl, fun k u hu => ?_⟩, fun x hx => ?_, fun x hx => ?_, fun x hx => ?_⟩
      · have hk : k < n := by
          have := (List.getElem?_eq_some_iff.1 hu).1
          simpa using this
        rw [List.getElem?_map, List.getElem?_map, List.getElem?_range hk] at hu
        simp only [Option.map_some, Option.some.injEq] at hu
        rw [← hu, ← (hy k hk).1, add_off]
      all_goals
        obtain ⟨i, hi', rfl⟩ := List.mem_map.1 hx
        have hyi := hy i (List.mem_range.1 hi')
      · exact ⟨hyi.2.1, hyi.2.2.1⟩
      · exact hyi.2.2.2.1
      · exact hyi.2.2.2.2
end Go.Proofs.YtkkkblghihheeaaDoor
namespace Go.Proofs.YtkkkblghihheeaaDoor
open Go.RowKit

theorem lens_flat (l : List RowT) : (flatR l).length = lens l := by
  unfold flatR lens
  rw [List.length_flatten, List.map_map]
  rfl
theorem flat_mem {l : List (List Node3)} {x : List Node3} (h : x ∈ l) : x.length ≤ l.flatten.length := by
  induction l with
  | nil => cases h
  | cons y l ih =>
    rw [List.flatten_cons, List.length_append]
    rcases List.mem_cons.1 h with rfl | h
    · omega
    · have := ih h; omega
theorem SpineOk.lens {t f : List Node3} {args : List (List Node3)} (h : SpineOk t f args) : f.length ≤ t.length ∧ args.length ≤ t.length ∧ ∀ x ∈ args, x.length ≤ t.length := by
  have h1 := congrArg List.length h.row
  rw [List.length_append, List.length_append, List.length_replicate] at h1
  exact ⟨by omega, by omega, fun x hx => by have := flat_mem hx; omega⟩
theorem bigS_len (r : List Node3) : (bigS r).1.length ≤ 4096 := by
  unfold bigS
  split
  · simp
  · simp only; omega
theorem apply_len (t : List Node3) (ls : List (List Node3)) : (applyS t ls).1.length ≤ 4096 := by
  unfold applyS
  split
  · simp
  · exact bigS_len _
theorem bind_len (op : Int) (ls : List (List Node3)) (t : List Node3) : (bindS op ls t).1.length ≤ 4096 := by
  unfold bindS
  split
  · simp
  split
  · simp
  split
  · simp
  · exact bigS_len _
/-- Both spines are the same. -/
theorem spine_both {t f g : List Node3} {l r : List RowT} (h : (shapeOf t ≠ 0 ∧ f = [] ∧ l = []) ∨ (shapeOf t = 0 ∧ SpineOk t f (l.map fun x => x.2.2))) (k : (shapeOf t ≠ 0 ∧ g = [] ∧ r = []) ∨ (shapeOf t = 0 ∧ SpineOk t g (r.map fun x => x.2.2))) :
    f = g ∧ l.map (fun x => x.2.2) = r.map (fun x => x.2.2) ∧ f.length ≤ t.length ∧ l.length ≤ t.length ∧ ∀ x ∈ l, x.2.2.length ≤ t.length := by
  rcases h with ⟨h0, rfl, rfl⟩ | ⟨h0, h⟩
  · rcases k with ⟨-, rfl, rfl⟩ | ⟨k0, -⟩
    · exact ⟨rfl, rfl, Nat.zero_le _, Nat.zero_le _, fun x hx => (by cases hx)⟩
    · exact absurd k0 h0
  · rcases k with ⟨k0, -⟩ | ⟨-, k⟩
    · exact absurd h0 k0
    · obtain ⟨h1, h2⟩ := h.same k
      have h3 := h.lens
      rw [List.length_map] at h3
      exact ⟨h1, h2, h3.1, h3.2.1, fun x hx => h3.2.2 _ (List.mem_map.2 ⟨x, hx, rfl⟩)⟩
set_option maxRecDepth 100000 in
set_option maxHeartbeats 8000000 in
theorem tspines_any (op : Int) (A R : Option Addr) (n c m cr : Nat) (t : List Node3) (l : List RowT) (w : World) (hn : t.length = n) (hs : Slice A n c) (hA : Holds w A (nodesV t)) (hw : ∀ x ∈ t, Wide3 x) (hm : l.length = m) (hsr : Slice R m cr) (hR : Holds w R (l.map rowV)) (hok : RowsOk w l) (hwr : WideR l) (hlb : ∀ x ∈ l, x.2.2.length ≤ 4611686018427387904) (hL : Lim w) (hnb : n ≤ 4611686018427387904) :
    Calls Tryd.prog 6 #[.int .i64 op, .slice A n c, .slice R m cr] w fun e w' => e = .returned (.bool true) ∧ Below w.heap.size w w' := by
  have HR1 := Lib.hid (show ∀ w', Below w.heap.size w w' → RowIn w' A n c t from fun w' hb => ⟨hn, hs, hA.below hb⟩)
  have HRR := Lib.hid (show ∀ w', Below w.heap.size w w' → Holds w' R (l.map rowV) from fun w' hb => hR.below hb)
  have HOK := Lib.hid (show ∀ w', Below w.heap.size w w' → RowsOk w' l from fun w' hb => hok.below hb)
  have HL := Lib.hid (show ∀ w', Below w.heap.size w w' → Lim w' from fun w' hb => hL.next hb)
  have HAW := Lib.hid (awake_any w hL)
  have HN := Lib.hid hn
  have HM := Lib.hid hm
  have HW := Lib.hid hw
  have HWR := Lib.hid hwr
  have HSR := Lib.hid hsr
  have HLB := Lib.hid (show ∀ x ∈ ((A, c, t) : RowT) :: l, x.2.2.length ≤ 4611686018427387904 from fun x hx => by
    rcases List.mem_cons.1 hx with rfl | hx
    · simp only; omega
    · exact hlb x hx)
  clear hA hR hok hL hn hs hw hm hsr hwr hlb hnb
  by_cases hbig : 100 < m
  · have hbi : (100 : Int) < (m : Int) := by omega
    go_enter Tryd.func6, Tryd.ntmps6
    go_wp2_with fail
    refine (HAW.out).mono ?_
    rintro e w1 ⟨rfl, hb1⟩
    go_wp2_with fail
    go_ret
    exact ⟨rfl, hb1⟩
  have hbi : decide ((100 : Int) < (m : Int)) = false := by rw [decide_eq_false_iff_not]; omega
  go_enter Tryd.func6, Tryd.ntmps6
  go_wp2_with fail
  refine (HAW.out).mono ?_
  rintro e w1 ⟨rfl, hb1⟩
  have HB1 := Lib.hid hb1
  have HB1' := Lib.hid (below_alloc hb1 (.cells #[.slice A n c] 23))
  have HOL := Lib.hid (show World.ownsRow (w1.alloc (.cells #[.slice A n c] 23)) 0 23 1 (.slice (some ⟨w1.heap.size, 0, none⟩) 1 1) 1 (([(A, c, t)] : List RowT).map rowV) by
    have := World.ownsRow_lit (base := 0) (size := 1) (e := 23) w1 #[.slice A n c] 1 (Nat.zero_le _) (by decide) rfl
    simpa [rowV, HN.out] using this)
  have HRL := Lib.hid (HRR.out _ HB1'.out)
  clear hb1
  go_wp2_with (first | (at_builtin; go_must (refine wpList_append_gd (by rfl) (.tmp 26) (.tmp 27) _ _ _ rfl Tryd.underlying30 23 _ 1 24 infoRowT rfl (by decide) Tryd.underlying30 (.slice (some ⟨w1.heap.size, 0, none⟩) 1 1) 1 m _ (l.map rowV) rfl HOL.out R cr rfl HSR.out HRL.out (by simp [HM.out]) rows_one (by omega) (by decide) ?_; intro v2 w2 hown2 hmv2; obtain ⟨A2, c2, rfl, -, -⟩ := own_slice hown2; have HO2 := Lib.hid hown2; have HM2 := Lib.hid hmv2; clear hown2 hmv2)))
  have hm7 := (show Below w1.heap.size w1 w2 from ((Below.refl _ _).alloc (Nat.le_refl _) (.cells #[.slice A n c] 23)).trans (HM2.out.below (B := w1.heap.size) (by simp) fun g hg => Nat.le_of_eq (by simpa [Value.ownBlock] using hg)))
  have HB2 := Lib.hid (below_step HB1.out hm7)
  have HLO := Lib.hid (long_any A2 (1 + m) c2 ((A, c, t) :: l) w2 (by rw [List.length_cons, HM.out]; omega) (by omega) (own_holds HO2.out) HLB.out)
  clear hm7
  go_wp2_with fail
  refine (HLO.out).mono ?_
  rintro e w3 ⟨rfl, (rfl | ⟨hlen, rfl⟩)⟩
  · go_wp2_with fail
    go_ret
    exact ⟨rfl, HB2.out⟩
  have hfl : (flatR l).length ≤ 9000 := by rw [lens_flat]; unfold lens at hlen ⊢; simp only [List.map_cons, List.sum_cons] at hlen; omega
  have hnl : n ≤ 9000 := by
    have := lens_le (l := (A, c, t) :: l) (A, c, t) (by simp)
    simp only at this
    rw [HN.out] at this
    omega
  clear hlen HLO HLB
  go_wp2_with fail
  refine (tspine_any A n c t _ HN.out (HR1.out _ HB2.out).sl (HR1.out _ HB2.out).ho (HL.out _ HB2.out)).mono ?_
  rintro e w4 ⟨A4, n4, c4, f, R4, cr4, l4, rfl, hn4, ho4, hs4, hh4, hk4, -, -, hb4, hsp4⟩
  obtain ⟨m4, hm4⟩ : ∃ m4, l4.length = m4 := ⟨_, rfl⟩
  rw [hm4] at hs4
  rw [hm4]
  obtain ⟨A4', c4', e4, hsl4, -⟩ := own_slice ho4
  cases e4
  have HB4 := Lib.hid (below_step HB2.out hb4)
  have HF4 := Lib.hid (show RowIn w4 A4 n4 c4 f from ⟨hn4, hsl4, own_holds ho4⟩)
  have HH4 := Lib.hid hh4
  have HK4 := Lib.hid hk4
  have HM4 := Lib.hid hm4
  have HSP4 := Lib.hid hsp4
  clear hn4 ho4 hs4 hh4 hk4 hb4 hsp4 hsl4 hm4
  go_wp2_with fail
  refine (rspine_any A n c t _ HN.out (HR1.out _ HB4.out).sl (HR1.out _ HB4.out).ho HW.out).mono ?_
  rintro e w5 ⟨A5, n5, c5, g, R5, cr5, l5, rfl, hn5, ho5, hs5, hh5, hk5, -, -, hb5, hsp5⟩
  have hbo := spine_both HSP4.out hsp5
  rw [show l5.length = m4 by have := congrArg List.length hbo.2.1; rw [List.length_map, List.length_map] at this; rw [← this]; exact HM4.out] at hs5 ⊢
  have HM5 : Hid (l5.length = m4) := Lib.hid (by have := congrArg List.length hbo.2.1; rw [List.length_map, List.length_map] at this; rw [← this]; exact HM4.out)
  obtain ⟨A5', c5', e5, hsl5, -⟩ := own_slice ho5
  cases e5
  have HB5 := Lib.hid (below_step HB4.out hb5)
  have HF5 := Lib.hid (show RowIn w5 A5 n5 c5 g from ⟨hn5, hsl5, own_holds ho5⟩)
  have HH5 := Lib.hid hh5
  have HK5 := Lib.hid hk5
  have HBO := Lib.hid hbo
  have HX5 := Lib.hid (show ∀ W, Below w5.heap.size w5 W → RowIn W A4 n4 c4 f ∧ RowIn W A5 n5 c5 g ∧ Holds W R4 (l4.map rowV) ∧ Holds W R5 (l5.map rowV) ∧ RowsOk W l4 ∧ RowsOk W l5 from fun W hb => ⟨(HF4.out.below hb5).below hb, HF5.out.below hb, (HH4.out.below hb5).below hb, HH5.out.below hb, (HK4.out.below hb5).below hb, HK5.out.below hb⟩)
  clear hn5 ho5 hs5 hh5 hk5 hb5 hsp5 hsl5 hbo
  go_wp2_with fail
  refine ((tapply_any A n c t R m cr l _ HN.out (HR1.out _ HB5.out).sl (HR1.out _ HB5.out).ho HM.out (by omega) (HRR.out _ HB5.out) (HOK.out _ HB5.out) (HL.out _ HB5.out) (by omega) (by omega)).mono fun _ _ h => h.in_).mono ?_
  rintro e w6 ⟨A6, n6, c6, rfl, hr6, hb6⟩
  have HB6 := Lib.hid (below_step HB5.out hb6)
  have HZ6 := Lib.hid hb6
  have HR6 := Lib.hid hr6
  clear hr6 hb6
  go_wp2_with fail
  refine ((rapply_any A n c t R m cr l _ HN.out (HR1.out _ HB6.out).sl (HR1.out _ HB6.out).ho HW.out HM.out (by omega) (HRR.out _ HB6.out) (HOK.out _ HB6.out) HWR.out (by omega) (by omega)).mono fun _ _ h => h.in_).mono ?_
  rintro e w7 ⟨A7, n7, c7, rfl, hr7, hb7⟩
  have HB7 := Lib.hid (below_step HB6.out hb7)
  have HZ7 := Lib.hid hb7
  have HR7 := Lib.hid hr7
  clear hr7 hb7
  go_wp2_with fail
  refine ((tbind_any op A n c t R m cr l _ HN.out (HR1.out _ HB7.out).sl (HR1.out _ HB7.out).ho HM.out (by omega) (HRR.out _ HB7.out) (HOK.out _ HB7.out) (HL.out _ HB7.out) (by omega) (by omega)).mono fun _ _ h => h.in_).mono ?_
  rintro e w8 ⟨A8, n8, c8, rfl, hr8, hb8⟩
  have HB8 := Lib.hid (below_step HB7.out hb8)
  have HZ8 := Lib.hid hb8
  have HR8 := Lib.hid hr8
  clear hr8 hb8
  go_wp2_with fail
  refine ((rbind_any op A n c t R m cr l _ HN.out (HR1.out _ HB8.out).sl (HR1.out _ HB8.out).ho HW.out HM.out (by omega) (HRR.out _ HB8.out) (HOK.out _ HB8.out) HWR.out (by omega) (by omega)).mono fun _ _ h => h.in_).mono ?_
  rintro e w9 ⟨A9, n9, c9, rfl, hr9, hb9⟩
  have HB9 := Lib.hid (below_step HB8.out hb9)
  have HZ9 := Lib.hid hb9
  have HR9 := Lib.hid hr9
  clear hr9 hb9
  obtain ⟨X41, X51, X42, X52, X43, X53⟩ := HX5.out _ (below_step (below_step (below_step HZ6.out HZ7.out) HZ8.out) HZ9.out)
  have HS1 := Lib.hid (same_in X41 X51 (by have := HBO.out.2.2.1; have := X41.len; have := HN.out; omega) true (by simp [HBO.out.1]))
  have HQ := Lib.hid (fun W (hb : Below w9.heap.size w9 W) => samerows_any R4 R5 m4 cr4 cr5 l4 l5 W HM4.out HM5.out (X42.below hb) (X52.below hb) (X43.below hb) (X53.below hb) (fun x hx => by have := HBO.out.2.2.2.2 x hx; have := HN.out; omega) HBO.out.2.1 (by have := HBO.out.2.2.2.1; have := HM4.out; have := HN.out; omega))
  have HLA := Lib.hid (apply_len t (l.map fun x => x.2.2))
  have HLB := Lib.hid (bind_len op (l.map fun x => x.2.2) t)
  have HRA := Lib.hid (fun W (hb : Below w9.heap.size w9 W) => same_in (((HR6.out.below HZ7.out).below HZ8.out).below HZ9.out |>.below hb) ((HR7.out.below HZ8.out).below HZ9.out |>.below hb) (by have := HR6.out.len; have := HLA.out; omega) true (by simp))
  have HRB := Lib.hid (fun W (hb : Below w9.heap.size w9 W) => same_in ((HR8.out.below HZ9.out).below hb) (HR9.out.below hb) (by have := HR8.out.len; have := HLB.out; omega) true (by simp))
  clear X41 X51 X42 X52 X43 X53
  generalize (applyS t (l.map fun x => x.2.2)).2 = ea at *
  generalize (bindS op (l.map fun x => x.2.2) t).2 = eb at *
  go_wp2_with fail
  refine (HS1.out).mono ?_
  rintro e w10 ⟨rfl, hb10⟩
  have HB10 := Lib.hid hb10
  clear hb10
  go_wp2_with fail
  refine (HQ.out _ HB10.out).mono ?_
  rintro e w11 ⟨rfl, hb11⟩
  have HB11 := Lib.hid (below_step HB10.out hb11)
  clear hb11
  go_wp2_with fail
  refine (HRA.out _ HB11.out).mono ?_
  rintro e w12 ⟨rfl, hb12⟩
  have HB12 := Lib.hid (below_step HB11.out hb12)
  clear hb12
  go_wp2_with fail
  refine (HRB.out _ HB12.out).mono ?_
  rintro e w13 ⟨rfl, hb13⟩
  have HB13 := Lib.hid (below_step HB12.out hb13)
  clear hb13
  go_wp2_with fail
  go_ret
  exact ⟨rfl, below_step HB9.out HB13.out⟩
end Go.Proofs.YtkkkblghihheeaaDoor
namespace Go.Proofs.YtkkkblghihheeaaDoor
open Go.ChangeShapes Go.WideShapes Go.ChangeAt Go.RowKit

set_option maxRecDepth 100000 in
theorem termSpines_lifted (os : Os) (started : os.Started) (H : Type) (enc : TypeId × Value → H) :
    ReturnsInHanded {} Tryd.checked os 6 .any (fun w args => (Rows.termSpinesSpec.pre enc Tryd.prog Tryd.f6 [] false w args ∧ laidMetH Tryd.prog laidV w) ∧ sizedMet enc Tryd.prog Tryd.f6 (OpenSpec.ofChange Rows.termSpinesSpec) false w args)
      (Rows.termSpinesSpec.post enc Tryd.prog Tryd.f6 false true false false) := by
  refine returnsInHanded_of_change_and (C := Tryd.checked) (X := fun w _ => laidMetH Tryd.prog laidV w) (fun _ _ _ hh h => h.of_heap hh) Tryd.own started (by kernel_rfl) Tryd.func6
    (ChangeSpec.witness_shaped (enc := enc) (C := Tryd.checked) (os := os) (X := fun w _ => laidMetH Tryd.prog laidV w) false (World.doorLaid Tryd.prog 400 os) #[.int .i64 0, .slice none 0 0, .slice none 0 0] 8 rfl (World.shaped_of_RefB (by kernel_rfl) (by kernel_rfl)) (by kernel_rfl) (by kernel_rfl) (by kernel_rfl) (door_met os _)) ?_
  intro W base args ds gs before hval0 hW _ hsz0 hL _
  have hval : ∀ (j : Nat) t v, Tryd.f6.params[j]? = some t → args[j]? = some v → Value.okWide Tryd.prog W .any base t v := hval0
  have hsz : (DataW.weightsEach Tryd.prog (Tryd.f6.params.toList ++ Rows.termSpinesSpec.plain.varTypes Tryd.prog) (ds ++ gs)).all (· ≤ reachBytes) = true := hsz0
  have hW' := hW
  obtain ⟨p, q, hA0, hV, rfl, hfz, hnd⟩ := hW
  have hA : DataW.TrodAll enc Tryd.prog W 0 (fun _ => true) true Tryd.f6.params.toList args.toList ds p := hA0
  have hlt : ∀ x ∈ p, x.block < W.heap.size := fun x hx => by simpa using hW'.lt x (List.mem_append_left _ hx)
  have hkeep : ∀ W', Below W.heap.size W W' → DataW.TrodAll enc Tryd.prog W' 0 (fun b => decide (b < W.heap.size)) true Tryd.f6.params.toList args.toList ds p :=
    fun W' hb => trodAll_below Tryd.laidOut hb (by kernel_rfl) hA hlt
  rw [Tryd.params6] at hA hval hsz
  obtain ⟨v0, v1, v2, d0, d1, d2, p0, p1, p2, rfl, rfl, rfl, g0, g1, g2⟩ := trodAll_three hA
  obtain ⟨rfl, rfl⟩ := trodVars_none hV
  obtain ⟨x0, rfl, y0⟩ := open_i64 (hval 0 3 v0 rfl rfl) g0
  obtain ⟨A1, c1, l1, rfl, s1, h1, wd1⟩ := open_nodes (hval 1 23 v1 rfl rfl) g1
  have b1 := node_weight hsz (j := 1) rfl rfl g1 s1
  obtain ⟨A2, c2, l2, rfl, s2, h2, k2, wr2, lb2⟩ := open_rows hsz (j := 2) rfl rfl (hval 2 30 v2 rfl rfl) g2
  have hLim := lim_of_laid hL
  clear hA0 hval0 hL hsz0 hsz
  refine (tspines_any x0 A1 A2 _ c1 _ c2 l1 l2 W rfl s1 h1 wd1 rfl s2 h2 k2 wr2 lb2 hLim b1).mono fun e W' ⟨he, hb⟩ => ?_
  subst he
  exact ⟨_, rfl, _, _, _, [], _, [], hW', trodAll_mk1 (shut_bool Tryd.underlying4 true), hkeep W' hb, rfl, hb.frame _, fun h => by cases h⟩
/-- TermSpines: whatever the input, it answers true, and the input reads as it did. -/
theorem termSpines_row : Rows.TermSpinesSaid :=
  OpenClaim.holds_of_wide 6 Tryd.f6 rfl rfl rfl rfl rfl rfl rfl ⟨rfl, rfl, rfl, rfl, rfl⟩ rfl rfl rfl rfl rfl (by kernel_rfl) Tryd.func6 (by kernel_rfl)
    (of_decide_eq_true (by kernel_rfl)) (by unfold Func.isWrapper; first | (rw [if_pos (by decide +kernel)]; kernel_rfl) | (rw [if_neg (by decide +kernel)]; exact ⟨rfl, rfl⟩))
    (fun os started H enc _ => termSpines_lifted os started H enc)
/-- The card: the variable limits is tied to the program's text. -/
theorem termSpines_holds : Rows.TermSpinesCardSaid :=
  Claim7.holds_tied_plain_at .later [] [.data] true _ true termSpines_row (fun _ h => by cases h) (by kernel_rfl) (fun _ h => by cases h) termSpines_row_tie rfl ⟨rfl, rfl⟩ (by kernel_rfl) rfl
    (fun f fn hf hfn => by
      obtain rfl : f = 6 := Option.some.inj ((show Tryd.prog.funcNamed "retort/retortlaw04.TermSpines" = some 6 by kernel_rfl).symm.trans hf) |>.symm
      obtain rfl : fn = Tryd.f6 := (Option.some.inj (Tryd.func6.symm.trans hfn)).symm
      exact ⟨by kernel_rfl, fun j t ht => by
        rw [Tryd.params6] at ht
        have hm : t ∈ [3, 23, 30] := by simpa using Array.mem_of_getElem? ht
        have hall : ([3, 23, 30].all fun u => !Tryd.prog.wantsStandIn u) = true := by kernel_rfl
        exact (show Tryd.prog.wantsStandIn t = false by simpa using List.all_eq_true.1 hall t hm)⟩)
    (by kernel_rfl)
end Go.Proofs.YtkkkblghihheeaaDoor
