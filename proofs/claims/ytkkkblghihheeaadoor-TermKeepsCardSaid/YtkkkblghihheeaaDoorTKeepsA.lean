/- term.Kids, term.Binders. -/
import Derived.Test.YtkkkblghihheeaaDoorTReadP
import Derived.Test.YtkkkblghihheeaaDoorTSubstW
import Derived.Laws.MakeOwn
import Derived.Test.YtkkkblghihheeaaDoorTReadQ
import Derived.Test.YtkkkblghihheeaaDoorTRead3
import Derived.RangeFuncNested
import Derived.RangeFuncBox
import Derived.RangeFuncLeaves
import Derived.Shelf.Abstract
import Derived.WalkKit
import Derived.OwnWalkIn
import Derived.TacticsInMore
import Derived.LoopNIn
import Derived.LoopIn
import Derived.Test.YtkkkblghihheeaaDoorTFollow
import Derived.RangeFuncWrites
import Derived.RangeFuncCalls
import Derived.Test.YtkkkblghihheeaaDoorTRegion
import Derived.RangeFuncBound
import Derived.Shelf.RegionOpen
namespace Go.Proofs.YtkkkblghihheeaaDoor
open Go.RowKit

/-- A row that is one term. -/
def RowT1 (x : List Node3) : Prop := ∃ a, isT a ∧ a.map Prod.fst = x
theorem RowT1.top {x : List Node3} (h : RowT1 x) (s : List Node3) : ∃ a, top0 (x ++ s) = some (a, s) ∧ a.map Prod.fst = x := by
  obtain ⟨a, h1, rfl⟩ := h
  exact ⟨a, h1.more s, rfl⟩
theorem RowT1.same {x y s r : List Node3} (hx : RowT1 x) (hy : RowT1 y) (h : x ++ s = y ++ r) : x = y ∧ s = r := by
  obtain ⟨a, h1, ha⟩ := hx.top s
  obtain ⟨b, h2, hb⟩ := hy.top r
  rw [h, h2] at h1
  cases h1
  exact ⟨ha.symm.trans hb, rfl⟩
theorem RowT1.pos {x : List Node3} (h : RowT1 x) : 0 < x.length := by
  obtain ⟨a, h1, rfl⟩ := h
  have := (top0_row h1).2
  rw [List.length_map]
  omega
/-- The row's spine. -/
structure SpineOk (t f : List Node3) (args : List (List Node3)) : Prop where
  row : t = List.replicate args.length (6, 0, 0) ++ (f ++ args.flatten)
  fn : RowT1 f
  kids : ∀ x ∈ args, RowT1 x
  head : ∀ n, f[0]? = some n → n.1 ≠ 6
theorem flat_same : ∀ {l m : List (List Node3)}, (∀ x ∈ l, RowT1 x) → (∀ x ∈ m, RowT1 x) → l.flatten = m.flatten → l = m
  | [], [], _, _, _ => rfl
  | [], y :: m, _, hm, h => by
    have := (hm y (by simp)).pos
    have h2 := congrArg List.length h
    simp only [List.flatten_nil, List.length_nil, List.flatten_cons, List.length_append] at h2
    omega
  | x :: l, [], hl, _, h => by
    have := (hl x (by simp)).pos
    have h2 := congrArg List.length h
    simp only [List.flatten_nil, List.length_nil, List.flatten_cons, List.length_append] at h2
    omega
  | x :: l, y :: m, hl, hm, h => by
    rw [List.flatten_cons, List.flatten_cons] at h
    obtain ⟨rfl, h2⟩ := (hl x (by simp)).same (hm y (by simp)) h
    rw [flat_same (fun z hz => hl z (by simp [hz])) (fun z hz => hm z (by simp [hz])) h2]
theorem lead_same : ∀ {k j : Nat} {r s : List Node3}, List.replicate k ((6, 0, 0) : Node3) ++ r = List.replicate j (6, 0, 0) ++ s → (∀ n, r[0]? = some n → n.1 ≠ 6) → (∀ n, s[0]? = some n → n.1 ≠ 6) → k = j ∧ r = s
  | 0, 0, _, _, h, _, _ => ⟨rfl, by simpa using h⟩
  | 0, j + 1, r, s, h, hr, _ => by
    rw [List.replicate_succ] at h
    simp only [List.replicate_zero, List.nil_append, List.cons_append] at h
    subst h
    exact absurd rfl (hr (6, 0, 0) rfl)
  | k + 1, 0, r, s, h, _, hs => by
    rw [List.replicate_succ] at h
    simp only [List.replicate_zero, List.nil_append, List.cons_append] at h
    subst h
    exact absurd rfl (hs (6, 0, 0) rfl)
  | k + 1, j + 1, r, s, h, hr, hs => by
    rw [List.replicate_succ, List.replicate_succ, List.cons_append, List.cons_append, List.cons.injEq] at h
    obtain ⟨h1, h2⟩ := lead_same h.2 hr hs
    exact ⟨by rw [h1], h2⟩
theorem SpineOk.headr {t f : List Node3} {args : List (List Node3)} (h : SpineOk t f args) : ∀ n, (f ++ args.flatten)[0]? = some n → n.1 ≠ 6 := fun n hn => by
  rw [List.getElem?_append_left h.fn.pos] at hn
  exact h.head n hn
theorem SpineOk.same {t f g : List Node3} {l m : List (List Node3)} (h : SpineOk t f l) (k : SpineOk t g m) : f = g ∧ l = m := by
  obtain ⟨-, h2⟩ := lead_same (h.row.symm.trans k.row) h.headr k.headr
  obtain ⟨h3, h4⟩ := h.fn.same k.fn h2
  exact ⟨h3, flat_same h.kids k.kids h4⟩
theorem top_head {n : Node3} {r : List Node3} {x : Ann × List Node3} (h : top0 (n :: r) = some x) : topB n = true := by
  cases hb : topB n with
  | true => rfl
  | false => rw [cont_topno rfl hb] at h; cases h
theorem top_app {n : Node3} {r : List Node3} {a : Ann} {s : List Node3} (h : top0 (n :: r) = some (a, s)) (h6 : n.1 = 6) : n = (6, 0, 0) ∧ ∃ x y, isT x ∧ isT y ∧ r = x.map Prod.fst ++ (y.map Prod.fst ++ s) := by
  have hb := top_head h
  have hn : n = (6, 0, 0) := by
    unfold topB at hb
    simp only [Bool.and_eq_true, decide_eq_true_eq] at hb
    have hh := hb.1.1
    obtain ⟨o, A, B⟩ := n
    unfold holdsN at hh
    simp only at hh h6
    have : A = 0 ∧ B = 0 := by omega
    rw [h6, this.1, this.2]
  refine ⟨hn, ?_⟩
  rw [topB_beg n (0, 0, 0)] at hb
  unfold top0 at h
  have hf : follow n 0 = [⟨0, 0⟩, ⟨0, 0⟩] := by
    unfold follow
    rw [if_neg (by omega), if_neg (by omega), if_pos h6]
  rw [V_yes hb, hf] at h
  show ∃ x y, _
  have e : ([⟨0, 0⟩, ⟨0, 0⟩] ++ [] : List Part) = ⟨0, 0⟩ :: [⟨0, 0⟩] := rfl
  rw [e, V_kid (by intro p hp; simp only [List.mem_cons, List.not_mem_nil, or_false] at hp; subst hp; show (0 : Int) ≠ 3; decide)] at h
  cases h1 : top0 r with
  | none => rw [h1] at h; cases h
  | some x =>
    obtain ⟨x, s1⟩ := x
    rw [h1] at h
    simp only [Option.bind_some] at h
    have e2 : V s1 n [⟨0, 0⟩] = top0 s1 := V_ahead n (0, 0, 0) (by intro p hp; simp only [List.mem_cons, List.not_mem_nil, or_false] at hp; subst hp; show (0 : Int) ≠ 3; decide)
    rw [e2] at h
    cases h2 : top0 s1 with
    | none => rw [h2] at h; cases h
    | some y =>
      obtain ⟨y, s2⟩ := y
      rw [h2] at h
      simp only [Option.map_some, Option.some.injEq, Prod.mk.injEq] at h
      obtain ⟨-, rfl⟩ := h
      refine ⟨x, y, isT_of h1, isT_of h2, ?_⟩
      rw [(top0_row h1).1, (top0_row h2).1]
/-- An application's parts. -/
theorem app_parts {x : List Node3} (h : RowT1 x) {n : Node3} (hn : x[0]? = some n) (h6 : n.1 = 6) : ∃ u v, RowT1 u ∧ RowT1 v ∧ x = (6, 0, 0) :: (u ++ v) := by
  obtain ⟨a, h1, rfl⟩ := h
  cases e : a.map Prod.fst with
  | nil => rw [e] at hn; cases hn
  | cons m r =>
    rw [e] at hn
    obtain rfl : m = n := by simpa using hn
    unfold isT at h1
    rw [e] at h1
    obtain ⟨rfl, u, v, hu, hv, hr⟩ := top_app h1 h6
    refine ⟨_, _, ⟨u, hu, rfl⟩, ⟨v, hv, rfl⟩, ?_⟩
    rw [hr, List.append_nil]
theorem spine_step {t u v : List Node3} {f : List Node3} {args : List (List Node3)} (ht : t = (6, 0, 0) :: (u ++ v)) (hv : RowT1 v) (h : SpineOk u f args) : SpineOk t f (args ++ [v]) := by
  refine ⟨?_, h.fn, fun x hx => ?_, h.head⟩
  · rw [ht]
    conv => lhs; rw [h.row]
    simp [List.replicate_succ]
  · rcases List.mem_append.1 hx with hx | hx
    · exact h.kids x hx
    · rw [List.mem_singleton] at hx; subst hx; exact hv
theorem spine_of : ∀ (N : Nat) (t : List Node3), t.length ≤ N → RowT1 t → ∃ f args, SpineOk t f args
  | 0, t, hN, h => by have := h.pos; omega
  | N + 1, t, hN, h => by
    by_cases h6 : ∃ n, t[0]? = some n ∧ n.1 = 6
    · obtain ⟨n, hn, h6⟩ := h6
      obtain ⟨u, v, hu, hv, e⟩ := app_parts h hn h6
      have hl : u.length ≤ N := by
        have := congrArg List.length e
        simp only [List.length_cons, List.length_append] at this
        omega
      obtain ⟨f, args, hs⟩ := spine_of N u hl hu
      exact ⟨f, args ++ [v], spine_step e hv hs⟩
    · refine ⟨t, [], ⟨by simp, h, fun x hx => (by cases hx), fun n hn hc => h6 ⟨n, hn, hc⟩⟩⟩
end Go.Proofs.YtkkkblghihheeaaDoor
namespace Go.Proofs.YtkkkblghihheeaaDoor
open Go.RowKit

theorem piece_nodes {w : World} {g o j : Nat} {t x s : List Node3} (h : Holds w (some ⟨g, o, none⟩) (nodesV t)) (hx : t.drop j = x ++ s) (hj : j ≤ t.length) : Holds w (some ⟨g, o + j * 3, none⟩) (nodesV x) := fun hn => by
  refine ⟨g, o + j * 3, rfl, fun i u hu => ?_⟩
  have e : nodesV t = nodesV (t.take j) ++ (nodesV x ++ nodesV s) := by rw [← nodesV_append, ← nodesV_append, ← hx, List.take_append_drop]
  have hi : i < (nodesV x).length := (List.getElem?_eq_some_iff.1 hu).1
  have := h.cell (j := j * 3 + i) (u := u) (by rw [e, List.getElem?_append_right (by rw [nodesV_len, List.length_take]; omega), nodesV_len, List.length_take, show j * 3 + i - min j t.length * 3 = i by omega, List.getElem?_append_left hi]; exact hu)
  rwa [← Nat.add_assoc] at this
set_option maxHeartbeats 2000000 in
theorem cut_any (g o n c p m : Nat) (t x s : List Node3) (w : World) (hn : t.length = n) (hnb : n ≤ 100000) (hsl : Slice (some ⟨g, o, none⟩) n c) (hA : Holds w (some ⟨g, o, none⟩) (nodesV t)) (hL : Lim w) (hp : p ≤ n) (hx : t.drop p = x ++ s) (h1 : RowT1 x) (hm : x.length = m) :
    Calls Tryd.prog 71 #[.slice (some ⟨g, o, none⟩) n c, .int .i64 (p : Int)] w fun e w' => ∃ A' c', e = .returned (.tuple #[.slice A' m c', .int .i64 ((p : Int) + (m : Int))]) ∧ OwnN w' w.heap.size (.slice A' m c') m x ∧ Below w.heap.size w w' := by
  have HW := Lib.hid (walk_pass (some ⟨g, o, none⟩) n c t (p : Int) w hn hnb hA hL (by unfold I64; omega))
  have hpos := h1.pos
  have hE : endOf t (p : Int) = (p : Int) + (m : Int) := by
    obtain ⟨a, ha, hr⟩ := h1.top s
    unfold top0 V at ha
    cases hw : W (x ++ s) (0, 0, 0) [⟨0, 0⟩] with
    | none => rw [hw] at ha; cases ha
    | some y =>
      obtain ⟨a', s', e⟩ := y
      rw [hw] at ha
      simp only [Option.map_some, Option.some.injEq, Prod.mk.injEq] at ha
      unfold endOf
      rw [if_neg (by omega), Int.toNat_natCast, hx, hw]
      simp only
      rw [ha.1, ← hm, ← hr, List.length_map]
  rw [hE] at HW
  have hle : p + m ≤ n := by
    have := congrArg List.length hx
    rw [List.length_drop, List.length_append, hn, hm] at this
    omega
  have HP := Lib.hid (show ∀ w', Below w.heap.size w w' → Holds w' (some ⟨g, o + p * 3, none⟩) (nodesV x) from fun w' hb => piece_nodes (hA.below hb) hx (by omega))
  have hcn : n ≤ c := hsl.1
  have hcm : c ≤ 9223372036854775807 := hsl.2.1
  have HM := Lib.hid hm
  have hmp : 0 < m := by omega
  have hpc : p < c := by omega
  have hpm : p + m ≤ c := by omega
  clear hn hA hL hx h1 hm hsl hE hpos
  go_enter Tryd.func71, Tryd.ntmps71
  go_wp2_with fail
  refine (HW.out).mono ?_
  rintro e w1 ⟨hb1, (⟨y, -, -, -, rfl⟩ | ⟨hbad, -⟩)⟩
  case inr => omega
  have HC := Lib.hid (tclone_any (some ⟨g, o + p * 3, none⟩) m (c - p) x w1 HM.out ⟨by omega, by omega, fun h => by cases h⟩ (HP.out _ hb1) (by omega))
  have HB1 := Lib.hid hb1
  clear hb1
  go_wp2_with fail
  refine (HC.out).mono ?_
  rintro e w2 ⟨A2, c2, rfl, ho2, hb2⟩
  have HO := Lib.hid ho2
  have HB2 := Lib.hid hb2
  clear ho2 hb2
  go_wp2_with fail
  go_ret2
  refine ⟨A2, c2, rfl, ⟨HO.out.1, HO.out.2.imp id ?_⟩, below_step HB1.out HB2.out⟩
  rintro ⟨g', cap, cur, e, h1, h2⟩
  exact ⟨g', cap, cur, e, Nat.le_trans HB1.out.size h1, h2⟩
theorem infoRowT : (Tryd.prog.info? 23).map (fun i => (i.zero, i.size, i.bytes)) = some (some (.slice none 0 0), 1, 24) := by kernel_rfl
def mkRows (n : Nat) : Array Value := madeCells #[.slice none 0 0] n
theorem mkRows_eq (n : Nat) : mkRows n = (List.replicate n (Value.slice none 0 0)).toArray := by
  unfold mkRows madeCells
  apply Array.ext
  · simp
  · intro i h1 h2
    simp at h1
    simp [Nat.mod_one]
theorem make_rows (n : Nat) (hn : n ≤ 100000) (w : World) : (Instr.makeSlice 30 (.int .i64 (n : Int)) (.int .i64 (n : Int))).run Tryd.prog w = .ok (.slice (some ⟨w.heap.size, 0, none⟩) n n) (w.alloc (.cells (mkRows n) 23)) := by
  obtain ⟨i0, hi, hz0, hz1, hz2⟩ := info_parts infoRowT
  have := run_make (P := Tryd.prog) w 30 23 i0 _ Tryd.underlying30 hi hz0 .i64 .i64 n n (by omega) (Int.le_refl _) (by rw [hz2]; omega) (by omega)
  rw [hz1] at this
  simp only [Int.toNat_natCast, Nat.mul_one] at this
  exact this
theorem own_row_ok {w : World} {B : Nat} {x : RowT} (h : OwnN w B (rowV x) x.2.2.length x.2.2) : Slice x.1 x.2.2.length x.2.1 ∧ Holds w x.1 (nodesV x.2.2) := by
  obtain ⟨A, c, e, hs, -⟩ := own_slice h
  unfold rowV at e
  cases e
  exact ⟨hs, own_holds h⟩
theorem rowV_block {w : World} {B : Nat} {x : RowT} (h : OwnN w B (rowV x) x.2.2.length x.2.2) {k : Nat} (hk : (rowV x).ownBlock = some k) : x.1 = some ⟨k, 0, none⟩ := by
  unfold rowV at h hk
  rcases h.2 with ⟨e, -⟩ | ⟨g, cap, cur, e, -⟩
  · rw [e] at hk; cases hk
  · rw [e] at hk
    simp only [Value.ownBlock, Option.some.injEq] at hk
    injection e with e1
    rw [e1, hk]
/-- The rows that are answered, so far: their row is in block gR. -/
structure RowsRun (w wr : World) (gR m : Nat) (L : List RowT) : Prop where
  whole : Whole wr gR (L.map rowV ++ List.replicate (m - L.length) (Value.slice none 0 0)).toArray 23
  rows : ∀ x ∈ L, OwnN wr w.heap.size (rowV x) x.2.2.length x.2.2
  ne : ∀ x ∈ L, ∀ b o, x.1 = some ⟨b, o, none⟩ → gR < b
  ap : L.Pairwise fun x y => ∀ b o o', x.1 = some ⟨b, o, none⟩ → y.1 ≠ some ⟨b, o', none⟩
  bl : Below w.heap.size w wr
  new : w.heap.size ≤ gR
theorem RowsRun.ok {w wr : World} {gR m : Nat} {L : List RowT} (h : RowsRun w wr gR m L) : RowsOk wr L := fun x hx => own_row_ok (h.rows x hx)
theorem RowsRun.start {w w1 : World} (m : Nat) (hb : Below w.heap.size w w1) : RowsRun w (w1.alloc (.cells (mkRows m) 23)) w1.heap.size m [] :=
  ⟨by rw [mkRows_eq]; exact Whole.new w1 _ _, fun x hx => (by cases hx), fun x hx => (by cases hx), List.Pairwise.nil, below_alloc hb _, hb.size⟩
theorem RowsRun.step {w wr w1 : World} {gR m k c : Nat} {L : List RowT} {A : Option Addr} {x : List Node3} (h : RowsRun w wr gR m L) (hb : Below wr.heap.size wr w1) (ho : OwnN w1 wr.heap.size (.slice A k c) k x) (hk : x.length = k) (hm : L.length < m) :
    RowsRun w (w1.setCell ⟨gR, L.length, none⟩ (.slice A k c)) gR m (L ++ [(A, c, x)]) := by
  subst hk
  have hlt := h.whole.lt
  have hof : Only (fun j => j = gR) w1 (w1.setCell ⟨gR, L.length, none⟩ (.slice A x.length c)) := (Only.refl (fun j => j = gR) w1).set_ (.inl rfl) L.length _
  obtain ⟨A', c', e, hsl, hat⟩ := own_slice ho
  cases e
  refine ⟨?_, fun y hy => ?_, fun y hy b o e => ?_, ?_, h.bl.trans ((hb.mono h.bl.size).trans (hof.below (Nat.le_trans h.bl.size hb.size) fun j hj e => by have := h.new; omega)), h.new⟩
  · have hw := (h.whole.below hb hlt).set_ L.length (.slice A x.length c)
    have e1 : (L.map rowV ++ List.replicate (m - L.length) (Value.slice none 0 0)).toArray.setIfInBounds L.length (.slice A x.length c) = ((L ++ [(A, c, x)]).map rowV ++ List.replicate (m - (L ++ [(A, c, x)]).length) (Value.slice none 0 0)).toArray := by
      rw [List.setIfInBounds_toArray, List.set_append_right _ _ (by simp), List.length_map, Nat.sub_self, show m - L.length = (m - L.length - 1) + 1 by omega, List.replicate_succ, List.set_cons_zero, List.map_append, List.length_append, List.length_cons, List.length_nil, show m - (L.length + (0 + 1)) = m - L.length - 1 by omega]
      simp [rowV]
    rw [e1] at hw
    exact hw
  · rcases List.mem_append.1 hy with hy | hy
    · exact own_only (own_below (h.rows y hy) hb) hof fun k hk e => by have := h.ne y hy k 0 (rowV_block (h.rows y hy) hk); omega
    · rw [List.mem_singleton] at hy
      subst hy
      exact own_only (own_base ho h.bl.size) hof fun k hk e => by have := (hat k 0 (rowV_block ho hk)).1; omega
  · rcases List.mem_append.1 hy with hy | hy
    · exact h.ne y hy b o e
    · rw [List.mem_singleton] at hy
      subst hy
      have := hat b o e
      omega
  · refine List.pairwise_append.2 ⟨h.ap, List.pairwise_singleton _ _, fun y hy z hz b o o' e e' => ?_⟩
    rw [List.mem_singleton] at hz
    subst hz
    obtain ⟨A5, c5, e5, -, h5⟩ := own_slice (h.rows y hy)
    unfold rowV at e5
    cases e5
    have h1 := (h5 b o e).2
    have h2 := (hat b o' e').1
    omega
theorem RowsRun.cell {w wr : World} {gR m : Nat} {L : List RowT} (h : RowsRun w wr gR m L) (hm : L.length < m) : wr.cell? ⟨gR, L.length, none⟩ = some (.slice none 0 0) := by
  rw [h.whole.cell, List.getElem?_toArray, List.getElem?_append_right (by rw [List.length_map]; exact Nat.le_refl _), List.length_map, Nat.sub_self, List.getElem?_replicate, if_pos (by omega)]
theorem RowsRun.done {w wr : World} {gR m : Nat} {L : List RowT} (h : RowsRun w wr gR m L) (hm : L.length = m) : Holds wr (some ⟨gR, 0, none⟩) (L.map rowV) := fun _ => ⟨gR, 0, rfl, fun j u hu => by
  rw [Nat.zero_add, h.whole.cell, List.getElem?_toArray, hm, Nat.sub_self, List.replicate_zero, List.append_nil]
  exact hu⟩
/-- What Spine answers: the function and the arguments, in new memory; of a row that is not right nothing. -/
def SpinePost (t : List Node3) (w : World) (e : Ending) (w' : World) : Prop :=
  ∃ (A : Option Addr) (n c : Nat) (f : List Node3) (R : Option Addr) (cr : Nat) (l : List RowT), e = .returned (.tuple #[.slice A n c, .slice R l.length cr]) ∧ f.length = n ∧ OwnN w' w.heap.size (.slice A n c) n f ∧ Slice R l.length cr ∧ Holds w' R (l.map rowV) ∧ RowsOk w' l ∧
    (∀ x ∈ l, ∀ b o, x.1 = some ⟨b, o, none⟩ → w.heap.size ≤ b) ∧ (∀ b o, R = some ⟨b, o, none⟩ → w.heap.size ≤ b) ∧ Below w.heap.size w w' ∧ ((shapeOf t ≠ 0 ∧ f = [] ∧ l = []) ∨ (shapeOf t = 0 ∧ SpineOk t f (l.map fun x => x.2.2)))
/-- Moreover: each row owns its memory, and no two share any. -/
def SpinePost2 (t : List Node3) (w : World) (e : Ending) (w' : World) : Prop :=
  ∃ (A : Option Addr) (n c : Nat) (f : List Node3) (R : Option Addr) (cr : Nat) (l : List RowT), (e = .returned (.tuple #[.slice A n c, .slice R l.length cr]) ∧ f.length = n ∧ OwnN w' w.heap.size (.slice A n c) n f ∧ Slice R l.length cr ∧ Holds w' R (l.map rowV) ∧ RowsOk w' l ∧
    (∀ x ∈ l, ∀ b o, x.1 = some ⟨b, o, none⟩ → w.heap.size ≤ b) ∧ (∀ b o, R = some ⟨b, o, none⟩ → w.heap.size ≤ b) ∧ Below w.heap.size w w' ∧ ((shapeOf t ≠ 0 ∧ f = [] ∧ l = []) ∨ (shapeOf t = 0 ∧ SpineOk t f (l.map fun x => x.2.2)))) ∧
    (∀ x ∈ l, OwnN w' w.heap.size (rowV x) x.2.2.length x.2.2) ∧ ((A, c, f) :: l).Pairwise fun x y => ∀ b o o', x.1 = some ⟨b, o, none⟩ → y.1 ≠ some ⟨b, o', none⟩
theorem SpinePost2.spine {t : List Node3} {w w' : World} {e : Ending} (h : SpinePost2 t w e w') : SpinePost t w e w' := by
  obtain ⟨A, n, c, f, R, cr, l, h, -⟩ := h
  exact ⟨A, n, c, f, R, cr, l, h⟩
theorem SpinePost.none {t : List Node3} {w w' : World} (h : shapeOf t ≠ 0) (hb : Below w.heap.size w w') : SpinePost t w (.returned (.tuple #[.slice Option.none 0 0, .slice Option.none 0 0])) w' :=
  ⟨Option.none, 0, 0, [], Option.none, 0, [], rfl, rfl, World.ownsRow_nil _ _ _ _, slice_nil, Holds.nil _ _, fun x hx => (by cases hx), fun x hx => (by cases hx), fun b o e => (by cases e), hb, .inl ⟨h, rfl, rfl⟩⟩
theorem right_T1 {t : List Node3} (h : shapeOf t = 0) : RowT1 t := by
  obtain ⟨-, -, e, hW⟩ := right_of h
  have h1 : top0 t = some (annOf t, []) := by unfold top0 V; rw [hW]; rfl
  refine ⟨annOf t, isT_of h1, ?_⟩
  have := (top0_row h1).1
  rw [List.append_nil] at this
  exact this.symm
set_option maxRecDepth 100000 in
set_option maxHeartbeats 4000000 in
theorem tspine2_any (A : Option Addr) (n c : Nat) (t : List Node3) (w : World) (hn : t.length = n) (hsl : Slice A n c) (hA : Holds w A (nodesV t)) (hL : Lim w) :
    Calls Tryd.prog 34 #[.slice A n c] w (SpinePost2 t w) := by
  have HSH := Lib.hid (shape_any A n c t w hn hA hL)
  by_cases hs : shapeOf t = 0
  case neg =>
    have e1 : (shapeOf t != 0) = true := by simpa using hs
    have HX := Lib.hid hs
    clear hs hA
    obtain ⟨s1, hs1⟩ : ∃ s1, shapeOf t = s1 := ⟨_, rfl⟩
    rw [hs1] at HSH e1
    clear hs1
    go_enter Tryd.func34, Tryd.ntmps34
    go_wp2_with fail
    refine (HSH.out).mono ?_
    rintro e w1 ⟨rfl, hb1⟩
    go_wp2_with fail
    go_ret2
    exact ⟨Option.none, 0, 0, [], Option.none, 0, [], ⟨rfl, rfl, World.ownsRow_nil _ _ _ _, slice_nil, Holds.nil _ _, fun x hx => (by cases hx), fun x hx => (by cases hx), fun b o e => (by cases e), hb1, .inl ⟨HX.out, rfl, rfl⟩⟩, fun x hx => (by cases hx), List.pairwise_singleton _ _⟩
  rw [hs] at HSH
  have hnb : n ≤ 4096 := by have := (ann_of hs).2; omega
  obtain ⟨f, args, hsp⟩ := spine_of t.length t (Nat.le_refl _) (right_T1 hs)
  have hpos : 0 < n := by have := (right_T1 hs).pos; omega
  obtain ⟨g, o, rfl, hg, -⟩ := hA.at_ (by rw [nodesV_len]; omega)
  have HSP := Lib.hid hsp
  obtain ⟨m, hm⟩ : ∃ m, args.length = m := ⟨_, rfl⟩
  have hrow := hsp.row
  rw [hm] at hrow
  have hfp := hsp.fn.pos
  have hdr : t.drop m = f ++ args.flatten := by rw [hrow, List.drop_left' (List.length_replicate)]
  have hml : m + f.length + args.flatten.length = n := by
    have := congrArg List.length hrow
    rw [List.length_append, List.length_append, List.length_replicate, hn] at this
    omega
  have HOP := Lib.hid (show ∀ k (hk : k < m), t[k]? = some (6, 0, 0) from fun k hk => by
    rw [hrow, List.getElem?_append_left (by rw [List.length_replicate]; exact hk), List.getElem?_replicate]
    rw [if_pos hk])
  have HHD := Lib.hid (show ∃ x : Node3, t[m]? = some x ∧ x.1 ≠ 6 from by
    have h0 : (f ++ args.flatten)[0]? = some (f[0]'hfp) := by rw [List.getElem?_append_left hfp, List.getElem?_eq_getElem hfp]
    refine ⟨f[0]'hfp, ?_, hsp.headr _ h0⟩
    rw [← h0, ← hdr, List.getElem?_drop, Nat.add_zero])
  have HA := Lib.hid (show ∀ w', Below w.heap.size w w' → Holds w' (some ⟨g, o, none⟩) (nodesV t) from fun w' hb => hA.below hb)
  have HL := Lib.hid (show ∀ w', Below w.heap.size w w' → Lim w' from fun w' hb => hL.next hb)
  have HN := Lib.hid hn
  have HM := Lib.hid hm
  have HS := Lib.hid hs
  have HDR := Lib.hid hdr
  have HSL := Lib.hid hsl
  have HG := Lib.hid hg
  have hmn : m < n := by omega
  clear hs hsp hrow hfp hdr hA hL hn hm hsl hg
  go_enter Tryd.func34, Tryd.ntmps34
  go_wp2_with fail
  refine (HSH.out).mono ?_
  rintro e w1 ⟨rfl, hb1⟩
  have HB1 := Lib.hid hb1
  clear hb1
  go_wp2_with fail
  go_loopw [4] (fun i wr => ∃ k : Nat, i = .int .i64 (k : Int) ∧ k ≤ m ∧ Hid (Below w.heap.size w wr)) (fun i _ => m - (intOf i).toNat)
  case atStart => exact ⟨0, rfl, Nat.zero_le _, HB1⟩
  case round =>
    obtain ⟨k, rfl, hk, HB⟩ := hrel
    have hAr := HA.out _ HB.out
    by_cases hlt : k < m
    · have hkt : k < t.length := by have := HN.out; omega
      have r0 := hAr.cell (nodesV_get0 hkt)
      have h6 : t[k] = (6, 0, 0) := by have := HOP.out k hlt; rwa [List.getElem?_eq_getElem hkt, Option.some.injEq] at this
      rw [h6] at r0
      simp only at r0
      clear hAr h6 hkt
      go_wp2_with fail
      go_roundw
      case rel => exact ⟨k + 1, by go_num, by omega, HB⟩
      case measure => simp [intOf] <;> omega
    · obtain rfl : k = m := by omega
      have hkt : k < t.length := by have := HN.out; omega
      have r0 := hAr.cell (nodesV_get0 hkt)
      obtain ⟨x, hx, hx6⟩ := HHD.out
      rw [List.getElem?_eq_getElem hkt, Option.some.injEq] at hx
      rw [hx] at r0
      obtain ⟨xo, xA, xB⟩ := x
      simp only at r0 hx6
      have e6 : (xo == 6) = false := by simpa using hx6
      obtain ⟨nf, hnf⟩ : ∃ nf, f.length = nf := ⟨_, rfl⟩
      have HNF := Lib.hid hnf
      have HC := Lib.hid (cut_any g o n c k nf t f args.flatten wr HN.out (by omega) HSL.out hAr (HL.out _ HB.out) (by omega) HDR.out HSP.out.fn hnf)
      clear hAr hx hkt hnf
      go_wp2_with fail
      refine (HC.out).mono ?_
      rintro e w2 ⟨A2, c2, rfl, ho2, hb2⟩
      have HO2 := Lib.hid (show OwnN w2 w.heap.size (.slice A2 nf c2) nf f from ⟨ho2.1, ho2.2.imp id (by
        rintro ⟨g', cap, cur, e, h1, h2⟩
        exact ⟨g', cap, cur, e, Nat.le_trans HB.out.size h1, h2⟩)⟩)
      have HB2 := Lib.hid (below_step HB.out hb2)
      have HZ2 := Lib.hid hb2
      have HFL := Lib.hid HSP.out
      have hmk := make_rows k (by omega) w2
      have HST := Lib.hid (RowsRun.start k HB2.out)
      have HM2 := Lib.hid hmk
      have hfl : k + nf ≤ n := by have := HNF.out; omega
      have HD0 : Hid (t.drop (k + nf) = args.flatten) := Lib.hid (by rw [← List.drop_drop, HDR.out, List.drop_left' HNF.out])
      clear ho2 hb2 HC
      go_wp2_with fail
      obtain ⟨wo, hwo⟩ : ∃ wo : World, wo = w2.alloc (.cells (mkRows k) 23) := ⟨_, rfl⟩
      rw [← hwo] at HST ⊢
      have HOF := Lib.hid (show Below w2.heap.size w2 wo by rw [hwo]; exact (Below.refl _ _).alloc (Nat.le_refl _) _)
      clear hwo hmk HM2
      go_loopw [6, 30] (fun at_ i wr => ∃ (j p : Nat) (L : List RowT), at_ = .int .i64 (p : Int) ∧ i = .int .i64 (j : Int) ∧ j ≤ k ∧ p ≤ n ∧ L.length = j ∧ Hid (L.map (fun x => x.2.2) = args.take j) ∧ Hid (t.drop p = (args.drop j).flatten) ∧ Hid (RowsRun w wr w2.heap.size k L) ∧ Hid (Below w2.heap.size w2 wr)) (fun _ i _ => k - (intOf i).toNat)
      case atStart => exact ⟨0, k + nf, [], by go_num, rfl, Nat.zero_le _, hfl, rfl, Lib.hid (by simp), Lib.hid (by rw [HD0.out, List.drop_zero]), HST, HOF⟩
      case round =>
        obtain ⟨j, p, L, rfl, rfl, hj, hp, hlen, HLR, HDP, HR, HBW⟩ := hrel
        by_cases hlt2 : j < k
        · have hja : j < args.length := by rw [HM.out]; exact hlt2
          have hdj : args.drop j = args[j] :: args.drop (j + 1) := List.drop_eq_getElem_cons hja
          have hdp := HDP.out
          rw [hdj, List.flatten_cons] at hdp
          obtain ⟨mj, hmj⟩ : ∃ mj, args[j].length = mj := ⟨_, rfl⟩
          have hbr := HR.out.bl
          have HC := Lib.hid (cut_any g o n c p mj t args[j] (args.drop (j + 1)).flatten wr HN.out (by omega) HSL.out (HA.out _ hbr) (HL.out _ hbr) hp hdp (HSP.out.kids _ (List.getElem_mem hja)) hmj)
          have hpm : p + mj ≤ n := by
            have := congrArg List.length hdp
            rw [List.length_drop, List.length_append, HN.out, hmj] at this
            have := (HSP.out.kids _ (List.getElem_mem hja)).pos
            omega
          have HD1 : Hid (t.drop (p + mj) = (args.drop (j + 1)).flatten) := Lib.hid (by rw [← List.drop_drop, hdp, List.drop_left' hmj])
          have HLR1 : Hid (∀ A c, (L ++ [((A, c, args[j]) : RowT)]).map (fun x => x.2.2) = args.take (j + 1)) := Lib.hid fun A c => by
            rw [List.map_append, HLR.out, List.take_succ_eq_append_getElem hja]
            rfl
          have HMJ := Lib.hid hmj
          have hgR := HR.out.whole.lt
          have cR := HR.out.cell (by omega)
          rw [hlen] at cR
          have HWR := Lib.hid HR.out.whole
          clear hdj hdp hbr hmj
          go_wp2_with fail
          refine (HC.out).mono ?_
          rintro e w4 ⟨A4, c4, rfl, ho4, hb4⟩
          have cR4 := (hb4.cell (p := ⟨w2.heap.size, j, none⟩) hgR).trans cR
          have fR4 : w4.frozen? ⟨w2.heap.size, j, none⟩ = false := (HWR.out.below hb4 hgR).frozen j
          have hst := HR.out.step hb4 ho4 HMJ.out (by omega)
          rw [hlen] at hst
          have HR4 := Lib.hid hst
          have HB4 : Hid (Below w2.heap.size w2 (w4.setCell ⟨w2.heap.size, j, none⟩ (.slice A4 mj c4))) := Lib.hid ((HBW.out.trans (hb4.mono HBW.out.size)).setCell (by simp only; omega) _)
          clear hst hb4 ho4 HC cR hgR HWR
          go_wp2_with fail
          go_roundw
          case rel => exact ⟨j + 1, p + mj, L ++ [(A4, c4, args[j])], by go_num, by go_num, by omega, hpm, by rw [List.length_append, hlen]; rfl, Lib.hid (HLR1.out A4 c4), HD1, HR4, HB4⟩
          case measure => simp [intOf] <;> omega
        · obtain rfl : j = k := by omega
          have hr := HR.out
          have HX : Hid (L.map (fun x => x.2.2) = args) := Lib.hid (by rw [HLR.out, List.take_of_length_le (by rw [HM.out]; exact Nat.le_refl _)])
          go_wp2_with fail
          go_ret2
          refine ⟨A2, nf, c2, f, some ⟨w2.heap.size, 0, none⟩, j, L, ⟨by rw [hlen]; rfl, HNF.out, ?_, ⟨by omega, by omega, fun h => by cases h⟩, hr.done hlen, hr.ok, fun x hx b o e => ?_, fun b o e => ?_, hr.bl, .inr ⟨HS.out, by rw [HX.out]; exact HSP.out⟩⟩, hr.rows, List.pairwise_cons.2 ⟨fun x hx b o o' e e' => ?_, hr.ap⟩⟩
          · exact own_below HO2.out HBW.out
          · have := hr.ne x hx b o e; have := hr.new; omega
          · cases e; exact hr.new
          · obtain ⟨A5, c5, e5, -, h5⟩ := own_slice HO2.out
            cases e5
            have := (h5 b o e).2
            have := hr.ne x hx b o' e'
            omega
theorem tspine_any (A : Option Addr) (n c : Nat) (t : List Node3) (w : World) (hn : t.length = n) (hsl : Slice A n c) (hA : Holds w A (nodesV t)) (hL : Lim w) :
    Calls Tryd.prog 34 #[.slice A n c] w (SpinePost t w) := (tspine2_any A n c t w hn hsl hA hL).mono fun _ _ h => h.spine
end Go.Proofs.YtkkkblghihheeaaDoor
namespace Go.Proofs.YtkkkblghihheeaaDoor
open Go.RowKit

/-- The function's node ahead of a kid. -/
def funK (n : Node3) (fs : List Node3) (i : Nat) : List Node3 := if n.1 = 12 ∧ i % 2 = 0 then [fs.getD (i / 2) (0, 0, 0)] else []
/-- How kids lie in a row. -/
def layK (n : Node3) (fs : List Node3) : Nat → List (List Node3) → List Node3
  | _, [] => []
  | i, k :: ks => funK n fs i ++ (k ++ layK n fs (i + 1) ks)
theorem kidsA_lay (n : Node3) (fs : List Node3) : ∀ (ks : List Ann) (i : Nat), (kidsA n fs i ks).map Prod.fst = layK n fs i (ks.map fun k => k.map Prod.fst)
  | [], _ => rfl
  | k :: ks, i => by
    unfold kidsA
    rw [List.map_append, List.map_append, kidsA_lay n fs ks (i + 1)]
    have e1 : (funA n fs i).map Prod.fst = funK n fs i := by unfold funA funK; split <;> rfl
    have e2 : (shA (aroundN n i) k).map Prod.fst = k.map Prod.fst := by unfold shA; rw [List.map_map]; rfl
    rw [e1, e2]
    rfl
theorem treeA_lay (n : Node3) (ats fs : List Node3) (ks : List Ann) : (treeA n ats fs ks).map Prod.fst = n :: (ats ++ layK n fs 0 (ks.map fun k => k.map Prod.fst)) := by
  unfold treeA
  rw [List.map_cons, List.map_append, kidsA_lay, List.map_map]
  have e : (Prod.fst ∘ fun x : Node3 => ((x, 0) : Node3 × Nat)) = id := rfl
  rw [e, List.map_id]
/-- The row's kids. -/
def KidsOk (t : List Node3) (n : Node3) (ks : List (List Node3)) : Prop := ∃ ats fs, t = n :: (ats ++ layK n fs 0 ks) ∧ ks.length = kidsN n ∧ (n.1 ≠ 2 → ats = []) ∧ ∀ k ∈ ks, RowT1 k
theorem lay_same {n : Node3} {fs fs' : List Node3} : ∀ {ks ls : List (List Node3)} {i : Nat}, ks.length = ls.length → (∀ k ∈ ks, RowT1 k) → (∀ k ∈ ls, RowT1 k) → layK n fs i ks = layK n fs' i ls → ks = ls
  | [], [], _, _, _, _, _ => rfl
  | [], _ :: _, _, h, _, _, _ => by simp at h
  | _ :: _, [], _, h, _, _, _ => by simp at h
  | k :: ks, l :: ls, i, h, hk, hl, e => by
    unfold layK at e
    have hf : (funK n fs i).length = (funK n fs' i).length := by unfold funK; split <;> rfl
    obtain ⟨-, e2⟩ := List.append_inj e hf
    obtain ⟨rfl, e3⟩ := (hk k (by simp)).same (hl l (by simp)) e2
    rw [lay_same (by simpa using h) (fun x hx => hk x (by simp [hx])) (fun x hx => hl x (by simp [hx])) e3]
theorem KidsOk.same {t : List Node3} {n m : Node3} {ks ls : List (List Node3)} (h : KidsOk t n ks) (k : KidsOk t m ls) : n = m ∧ ks = ls := by
  obtain ⟨ats, fs, e, hl, ha, hr⟩ := h
  obtain ⟨ats', fs', e', hl', ha', hr'⟩ := k
  rw [e, List.cons.injEq] at e'
  obtain ⟨rfl, e'⟩ := e'
  refine ⟨rfl, ?_⟩
  by_cases h2 : n.1 = 2
  · have := (follow_sort h2).2
    rw [List.eq_nil_of_length_eq_zero (l := ks) (by omega), List.eq_nil_of_length_eq_zero (l := ls) (by omega)]
  · rw [ha h2, ha' h2, List.nil_append, List.nil_append] at e'
    exact lay_same (by omega) hr hr' e'
/-- Rows that are put together, one behind the other; none lies in their own row's block. -/
structure KRun (B : Nat) (wr : World) (v : Value) (L : List RowT) : Prop where
  own : wr.ownsRow 0 23 1 v L.length (L.map rowV)
  nb : ∀ k, v.ownBlock = some k → B ≤ k
  rows : ∀ x ∈ L, OwnN wr B (rowV x) x.2.2.length x.2.2
  ne : ∀ x ∈ L, ∀ b o, x.1 = some ⟨b, o, none⟩ → B ≤ b ∧ b < wr.heap.size ∧ v.ownBlock ≠ some b
  ap : L.Pairwise fun x y => ∀ b o o', x.1 = some ⟨b, o, none⟩ → y.1 ≠ some ⟨b, o', none⟩
theorem KRun.ok {B : Nat} {wr : World} {v : Value} {L : List RowT} (h : KRun B wr v L) : RowsOk wr L := fun x hx => own_row_ok (h.rows x hx)
theorem KRun.start (B : Nat) (w : World) : KRun B w (.slice none 0 0) [] := ⟨World.ownsRow_nil _ _ _ _, fun k hk => by simp [Value.ownBlock] at hk, fun x hx => (by cases hx), fun x hx => (by cases hx), List.Pairwise.nil⟩
theorem KRun.next {B : Nat} {wr w1 : World} {v : Value} {L : List RowT} (h : KRun B wr v L) (hb : Below wr.heap.size wr w1) : KRun B w1 v L :=
  ⟨own_below h.own hb, h.nb, fun x hx => own_below (h.rows x hx) hb, fun x hx b o e => ⟨(h.ne x hx b o e).1, Nat.lt_of_lt_of_le (h.ne x hx b o e).2.1 hb.size, (h.ne x hx b o e).2.2⟩, h.ap⟩
theorem KRun.mono {B B' : Nat} {wr : World} {v : Value} {L : List RowT} (h : KRun B wr v L) (hB : B' ≤ B) : KRun B' wr v L := ⟨h.own, fun k hk => Nat.le_trans hB (h.nb k hk), fun x hx => own_base (h.rows x hx) hB, fun x hx b o e => ⟨Nat.le_trans hB (h.ne x hx b o e).1, (h.ne x hx b o e).2⟩, h.ap⟩
theorem KRun.step {B k c : Nat} {wr w1 w2 w3 : World} {v v' : Value} {L : List RowT} {A : Option Addr} {x : List Node3} (h : KRun B wr v L) (hB : B ≤ wr.heap.size) (hb : Below wr.heap.size wr w1) (ho : OwnN w1 wr.heap.size (.slice A k c) k x) (hk : x.length = k) (hb2 : Below w1.heap.size w1 w2)
    (hown : w3.ownsRow 0 23 1 v' (L.length + 1) (L.map rowV ++ [rowV (A, c, x)])) (hmv : Moves w2 v w3 v') : KRun B w3 v' (L ++ [(A, c, x)]) ∧ Below B wr w3 := by
  subst hk
  have h02 := below_step hb hb2
  have s1 := hb.size
  have s2 := hb2.size
  have s3 := hmv.only.size
  have hvl : ∀ g, v.ownBlock = some g → g < wr.heap.size := fun g hg => (World.ownsRow.lt h.own g hg).2
  obtain ⟨A', c', e, hsl, hat⟩ := own_slice ho
  cases e
  refine ⟨⟨by rw [List.length_append, List.map_append]; exact hown, fun g hg => ?_, fun y hy => ?_, fun y hy b o e => ?_, ?_⟩, (h02.mono hB).trans (hmv.below (B := B) (by omega) fun g hg => h.nb g hg)⟩
  · rcases hmv.next g hg with h' | h'
    · exact h.nb g h'
    · omega
  · rcases List.mem_append.1 hy with hy | hy
    · exact own_only (own_below (h.rows y hy) h02) hmv.only fun k hk e => by
        exact (h.ne y hy k 0 (rowV_block (h.rows y hy) hk)).2.2 e
    · rw [List.mem_singleton] at hy
      subst hy
      exact own_only (own_below (own_base ho hB) hb2) hmv.only fun k hk e => by
        have := hat k 0 (rowV_block ho hk)
        have := hvl k e
        omega
  · rcases List.mem_append.1 hy with hy | hy
    · have h1 := h.ne y hy b o e
      refine ⟨h1.1, by omega, fun e' => ?_⟩
      rcases hmv.next b e' with h' | h'
      · exact h1.2.2 h'
      · omega
    · rw [List.mem_singleton] at hy
      subst hy
      have h1 := hat b o e
      refine ⟨by omega, by omega, fun e' => ?_⟩
      rcases hmv.next b e' with h' | h'
      · have := hvl b h'; omega
      · omega
  · refine List.pairwise_append.2 ⟨h.ap, List.pairwise_singleton _ _, fun y hy z hz b o o' e e' => ?_⟩
    rw [List.mem_singleton] at hz
    subst hz
    have h1 := (h.ne y hy b o e).2.1
    have h2 := (hat b o' e').1
    omega
/-- Numbers that are put together. -/
structure IRun (B : Nat) (wr : World) (v : Value) (l : List Int) : Prop where
  own : wr.ownsRow 0 3 1 v l.length (intsV l)
  nb : ∀ k, v.ownBlock = some k → B ≤ k
theorem IRun.start (B : Nat) (w : World) : IRun B w (.slice none 0 0) [] := ⟨World.ownsRow_nil _ _ _ _, fun k hk => by simp [Value.ownBlock] at hk⟩
theorem IRun.next {B : Nat} {wr w1 : World} {v : Value} {l : List Int} (h : IRun B wr v l) (hb : Below wr.heap.size wr w1) : IRun B w1 v l := ⟨own_below h.own hb, h.nb⟩
theorem IRun.mono {B B' : Nat} {wr : World} {v : Value} {l : List Int} (h : IRun B wr v l) (hB : B' ≤ B) : IRun B' wr v l := ⟨h.own, fun k hk => Nat.le_trans hB (h.nb k hk)⟩
theorem IRun.step {B : Nat} {w2 w3 : World} {v v' : Value} {l : List Int} {x : Int} (h : IRun B w2 v l) (hB : B ≤ w2.heap.size) (hown : w3.ownsRow 0 3 1 v' (l.length + 1) (intsV l ++ [.int .i64 x])) (hmv : Moves w2 v w3 v') : IRun B w3 v' (l ++ [x]) ∧ Below B w2 w3 :=
  ⟨⟨by rw [List.length_append, show intsV (l ++ [x]) = intsV l ++ [.int .i64 x] by simp [intsV]]; exact hown, fun g hg => by
    rcases hmv.next g hg with h' | h'
    · exact h.nb g h'
    · omega⟩, hmv.below hB fun g hg => h.nb g hg⟩
end Go.Proofs.YtkkkblghihheeaaDoor
namespace Go.Proofs.YtkkkblghihheeaaDoor
open Go.RowKit

/-- These parts, and no more, lie in this row: the parts that are kids are these. -/
def PartsR : List Part → List (List Node3) → List Node3 → Prop
  | [], ks, r => ks = [] ∧ r = []
  | p :: todo, ks, r => if p.op = 0 then ∃ k ls s, ks = k :: ls ∧ r = k ++ s ∧ RowT1 k ∧ PartsR todo ls s else ∃ x s, r = x :: s ∧ PartsR todo ks s
theorem PartsR.same : ∀ {todo : List Part} {ks ls : List (List Node3)} {r : List Node3}, PartsR todo ks r → PartsR todo ls r → ks = ls
  | [], ks, ls, _, h, k => by unfold PartsR at h k; rw [h.1, k.1]
  | p :: todo, ks, ls, r, h, k => by
    unfold PartsR at h k
    by_cases hp : p.op = 0
    · rw [if_pos hp] at h k
      obtain ⟨a, l1, s1, rfl, e1, ha, h1⟩ := h
      obtain ⟨b, l2, s2, rfl, e2, hb, h2⟩ := k
      obtain ⟨rfl, rfl⟩ := ha.same hb (e1.symm.trans e2)
      rw [PartsR.same h1 h2]
    · rw [if_neg hp] at h k
      obtain ⟨x, s1, e1, h1⟩ := h
      obtain ⟨y, s2, e2, h2⟩ := k
      rw [e1, List.cons.injEq] at e2
      obtain ⟨-, rfl⟩ := e2
      exact PartsR.same h1 h2
theorem parts_lay {n : Node3} {fs : List Node3} : ∀ (ks : List (List Node3)) (i : Nat), (∀ k ∈ ks, RowT1 k) → PartsR (kidsP n ks.length i) ks (layK n fs i ks)
  | [], _, _ => ⟨rfl, rfl⟩
  | k :: ks, i, h => by
    have ih := parts_lay (n := n) (fs := fs) ks (i + 1) fun x hx => h x (by simp [hx])
    have h0 : PartsR (⟨0, aroundN n i⟩ :: kidsP n ks.length (i + 1)) (k :: ks) (k ++ layK n fs (i + 1) ks) := by
      unfold PartsR
      rw [if_pos rfl]
      exact ⟨k, ks, _, rfl, rfl, h k (by simp), ih⟩
    unfold layK funK
    rw [List.length_cons]
    unfold kidsP funP
    by_cases hf : n.1 = 12 ∧ i % 2 = 0
    · rw [if_pos hf, if_pos hf]
      show PartsR (⟨13, 0⟩ :: (⟨0, aroundN n i⟩ :: kidsP n ks.length (i + 1))) _ _
      unfold PartsR
      rw [if_neg (by show ¬ (13 : Int) = 0; decide)]
      exact ⟨_, _, rfl, h0⟩
    · rw [if_neg hf, if_neg hf]
      exact h0
/-- The row's kids, by the parts of its first node. -/
def KidsR (t : List Node3) (n : Node3) (ks : List (List Node3)) : Prop := ∃ r, t = n :: r ∧ ks.length = kidsN n ∧ (n.1 ≠ 2 → PartsR (follow n 0) ks r)
theorem KidsOk.r {t : List Node3} {n : Node3} {ks : List (List Node3)} (h : KidsOk t n ks) : KidsR t n ks := by
  obtain ⟨ats, fs, e, hl, ha, hr⟩ := h
  refine ⟨_, e, hl, fun h2 => ?_⟩
  rw [ha h2, List.nil_append, follow_kids h2, ← hl]
  exact parts_lay ks 0 hr
theorem KidsR.same {t : List Node3} {n m : Node3} {ks ls : List (List Node3)} (h : KidsR t n ks) (k : KidsR t m ls) : n = m ∧ ks = ls := by
  obtain ⟨r, e, hl, hr⟩ := h
  obtain ⟨s, e', hl', hs⟩ := k
  rw [e, List.cons.injEq] at e'
  obtain ⟨rfl, rfl⟩ := e'
  refine ⟨rfl, ?_⟩
  by_cases h2 : n.1 = 2
  · have := (follow_sort h2).2
    rw [List.eq_nil_of_length_eq_zero (l := ks) (by omega), List.eq_nil_of_length_eq_zero (l := ls) (by omega)]
  · exact (hr h2).same (hs h2)
/-- What is read by these parts lies so. -/
theorem parts_of : ∀ {todo : List Part} {r : List Node3} {e : Node3} {a : Ann} {s : List Node3}, NoAt todo → (∀ p ∈ todo, p.op = 0 ∨ p.op = 13) → V r e todo = some (a, s) → s = [] → ∃ ks, PartsR todo ks r
  | [], r, e, a, s, _, _, h, hs => by
    rw [V_nil] at h
    cases h
    exact ⟨[], rfl, hs⟩
  | ⟨o, d⟩ :: todo, r, e, a, s, hn, ho, h, hs => by
    have hn' : NoAt todo := fun p hp => hn p (List.mem_cons_of_mem _ hp)
    have ho' : ∀ p ∈ todo, p.op = 0 ∨ p.op = 13 := fun p hp => ho p (List.mem_cons_of_mem _ hp)
    rcases ho ⟨o, d⟩ (by simp) with h0 | h13
    · simp only at h0
      subst h0
      rw [V_kid hn'] at h
      cases h1 : top0 r with
      | none => rw [h1] at h; cases h
      | some x =>
        obtain ⟨x, s1⟩ := x
        rw [h1] at h
        simp only [Option.bind_some] at h
        cases h2 : V s1 e todo with
        | none => rw [h2] at h; cases h
        | some y =>
          obtain ⟨y, s2⟩ := y
          rw [h2] at h
          simp only [Option.map_some, Option.some.injEq, Prod.mk.injEq] at h
          obtain ⟨ks, hk⟩ := parts_of hn' ho' h2 (h.2.trans hs)
          refine ⟨x.map Prod.fst :: ks, ?_⟩
          unfold PartsR
          rw [if_pos rfl]
          exact ⟨_, _, s1, rfl, (top0_row h1).1, ⟨x, isT_of h1, rfl⟩, hk⟩
    · simp only at h13
      subst h13
      cases r with
      | nil => unfold V at h; rw [W_none] at h; cases h
      | cons x r =>
        cases hb : begB 13 x e with
        | false => rw [V_no hb] at h; cases h
        | true =>
          have hx : x.1 = 13 := begB13_op hb
          rw [V_yes hb, follow3 (.inr hx), List.nil_append] at h
          cases h2 : V r x todo with
          | none => rw [h2] at h; cases h
          | some y =>
            obtain ⟨y, s2⟩ := y
            rw [h2] at h
            simp only [Option.map_some, Option.some.injEq, Prod.mk.injEq] at h
            obtain ⟨ks, hk⟩ := parts_of hn' ho' h2 (h.2.trans hs)
            refine ⟨ks, ?_⟩
            unfold PartsR
            rw [if_neg (by show ¬ (13 : Int) = 0; decide)]
            exact ⟨x, r, rfl, hk⟩
theorem atoms_of : ∀ {m : Nat} {r : List Node3} {e : Node3} {a : Ann} {s : List Node3}, V r e (List.replicate m ⟨3, 0⟩) = some (a, s) → s = [] → PartsR (List.replicate m ⟨3, 0⟩) [] r
  | 0, r, e, a, s, h, hs => by
    rw [List.replicate_zero, V_nil] at h
    cases h
    exact ⟨rfl, hs⟩
  | m + 1, r, e, a, s, h, hs => by
    rw [List.replicate_succ] at h ⊢
    cases r with
    | nil => unfold V at h; rw [W_none] at h; cases h
    | cons x r =>
      cases hb : begB 3 x e with
      | false => rw [V_no hb] at h; cases h
      | true =>
        have hx : x.1 = 3 := by
          rw [begB3, decide_eq_true_iff] at hb
          exact hb.1
        rw [V_yes hb, follow3 (.inl hx), List.nil_append] at h
        cases h2 : V r x (List.replicate m ⟨3, 0⟩) with
        | none => rw [h2] at h; cases h
        | some y =>
          obtain ⟨y, s2⟩ := y
          rw [h2] at h
          simp only [Option.map_some, Option.some.injEq, Prod.mk.injEq] at h
          have ih := atoms_of h2 (h.2.trans hs)
          unfold PartsR
          rw [if_neg (by show ¬ (3 : Int) = 0; decide)]
          exact ⟨x, r, rfl, ih⟩
theorem kidsP_ops (n : Node3) : ∀ (m i : Nat), ∀ p ∈ kidsP n m i, p.op = 0 ∨ p.op = 13
  | 0, _, p, h => by cases h
  | m + 1, i, p, h => by
    unfold kidsP funP at h
    rcases List.mem_append.1 h with h | h
    · split at h
      · simp only [List.mem_cons, List.not_mem_nil, or_false] at h; subst h; exact .inr rfl
      · cases h
    · rcases List.mem_cons.1 h with rfl | h
      · exact .inl rfl
      · exact kidsP_ops n m (i + 1) p h
theorem parts_count {n : Node3} : ∀ {m i : Nat} {ks : List (List Node3)} {r : List Node3}, PartsR (kidsP n m i) ks r → ks.length = m
  | 0, i, ks, r, h => by have h1 : ks = [] := h.1; rw [h1]; rfl
  | m + 1, i, ks, r, h => by
    unfold kidsP funP at h
    have key : ∀ {ks : List (List Node3)} {r : List Node3}, PartsR (⟨0, aroundN n i⟩ :: kidsP n m (i + 1)) ks r → ks.length = m + 1 := fun h => by
      unfold PartsR at h
      rw [if_pos rfl] at h
      obtain ⟨k, ls, s, rfl, -, -, h1⟩ := h
      rw [List.length_cons, parts_count h1]
    split at h
    · replace h : PartsR (⟨13, 0⟩ :: (⟨0, aroundN n i⟩ :: kidsP n m (i + 1))) ks r := h
      unfold PartsR at h
      rw [if_neg (by show ¬ (13 : Int) = 0; decide)] at h
      obtain ⟨x, s, -, h1⟩ := h
      exact key h1
    · exact key h
/-- A right row's parts. -/
theorem kidsR_of {t : List Node3} (h : RowT1 t) : ∃ n r ks, t = n :: r ∧ holdsN n ∧ KidsR t n ks ∧ PartsR (follow n 0) ks r := by
  obtain ⟨a, h1, rfl⟩ := h
  cases e : a.map Prod.fst with
  | nil => unfold isT at h1; rw [e] at h1; cases h1
  | cons n r =>
    unfold isT at h1
    rw [e] at h1
    have hb := top_head h1
    have hh := (top_holds hb).1
    rw [topB_beg n (0, 0, 0)] at hb
    unfold top0 at h1
    rw [V_yes hb, List.append_nil] at h1
    cases h2 : V r n (follow n 0) with
    | none => rw [h2] at h1; cases h1
    | some y =>
      obtain ⟨y, s⟩ := y
      rw [h2] at h1
      simp only [Option.map_some, Option.some.injEq, Prod.mk.injEq] at h1
      by_cases hn2 : n.1 = 2
      · have hf := follow_sort hn2
        rw [hf.1] at h2
        have hp := atoms_of h2 h1.2
        exact ⟨n, r, [], rfl, hh, ⟨r, rfl, by rw [hf.2]; rfl, fun h => absurd hn2 h⟩, by rw [hf.1]; exact hp⟩
      · rw [follow_kids hn2] at h2
        obtain ⟨ks, hk⟩ := parts_of (kidsP_noAt n _ _) (kidsP_ops n _ _) h2 h1.2
        rw [← follow_kids hn2] at hk
        exact ⟨n, r, ks, rfl, hh, ⟨r, rfl, by rw [follow_kids hn2] at hk; exact parts_count hk, fun _ => hk⟩, hk⟩
/-- What Kids answers: rows in new memory; of a row that is not right none. -/
def KidsPost (t : List Node3) (w : World) (e : Ending) (w' : World) : Prop :=
  ∃ (R : Option Addr) (m cr : Nat) (l : List RowT), e = .returned (.slice R m cr) ∧ l.length = m ∧ KRun w.heap.size w' (.slice R m cr) l ∧ Below w.heap.size w w' ∧ ((shapeOf t ≠ 0 ∧ l = []) ∨ (shapeOf t = 0 ∧ ∃ n, KidsR t n (l.map fun x => x.2.2)))
/-- What Binders answers. -/
def BindersPost (t : List Node3) (w : World) (e : Ending) (w' : World) : Prop :=
  ∃ (R : Option Addr) (m cr : Nat) (l : List Int), e = .returned (.slice R m cr) ∧ l.length = m ∧ IRun w.heap.size w' (.slice R m cr) l ∧ Below w.heap.size w w' ∧ ((shapeOf t ≠ 0 ∧ l = []) ∨ (shapeOf t = 0 ∧ ∃ n ks, KidsR t n ks ∧ l = (List.range ks.length).map fun i => ((aroundN n i : Nat) : Int)))
/-- The binders around the kids, part by part. -/
def aroundsR (todo : List Part) : List Nat := (todo.filter fun p => decide (p.op = 0)).map Part.k
theorem arounds_kids (n : Node3) : ∀ (m i : Nat), aroundsR (kidsP n m i) = (List.range m).map fun j => aroundN n (i + j)
  | 0, _ => rfl
  | m + 1, i => by
    have ih := arounds_kids n m (i + 1)
    have e : aroundsR (kidsP n (m + 1) i) = aroundN n i :: aroundsR (kidsP n m (i + 1)) := by
      show aroundsR (funP n i ++ ⟨0, aroundN n i⟩ :: kidsP n m (i + 1)) = _
      unfold funP aroundsR
      split
      · simp
      · simp
    rw [e, ih, List.range_succ_eq_map, List.map_cons, List.map_map]
    refine congrArg _ (List.map_congr_left fun j _ => ?_)
    simp only [Function.comp_apply]
    rw [show i + 1 + j = i + (j + 1) by omega]
theorem arounds_follow {n : Node3} {t : List Node3} {ks : List (List Node3)} (h : KidsR t n ks) : aroundsR (follow n 0) = (List.range ks.length).map fun j => aroundN n j := by
  obtain ⟨r, -, hl, -⟩ := h
  by_cases h2 : n.1 = 2
  · have hf := follow_sort h2
    rw [hl, hf.1, hf.2]
    unfold aroundsR
    rw [List.filter_eq_nil_iff.2 (fun p hp => by rw [List.eq_of_mem_replicate hp]; decide)]
    rfl
  · rw [follow_kids h2, arounds_kids, hl]
    simp
theorem fixParts_len (k b : Nat) : ∀ m, (fixParts k b m).length = 3 * m
  | 0 => rfl
  | m + 1 => by
    unfold fixParts
    rw [List.length_cons, List.length_cons, List.length_cons, fixParts_len k b m]
    omega
theorem follow_few {n : Node3} (h : holdsN n) : (follow n 0).length ≤ 100 := by
  unfold holdsN at h
  unfold follow
  split
  · rw [List.length_replicate]; omega
  split
  · simp
  split
  · simp
  split
  · simp
  split
  · rw [List.length_replicate]; omega
  split
  · rw [fixParts_len]; omega
  · simp
theorem parts_lens : ∀ {todo : List Part} {ks : List (List Node3)} {r : List Node3}, PartsR todo ks r → ks.length ≤ todo.length ∧ ∀ k ∈ ks, k.length ≤ r.length
  | [], ks, r, h => by
    have h1 : ks = [] := h.1
    rw [h1]
    exact ⟨Nat.le_refl _, fun k hk => by cases hk⟩
  | p :: todo, ks, r, h => by
    unfold PartsR at h
    by_cases hp : p.op = 0
    · rw [if_pos hp] at h
      obtain ⟨k, ls, s, rfl, rfl, -, h1⟩ := h
      have ih := parts_lens h1
      refine ⟨by simpa using ih.1, fun y hy => ?_⟩
      rw [List.length_append]
      rcases List.mem_cons.1 hy with rfl | hy
      · omega
      · have := ih.2 y hy; omega
    · rw [if_neg hp] at h
      obtain ⟨x, s, rfl, h1⟩ := h
      have ih := parts_lens h1
      refine ⟨by rw [List.length_cons]; omega, fun y hy => ?_⟩
      rw [List.length_cons]
      have := ih.2 y hy
      omega
theorem KidsR.lens {t : List Node3} {n : Node3} {ks : List (List Node3)} (h : KidsR t n ks) : ∀ k ∈ ks, k.length ≤ t.length := by
  obtain ⟨r, rfl, hl, hp⟩ := h
  intro k hk
  by_cases h2 : n.1 = 2
  · rw [(follow_sort h2).2] at hl
    rw [List.eq_nil_of_length_eq_zero hl] at hk
    cases hk
  · have := (parts_lens (hp h2)).2 k hk
    rw [List.length_cons]
    omega
end Go.Proofs.YtkkkblghihheeaaDoor
namespace Go.Proofs.YtkkkblghihheeaaDoor
open Go.RowKit

theorem moved2 {w w2 w3 : World} {bo : Nat} {X X' : Value} (hb : Below w.heap.size w w2) (hmv : Moves w2 X w3 X') (i : Nat) (u : Value) : Only (fun k => X.ownBlock = some k ∨ k = bo) w (w3.setCell ⟨bo, i, none⟩ u) :=
  (((Only.of_below (F := fun k => X.ownBlock = some k ∨ k = bo) hb).trans hmv.only fun _ _ e => .inl e).trans ((Only.refl (fun k => k = bo) w3).set_ (.inl rfl) i u) fun _ _ e => .inr e)
theorem KRun.only {B : Nat} {w w' : World} {F : Nat → Prop} {v : Value} {L : List RowT} (h : KRun B w v L) (ho : Only F w w') (hF : ∀ k, F k → k < B) : KRun B w' v L :=
  ⟨own_only h.own ho fun k hk e => by have := h.nb k hk; have := hF k e; omega, h.nb, fun x hx => own_only (h.rows x hx) ho fun k hk e => by
      have := (h.ne x hx k 0 (rowV_block (h.rows x hx) hk)).1; have := hF k e; omega,
    fun x hx b o e => ⟨(h.ne x hx b o e).1, Nat.lt_of_lt_of_le (h.ne x hx b o e).2.1 ho.size, (h.ne x hx b o e).2.2⟩, h.ap⟩
set_option maxHeartbeats 2000000 in
theorem kids1_any (bl B m c k cr : Nat) (A R : Option Addr) (x : List Node3) (L : List RowT) (ar : Int) (W : World) (hW : Whole W bl #[.slice R k cr] 30) (hR : KRun B W (.slice R k cr) L) (hk : L.length = k) (hkb : k ≤ 100000) (hbl : bl < B) (hBW : B ≤ W.heap.size) (hx : x.length = m) (hs : Slice A m c) (hA : Holds W A (nodesV x)) (hmb : m ≤ 100000) :
    Calls Tryd.prog 48 #[.slice A m c, .int .i64 ar, .pointer (some ⟨bl, 0, none⟩)] W fun e W' => e = .returned (.tuple #[]) ∧ ∃ A' c' R' cr', KRun B W' (.slice R' (k + 1) cr') (L ++ [(A', c', x)]) ∧ Whole W' bl #[.slice R' (k + 1) cr'] 30 ∧ Only (fun j => j = bl ∨ (Value.slice R k cr).ownBlock = some j) W W' := by
  have hlt := hW.lt
  have HCL := Lib.hid (tclone_any A m c x W.drew hx hs hA (by omega))
  have cb : W.drew.cell? ⟨bl, 0, none⟩ = some (.slice R k cr) := hW.cell 0
  have HWB := Lib.hid (show Whole W.drew bl #[.slice R k cr] 30 from hW)
  have HR := Lib.hid (hR.next (w1 := W.drew) (below_drewN (Below.refl _ _) 1))
  have HLN := Lib.hid hk
  have HXM := Lib.hid hx
  have HBS : Hid (B ≤ W.drew.heap.size) := Lib.hid hBW
  have HNE : Hid ((Value.slice R k cr).ownBlock ≠ some bl) := Lib.hid fun e => by have := hR.nb bl e; omega
  have HBL := Lib.hid hbl
  clear hW hR hk hx hs hA hBW
  go_enter Tryd.func48, Tryd.ntmps48
  go_wp2_with fail
  refine region_begin_any (S := fun _ => True) (by kernel_rfl) (trivial) (fun W hW hHeld => ?_)
  subst hW
  refine region_take 1 ?_ rfl (by kernel_rfl) (by rfl) hHeld ?_ ?_
  rotate_left
  · intro w hSw
    (try dsimp only at hSw)
    go_simp
    try with_reducible rfl
  try simp only [Act.put, List.setIfInBounds_toArray, List.set_cons_zero, List.set_cons_succ]
  refine region_two 0 2 rfl rfl (by kernel_rfl) (by rfl) (by rfl) (fun K hK => ?_) (fun K hK => ?_)
  · go_simp
    refine hK.out _ _ (trivial) (fun hHeld => ?_)
    clear hK K
    try simp only [Act.put, List.setIfInBounds_toArray, List.set_cons_zero, List.set_cons_succ]
    refine region_call 2 rfl (by kernel_rfl) (by rfl) (fun K hK => ?_)
    go_simp
    refine (HCL.out).mono ?_
    rintro e w2 ⟨Ak, ck, rfl, hok, hb2⟩
    refine hK.out _ _ (trivial) (fun hHeld => ?_)
    clear hK K
    have cb2 := (hb2.cell (p := ⟨bl, 0, none⟩) hlt).trans cb
    have HB2 := Lib.hid hb2
    have HOK := Lib.hid hok
    have HLT := Lib.hid (show Below w2.heap.size w2 (w2.alloc (.cells #[.slice Ak m ck] 23)) from (Below.refl _ _).alloc (Nat.le_refl _) _)
    have cb3 := (HLT.out.cell (p := ⟨bl, 0, none⟩) (Nat.lt_of_lt_of_le hlt hb2.size)).trans cb2
    have HLH := Lib.hid (holds_at w2 #[.slice Ak m ck] 23 [.slice Ak m ck] rfl)
    have HOW := Lib.hid (show World.ownsRow (w2.alloc (.cells #[.slice Ak m ck] 23)) 0 23 1 (.slice R k cr) k (L.map rowV) by have := own_below (own_below HR.out.own hb2) HLT.out; rwa [HLN.out] at this)
    clear hb2 hok
    try simp only [Act.put, List.setIfInBounds_toArray, List.set_cons_zero, List.set_cons_succ]
    refine region_call 3 rfl (by kernel_rfl) (by rfl) (fun K hK => ?_)
    go_simp
    refine hK.out _ _ (trivial) (fun hHeld => ?_)
    clear hK K
    try simp only [Act.put, List.setIfInBounds_toArray, List.set_cons_zero, List.set_cons_succ]
    refine region_call 4 rfl (by kernel_rfl) (by rfl) (fun K hK => ?_)
    refine wp_append_at (.tmp 5) (.tmp 8) 30 30 _ rfl Tryd.underlying30 23 _ 1 24 infoRowT rfl (by decide) Tryd.underlying30 (.slice R k cr) k 1 _ _ rfl HOW.out (some ⟨w2.heap.size, 0, none⟩) 1 rfl ⟨Nat.le_refl _, by omega, fun h => by cases h⟩ HLH.out rfl (by intro u hu; simp only [List.mem_cons, List.not_mem_nil, or_false] at hu; subst hu; rfl) (by omega) (by decide) ?_
    intro v7 w7 hown7 hmv7
    refine hK.out _ _ (trivial) (fun hHeld => ?_)
    clear hK K
    have hst := HR.out.step HBS.out HB2.out HOK.out HXM.out HLT.out (by rw [HLN.out]; simpa [rowV, HXM.out] using hown7) hmv7
    have hw7 := ((HWB.out.below HB2.out hlt).below HLT.out (Nat.lt_of_lt_of_le hlt HB2.out.size)).only hmv7.only (fun e => HNE.out e)
    obtain ⟨A7, c7, rfl, -, -⟩ := own_slice hown7
    have cb7 : w7.cell? ⟨bl, 0, none⟩ = some (.slice R k cr) := hw7.cell 0
    have fb7 : w7.frozen? ⟨bl, 0, none⟩ = false := hw7.frozen 0
    have HST := Lib.hid hst.1
    have HM7 := Lib.hid hmv7
    have HW7 := Lib.hid hw7
    clear hown7 hmv7 hst hw7
    try simp only [Act.put, List.setIfInBounds_toArray, List.set_cons_zero, List.set_cons_succ]
    refine region_call 5 rfl (by kernel_rfl) (by rfl) (fun K hK => ?_)
    go_simp
    refine hK.out _ _ (trivial) (fun hHeld => ?_)
    clear hK K
    try simp only [Act.put, List.setIfInBounds_toArray, List.set_cons_zero, List.set_cons_succ]
    refine region_done (by kernel_rfl) ?_
    go_wp2_with fail
    go_end0
    have hb07 : Below W.heap.size W (w2.alloc (.cells #[.slice Ak m ck] 23)) := (below_step (below_drewN (Below.refl _ _) 1) HB2.out).trans (HLT.out.mono (by have := HB2.out.size; exact this))
    exact ⟨rfl, Ak, ck, A7, c7, HST.out.only ((Only.refl (fun j => j = bl) w7).set_ (.inl rfl) 0 _) (fun j e => by have := HBL.out; omega), HW7.out.set_ 0 _, (moved2 (bo := bl) hb07 HM7.out 0 _).mono fun j h => h.symm⟩
  · go_simp
    refine (HCL.out).mono ?_
    rintro e w2 ⟨Ak, ck, rfl, hok, hb2⟩
    refine hK.out _ _ (trivial) (fun hHeld => ?_)
    clear hK K
    have cb2 := (hb2.cell (p := ⟨bl, 0, none⟩) hlt).trans cb
    have HB2 := Lib.hid hb2
    have HOK := Lib.hid hok
    have HLT := Lib.hid (show Below w2.heap.size w2 (w2.alloc (.cells #[.slice Ak m ck] 23)) from (Below.refl _ _).alloc (Nat.le_refl _) _)
    have cb3 := (HLT.out.cell (p := ⟨bl, 0, none⟩) (Nat.lt_of_lt_of_le hlt hb2.size)).trans cb2
    have HLH := Lib.hid (holds_at w2 #[.slice Ak m ck] 23 [.slice Ak m ck] rfl)
    have HOW := Lib.hid (show World.ownsRow (w2.alloc (.cells #[.slice Ak m ck] 23)) 0 23 1 (.slice R k cr) k (L.map rowV) by have := own_below (own_below HR.out.own hb2) HLT.out; rwa [HLN.out] at this)
    clear hb2 hok
    try simp only [Act.put, List.setIfInBounds_toArray, List.set_cons_zero, List.set_cons_succ]
    refine region_two 0 3 rfl rfl (by kernel_rfl) (by rfl) (by rfl) (fun K hK => ?_) (fun K hK => ?_)
    · go_simp
      refine hK.out _ _ (trivial) (fun hHeld => ?_)
      clear hK K
      try simp only [Act.put, List.setIfInBounds_toArray, List.set_cons_zero, List.set_cons_succ]
      refine region_call 3 rfl (by kernel_rfl) (by rfl) (fun K hK => ?_)
      go_simp
      refine hK.out _ _ (trivial) (fun hHeld => ?_)
      clear hK K
      try simp only [Act.put, List.setIfInBounds_toArray, List.set_cons_zero, List.set_cons_succ]
      refine region_call 4 rfl (by kernel_rfl) (by rfl) (fun K hK => ?_)
      refine wp_append_at (.tmp 5) (.tmp 8) 30 30 _ rfl Tryd.underlying30 23 _ 1 24 infoRowT rfl (by decide) Tryd.underlying30 (.slice R k cr) k 1 _ _ rfl HOW.out (some ⟨w2.heap.size, 0, none⟩) 1 rfl ⟨Nat.le_refl _, by omega, fun h => by cases h⟩ HLH.out rfl (by intro u hu; simp only [List.mem_cons, List.not_mem_nil, or_false] at hu; subst hu; rfl) (by omega) (by decide) ?_
      intro v7 w7 hown7 hmv7
      refine hK.out _ _ (trivial) (fun hHeld => ?_)
      clear hK K
      have hst := HR.out.step HBS.out HB2.out HOK.out HXM.out HLT.out (by rw [HLN.out]; simpa [rowV, HXM.out] using hown7) hmv7
      have hw7 := ((HWB.out.below HB2.out hlt).below HLT.out (Nat.lt_of_lt_of_le hlt HB2.out.size)).only hmv7.only (fun e => HNE.out e)
      obtain ⟨A7, c7, rfl, -, -⟩ := own_slice hown7
      have cb7 : w7.cell? ⟨bl, 0, none⟩ = some (.slice R k cr) := hw7.cell 0
      have fb7 : w7.frozen? ⟨bl, 0, none⟩ = false := hw7.frozen 0
      have HST := Lib.hid hst.1
      have HM7 := Lib.hid hmv7
      have HW7 := Lib.hid hw7
      clear hown7 hmv7 hst hw7
      try simp only [Act.put, List.setIfInBounds_toArray, List.set_cons_zero, List.set_cons_succ]
      refine region_call 5 rfl (by kernel_rfl) (by rfl) (fun K hK => ?_)
      go_simp
      refine hK.out _ _ (trivial) (fun hHeld => ?_)
      clear hK K
      try simp only [Act.put, List.setIfInBounds_toArray, List.set_cons_zero, List.set_cons_succ]
      refine region_done (by kernel_rfl) ?_
      go_wp2_with fail
      go_end0
      have hb07 : Below W.heap.size W (w2.alloc (.cells #[.slice Ak m ck] 23)) := (below_step (below_drewN (Below.refl _ _) 1) HB2.out).trans (HLT.out.mono (by have := HB2.out.size; exact this))
      exact ⟨rfl, Ak, ck, A7, c7, HST.out.only ((Only.refl (fun j => j = bl) w7).set_ (.inl rfl) 0 _) (fun j e => by have := HBL.out; omega), HW7.out.set_ 0 _, (moved2 (bo := bl) hb07 HM7.out 0 _).mono fun j h => h.symm⟩
    · go_simp
      refine hK.out _ _ (trivial) (fun hHeld => ?_)
      clear hK K
      try simp only [Act.put, List.setIfInBounds_toArray, List.set_cons_zero, List.set_cons_succ]
      refine region_call 0 rfl (by kernel_rfl) (by rfl) (fun K hK => ?_)
      go_simp
      refine hK.out _ _ (trivial) (fun hHeld => ?_)
      clear hK K
      try simp only [Act.put, List.setIfInBounds_toArray, List.set_cons_zero, List.set_cons_succ]
      refine region_call 4 rfl (by kernel_rfl) (by rfl) (fun K hK => ?_)
      refine wp_append_at (.tmp 5) (.tmp 8) 30 30 _ rfl Tryd.underlying30 23 _ 1 24 infoRowT rfl (by decide) Tryd.underlying30 (.slice R k cr) k 1 _ _ rfl HOW.out (some ⟨w2.heap.size, 0, none⟩) 1 rfl ⟨Nat.le_refl _, by omega, fun h => by cases h⟩ HLH.out rfl (by intro u hu; simp only [List.mem_cons, List.not_mem_nil, or_false] at hu; subst hu; rfl) (by omega) (by decide) ?_
      intro v7 w7 hown7 hmv7
      refine hK.out _ _ (trivial) (fun hHeld => ?_)
      clear hK K
      have hst := HR.out.step HBS.out HB2.out HOK.out HXM.out HLT.out (by rw [HLN.out]; simpa [rowV, HXM.out] using hown7) hmv7
      have hw7 := ((HWB.out.below HB2.out hlt).below HLT.out (Nat.lt_of_lt_of_le hlt HB2.out.size)).only hmv7.only (fun e => HNE.out e)
      obtain ⟨A7, c7, rfl, -, -⟩ := own_slice hown7
      have cb7 : w7.cell? ⟨bl, 0, none⟩ = some (.slice R k cr) := hw7.cell 0
      have fb7 : w7.frozen? ⟨bl, 0, none⟩ = false := hw7.frozen 0
      have HST := Lib.hid hst.1
      have HM7 := Lib.hid hmv7
      have HW7 := Lib.hid hw7
      clear hown7 hmv7 hst hw7
      try simp only [Act.put, List.setIfInBounds_toArray, List.set_cons_zero, List.set_cons_succ]
      refine region_call 5 rfl (by kernel_rfl) (by rfl) (fun K hK => ?_)
      go_simp
      refine hK.out _ _ (trivial) (fun hHeld => ?_)
      clear hK K
      try simp only [Act.put, List.setIfInBounds_toArray, List.set_cons_zero, List.set_cons_succ]
      refine region_done (by kernel_rfl) ?_
      go_wp2_with fail
      go_end0
      have hb07 : Below W.heap.size W (w2.alloc (.cells #[.slice Ak m ck] 23)) := (below_step (below_drewN (Below.refl _ _) 1) HB2.out).trans (HLT.out.mono (by have := HB2.out.size; exact this))
      exact ⟨rfl, Ak, ck, A7, c7, HST.out.only ((Only.refl (fun j => j = bl) w7).set_ (.inl rfl) 0 _) (fun j e => by have := HBL.out; omega), HW7.out.set_ 0 _, (moved2 (bo := bl) hb07 HM7.out 0 _).mono fun j h => h.symm⟩
theorem IRun.only {B : Nat} {w w' : World} {F : Nat → Prop} {v : Value} {l : List Int} (h : IRun B w v l) (ho : Only F w w') (hF : ∀ k, F k → k < B) : IRun B w' v l :=
  ⟨own_only h.own ho fun k hk e => by have := h.nb k hk; have := hF k e; omega, h.nb⟩
set_option maxHeartbeats 2000000 in
theorem binders1_any (bl B k cr : Nat) (X : Value) (R : Option Addr) (l : List Int) (ar : Nat) (W : World) (hW : Whole W bl #[.slice R k cr] 33) (hR : IRun B W (.slice R k cr) l) (hk : l.length = k) (hkb : k ≤ 100000) (hbl : bl < B) (hBW : B ≤ W.heap.size) :
    Calls Tryd.prog 52 #[X, .int .i64 (ar : Int), .pointer (some ⟨bl, 0, none⟩)] W fun e W' => e = .returned (.tuple #[]) ∧ ∃ R' cr', IRun B W' (.slice R' (k + 1) cr') (l ++ [(ar : Int)]) ∧ Whole W' bl #[.slice R' (k + 1) cr'] 33 ∧ Only (fun j => j = bl ∨ (Value.slice R k cr).ownBlock = some j) W W' := by
  have hlt := hW.lt
  have hbw : Below W.heap.size W (W.alloc (.cells #[.int .i64 (ar : Int)] 3)) := (Below.refl _ _).alloc (Nat.le_refl _) _
  have HBL := Lib.hid hbw
  have cb : W.cell? ⟨bl, 0, none⟩ = some (.slice R k cr) := hW.cell 0
  have HLH := Lib.hid (holds_at W #[.int .i64 (ar : Int)] 3 [.int .i64 (ar : Int)] rfl)
  have HR := Lib.hid (hR.next hbw)
  have HOW := Lib.hid (show World.ownsRow (W.alloc (.cells #[.int .i64 (ar : Int)] 3)) 0 3 1 (.slice R k cr) k (intsV l) by have := own_below hR.own hbw; rwa [hk] at this)
  have HLN := Lib.hid hk
  have HBS : Hid (B ≤ (W.alloc (.cells #[.int .i64 (ar : Int)] 3)).heap.size) := Lib.hid (Nat.le_trans hBW hbw.size)
  have HWB := Lib.hid (hW.below hbw hlt)
  have HNE : Hid ((Value.slice R k cr).ownBlock ≠ some bl) := Lib.hid fun e => by have := hR.nb bl e; omega
  have HBB := Lib.hid hbl
  clear hW hR hk hBW hbw
  go_enter Tryd.func52, Tryd.ntmps52
  go_wp2_with (at_builtin; go_must (refine wpList_append_tx rfl (.tmp 5) (.tmp 7) _ _ _ rfl Tryd.underlying33 3 _ 1 8 infoInt rfl (by decide) Tryd.underlying33 (.slice R k cr) k 1 _ _ rfl HOW.out (some ⟨W.heap.size, 0, none⟩) 1 rfl ⟨Nat.le_refl _, by omega, fun h => by cases h⟩ HLH.out rfl (by intro u hu; simp only [List.mem_cons, List.not_mem_nil, or_false] at hu; subst hu; rfl) (by omega) (by decide) ?_; intro v7 w7 hown7 hmv7; have hst := HR.out.step HBS.out (by rw [HLN.out]; exact hown7) hmv7; have hw7 := HWB.out.only hmv7.only (fun e => HNE.out e); obtain ⟨A7, c7, rfl, -, -⟩ := own_slice hown7; have cb7 : w7.cell? ⟨bl, 0, none⟩ = some (.slice R k cr) := hw7.cell 0; have fb7 : w7.frozen? ⟨bl, 0, none⟩ = false := hw7.frozen 0; have HST := Lib.hid hst.1; have HM7 := Lib.hid hmv7; have HW7 := Lib.hid hw7; clear hown7 hmv7 hst hw7))
  go_end0
  exact ⟨rfl, A7, c7, HST.out.only ((Only.refl (fun j => j = bl) w7).set_ (.inl rfl) 0 _) (fun j e => by have := HBB.out; omega), HW7.out.set_ 0 _, (moved2 (bo := bl) HBL.out HM7.out 0 _).mono fun j h => h.symm⟩
end Go.Proofs.YtkkkblghihheeaaDoor
namespace Go.Proofs.YtkkkblghihheeaaDoor
open Go.RowKit

theorem grown_only {W W' : World} {row : Option Nat} (h : W.grownBy W' row) : Only (fun k => row = some k) W W' := ⟨h.os, h.tape, h.output, h.size, fun k hk hn => h.block k hk fun e => hn e.symm⟩
/-- It speaks of cells alone. -/
def Stab (P : World → Prop) : Prop := ∀ (W W' : World) (F : Nat → Prop), P W → Only F W W' → (∀ k, F k → ∃ o : Obj, W.heap[k]? = some o ∧ o.isCells = false) → P W'
theorem Stab.own {β : Type} {I : β → World → Prop} (h : ∀ s, Stab (I s)) (B : Nat) : OwnFrom B I := fun s W W' _ hs hg hr => h s W W' _ hs (grown_only hg) fun k e => (hr k e).2
theorem Stab.and {P Q : World → Prop} (hP : Stab P) (hQ : Stab Q) : Stab fun W => P W ∧ Q W := fun W W' F h ho hF => ⟨hP W W' F h.1 ho hF, hQ W W' F h.2 ho hF⟩
theorem stab_whole (g : Nat) (cs : Array Value) (t : TypeId) : Stab fun W => Whole W g cs t := fun W W' F h ho hF => h.only ho fun e => by
  obtain ⟨o, h1, h2⟩ := hF g e
  unfold Whole at h
  rw [h] at h1
  cases h1
  cases h2
theorem cells_of {W : World} {b o : Nat} {u : Value} (h : W.cell? ⟨b, o, none⟩ = some u) : ∃ cs t fr, W.heap[b]? = some (.cells cs t fr) := by
  unfold World.cell? at h
  cases e : W.heap[b]? with
  | none => simp [e] at h
  | some x =>
    cases x with
    | cells cs t fr => exact ⟨cs, t, fr, rfl⟩
    | _ => simp [e] at h
theorem stab_holds (A : Option Addr) (vs : List Value) : Stab fun W => Holds W A vs := fun W W' F h ho hF => fun hn => by
  obtain ⟨b, o, e, hc⟩ := h hn
  refine ⟨b, o, e, fun j u hu => ?_⟩
  have h0 := hc j u hu
  obtain ⟨cs, t, fr, hx⟩ := cells_of h0
  have hb : ¬ F b := fun e => by
    obtain ⟨x, h1, h2⟩ := hF b e
    rw [hx] at h1
    cases h1
    cases h2
  exact (World.cell?_of_block (ho.block b (Array.getElem?_eq_some_iff.1 hx).1 hb)).trans h0
theorem stab_row (B e sz n : Nat) (v : Value) (xs : List Value) : Stab fun W => W.ownsRow B e sz v n xs := fun W W' F h ho hF => own_only h ho fun k hk e' => by
  rcases h.2 with ⟨rfl, -⟩ | ⟨g, cap, cur, rfl, hB, hg, -⟩
  · simp [Value.ownBlock] at hk
  · simp only [Value.ownBlock, Option.some.injEq] at hk
    subst hk
    obtain ⟨x, h1, h2⟩ := hF _ e'
    rw [hg] at h1
    cases h1
    cases h2
theorem stab_krun (B : Nat) (v : Value) (L : List RowT) : Stab fun W => KRun B W v L := fun W W' F h ho hF =>
  ⟨stab_row _ _ _ _ _ _ W W' F h.own ho hF, h.nb, fun x hx => stab_row _ _ _ _ _ _ W W' F (h.rows x hx) ho hF, fun x hx b o e => ⟨(h.ne x hx b o e).1, Nat.lt_of_lt_of_le (h.ne x hx b o e).2.1 ho.size, (h.ne x hx b o e).2.2⟩, h.ap⟩
theorem stab_irun (B : Nat) (v : Value) (l : List Int) : Stab fun W => IRun B W v l := fun W W' F h ho hF => ⟨stab_row _ _ _ _ _ _ W W' F h.own ho hF, h.nb⟩
end Go.Proofs.YtkkkblghihheeaaDoor
namespace Go.Proofs.YtkkkblghihheeaaDoor
open Go.RowKit Go.Shelf

attribute [local go_sem] Oper.semAt_some
/-- What comes, the last part first: its place, and the part. -/
def downP (ps : List Part) (k : Nat) : List (Nat × Part) := (List.range k).map fun j => (ps.length - 1 - j, ps.getD (ps.length - 1 - j) ⟨0, 0⟩)
theorem downP_succ (ps : List Part) (k : Nat) : downP ps (k + 1) = downP ps k ++ [(ps.length - 1 - k, ps.getD (ps.length - 1 - k) ⟨0, 0⟩)] := by simp [downP, List.range_succ]
theorem downP_length (ps : List Part) (k : Nat) : (downP ps k).length = k := by simp [downP]
/-- What a round keeps: the iterator's box, and the parts. -/
def KpP (Bs b : Nat) (W W' : World) : Prop := ∀ k, k = Bs ∨ k = b → W'.heap[k]? = W.heap[k]?
theorem KpP.refl (Bs b : Nat) (W : World) : KpP Bs b W W := fun _ _ => rfl
theorem KpP.trans {Bs b : Nat} {A B C : World} (h : KpP Bs b A B) (k : KpP Bs b B C) : KpP Bs b A C := fun i hi => (k i hi).trans (h i hi)
theorem KpP.cell {Bs b : Nat} {W W' : World} (h : KpP Bs b W W') {k o : Nat} (hk : k = Bs ∨ k = b) : W'.cell? ⟨k, o, none⟩ = W.cell? ⟨k, o, none⟩ := World.cell?_of_block (h k hk)
set_option maxRecDepth 100000 in
set_option maxHeartbeats 1000000 in
theorem back1_in (F : Fence) (n : Nat) (h8 : F.fn 83) (hro : F.round = none) (hn : 1 ≤ n) (l Bs b off len cap : Nat) (ps : List Part) (hlen : ps.length = len) (hreach : len ≤ 100000) (J Jx : List (Nat × Part) → World → Prop)
    (hY : ∀ pre (x : Nat × Part) W, J pre W → pre.length < len → YieldAt F (n - 1) Tryd.prog l #[.int .i64 (x.1 : Int), .agg #[.int .i64 x.2.op, .int .i64 (x.2.k : Int)]] W fun e W' =>
      (e = .returned (.bool true) ∧ J (pre ++ [x]) W' ∧ KpP Bs b W W') ∨ (e = .returned (.bool false) ∧ Jx (pre ++ [x]) W'))
    (W : World) (hBs : W.cell? ⟨Bs, 0, none⟩ = some (.slice (some ⟨b, off, none⟩) len cap)) (hc : ∀ j, j < len → W.cell? ⟨b, off + j * 2, none⟩ = some (.int .i64 (ps.getD j ⟨0, 0⟩).op) ∧ W.cell? ⟨b, off + j * 2 + 1, none⟩ = some (.int .i64 ((ps.getD j ⟨0, 0⟩).k : Int))) (h0 : J [] W) :
    CallsIn F n Tryd.prog 83 #[.func (.yield l) #[] #[], .pointer (some ⟨Bs, 0, none⟩)] W fun e W' => (∃ v, e = .returned v) ∧
      ((∃ ys, ys = downP ps len ∧ J ys W') ∨ (∃ pre, (∃ k, k ≤ len ∧ pre = downP ps k) ∧ Jx pre W')) := by
  refine callsIn_of_wp Tryd.func83 rfl h8 ?_ hro
  simp only [Tryd.ntmps83, List.size_toArray, List.length_cons, List.length_nil, Nat.reduceAdd, Nat.reduceSub, Array.replicate_succ, Array.replicate_zero, List.push_toArray, List.append_toArray, List.nil_append, List.cons_append]
  have ew := IntWalk.i64_in ((len : Int) - 1) (by omega)
  gi_wp2
  gi_loopw [3] (fun i wr => ∃ k q : Nat, q + k = len ∧ i = .int .i64 ((q : Int) - 1) ∧ J (downP ps k) wr ∧ KpP Bs b W wr)
    (fun i _ => (intOf i + 1).toNat)
  case atStart => exact ⟨0, len, by omega, rfl, h0, KpP.refl _ _ _⟩
  case round =>
    obtain ⟨k, q, hk, rfl, hJs, hnx⟩ := hrel
    have hB := (hnx.cell (.inl rfl)).trans hBs
    cases q with
    | zero =>
      obtain rfl : k = len := by omega
      gi_wp2
      go_end0
      exact ⟨⟨_, rfl⟩, .inl ⟨_, rfl, hJs⟩⟩
    | succ q =>
      have hq : q < len := by omega
      obtain ⟨fn, tmps, assign, body, hy, hR⟩ := hY _ (q, ps.getD q ⟨0, 0⟩) wr hJs (by rw [downP_length]; omega)
      have r0 := (hnx.cell (.inr rfl)).trans (hc q hq).1
      have r1 := (hnx.cell (.inr rfl)).trans (hc q hq).2
      have hds : downP ps k ++ [(q, ps.getD q ⟨0, 0⟩)] = downP ps (k + 1) := by rw [downP_succ, show ps.length - 1 - k = q by omega]
      rw [hds] at hR
      have hkk : k + 1 ≤ len := by omega
      generalize ps.getD q ⟨0, 0⟩ = x at *
      obtain ⟨xo, xk⟩ := x
      dsimp only at hy r0 r1
      have ewq := IntWalk.i64_in ((q : Int) - 1) (by omega)
      have hk' : q + (k + 1) = len := by omega
      clear hds hk
      gi_wp2
      refine hR.mono ?_
      rintro e W3 (⟨rfl, hJ3, hk3⟩ | ⟨rfl, hJx3⟩)
      · gi_wp2
        go_roundw
        case rel => exact ⟨k + 1, q, hk', by simp, hJ3, hnx.trans hk3⟩
        case measure => simp [intOf]
      · gi_wp2
        refine bodyPost_ret (results_none rfl _ _ _) rfl ?_
        exact ⟨⟨_, rfl⟩, .inr ⟨_, ⟨k + 1, hkk, rfl⟩, hJx3⟩⟩
set_option maxRecDepth 100000 in
set_option maxHeartbeats 1000000 in
theorem back1_nil_in (F : Fence) (n : Nat) (h8 : F.fn 83) (hro : F.round = none) (l Bs : Nat) (J : List (Nat × Part) → World → Prop) (W : World) (hBs : W.cell? ⟨Bs, 0, none⟩ = some (.slice none 0 0)) (h0 : J [] W) :
    CallsIn F n Tryd.prog 83 #[.func (.yield l) #[] #[], .pointer (some ⟨Bs, 0, none⟩)] W fun e W' => (∃ v, e = .returned v) ∧ J [] W' := by
  refine callsIn_of_wp Tryd.func83 rfl h8 ?_ hro
  simp only [Tryd.ntmps83, List.size_toArray, List.length_cons, List.length_nil, Nat.reduceAdd, Nat.reduceSub, Array.replicate_succ, Array.replicate_zero, List.push_toArray, List.append_toArray, List.nil_append, List.cons_append]
  gi_wp2
  gi_loopw [3] (fun i wr => i = .int .i64 (-1) ∧ J [] wr) (fun _ _ => 0)
  case atStart => exact ⟨rfl, h0⟩
  case round =>
    obtain ⟨rfl, hJs⟩ := hrel
    gi_wp2
    go_end0
    exact ⟨⟨_, rfl⟩, hJs⟩
set_option maxHeartbeats 1000000 in
/-- slices.Backward(s): the slice is boxed; the function value captures the box. -/
theorem back_in (F : Fence) (n : Nat) (h6 : F.fn 77) (hro : F.round = none) (a : Option Addr) (len cap : Nat) (w : World) :
    CallsIn F n Tryd.prog 77 #[.slice a len cap] w fun e w' => e = .returned (.func (.func 83) #[] #[.pointer (some ⟨w.heap.size, 0, none⟩)]) ∧ w' = w.alloc (.cells #[.slice a len cap] 91) := by
  refine callsIn_of_wp Tryd.func77 rfl h6 ?_ hro
  simp only [Tryd.ntmps77, List.size_toArray, List.length_cons, List.length_nil, Nat.reduceAdd, Nat.reduceSub, Array.replicate_succ, Array.replicate_zero, List.push_toArray, List.append_toArray, List.nil_append, List.cons_append]
  gi_wp2
  go_ret
  exact ⟨rfl, rfl⟩
/-- Parts in memory, in block b. -/
def PartsAt (b : Nat) (W : World) (sv : Value) (ps : List Part) : Prop :=
  (sv = .slice none 0 0 ∧ ps = []) ∨ ∃ off cap, sv = .slice (some ⟨b, off, none⟩) ps.length cap ∧ b < W.heap.size ∧ ∀ j, j < ps.length → W.cell? ⟨b, off + j * 2, none⟩ = some (.int .i64 (ps.getD j ⟨0, 0⟩).op) ∧ W.cell? ⟨b, off + j * 2 + 1, none⟩ = some (.int .i64 ((ps.getD j ⟨0, 0⟩).k : Int))
theorem PartsAt.below {b : Nat} {A B : World} {sv : Value} {ps : List Part} (h : PartsAt b A sv ps) (hb : Below A.heap.size A B) : PartsAt b B sv ps := by
  rcases h with h | ⟨off, cap, e, hlt, hc⟩
  · exact .inl h
  · exact .inr ⟨off, cap, e, Nat.lt_of_lt_of_le hlt hb.size, fun j hj => ⟨(hb.cell (p := ⟨b, off + j * 2, none⟩) hlt).trans (hc j hj).1, (hb.cell (p := ⟨b, off + j * 2 + 1, none⟩) hlt).trans (hc j hj).2⟩⟩
theorem back_stops (F : Fence) (n : Nat) (h8 : F.fn 83) (hro : F.round = none) (hn : 1 ≤ n) (Bs b : Nat) (sv : Value) (ps : List Part) (hreach : ps.length ≤ 100000) (w : World) (hBs : Bs < w.heap.size)
    (hc : w.cell? ⟨Bs, 0, none⟩ = some sv) (hI : PartsAt b w sv ps) :
    SeqStopsK F n Tryd.prog 83 #[.pointer (some ⟨Bs, 0, none⟩)] (fun x : Nat × Part => #[Value.int .i64 (x.1 : Int), Value.agg #[.int .i64 x.2.op, .int .i64 (x.2.k : Int)]]) (KpP Bs b) (fun ys => ys = downP ps ps.length)
      (fun pre => ∃ k, k ≤ ps.length ∧ pre = downP ps k) ps.length w := fun l J Jx W hW _ _ hY h0 => by
  have hc' := (hW.cell (p := ⟨Bs, 0, none⟩) hBs).trans hc
  rcases hI.below hW with ⟨rfl, rfl⟩ | ⟨off, cap, rfl, hb, hcs⟩
  · exact (back1_nil_in F n h8 hro l Bs J W hc' h0).mono fun e W' ⟨he, hj⟩ => ⟨he, .inl ⟨_, rfl, hj⟩⟩
  · exact back1_in F n h8 hro hn l Bs b off ps.length cap ps rfl hreach J Jx hY W hc' hcs h0
theorem partsV_at : ∀ {l : List Part} {j : Nat}, j < l.length → (partsV l)[j * 2]? = some (.int .i64 (l.getD j ⟨0, 0⟩).op) ∧ (partsV l)[j * 2 + 1]? = some (.int .i64 ((l.getD j ⟨0, 0⟩).k : Int))
  | [], _, h => by simp at h
  | p :: l, 0, _ => by rw [partsV_cons]; exact ⟨rfl, rfl⟩
  | p :: l, j + 1, h => by
    have ih := partsV_at (l := l) (j := j) (by simpa using h)
    have e : partsV (p :: l) = .int .i64 p.op :: .int .i64 (p.k : Int) :: partsV l := by rw [partsV_cons]; rfl
    rw [e, show (j + 1) * 2 = j * 2 + 1 + 1 by omega]
    simpa using ih
theorem OwnP.parts {w : World} {v : Value} {ps : List Part} (h : OwnP w v ps) : ∃ b, PartsAt b w v ps ∧ (b = 0 ∨ v.ownBlock = some b) := by
  rcases h.2 with ⟨rfl, hn⟩ | ⟨g, cap, cur, rfl, hB, hg, h1, h2, hr⟩
  · exact ⟨0, .inl ⟨rfl, List.eq_nil_of_length_eq_zero hn⟩, .inl rfl⟩
  · have hlt := (World.ownsRow.lt h g (by simp [Value.ownBlock])).2
    have hh := own_holds h
    exact ⟨g, .inr ⟨0, cap, rfl, hlt, fun j hj => ⟨hh.cell (partsV_at hj).1, by have := hh.cell (partsV_at hj).2; rwa [← Nat.add_assoc] at this⟩⟩, .inr (by simp [Value.ownBlock])⟩
end Go.Proofs.YtkkkblghihheeaaDoor
namespace Go.Proofs.YtkkkblghihheeaaDoor
open Go.RowKit

/-- The iterator calls yield N times, with x 0, x 1 and so on, and makes nothing itself; a round that goes on keeps Kp. -/
def Comes (F : Fence) (n : Nat) (P : Program) (g : Nat) (lb : Array Value) (x : Nat → Array Value) (Kp : World → World → Prop) (N l : Nat) (W : World) : Prop :=
  ∀ J : Nat → World → Prop, (∀ k W1, k < N → J k W1 → YieldAt F (n - 1) P l (x k) W1 fun e W2 => e = .returned (.bool true) ∧ J (k + 1) W2 ∧ Kp W1 W2) → J 0 W →
    CallsIn F n P g (#[.func (.yield l) #[] #[]] ++ lb) W fun e W2 => (∃ v, e = .returned v) ∧ J N W2
theorem only_putObj (W : World) (l : Nat) (o : Obj) : Only (fun k => k = l) W (W.putObj l o) := ⟨rfl, rfl, rfl, by simp, fun _ _ hk => World.putObj_heap_other hk⟩
/-- As Stab, of what lies from B on. -/
def StabFrom (B : Nat) (p : World → Prop) : Prop := ∀ (W W' : World) (F : Nat → Prop), p W → Only F W W' → (∀ k, F k → B ≤ k ∧ ∃ o : Obj, W.heap[k]? = some o ∧ o.isCells = false) → p W'
theorem Stab.from {p : World → Prop} (h : Stab p) (B : Nat) : StabFrom B p := fun W W' F hp ho hF => h W W' F hp ho fun k hk => (hF k hk).2
theorem StabFrom.put {B : Nat} {p : World → Prop} (h : StabFrom B p) {W : World} {l : Nat} {o : Obj} (o' : Obj) (hp : p W) (hB : B ≤ l) (hl : W.heap[l]? = some o) (ho : o.isCells = false) : p (W.putObj l o') :=
  h W _ _ hp (only_putObj W l o') fun k e => ⟨by rw [e]; exact hB, o, by rw [e]; exact hl, ho⟩
theorem range_comes {F : Fence} {n : Nat} {P : Program} {g : Operand} {ps : Array Tmp} {assign body : Code} {Q : Exit → Act → World → Prop} {a : Act} {w : World} (hro : F.round = none) (h1 : 1 ≤ n)
    {gf : Nat} {lb : Array Value} (hg : a.eval g = .func (.func gf) #[] lb) (hF : F.fn gf) (he : ∀ args w, (callFunc gf args).run P w = .ok (.enter gf args) w)
    {x : Nat → Array Value} {Kp : World → World → Prop} {N : Nat} (hit : ∀ l W, Below w.heap.size w W → Comes F (n - 1) P gf lb x Kp N l W) (hx : ∀ k, (x k).size = ps.size)
    (hKt : ∀ {A B C : World}, Kp A B → Kp B C → Kp A C) (hKp : ∀ (W : World) (l : Nat) (o : Obj), w.heap.size ≤ l → Kp W (W.putObj l o))
    (I : Nat → World → Prop) (hI : ∀ k, StabFrom w.heap.size (I k)) (h0 : I 0 w) (A : Nat → Act → World → Prop) (hA : ∀ k a', StabFrom w.heap.size (A k a'))
    (hassign : ∀ l k W, k < N → w.heap.size ≤ W.heap.size → I k W → assign.wpIn (F.inRound l) (n - 1 - 1) P (Exit.then (fun a' W' => KeepsFrom w.heap.size W W' ∧ Kp W W' ∧ I k W' ∧ A k a' W') fun _ _ _ => False) { tmps := (ps.zip (x k)).foldl (fun t (p, v) => t.setIfInBounds p v) a.tmps, defers := [] } W)
    (hbody : ∀ l k a' W, k < N → w.heap.size ≤ W.heap.size → I k W → A k a' W → body.wpIn (F.inRound l) (n - 1 - 1) P (Exit.then (fun _ W' => KeepsFrom w.heap.size W W' ∧ Kp W W' ∧ I (k + 1) W') fun _ _ _ => False) a' W)
    (hdone : ∀ D W, w.heap.size ≤ D → I N W → W.heap[D]? = some (.deferred (some [])) → Q .normal { a with defers := { target := .collected D, args := #[] } :: a.defers } W) :
    (Code.rangeFunc g ps assign body).wpIn F n P Q a w := by
  refine wpIn_rangeFunc fun fn hfn => ?_
  rw [hro]
  obtain ⟨lp, hlp⟩ : ∃ lp : LoopState → Loop, lp = fun st => { state := st, pending := none, fn := fn, tmps := a.tmps, params := ps, assign := assign, body := body, defers := w.heap.size } := ⟨_, rfl⟩
  have hent := run_enterLoop_outer (P := P) (w := w) fn a.tmps ps assign body
  rw [show ({ state := .ready, pending := none, fn := fn, tmps := a.tmps, params := ps, assign := assign, body := body, defers := w.heap.size } : Loop) = lp .ready by rw [hlp]] at hent
  have hl1 : ((w.alloc (.deferred (some []))).alloc (.loop (lp .ready))).heap[w.heap.size + 1]? = some (.loop (lp .ready)) := by
    have := World.alloc_heap_new (w.alloc (.deferred (some []))) (.loop (lp .ready))
    simpa using this
  have hd1 : ((w.alloc (.deferred (some []))).alloc (.loop (lp .ready))).heap[w.heap.size]? = some (.deferred (some [])) :=
    (Below.heap_alloc _ _ _ (by simp)).trans (World.alloc_heap_new w _)
  have hb1 : Below w.heap.size w ((w.alloc (.deferred (some []))).alloc (.loop (lp .ready))) := ((Below.refl _ w).alloc (Nat.le_refl _) _).alloc (by simp) _
  generalize (w.alloc (.deferred (some []))).alloc (.loop (lp .ready)) = W1 at hent hl1 hd1 hb1
  refine ⟨w.heap.size + 1, [{ target := .collected w.heap.size, args := #[] }], W1, { target := .fn (.func gf) lb, args := #[.func (.yield (w.heap.size + 1)) #[] #[]] }, W1, gf, #[.func (.yield (w.heap.size + 1)) #[] #[]] ++ lb, W1,
    hent, by simp only [resolve, hg]; simp [go_sem], fun f hf => ?_, by simp [invoke, go_sem, he], fun _ => h1, ?_⟩
  · simp only [Target.leads, Option.some.injEq] at hf
    exact hf ▸ hF
  refine (hit (w.heap.size + 1) W1 hb1 (fun k W => I k W ∧ W.heap[w.heap.size + 1]? = some (.loop (lp .ready)) ∧ W.heap[w.heap.size]? = some (.deferred (some []))) (fun k W2 hk hJ => ?_)
    ⟨hI 0 w W1 (fun _ => False) h0 (Only.of_below hb1) (fun _ e => e.elim), hl1, hd1⟩).mono ?_
  · obtain ⟨hi, hl, hd⟩ := hJ
    have hy := run_yield (P := P) (args := x k) hl (by rw [hlp]; exact hx k)
    have hlt := (Array.getElem?_eq_some_iff.1 hl).1
    rw [hlp] at hy
    refine ⟨fn, _, assign, body, hy, roundIn_of_wpIn hfn (wpIn_mono (hassign _ k W2 hk (by omega) hi) ?_)⟩
    intro e a' W3 hp
    cases e with
    | normal =>
      obtain ⟨hk3, hkp3, hi3, ha3⟩ := hp
      have hl3 := hk3.same _ _ (by omega) hl rfl
      have hd3 := hk3.same _ _ (Nat.le_refl _) hd rfl
      have hlt3 := (Array.getElem?_eq_some_iff.1 hl3).1
      refine ⟨_, run_beginRound hl3 (by rw [hlp]), ?_⟩
      have hl4 := World.putObj_heap_same (w := W3) (o := .loop { lp .ready with state := .busy }) hlt3
      have hd4 := (World.putObj_heap_other (w := W3) (r := w.heap.size + 1) (k := w.heap.size) (o := .loop { lp .ready with state := .busy }) (by omega)).trans hd3
      refine wpIn_mono (hbody _ k a' _ hk (by rw [World.putObj_size]; omega) ((hI k).put _ hi3 (by omega) hl3 rfl) ((hA k a').put _ ha3 (by omega) hl3 rfl)) ?_
      intro e a5 W5 hp
      cases e with
      | normal =>
        obtain ⟨hk5, hkp5, hi5⟩ := hp
        have hl5 := hk5.same _ _ (by omega) hl4 rfl
        have hd5 := hk5.same _ _ (Nat.le_refl _) hd4 rfl
        have hr := run_endRound (P := P) none hl5
        rw [show ({ ({ lp .ready with state := .busy } : Loop) with state := if (none : Option Code).isNone then .ready else .done, pending := none } : Loop) = lp .ready by rw [hlp]; rfl] at hr
        exact ⟨_, _, hr, rfl, ⟨(hI (k + 1)).put _ hi5 (by omega) hl5 rfl, World.putObj_heap_same (Array.getElem?_eq_some_iff.1 hl5).1, (World.putObj_heap_other (by omega)).trans hd5⟩, hKt (hKt (hKt hkp3 (hKp _ _ _ (by omega))) hkp5) (hKp _ _ _ (by omega))⟩
      | _ => exact hp.elim
    | _ => exact hp.elim
  · rintro e W2 ⟨⟨v, rfl⟩, hi, hl, hd⟩
    have hend := run_endLoop (P := P) hl (by rw [hlp]; simp)
    rw [show (lp .ready).pending = none by rw [hlp]] at hend
    exact ⟨none, _, hend, hdone _ _ (Nat.le_refl _) ((hI N).put _ hi (by omega) hl rfl) ((World.putObj_heap_other (by omega)).trans hd)⟩
end Go.Proofs.YtkkkblghihheeaaDoor
namespace Go.Proofs.YtkkkblghihheeaaDoor
open Go.RowKit Go.Shelf

attribute [local go_sem] Oper.semAt_some
/-- What the k-th round is handed. -/
def backX (ps : List Part) (k : Nat) : Array Value := #[.int .i64 ((ps.length - 1 - k : Nat) : Int), .agg #[.int .i64 (ps.getD (ps.length - 1 - k) ⟨0, 0⟩).op, .int .i64 ((ps.getD (ps.length - 1 - k) ⟨0, 0⟩).k : Int)]]
set_option maxRecDepth 100000 in
set_option maxHeartbeats 1000000 in
theorem back1_comes (F : Fence) (n : Nat) (h8 : F.fn 83) (hro : F.round = none) (hn : 1 ≤ n) (l Bs b off len cap : Nat) (ps : List Part) (hlen : ps.length = len) (hreach : len ≤ 100000) (W : World)
    (hBs : W.cell? ⟨Bs, 0, none⟩ = some (.slice (some ⟨b, off, none⟩) len cap)) (hc : ∀ j, j < len → W.cell? ⟨b, off + j * 2, none⟩ = some (.int .i64 (ps.getD j ⟨0, 0⟩).op) ∧ W.cell? ⟨b, off + j * 2 + 1, none⟩ = some (.int .i64 ((ps.getD j ⟨0, 0⟩).k : Int))) :
    Comes F n Tryd.prog 83 #[.pointer (some ⟨Bs, 0, none⟩)] (backX ps) (KpP Bs b) len l W := by
  intro J hY h0
  refine callsIn_of_wp Tryd.func83 rfl h8 ?_ hro
  simp only [Tryd.ntmps83, List.size_toArray, List.length_cons, List.length_nil, Nat.reduceAdd, Nat.reduceSub, Array.replicate_succ, Array.replicate_zero, List.push_toArray, List.append_toArray, List.nil_append, List.cons_append]
  have ew := IntWalk.i64_in ((len : Int) - 1) (by omega)
  gi_wp2
  gi_loopw [3] (fun i wr => ∃ k q : Nat, q + k = len ∧ i = .int .i64 ((q : Int) - 1) ∧ J k wr ∧ KpP Bs b W wr)
    (fun i _ => (intOf i + 1).toNat)
  case atStart => exact ⟨0, len, by omega, rfl, h0, KpP.refl _ _ _⟩
  case round =>
    obtain ⟨k, q, hk, rfl, hJs, hnx⟩ := hrel
    have hB := (hnx.cell (.inl rfl)).trans hBs
    cases q with
    | zero =>
      obtain rfl : k = len := by omega
      gi_wp2
      go_end0
      exact ⟨⟨_, rfl⟩, hJs⟩
    | succ q =>
      have hq : q < len := by omega
      have hq2 : ps.length - 1 - k = q := by omega
      obtain ⟨fn, tmps, assign, body, hy, hR⟩ := hY k wr (by omega) hJs
      unfold backX at hy
      rw [hq2] at hy
      have r0 := (hnx.cell (.inr rfl)).trans (hc q hq).1
      have r1 := (hnx.cell (.inr rfl)).trans (hc q hq).2
      clear hq2
      generalize ps.getD q ⟨0, 0⟩ = x at *
      obtain ⟨xo, xk⟩ := x
      dsimp only at hy r0 r1
      have ewq := IntWalk.i64_in ((q : Int) - 1) (by omega)
      have hk' : q + (k + 1) = len := by omega
      clear hk
      gi_wp2
      refine hR.mono ?_
      rintro e W3 ⟨rfl, hJ3, hk3⟩
      gi_wp2
      go_roundw
      case rel => exact ⟨k + 1, q, hk', by simp, hJ3, hnx.trans hk3⟩
      case measure => simp [intOf]
set_option maxRecDepth 100000 in
set_option maxHeartbeats 1000000 in
theorem back1_nil_comes (F : Fence) (n : Nat) (h8 : F.fn 83) (hro : F.round = none) (l Bs : Nat) (x : Nat → Array Value) (Kp : World → World → Prop) (W : World) (hBs : W.cell? ⟨Bs, 0, none⟩ = some (.slice none 0 0)) :
    Comes F n Tryd.prog 83 #[.pointer (some ⟨Bs, 0, none⟩)] x Kp 0 l W := by
  intro J _ h0
  refine callsIn_of_wp Tryd.func83 rfl h8 ?_ hro
  simp only [Tryd.ntmps83, List.size_toArray, List.length_cons, List.length_nil, Nat.reduceAdd, Nat.reduceSub, Array.replicate_succ, Array.replicate_zero, List.push_toArray, List.append_toArray, List.nil_append, List.cons_append]
  gi_wp2
  gi_loopw [3] (fun i wr => i = .int .i64 (-1) ∧ J 0 wr) (fun _ _ => 0)
  case atStart => exact ⟨rfl, h0⟩
  case round =>
    obtain ⟨rfl, hJs⟩ := hrel
    gi_wp2
    go_end0
    exact ⟨⟨_, rfl⟩, hJs⟩
theorem back_comes (F : Fence) (n : Nat) (h8 : F.fn 83) (hro : F.round = none) (hn : 1 ≤ n) (Bs b : Nat) (sv : Value) (ps : List Part) (hreach : ps.length ≤ 100000) (w : World) (hBs : Bs < w.heap.size)
    (hc : w.cell? ⟨Bs, 0, none⟩ = some sv) (hI : PartsAt b w sv ps) (l : Nat) (W : World) (hW : Below w.heap.size w W) :
    Comes F n Tryd.prog 83 #[.pointer (some ⟨Bs, 0, none⟩)] (backX ps) (KpP Bs b) ps.length l W := by
  have hc' := (hW.cell (p := ⟨Bs, 0, none⟩) hBs).trans hc
  rcases hI.below hW with ⟨rfl, rfl⟩ | ⟨off, cap, rfl, hb, hcs⟩
  · exact back1_nil_comes F n h8 hro l Bs _ _ W hc'
  · exact back1_comes F n h8 hro hn l Bs b off ps.length cap ps rfl hreach W hc' hcs
end Go.Proofs.YtkkkblghihheeaaDoor
namespace Go.Proofs.YtkkkblghihheeaaDoor
open Go.RowKit

/-- A visitor of kids: Inv B L W: it has been handed the kids L, with the binders around them; its own box is bl, all else that it writes lies from B on. -/
structure KVis (f : FuncId) (caps : Array Value) (bl : Nat) (Inv : Nat → List (List Node3 × Nat) → World → Prop) : Prop where
  enters : ∀ args w, (callFunc f args).run Tryd.prog w = .ok (.enter f args) w
  stab : ∀ B L, Stab (Inv B L)
  abide : ∀ B L W W' F, Inv B L W → Only F W W' → (∀ k, F k → k < B ∧ k ≠ bl) → Inv B L W'
  call : ∀ B L x m c A (ar : Nat) W, Inv B L W → bl < B → B ≤ W.heap.size → x.length = m → m ≤ 4096 → L.length ≤ 1000 → Slice A m c → Holds W A (nodesV x) →
    Calls Tryd.prog f (#[.slice A m c, .int .i64 (ar : Int)] ++ caps) W fun e W' => e = .returned (.tuple #[]) ∧ Inv B (L ++ [(x, ar)]) W' ∧ ∃ F, Only F W W' ∧ (∀ k, F k → k = bl ∨ B ≤ k) ∧ ∀ k, F k → ∃ cs t fr, W.heap[k]? = some (.cells cs t fr)
theorem own_cells {w : World} {B e sz n : Nat} {v : Value} {xs : List Value} (h : w.ownsRow B e sz v n xs) {k : Nat} (hk : v.ownBlock = some k) : ∃ cs t fr, w.heap[k]? = some (.cells cs t fr) := by
  rcases h.2 with ⟨rfl, -⟩ | ⟨g, cap, cur, rfl, hB, hg, -⟩
  · cases hk
  · simp only [Value.ownBlock, Option.some.injEq] at hk
    subst hk
    exact ⟨_, _, _, hg⟩
/-- The state of Kids' visitor. -/
def KidsI (bl B : Nat) (L : List (List Node3 × Nat)) (W : World) : Prop := ∃ R k cr l, Whole W bl #[.slice R k cr] 30 ∧ KRun B W (.slice R k cr) l ∧ l.length = k ∧ l.map (fun x => x.2.2) = L.map Prod.fst
theorem vis_kids (bl : Nat) : KVis 48 #[.pointer (some ⟨bl, 0, none⟩)] bl (KidsI bl) where
  enters := by simp [go_sem]
  stab := fun B L W W' F ⟨R, k, cr, l, h1, h2, h3⟩ ho hF => ⟨R, k, cr, l, stab_whole _ _ _ W W' F h1 ho hF, stab_krun _ _ _ W W' F h2 ho hF, h3⟩
  abide := fun B L W W' F ⟨R, k, cr, l, h1, h2, h3⟩ ho hF => ⟨R, k, cr, l, h1.only ho fun e => (hF _ e).2 rfl, h2.only ho fun k hk => (hF k hk).1, h3⟩
  call := fun B L x m c A ar W ⟨R, k, cr, l, h1, h2, h3, h4⟩ hbl hB hx hm hL hs hA => by
    have hk : k ≤ 1000 := by
      have := congrArg List.length h4
      simp only [List.length_map] at this
      omega
    refine (kids1_any bl B m c k cr A R x l ar W h1 h2 h3 (by omega) hbl hB hx hs hA (by omega)).mono ?_
    rintro e W' ⟨rfl, A', c', R', cr', h5, h6, h7⟩
    refine ⟨rfl, ⟨R', k + 1, cr', _, h6, h5, by simp [h3], by simp [h4]⟩, _, h7, fun j hj => ?_, fun j hj => ?_⟩
    · rcases hj with hj | hj
      · exact .inl hj
      · exact .inr (h2.nb j hj)
    · rcases hj with rfl | hj
      · exact ⟨_, _, _, h1⟩
      · exact own_cells h2.own hj
/-- The state of Binders' visitor. -/
def BindersI (bl B : Nat) (L : List (List Node3 × Nat)) (W : World) : Prop := ∃ R k cr l, Whole W bl #[.slice R k cr] 33 ∧ IRun B W (.slice R k cr) l ∧ l.length = k ∧ l = L.map fun x => ((x.2 : Nat) : Int)
theorem vis_binders (bl : Nat) : KVis 52 #[.pointer (some ⟨bl, 0, none⟩)] bl (BindersI bl) where
  enters := by simp [go_sem]
  stab := fun B L W W' F ⟨R, k, cr, l, h1, h2, h3⟩ ho hF => ⟨R, k, cr, l, stab_whole _ _ _ W W' F h1 ho hF, stab_irun _ _ _ W W' F h2 ho hF, h3⟩
  abide := fun B L W W' F ⟨R, k, cr, l, h1, h2, h3⟩ ho hF => ⟨R, k, cr, l, h1.only ho fun e => (hF _ e).2 rfl, h2.only ho fun k hk => (hF k hk).1, h3⟩
  call := fun B L x m c A ar W ⟨R, k, cr, l, h1, h2, h3, h4⟩ hbl hB hx hm hL hs hA => by
    have hk : k ≤ 1000 := by
      have := congrArg List.length h4
      simp only [List.length_map] at this
      omega
    refine (binders1_any bl B k cr (.slice A m c) R l ar W h1 h2 h3 (by omega) hbl hB).mono ?_
    rintro e W' ⟨rfl, R', cr', h5, h6, h7⟩
    refine ⟨rfl, ⟨R', k + 1, cr', _, h6, h5, by simp [h3], by simp [h4]⟩, _, h7, fun j hj => ?_, fun j hj => ?_⟩
    · rcases hj with hj | hj
      · exact .inl hj
      · exact .inr (h2.nb j hj)
    · rcases hj with rfl | hj
      · exact ⟨_, _, _, h1⟩
      · exact own_cells h2.own hj
end Go.Proofs.YtkkkblghihheeaaDoor
namespace Go.Proofs.YtkkkblghihheeaaDoor
open Go.RowKit

theorem Comes.same {F : Fence} {n : Nat} {P : Program} {g : Nat} {lb : Array Value} {x y : Nat → Array Value} {Kp : World → World → Prop} {N l : Nat} {W : World} (h : Comes F n P g lb x Kp N l W) (e : ∀ k, k < N → x k = y k) : Comes F n P g lb y Kp N l W :=
  fun J hY h0 => h J (fun k W1 hk hJ => by rw [e k hk]; exact hY k W1 hk hJ) h0
/-- What comes of parts that lie the last one first. -/
def backY (q : List Part) (k : Nat) : Array Value := #[.int .i64 ((q.length - 1 - k : Nat) : Int), .agg #[.int .i64 (q.getD k ⟨0, 0⟩).op, .int .i64 ((q.getD k ⟨0, 0⟩).k : Int)]]
theorem backY_eq (q : List Part) (k : Nat) (hk : k < q.length) : backX q.reverse k = backY q k := by
  unfold backX backY
  have e : q.reverse.getD (q.length - 1 - k) ⟨0, 0⟩ = q.getD k ⟨0, 0⟩ := by
    rw [List.getD_eq_getElem?_getD, List.getD_eq_getElem?_getD, List.getElem?_reverse (by omega), show q.length - 1 - (q.length - 1 - k) = k by omega]
  rw [List.length_reverse, e]
theorem drop_getD {q : List Part} {k : Nat} (h : k < q.length) : q.drop k = q.getD k ⟨0, 0⟩ :: q.drop (k + 1) := by
  rw [List.drop_eq_getElem_cons h, List.getD_eq_getElem?_getD, List.getElem?_eq_getElem h, Option.getD_some]
theorem take_getD {q : List Part} {k : Nat} (h : k < q.length) : q.take (k + 1) = q.take k ++ [q.getD k ⟨0, 0⟩] := by
  rw [List.take_add_one, List.getElem?_eq_getElem h, List.getD_eq_getElem?_getD, List.getElem?_eq_getElem h]
  rfl
theorem arounds_snoc (q : List Part) (p : Part) : aroundsR (q ++ [p]) = aroundsR q ++ if p.op = 0 then [p.k] else [] := by
  unfold aroundsR
  rw [List.filter_append, List.map_append]
  congr 1
  by_cases h : p.op = 0
  · simp [h]
  · simp [h]
theorem end_of {t x s : List Node3} {p m : Nat} (hx : t.drop p = x ++ s) (h1 : RowT1 x) (hm : x.length = m) : endOf t (p : Int) = (p : Int) + (m : Int) := by
  obtain ⟨a, ha, hr⟩ := h1.top s
  unfold top0 V at ha
  cases hw : W (x ++ s) (0, 0, 0) [⟨0, 0⟩] with
  | none => rw [hw] at ha; cases ha
  | some y =>
    obtain ⟨a', s', e⟩ := y
    rw [hw] at ha
    simp only [Option.map_some, Option.some.injEq, Prod.mk.injEq] at ha
    unfold endOf
    rw [if_neg (by omega), Int.toNat_natCast, hx, hw]
    simp only
    rw [ha.1, ← hm, ← hr, List.length_map]
/-- Between two rounds: k parts have come, L has been visited, left is still to come. -/
structure KAt (w : World) (B bl : Nat) (f : FuncId) (caps : Array Value) (Inv : Nat → List (List Node3 × Nat) → World → Prop) (g o n c : Nat) (t : List Node3) (q : List Part) (ks : List (List Node3)) (k at_ : Nat) (L : List (List Node3 × Nat)) (left : List (List Node3)) (W : World) : Prop where
  bt : Whole W w.heap.size #[.slice (some ⟨g, o, none⟩) n c] 23
  bv : Whole W (w.heap.size + 1) #[.func (.func f) #[] caps] 66
  ba : Whole W (w.heap.size + 1 + 1) #[.int .i64 (at_ : Int)] 3
  hold : Holds W (some ⟨g, o, none⟩) (nodesV t)
  lim : Lim W
  size : B ≤ W.heap.size
  le : at_ ≤ n
  parts : PartsR (q.drop k) left (t.drop at_)
  kids : ks = L.map Prod.fst ++ left
  arounds : L.map Prod.snd = aroundsR (q.take k)
  inv : Inv B L W
  only : Only (fun j => j = bl) w W
section
variable {w : World} {B bl : Nat} {f : FuncId} {caps : Array Value} {Inv : Nat → List (List Node3 × Nat) → World → Prop} {g o n c : Nat} {t : List Node3} {q : List Part} {ks : List (List Node3)} {k at_ : Nat} {L : List (List Node3 × Nat)} {left : List (List Node3)} {W : World}
theorem KAt.stab (V : KVis f caps bl Inv) (hB : w.heap.size ≤ B) : StabFrom B fun W => KAt w B bl f caps Inv g o n c t q ks k at_ L left W := fun W W' F h ho hF => by
  have hF' : ∀ j, F j → ∃ o : Obj, W.heap[j]? = some o ∧ o.isCells = false := fun j e => (hF j e).2
  exact ⟨stab_whole _ _ _ W W' F h.bt ho hF', stab_whole _ _ _ W W' F h.bv ho hF', stab_whole _ _ _ W W' F h.ba ho hF', stab_holds _ _ W W' F h.hold ho hF', stab_holds _ _ W W' F h.lim ho hF', Nat.le_trans h.size ho.size, h.le, h.parts, h.kids, h.arounds, V.stab _ _ W W' F h.inv ho hF',
    h.only.trans ho fun j hj e => by have := (hF j e).1; omega⟩
theorem KAt.below {W' : World} (V : KVis f caps bl Inv) (h : KAt w B bl f caps Inv g o n c t q ks k at_ L left W) (hb : Below W.heap.size W W') : KAt w B bl f caps Inv g o n c t q ks k at_ L left W' :=
  ⟨h.bt.below hb h.bt.lt, h.bv.below hb h.bv.lt, h.ba.below hb h.ba.lt, h.hold.below hb, h.lim.next hb, Nat.le_trans h.size hb.size, h.le, h.parts, h.kids, h.arounds, V.abide _ _ _ _ (fun _ => False) h.inv (Only.of_below hb) (fun _ e => e.elim), h.only.trans (F2 := fun _ => False) (Only.of_below hb) fun _ _ e => e.elim⟩
/-- A node alone. -/
theorem KAt.skip (V : KVis f caps bl Inv) (h : KAt w B bl f caps Inv g o n c t q ks k at_ L left W) (hn : t.length = n) (hg : g < w.heap.size) (h0 : 0 < w.heap.size) (hbl : bl < w.heap.size) (hB : w.heap.size + 3 ≤ B) (hk : k < q.length) (hp : (q.getD k ⟨0, 0⟩).op ≠ 0) :
    at_ < n ∧ KAt w B bl f caps Inv g o n c t q ks (k + 1) (at_ + 1) L left (W.setCell ⟨w.heap.size + 1 + 1, 0, none⟩ (.int .i64 ((at_ + 1 : Nat) : Int))) := by
  have hp' := h.parts
  rw [drop_getD hk] at hp'
  unfold PartsR at hp'
  rw [if_neg hp] at hp'
  obtain ⟨x, s, e, hs⟩ := hp'
  have hlt : at_ < n := by
    have := congrArg List.length e
    rw [List.length_drop, List.length_cons] at this
    omega
  have ho : Only (fun j => j = w.heap.size + 1 + 1) W (W.setCell ⟨w.heap.size + 1 + 1, 0, none⟩ (.int .i64 ((at_ + 1 : Nat) : Int))) := (Only.refl (fun j => j = w.heap.size + 1 + 1) W).set_ (.inl rfl) 0 _
  refine ⟨hlt, h.bt.only ho (by omega), h.bv.only ho (by omega), h.ba.set_ 0 _, h.hold.only ho fun b o' e => by cases e; omega, h.lim.only ho fun b o' e => by cases e; omega, Nat.le_trans h.size ho.size, hlt, ?_, h.kids, ?_, ?_, h.only.trans ho fun j hj e => by omega⟩
  · rw [show t.drop (at_ + 1) = s by rw [← List.drop_drop, e]; rfl]
    exact hs
  · rw [take_getD hk, arounds_snoc, if_neg hp, List.append_nil]
    exact h.arounds
  · exact V.abide _ _ _ _ _ h.inv ho fun j e => by omega
/-- A kid. -/
theorem KAt.kid (h : KAt w B bl f caps Inv g o n c t q ks k at_ L left W) (hn : t.length = n) (hk : k < q.length) (hp : (q.getD k ⟨0, 0⟩).op = 0) :
    ∃ x s ls, t.drop at_ = x ++ s ∧ left = x :: ls ∧ RowT1 x ∧ at_ + x.length ≤ n ∧ PartsR (q.drop (k + 1)) ls (t.drop (at_ + x.length)) := by
  have hp' := h.parts
  rw [drop_getD hk] at hp'
  unfold PartsR at hp'
  rw [if_pos hp] at hp'
  obtain ⟨x, ls, s, e1, e2, h1, h2⟩ := hp'
  refine ⟨x, s, ls, e2, e1, h1, ?_, ?_⟩
  · have := congrArg List.length e2
    have h3 := h1.pos
    rw [List.length_drop, List.length_append] at this
    omega
  · rw [show t.drop (at_ + x.length) = s by rw [← List.drop_drop, e2, List.drop_left' rfl]]
    exact h2
theorem KAt.step {x : List Node3} {ls : List (List Node3)} {m : Nat} {W1 W2 : World} {F : Nat → Prop} (V : KVis f caps bl Inv) (h : KAt w B bl f caps Inv g o n c t q ks k at_ L left W) (hg : g < w.heap.size) (h0 : 0 < w.heap.size) (hbl : bl < w.heap.size) (hbg : bl ≠ g) (hb0 : bl ≠ 0) (hB : w.heap.size + 3 ≤ B) (hk : k < q.length) (hp : (q.getD k ⟨0, 0⟩).op = 0)
    (hl : left = x :: ls) (hle : at_ + m ≤ n) (hps : PartsR (q.drop (k + 1)) ls (t.drop (at_ + m))) (hb : Below W.heap.size W W1) (ho : Only F W1 W2) (hF : ∀ j, F j → j = bl ∨ B ≤ j) (hI : Inv B (L ++ [(x, (q.getD k ⟨0, 0⟩).k)]) W2) :
    KAt w B bl f caps Inv g o n c t q ks (k + 1) (at_ + m) (L ++ [(x, (q.getD k ⟨0, 0⟩).k)]) ls (W2.setCell ⟨w.heap.size + 1 + 1, 0, none⟩ (.int .i64 ((at_ + m : Nat) : Int))) := by
  have ho3 : Only (fun j => j = w.heap.size + 1 + 1) W2 (W2.setCell ⟨w.heap.size + 1 + 1, 0, none⟩ (.int .i64 ((at_ + m : Nat) : Int))) := (Only.refl (fun j => j = w.heap.size + 1 + 1) W2).set_ (.inl rfl) 0 _
  have hn : ∀ j, j < w.heap.size + 3 → j ≠ bl → ¬ F j := fun j h1 h2 e => by
    rcases hF j e with h3 | h3
    · exact h2 h3
    · omega
  have h1 := KAt.below V h hb
  have s1 := h1.bt.only ho (hn _ (by omega) (by omega))
  have s2 := h1.bv.only ho (hn _ (by omega) (by omega))
  have s3 := h1.ba.only ho (hn _ (by omega) (by omega))
  refine ⟨s1.only ho3 (by omega), s2.only ho3 (by omega), s3.set_ 0 _, (h1.hold.only ho fun b o' e => by cases e; exact hn _ (by omega) (Ne.symm hbg)).only ho3 fun b o' e => by cases e; omega,
    (h1.lim.only ho fun b o' e => by cases e; exact hn _ (by omega) (Ne.symm hb0)).only ho3 fun b o' e => by cases e; omega, Nat.le_trans h1.size (Nat.le_trans ho.size ho3.size), hle, hps, ?_, ?_, ?_, ?_⟩
  · rw [List.map_append, List.append_assoc, h.kids, hl]
    rfl
  · rw [List.map_append, take_getD hk, arounds_snoc, if_pos hp, h.arounds]
    rfl
  · exact V.abide _ _ _ _ _ hI ho3 fun j e => by omega
  · exact (h1.only.trans ho fun j hj e => by
      rcases hF j e with h3 | h3
      · exact h3
      · omega).trans ho3 fun j hj e => by omega
end
end Go.Proofs.YtkkkblghihheeaaDoor
namespace Go.Proofs.YtkkkblghihheeaaDoor
open Go.RowKit

/-- The operations of a region. -/
def regOps (k : Nat) : Code → List (Array Oper)
  | .region id ops _ => if id = k then [ops] else []
  | .seq a b => regOps k a ++ regOps k b
  | .cond _ a b => regOps k a ++ regOps k b
  | .block _ b => regOps k b
  | .loop b => regOps k b
  | .rangeFunc _ _ a b => regOps k a ++ regOps k b
  | .scope b => regOps k b
  | _ => []
noncomputable def kidsOps : Array Oper := ((Tryd.f47.body.map (regOps 7)).getD []).headD #[]
theorem any_ready {F : Fence} {n : Nat} {P : Program} {md : Region.Mode} {ops : Array Oper} {Q : Exit → Act → World → Prop} {rs : List Nat} {fuel : Nat} {listed : Array Bool} {a : Act} {w : World} (hr : Region.ready md ops listed = rs) (hne : rs ≠ [])
    (h : ∀ i ∈ rs, wpOpIn F n P ops Q i (wpAnyIn F n P md ops Q fuel (listed.setIfInBounds i true)) a w) : wpAnyIn F n P md ops Q (fuel + 1) listed a w :=
  ⟨fun e => absurd (hr.symm.trans e) hne, fun i hi => h i (hr ▸ hi)⟩
theorem op_in {F : Fence} {n : Nat} {P : Program} {ops : Array Oper} {Q : Exit → Act → World → Prop} {i : Nat} {K : Act → World → Prop} {a : Act} {w : World} {oi : Oper} {rest : List Oper} {v : Value} (hi : ops.toList.drop i = oi :: rest) (hw : Region.wanted oi (yielded ops a.tmps) = true)
    (hb : oi.about P w a.eval = none) (hy : (oi.semAt F.round a.eval).run P w = .ok (.value v) w) (hK : K (a.put oi.dst v) w) : wpOpIn F n P ops Q i K a w := by
  unfold wpOpIn
  rw [get_of_drop hi]
  simp only [hw, if_true, Oper.wpIn, hy, Oper.uponIn]
  exact ⟨fun f hf => (by rw [hb] at hf; cases hf), hK⟩
abbrev KG (l : Nat) (Q : Exit → Act → World → Prop) (k : Nat) (s : Array Bool) (a : Act) (w : World) : Prop := wpAnyIn (Fence.wide.inRound l) 4 Tryd.prog .any kidsOps Q k s a w
attribute [local go_sem] Oper.semAt_some
set_option maxRecDepth 100000 in
set_option maxHeartbeats 4000000 in
theorem kids_reg (l : Nat) (f : FuncId) (caps : Array Value) (u0 u1 u5 u8 u9 u10 u11 u12 u13 u14 u15 u16 u17 u18 u19 u20 u21 u22 : Value) (p2 p3 p4 : Addr) (Bx g o n c at_ m pk : Nat) (w : World)
    (h3 : w.cell? p3 = some (.func (.func f) #[] caps)) (h2 : w.cell? p2 = some (.slice (some ⟨g, o, none⟩) n c)) (h4 : w.cell? p4 = some (.int .i64 (at_ : Int))) (h6 : w.cell? ⟨Bx, 1, none⟩ = some (.int .i64 (pk : Int)))
    (hnc : n ≤ c) (hcm : c ≤ 9223372036854775807) (hle : at_ + m ≤ n) (hm : 0 < m)
    (he : ∀ args w, (callFunc f args).run Tryd.prog w = .ok (.enter f args) w) (Q : Exit → Act → World → Prop)
    (hcall : CallsIn (Fence.wide.inRound l) 3 Tryd.prog f (#[.slice (some ⟨g, o + at_ * 3, none⟩) m (c - at_), .int .i64 (pk : Int)] ++ caps) w fun e W' => e = .returned (.tuple #[]) ∧ Q .normal { tmps := #[u0, u1, .pointer (some p2), .pointer (some p3), .pointer (some p4), u5, .pointer (some ⟨Bx, 0, none⟩), .int .i64 ((at_ : Int) + (m : Int)), u8, u9, u10, u11, u12, u13, u14, u15, u16, u17, u18, u19, u20, u21, u22, .func (.func f) #[] caps, .slice (some ⟨g, o, none⟩) n c, .int .i64 (at_ : Int), .int .i64 ((at_ : Int) + (m : Int)), .slice (some ⟨g, o + at_ * 3, none⟩) m (c - at_), .pointer (some ⟨Bx, 1, none⟩), .int .i64 (pk : Int), .tuple #[], undef], defers := [] } W') :
    wpAnyIn (Fence.wide.inRound l) 4 Tryd.prog .any kidsOps Q 8 (Array.replicate 8 false) { tmps := #[u0, u1, .pointer (some p2), .pointer (some p3), .pointer (some p4), u5, .pointer (some ⟨Bx, 0, none⟩), .int .i64 ((at_ : Int) + (m : Int)), u8, u9, u10, u11, u12, u13, u14, u15, u16, u17, u18, u19, u20, u21, u22, undef, undef, undef, undef, undef, undef, undef, undef, undef], defers := [] } w := by
  have e1 : m ≠ 0 := by omega
  have hcp : at_ < c := by omega
  have hpm : at_ + m ≤ c := by omega
  obtain ⟨ka, hka⟩ : ∃ ka : Value → Value → Value → Value → Value → Value → Value → Value → Act, ka = fun y0 y1 y2 y3 y4 y5 y6 y7 => { tmps := #[u0, u1, .pointer (some p2), .pointer (some p3), .pointer (some p4), u5, .pointer (some ⟨Bx, 0, none⟩), .int .i64 ((at_ : Int) + (m : Int)), u8, u9, u10, u11, u12, u13, u14, u15, u16, u17, u18, u19, u20, u21, u22, y0, y1, y2, y3, y4, y5, y6, y7, undef], defers := [] } := ⟨_, rfl⟩
  rw [show ({ tmps := #[u0, u1, .pointer (some p2), .pointer (some p3), .pointer (some p4), u5, .pointer (some ⟨Bx, 0, none⟩), .int .i64 ((at_ : Int) + (m : Int)), u8, u9, u10, u11, u12, u13, u14, u15, u16, u17, u18, u19, u20, u21, u22, undef, undef, undef, undef, undef, undef, undef, undef, undef], defers := [] } : Act) = ka undef undef undef undef undef undef undef undef by rw [hka]]
  obtain ⟨v0, hv0⟩ : ∃ v : Value, v = .func (.func f) #[] caps := ⟨_, rfl⟩
  obtain ⟨v1, hv1⟩ : ∃ v : Value, v = .slice (some ⟨g, o, none⟩) n c := ⟨_, rfl⟩
  obtain ⟨v2, hv2⟩ : ∃ v : Value, v = .int .i64 (at_ : Int) := ⟨_, rfl⟩
  obtain ⟨v3, hv3⟩ : ∃ v : Value, v = .int .i64 ((at_ : Int) + (m : Int)) := ⟨_, rfl⟩
  obtain ⟨v4, hv4⟩ : ∃ v : Value, v = .slice (some ⟨g, o + at_ * 3, none⟩) m (c - at_) := ⟨_, rfl⟩
  obtain ⟨v5, hv5⟩ : ∃ v : Value, v = .pointer (some ⟨Bx, 1, none⟩) := ⟨_, rfl⟩
  obtain ⟨v6, hv6⟩ : ∃ v : Value, v = .int .i64 (pk : Int) := ⟨_, rfl⟩
  have L0 : ∀ (x1 x2 x3 x4 x5 x6 : Value) (K : Act → World → Prop), K (ka v0 x1 x2 x3 x4 x5 x6 undef) w → wpOpIn (Fence.wide.inRound l) 4 Tryd.prog kidsOps Q 0 K (ka undef x1 x2 x3 x4 x5 x6 undef) w := by
    subst hka hv0 hv1 hv2 hv3 hv4 hv5 hv6
    intro x1 x2 x3 x4 x5 x6 K hK
    refine op_in (v := (.func (.func f) #[] caps)) rfl (by rfl) (by rfl) ?_ hK
    go_simp
    try with_reducible rfl
  have L1 : ∀ (x0 x2 x3 x4 x5 x6 : Value) (K : Act → World → Prop), K (ka x0 v1 x2 x3 x4 x5 x6 undef) w → wpOpIn (Fence.wide.inRound l) 4 Tryd.prog kidsOps Q 1 K (ka x0 undef x2 x3 x4 x5 x6 undef) w := by
    subst hka hv0 hv1 hv2 hv3 hv4 hv5 hv6
    intro x0 x2 x3 x4 x5 x6 K hK
    refine op_in (v := (.slice (some ⟨g, o, none⟩) n c)) rfl (by rfl) (by rfl) ?_ hK
    go_simp
    try with_reducible rfl
  have L2 : ∀ (x0 x1 x3 x4 x5 x6 : Value) (K : Act → World → Prop), K (ka x0 x1 v2 x3 x4 x5 x6 undef) w → wpOpIn (Fence.wide.inRound l) 4 Tryd.prog kidsOps Q 2 K (ka x0 x1 undef x3 x4 x5 x6 undef) w := by
    subst hka hv0 hv1 hv2 hv3 hv4 hv5 hv6
    intro x0 x1 x3 x4 x5 x6 K hK
    refine op_in (v := (.int .i64 (at_ : Int))) rfl (by rfl) (by rfl) ?_ hK
    go_simp
    try with_reducible rfl
  have L3 : ∀ (x0 x1 x2 x4 x5 x6 : Value) (K : Act → World → Prop), K (ka x0 x1 x2 v3 x4 x5 x6 undef) w → wpOpIn (Fence.wide.inRound l) 4 Tryd.prog kidsOps Q 3 K (ka x0 x1 x2 undef x4 x5 x6 undef) w := by
    subst hka hv0 hv1 hv2 hv3 hv4 hv5 hv6
    intro x0 x1 x2 x4 x5 x6 K hK
    refine op_in (v := (.int .i64 ((at_ : Int) + (m : Int)))) rfl (by rfl) (by rfl) ?_ hK
    go_simp
    try with_reducible rfl
  have L4 : ∀ (x0 x5 x6 : Value) (K : Act → World → Prop), K (ka x0 v1 v2 v3 v4 x5 x6 undef) w → wpOpIn (Fence.wide.inRound l) 4 Tryd.prog kidsOps Q 4 K (ka x0 v1 v2 v3 undef x5 x6 undef) w := by
    subst hka hv0 hv1 hv2 hv3 hv4 hv5 hv6
    intro x0 x5 x6 K hK
    refine op_in (v := (.slice (some ⟨g, o + at_ * 3, none⟩) m (c - at_))) rfl (by rfl) (by rfl) ?_ hK
    go_simp
    rw [if_pos (by omega), if_pos (by omega), if_neg (by omega), show ((at_ : Int) + (m : Int)).toNat - at_ = m by omega]
  have L5 : ∀ (x0 x1 x2 x3 x4 x6 : Value) (K : Act → World → Prop), K (ka x0 x1 x2 x3 x4 v5 x6 undef) w → wpOpIn (Fence.wide.inRound l) 4 Tryd.prog kidsOps Q 5 K (ka x0 x1 x2 x3 x4 undef x6 undef) w := by
    subst hka hv0 hv1 hv2 hv3 hv4 hv5 hv6
    intro x0 x1 x2 x3 x4 x6 K hK
    refine op_in (v := (.pointer (some ⟨Bx, 1, none⟩))) rfl (by rfl) (by rfl) ?_ hK
    go_simp
    try with_reducible rfl
  have L6 : ∀ (x0 x1 x2 x3 x4 : Value) (K : Act → World → Prop), K (ka x0 x1 x2 x3 x4 v5 v6 undef) w → wpOpIn (Fence.wide.inRound l) 4 Tryd.prog kidsOps Q 6 K (ka x0 x1 x2 x3 x4 v5 undef undef) w := by
    subst hka hv0 hv1 hv2 hv3 hv4 hv5 hv6
    intro x0 x1 x2 x3 x4 K hK
    refine op_in (v := (.int .i64 (pk : Int))) rfl (by rfl) (by rfl) ?_ hK
    go_simp
    try with_reducible rfl
  have S0123456 : KG l Q 1 #[true, true, true, true, true, true, true, false] (ka v0 v1 v2 v3 v4 v5 v6 undef) w := by
    subst hka hv0 hv1 hv2 hv3 hv4 hv5 hv6
    refine any_ready (rs := [7]) (by kernel_rfl) (by simp) (fun i hi => ?_)
    obtain rfl : i = 7 := by simpa using hi
    clear hi
    unfold wpOpIn
    rw [get_of_drop (ops := kidsOps) (i := 7) rfl]
    dsimp only
    rw [if_pos (by rfl)]
    refine ⟨fun _ _ => trivial, ?_⟩
    rw [show (Fence.wide.inRound l).round = some l from rfl, Oper.semAt_some _ _ _ (by intro c h; cases h)]
    go_simp
    refine hcall.mono ?_
    rintro e W' ⟨rfl, hq⟩
    exact ⟨by kernel_rfl, hq⟩
  clear hv0 hv1 hv2 hv3 hv4 hv5 hv6 hka hcall h2 h3 h4 h6 he
  have S012345 : KG l Q 2 #[true, true, true, true, true, true, false, false] (ka v0 v1 v2 v3 v4 v5 undef undef) w := by
    refine any_ready (rs := [6]) (by kernel_rfl) (by simp) (fun i hi => ?_)
    simp at hi
    subst hi
    · exact L6 _ _ _ _ _ _ S0123456
  have S012356 : KG l Q 2 #[true, true, true, true, false, true, true, false] (ka v0 v1 v2 v3 undef v5 v6 undef) w := by
    refine any_ready (rs := [4]) (by kernel_rfl) (by simp) (fun i hi => ?_)
    simp at hi
    subst hi
    · exact L4 _ _ _ _ S0123456
  have S123456 : KG l Q 2 #[false, true, true, true, true, true, true, false] (ka undef v1 v2 v3 v4 v5 v6 undef) w := by
    refine any_ready (rs := [0]) (by kernel_rfl) (by simp) (fun i hi => ?_)
    simp at hi
    subst hi
    · exact L0 _ _ _ _ _ _ _ S0123456
  have S01234 : KG l Q 3 #[true, true, true, true, true, false, false, false] (ka v0 v1 v2 v3 v4 undef undef undef) w := by
    refine any_ready (rs := [5]) (by kernel_rfl) (by simp) (fun i hi => ?_)
    simp at hi
    subst hi
    · exact L5 _ _ _ _ _ _ _ S012345
  have S01235 : KG l Q 3 #[true, true, true, true, false, true, false, false] (ka v0 v1 v2 v3 undef v5 undef undef) w := by
    refine any_ready (rs := [4, 6]) (by kernel_rfl) (by simp) (fun i hi => ?_)
    simp at hi
    rcases hi with rfl | rfl
    · exact L4 _ _ _ _ S012345
    · exact L6 _ _ _ _ _ _ S012356
  have S01256 : KG l Q 3 #[true, true, true, false, false, true, true, false] (ka v0 v1 v2 undef undef v5 v6 undef) w := by
    refine any_ready (rs := [3]) (by kernel_rfl) (by simp) (fun i hi => ?_)
    simp at hi
    subst hi
    · exact L3 _ _ _ _ _ _ _ S012356
  have S01356 : KG l Q 3 #[true, true, false, true, false, true, true, false] (ka v0 v1 undef v3 undef v5 v6 undef) w := by
    refine any_ready (rs := [2]) (by kernel_rfl) (by simp) (fun i hi => ?_)
    simp at hi
    subst hi
    · exact L2 _ _ _ _ _ _ _ S012356
  have S02356 : KG l Q 3 #[true, false, true, true, false, true, true, false] (ka v0 undef v2 v3 undef v5 v6 undef) w := by
    refine any_ready (rs := [1]) (by kernel_rfl) (by simp) (fun i hi => ?_)
    simp at hi
    subst hi
    · exact L1 _ _ _ _ _ _ _ S012356
  have S12345 : KG l Q 3 #[false, true, true, true, true, true, false, false] (ka undef v1 v2 v3 v4 v5 undef undef) w := by
    refine any_ready (rs := [0, 6]) (by kernel_rfl) (by simp) (fun i hi => ?_)
    simp at hi
    rcases hi with rfl | rfl
    · exact L0 _ _ _ _ _ _ _ S012345
    · exact L6 _ _ _ _ _ _ S123456
  have S12356 : KG l Q 3 #[false, true, true, true, false, true, true, false] (ka undef v1 v2 v3 undef v5 v6 undef) w := by
    refine any_ready (rs := [0, 4]) (by kernel_rfl) (by simp) (fun i hi => ?_)
    simp at hi
    rcases hi with rfl | rfl
    · exact L0 _ _ _ _ _ _ _ S012356
    · exact L4 _ _ _ _ S123456
  have S0123 : KG l Q 4 #[true, true, true, true, false, false, false, false] (ka v0 v1 v2 v3 undef undef undef undef) w := by
    refine any_ready (rs := [4, 5]) (by kernel_rfl) (by simp) (fun i hi => ?_)
    simp at hi
    rcases hi with rfl | rfl
    · exact L4 _ _ _ _ S01234
    · exact L5 _ _ _ _ _ _ _ S01235
  have S0125 : KG l Q 4 #[true, true, true, false, false, true, false, false] (ka v0 v1 v2 undef undef v5 undef undef) w := by
    refine any_ready (rs := [3, 6]) (by kernel_rfl) (by simp) (fun i hi => ?_)
    simp at hi
    rcases hi with rfl | rfl
    · exact L3 _ _ _ _ _ _ _ S01235
    · exact L6 _ _ _ _ _ _ S01256
  have S0135 : KG l Q 4 #[true, true, false, true, false, true, false, false] (ka v0 v1 undef v3 undef v5 undef undef) w := by
    refine any_ready (rs := [2, 6]) (by kernel_rfl) (by simp) (fun i hi => ?_)
    simp at hi
    rcases hi with rfl | rfl
    · exact L2 _ _ _ _ _ _ _ S01235
    · exact L6 _ _ _ _ _ _ S01356
  have S0156 : KG l Q 4 #[true, true, false, false, false, true, true, false] (ka v0 v1 undef undef undef v5 v6 undef) w := by
    refine any_ready (rs := [2, 3]) (by kernel_rfl) (by simp) (fun i hi => ?_)
    simp at hi
    rcases hi with rfl | rfl
    · exact L2 _ _ _ _ _ _ _ S01256
    · exact L3 _ _ _ _ _ _ _ S01356
  have S0235 : KG l Q 4 #[true, false, true, true, false, true, false, false] (ka v0 undef v2 v3 undef v5 undef undef) w := by
    refine any_ready (rs := [1, 6]) (by kernel_rfl) (by simp) (fun i hi => ?_)
    simp at hi
    rcases hi with rfl | rfl
    · exact L1 _ _ _ _ _ _ _ S01235
    · exact L6 _ _ _ _ _ _ S02356
  have S0256 : KG l Q 4 #[true, false, true, false, false, true, true, false] (ka v0 undef v2 undef undef v5 v6 undef) w := by
    refine any_ready (rs := [1, 3]) (by kernel_rfl) (by simp) (fun i hi => ?_)
    simp at hi
    rcases hi with rfl | rfl
    · exact L1 _ _ _ _ _ _ _ S01256
    · exact L3 _ _ _ _ _ _ _ S02356
  have S0356 : KG l Q 4 #[true, false, false, true, false, true, true, false] (ka v0 undef undef v3 undef v5 v6 undef) w := by
    refine any_ready (rs := [1, 2]) (by kernel_rfl) (by simp) (fun i hi => ?_)
    simp at hi
    rcases hi with rfl | rfl
    · exact L1 _ _ _ _ _ _ _ S01356
    · exact L2 _ _ _ _ _ _ _ S02356
  have S1234 : KG l Q 4 #[false, true, true, true, true, false, false, false] (ka undef v1 v2 v3 v4 undef undef undef) w := by
    refine any_ready (rs := [0, 5]) (by kernel_rfl) (by simp) (fun i hi => ?_)
    simp at hi
    rcases hi with rfl | rfl
    · exact L0 _ _ _ _ _ _ _ S01234
    · exact L5 _ _ _ _ _ _ _ S12345
  have S1235 : KG l Q 4 #[false, true, true, true, false, true, false, false] (ka undef v1 v2 v3 undef v5 undef undef) w := by
    refine any_ready (rs := [0, 4, 6]) (by kernel_rfl) (by simp) (fun i hi => ?_)
    simp at hi
    rcases hi with rfl | rfl | rfl
    · exact L0 _ _ _ _ _ _ _ S01235
    · exact L4 _ _ _ _ S12345
    · exact L6 _ _ _ _ _ _ S12356
  have S1256 : KG l Q 4 #[false, true, true, false, false, true, true, false] (ka undef v1 v2 undef undef v5 v6 undef) w := by
    refine any_ready (rs := [0, 3]) (by kernel_rfl) (by simp) (fun i hi => ?_)
    simp at hi
    rcases hi with rfl | rfl
    · exact L0 _ _ _ _ _ _ _ S01256
    · exact L3 _ _ _ _ _ _ _ S12356
  have S1356 : KG l Q 4 #[false, true, false, true, false, true, true, false] (ka undef v1 undef v3 undef v5 v6 undef) w := by
    refine any_ready (rs := [0, 2]) (by kernel_rfl) (by simp) (fun i hi => ?_)
    simp at hi
    rcases hi with rfl | rfl
    · exact L0 _ _ _ _ _ _ _ S01356
    · exact L2 _ _ _ _ _ _ _ S12356
  have S2356 : KG l Q 4 #[false, false, true, true, false, true, true, false] (ka undef undef v2 v3 undef v5 v6 undef) w := by
    refine any_ready (rs := [0, 1]) (by kernel_rfl) (by simp) (fun i hi => ?_)
    simp at hi
    rcases hi with rfl | rfl
    · exact L0 _ _ _ _ _ _ _ S02356
    · exact L1 _ _ _ _ _ _ _ S12356
  have S012 : KG l Q 5 #[true, true, true, false, false, false, false, false] (ka v0 v1 v2 undef undef undef undef undef) w := by
    refine any_ready (rs := [3, 5]) (by kernel_rfl) (by simp) (fun i hi => ?_)
    simp at hi
    rcases hi with rfl | rfl
    · exact L3 _ _ _ _ _ _ _ S0123
    · exact L5 _ _ _ _ _ _ _ S0125
  have S013 : KG l Q 5 #[true, true, false, true, false, false, false, false] (ka v0 v1 undef v3 undef undef undef undef) w := by
    refine any_ready (rs := [2, 5]) (by kernel_rfl) (by simp) (fun i hi => ?_)
    simp at hi
    rcases hi with rfl | rfl
    · exact L2 _ _ _ _ _ _ _ S0123
    · exact L5 _ _ _ _ _ _ _ S0135
  have S015 : KG l Q 5 #[true, true, false, false, false, true, false, false] (ka v0 v1 undef undef undef v5 undef undef) w := by
    refine any_ready (rs := [2, 3, 6]) (by kernel_rfl) (by simp) (fun i hi => ?_)
    simp at hi
    rcases hi with rfl | rfl | rfl
    · exact L2 _ _ _ _ _ _ _ S0125
    · exact L3 _ _ _ _ _ _ _ S0135
    · exact L6 _ _ _ _ _ _ S0156
  have S023 : KG l Q 5 #[true, false, true, true, false, false, false, false] (ka v0 undef v2 v3 undef undef undef undef) w := by
    refine any_ready (rs := [1, 5]) (by kernel_rfl) (by simp) (fun i hi => ?_)
    simp at hi
    rcases hi with rfl | rfl
    · exact L1 _ _ _ _ _ _ _ S0123
    · exact L5 _ _ _ _ _ _ _ S0235
  have S025 : KG l Q 5 #[true, false, true, false, false, true, false, false] (ka v0 undef v2 undef undef v5 undef undef) w := by
    refine any_ready (rs := [1, 3, 6]) (by kernel_rfl) (by simp) (fun i hi => ?_)
    simp at hi
    rcases hi with rfl | rfl | rfl
    · exact L1 _ _ _ _ _ _ _ S0125
    · exact L3 _ _ _ _ _ _ _ S0235
    · exact L6 _ _ _ _ _ _ S0256
  have S035 : KG l Q 5 #[true, false, false, true, false, true, false, false] (ka v0 undef undef v3 undef v5 undef undef) w := by
    refine any_ready (rs := [1, 2, 6]) (by kernel_rfl) (by simp) (fun i hi => ?_)
    simp at hi
    rcases hi with rfl | rfl | rfl
    · exact L1 _ _ _ _ _ _ _ S0135
    · exact L2 _ _ _ _ _ _ _ S0235
    · exact L6 _ _ _ _ _ _ S0356
  have S056 : KG l Q 5 #[true, false, false, false, false, true, true, false] (ka v0 undef undef undef undef v5 v6 undef) w := by
    refine any_ready (rs := [1, 2, 3]) (by kernel_rfl) (by simp) (fun i hi => ?_)
    simp at hi
    rcases hi with rfl | rfl | rfl
    · exact L1 _ _ _ _ _ _ _ S0156
    · exact L2 _ _ _ _ _ _ _ S0256
    · exact L3 _ _ _ _ _ _ _ S0356
  have S123 : KG l Q 5 #[false, true, true, true, false, false, false, false] (ka undef v1 v2 v3 undef undef undef undef) w := by
    refine any_ready (rs := [0, 4, 5]) (by kernel_rfl) (by simp) (fun i hi => ?_)
    simp at hi
    rcases hi with rfl | rfl | rfl
    · exact L0 _ _ _ _ _ _ _ S0123
    · exact L4 _ _ _ _ S1234
    · exact L5 _ _ _ _ _ _ _ S1235
  have S125 : KG l Q 5 #[false, true, true, false, false, true, false, false] (ka undef v1 v2 undef undef v5 undef undef) w := by
    refine any_ready (rs := [0, 3, 6]) (by kernel_rfl) (by simp) (fun i hi => ?_)
    simp at hi
    rcases hi with rfl | rfl | rfl
    · exact L0 _ _ _ _ _ _ _ S0125
    · exact L3 _ _ _ _ _ _ _ S1235
    · exact L6 _ _ _ _ _ _ S1256
  have S135 : KG l Q 5 #[false, true, false, true, false, true, false, false] (ka undef v1 undef v3 undef v5 undef undef) w := by
    refine any_ready (rs := [0, 2, 6]) (by kernel_rfl) (by simp) (fun i hi => ?_)
    simp at hi
    rcases hi with rfl | rfl | rfl
    · exact L0 _ _ _ _ _ _ _ S0135
    · exact L2 _ _ _ _ _ _ _ S1235
    · exact L6 _ _ _ _ _ _ S1356
  have S156 : KG l Q 5 #[false, true, false, false, false, true, true, false] (ka undef v1 undef undef undef v5 v6 undef) w := by
    refine any_ready (rs := [0, 2, 3]) (by kernel_rfl) (by simp) (fun i hi => ?_)
    simp at hi
    rcases hi with rfl | rfl | rfl
    · exact L0 _ _ _ _ _ _ _ S0156
    · exact L2 _ _ _ _ _ _ _ S1256
    · exact L3 _ _ _ _ _ _ _ S1356
  have S235 : KG l Q 5 #[false, false, true, true, false, true, false, false] (ka undef undef v2 v3 undef v5 undef undef) w := by
    refine any_ready (rs := [0, 1, 6]) (by kernel_rfl) (by simp) (fun i hi => ?_)
    simp at hi
    rcases hi with rfl | rfl | rfl
    · exact L0 _ _ _ _ _ _ _ S0235
    · exact L1 _ _ _ _ _ _ _ S1235
    · exact L6 _ _ _ _ _ _ S2356
  have S256 : KG l Q 5 #[false, false, true, false, false, true, true, false] (ka undef undef v2 undef undef v5 v6 undef) w := by
    refine any_ready (rs := [0, 1, 3]) (by kernel_rfl) (by simp) (fun i hi => ?_)
    simp at hi
    rcases hi with rfl | rfl | rfl
    · exact L0 _ _ _ _ _ _ _ S0256
    · exact L1 _ _ _ _ _ _ _ S1256
    · exact L3 _ _ _ _ _ _ _ S2356
  have S356 : KG l Q 5 #[false, false, false, true, false, true, true, false] (ka undef undef undef v3 undef v5 v6 undef) w := by
    refine any_ready (rs := [0, 1, 2]) (by kernel_rfl) (by simp) (fun i hi => ?_)
    simp at hi
    rcases hi with rfl | rfl | rfl
    · exact L0 _ _ _ _ _ _ _ S0356
    · exact L1 _ _ _ _ _ _ _ S1356
    · exact L2 _ _ _ _ _ _ _ S2356
  have S01 : KG l Q 6 #[true, true, false, false, false, false, false, false] (ka v0 v1 undef undef undef undef undef undef) w := by
    refine any_ready (rs := [2, 3, 5]) (by kernel_rfl) (by simp) (fun i hi => ?_)
    simp at hi
    rcases hi with rfl | rfl | rfl
    · exact L2 _ _ _ _ _ _ _ S012
    · exact L3 _ _ _ _ _ _ _ S013
    · exact L5 _ _ _ _ _ _ _ S015
  have S02 : KG l Q 6 #[true, false, true, false, false, false, false, false] (ka v0 undef v2 undef undef undef undef undef) w := by
    refine any_ready (rs := [1, 3, 5]) (by kernel_rfl) (by simp) (fun i hi => ?_)
    simp at hi
    rcases hi with rfl | rfl | rfl
    · exact L1 _ _ _ _ _ _ _ S012
    · exact L3 _ _ _ _ _ _ _ S023
    · exact L5 _ _ _ _ _ _ _ S025
  have S03 : KG l Q 6 #[true, false, false, true, false, false, false, false] (ka v0 undef undef v3 undef undef undef undef) w := by
    refine any_ready (rs := [1, 2, 5]) (by kernel_rfl) (by simp) (fun i hi => ?_)
    simp at hi
    rcases hi with rfl | rfl | rfl
    · exact L1 _ _ _ _ _ _ _ S013
    · exact L2 _ _ _ _ _ _ _ S023
    · exact L5 _ _ _ _ _ _ _ S035
  have S05 : KG l Q 6 #[true, false, false, false, false, true, false, false] (ka v0 undef undef undef undef v5 undef undef) w := by
    refine any_ready (rs := [1, 2, 3, 6]) (by kernel_rfl) (by simp) (fun i hi => ?_)
    simp at hi
    rcases hi with rfl | rfl | rfl | rfl
    · exact L1 _ _ _ _ _ _ _ S015
    · exact L2 _ _ _ _ _ _ _ S025
    · exact L3 _ _ _ _ _ _ _ S035
    · exact L6 _ _ _ _ _ _ S056
  have S12 : KG l Q 6 #[false, true, true, false, false, false, false, false] (ka undef v1 v2 undef undef undef undef undef) w := by
    refine any_ready (rs := [0, 3, 5]) (by kernel_rfl) (by simp) (fun i hi => ?_)
    simp at hi
    rcases hi with rfl | rfl | rfl
    · exact L0 _ _ _ _ _ _ _ S012
    · exact L3 _ _ _ _ _ _ _ S123
    · exact L5 _ _ _ _ _ _ _ S125
  have S13 : KG l Q 6 #[false, true, false, true, false, false, false, false] (ka undef v1 undef v3 undef undef undef undef) w := by
    refine any_ready (rs := [0, 2, 5]) (by kernel_rfl) (by simp) (fun i hi => ?_)
    simp at hi
    rcases hi with rfl | rfl | rfl
    · exact L0 _ _ _ _ _ _ _ S013
    · exact L2 _ _ _ _ _ _ _ S123
    · exact L5 _ _ _ _ _ _ _ S135
  have S15 : KG l Q 6 #[false, true, false, false, false, true, false, false] (ka undef v1 undef undef undef v5 undef undef) w := by
    refine any_ready (rs := [0, 2, 3, 6]) (by kernel_rfl) (by simp) (fun i hi => ?_)
    simp at hi
    rcases hi with rfl | rfl | rfl | rfl
    · exact L0 _ _ _ _ _ _ _ S015
    · exact L2 _ _ _ _ _ _ _ S125
    · exact L3 _ _ _ _ _ _ _ S135
    · exact L6 _ _ _ _ _ _ S156
  have S23 : KG l Q 6 #[false, false, true, true, false, false, false, false] (ka undef undef v2 v3 undef undef undef undef) w := by
    refine any_ready (rs := [0, 1, 5]) (by kernel_rfl) (by simp) (fun i hi => ?_)
    simp at hi
    rcases hi with rfl | rfl | rfl
    · exact L0 _ _ _ _ _ _ _ S023
    · exact L1 _ _ _ _ _ _ _ S123
    · exact L5 _ _ _ _ _ _ _ S235
  have S25 : KG l Q 6 #[false, false, true, false, false, true, false, false] (ka undef undef v2 undef undef v5 undef undef) w := by
    refine any_ready (rs := [0, 1, 3, 6]) (by kernel_rfl) (by simp) (fun i hi => ?_)
    simp at hi
    rcases hi with rfl | rfl | rfl | rfl
    · exact L0 _ _ _ _ _ _ _ S025
    · exact L1 _ _ _ _ _ _ _ S125
    · exact L3 _ _ _ _ _ _ _ S235
    · exact L6 _ _ _ _ _ _ S256
  have S35 : KG l Q 6 #[false, false, false, true, false, true, false, false] (ka undef undef undef v3 undef v5 undef undef) w := by
    refine any_ready (rs := [0, 1, 2, 6]) (by kernel_rfl) (by simp) (fun i hi => ?_)
    simp at hi
    rcases hi with rfl | rfl | rfl | rfl
    · exact L0 _ _ _ _ _ _ _ S035
    · exact L1 _ _ _ _ _ _ _ S135
    · exact L2 _ _ _ _ _ _ _ S235
    · exact L6 _ _ _ _ _ _ S356
  have S56 : KG l Q 6 #[false, false, false, false, false, true, true, false] (ka undef undef undef undef undef v5 v6 undef) w := by
    refine any_ready (rs := [0, 1, 2, 3]) (by kernel_rfl) (by simp) (fun i hi => ?_)
    simp at hi
    rcases hi with rfl | rfl | rfl | rfl
    · exact L0 _ _ _ _ _ _ _ S056
    · exact L1 _ _ _ _ _ _ _ S156
    · exact L2 _ _ _ _ _ _ _ S256
    · exact L3 _ _ _ _ _ _ _ S356
  have S0 : KG l Q 7 #[true, false, false, false, false, false, false, false] (ka v0 undef undef undef undef undef undef undef) w := by
    refine any_ready (rs := [1, 2, 3, 5]) (by kernel_rfl) (by simp) (fun i hi => ?_)
    simp at hi
    rcases hi with rfl | rfl | rfl | rfl
    · exact L1 _ _ _ _ _ _ _ S01
    · exact L2 _ _ _ _ _ _ _ S02
    · exact L3 _ _ _ _ _ _ _ S03
    · exact L5 _ _ _ _ _ _ _ S05
  have S1 : KG l Q 7 #[false, true, false, false, false, false, false, false] (ka undef v1 undef undef undef undef undef undef) w := by
    refine any_ready (rs := [0, 2, 3, 5]) (by kernel_rfl) (by simp) (fun i hi => ?_)
    simp at hi
    rcases hi with rfl | rfl | rfl | rfl
    · exact L0 _ _ _ _ _ _ _ S01
    · exact L2 _ _ _ _ _ _ _ S12
    · exact L3 _ _ _ _ _ _ _ S13
    · exact L5 _ _ _ _ _ _ _ S15
  have S2 : KG l Q 7 #[false, false, true, false, false, false, false, false] (ka undef undef v2 undef undef undef undef undef) w := by
    refine any_ready (rs := [0, 1, 3, 5]) (by kernel_rfl) (by simp) (fun i hi => ?_)
    simp at hi
    rcases hi with rfl | rfl | rfl | rfl
    · exact L0 _ _ _ _ _ _ _ S02
    · exact L1 _ _ _ _ _ _ _ S12
    · exact L3 _ _ _ _ _ _ _ S23
    · exact L5 _ _ _ _ _ _ _ S25
  have S3 : KG l Q 7 #[false, false, false, true, false, false, false, false] (ka undef undef undef v3 undef undef undef undef) w := by
    refine any_ready (rs := [0, 1, 2, 5]) (by kernel_rfl) (by simp) (fun i hi => ?_)
    simp at hi
    rcases hi with rfl | rfl | rfl | rfl
    · exact L0 _ _ _ _ _ _ _ S03
    · exact L1 _ _ _ _ _ _ _ S13
    · exact L2 _ _ _ _ _ _ _ S23
    · exact L5 _ _ _ _ _ _ _ S35
  have S5 : KG l Q 7 #[false, false, false, false, false, true, false, false] (ka undef undef undef undef undef v5 undef undef) w := by
    refine any_ready (rs := [0, 1, 2, 3, 6]) (by kernel_rfl) (by simp) (fun i hi => ?_)
    simp at hi
    rcases hi with rfl | rfl | rfl | rfl | rfl
    · exact L0 _ _ _ _ _ _ _ S05
    · exact L1 _ _ _ _ _ _ _ S15
    · exact L2 _ _ _ _ _ _ _ S25
    · exact L3 _ _ _ _ _ _ _ S35
    · exact L6 _ _ _ _ _ _ S56
  have S : KG l Q 8 #[false, false, false, false, false, false, false, false] (ka undef undef undef undef undef undef undef undef) w := by
    refine any_ready (rs := [0, 1, 2, 3, 5]) (by kernel_rfl) (by simp) (fun i hi => ?_)
    simp at hi
    rcases hi with rfl | rfl | rfl | rfl | rfl
    · exact L0 _ _ _ _ _ _ _ S0
    · exact L1 _ _ _ _ _ _ _ S1
    · exact L2 _ _ _ _ _ _ _ S2
    · exact L3 _ _ _ _ _ _ _ S3
    · exact L5 _ _ _ _ _ _ _ S5
  exact S
end Go.Proofs.YtkkkblghihheeaaDoor
namespace Go.Proofs.YtkkkblghihheeaaDoor
open Go.RowKit Go.Shelf

attribute [local go_sem] Oper.semAt_some
theorem below_keeps {B : Nat} {W W' : World} (hb : Below W.heap.size W W') : KeepsFrom B W W' := ⟨hb.size, fun k _ _ hk _ => (hb.block k (Array.getElem?_eq_some_iff.1 hk).1).trans hk⟩
theorem only_keeps {B : Nat} {F : Nat → Prop} {W W' : World} (ho : Only F W W') (hF : ∀ k, F k → ∃ cs t fr, W.heap[k]? = some (.cells cs t fr)) : KeepsFrom B W W' := ⟨ho.size, fun k o _ hk hc => (ho.block k (Array.getElem?_eq_some_iff.1 hk).1 fun e => by
  obtain ⟨cs, t, fr, h1⟩ := hF k e
  rw [hk] at h1
  cases h1
  cases hc).trans hk⟩
theorem kpp_only {Bs b : Nat} {F : Nat → Prop} {W W' : World} (ho : Only F W W') (h1 : Bs < W.heap.size) (h2 : b < W.heap.size) (hF : ∀ k, F k → k ≠ Bs ∧ k ≠ b) : KpP Bs b W W' := fun k hk => ho.block k (by rcases hk with rfl | rfl <;> omega) fun e => by
  have := hF k e
  rcases hk with rfl | rfl <;> omega
set_option maxRecDepth 100000 in
set_option maxHeartbeats 2000000 in
theorem kids_any (f : FuncId) (caps : Array Value) (bl : Nat) (Inv : Nat → List (List Node3 × Nat) → World → Prop) (V : KVis f caps bl Inv) (g o n c : Nat) (t r : List Node3) (n0 : Node3) (ks : List (List Node3)) (w : World) (hn : t.length = n) (hnb : n ≤ 4096) (hsl : Slice (some ⟨g, o, none⟩) n c) (hA : Holds w (some ⟨g, o, none⟩) (nodesV t)) (hL : Lim w)
    (ht : t = n0 :: r) (hh : holdsN n0) (hr : PartsR (follow n0 0) ks r) (hbl : bl < w.heap.size) (hbg : bl ≠ g) (hb0 : bl ≠ 0) (hI0 : ∀ B, w.heap.size ≤ B → Inv B [] w) :
    Calls Tryd.prog 47 #[.slice (some ⟨g, o, none⟩) n c, .func (.func f) #[] caps] w fun e W' => e = .returned (.tuple #[]) ∧ ∃ B L, w.heap.size ≤ B ∧ Inv B L W' ∧ ks = L.map Prod.fst ∧ L.map Prod.snd = aroundsR (follow n0 0) ∧ Only (fun j => j = bl) w W' := by
  have hbA : Below w.heap.size w (((w.alloc (.cells #[.slice (some ⟨g, o, none⟩) n c] 23)).alloc (.cells #[.func (.func f) #[] caps] 66)).alloc (.cells #[.int .i64 1] 3)) := (((Below.refl _ _).alloc (Nat.le_refl _) _).alloc (by simp) _).alloc (by simp; omega) _
  have hA1 := hA.below hbA
  have hg : g < w.heap.size := by
    obtain ⟨b, o', e, hlt, -⟩ := hA.at_ (by rw [nodesV_len, ht]; simp)
    cases e
    exact hlt
  have hw0 := hL.pos
  have r0 := hA1.cell (nodesV_get0 (j := 0) (by rw [ht]; simp))
  have r1 := hA1.cell (nodesV_get1 (j := 0) (by rw [ht]; simp))
  have r2 := hA1.cell (nodesV_get2 (j := 0) (by rw [ht]; simp))
  simp only [Nat.zero_mul, Nat.add_zero, Nat.zero_add] at r0 r1 r2
  have h0n : 0 < n := by rw [← hn, ht]; simp
  have e0 : t[0]'(by rw [ht]; simp) = n0 := by simp [ht]
  rw [e0] at r0 r1 r2
  have HFO := Lib.hid (fun W => follow_any (.slice none 0 0) [] n0 0 W (OwnP.nil W) hh (by omega) (by simp))
  have HFW := Lib.hid (follow_few hh)
  have hd1 : t.drop 1 = r := by rw [ht]; rfl
  rw [← hd1] at hr
  clear hd1
  obtain ⟨no, nA, nB⟩ := n0
  simp only at r0 r1 r2
  have HT := Lib.hid hn
  have HSL := Lib.hid hsl
  have HR := Lib.hid hr
  have HA := Lib.hid hA
  have HL := Lib.hid hL
  clear hn hsl hr hA hL e0 ht hh
  refine (callsIn_wide (n := 6)).1 ?_
  refine callsIn_of_wp_marks Tryd.func47 rfl trivial ?_ rfl
  simp only [Tryd.ntmps47, List.size_toArray, List.length_cons, List.length_nil, Nat.reduceAdd, Nat.reduceSub, Array.replicate_succ, Array.replicate_zero, List.push_toArray, List.append_toArray, List.nil_append, List.cons_append]
  have hat0 : Whole (((w.alloc (.cells #[.slice (some ⟨g, o, none⟩) n c] 23)).alloc (.cells #[.func (.func f) #[] caps] 66)).alloc (.cells #[.int .i64 1] 3)) (w.heap.size + 1 + 1) #[.int .i64 1] 3 := by
    have := Whole.new ((w.alloc (.cells #[.slice (some ⟨g, o, none⟩) n c] 23)).alloc (.cells #[.func (.func f) #[] caps] 66)) #[.int .i64 1] 3
    simpa using this
  have hvt0 : Whole (((w.alloc (.cells #[.slice (some ⟨g, o, none⟩) n c] 23)).alloc (.cells #[.func (.func f) #[] caps] 66)).alloc (.cells #[.int .i64 1] 3)) (w.heap.size + 1) #[.func (.func f) #[] caps] 66 := by
    have := Whole.new (w.alloc (.cells #[.slice (some ⟨g, o, none⟩) n c] 23)) #[.func (.func f) #[] caps] 66
    rw [World.size_alloc] at this
    exact this.below ((Below.refl _ _).alloc (Nat.le_refl _) _) (by simp)
  have htt0 : Whole (((w.alloc (.cells #[.slice (some ⟨g, o, none⟩) n c] 23)).alloc (.cells #[.func (.func f) #[] caps] 66)).alloc (.cells #[.int .i64 1] 3)) w.heap.size #[.slice (some ⟨g, o, none⟩) n c] 23 :=
    (Whole.new w _ _).below (B := w.heap.size + 1) (((Below.refl _ _).alloc (by simp) _).alloc (by simp) _) (by omega)
  have hszA : (((w.alloc (.cells #[.slice (some ⟨g, o, none⟩) n c] 23)).alloc (.cells #[.func (.func f) #[] caps] 66)).alloc (.cells #[.int .i64 1] 3)).heap.size = w.heap.size + 3 := by simp
  have HAT := Lib.hid hat0
  have HVT := Lib.hid hvt0
  have HTT := Lib.hid htt0
  have HBA := Lib.hid hbA
  have HSA := Lib.hid hszA
  clear hat0 hvt0 htt0 hbA hszA
  gi_wp2
  refine ⟨trivial, (callsIn_wide.2 (HFO.out _)).mono ?_⟩
  rintro e w1 ⟨v', rfl, hop, hmv⟩
  have hb1 := hmv.below (Nat.le_refl _) (fun g hg => by simp [Value.ownBlock] at hg)
  obtain ⟨Rp, cp, rfl, hsp, -⟩ := own_slice hop
  have hps := hop.parts
  have hnx := hmv.next
  obtain ⟨q, hq⟩ : ∃ q, follow (no, nA, nB) 0 = q := ⟨_, rfl⟩
  simp only [List.nil_append, hq] at hps hnx hop ⊢
  have hqf : q.length ≤ 100 := by rw [← hq]; exact HFW.out
  obtain ⟨bp, hpa, hbp⟩ := hps
  have hbw : bp = 0 ∨ w.heap.size + 3 ≤ bp := by
    rcases hbp with h | h
    · exact .inl h
    · rcases hnx bp h with h' | h'
      · simp [Value.ownBlock] at h'
      · rw [HSA.out] at h'
        exact .inr h'
  have hs1 : w.heap.size + 3 ≤ w1.heap.size := by have := hb1.size; rw [HSA.out] at this; exact this
  have HB1 := Lib.hid hb1
  have HPA := Lib.hid hpa
  have hbl1 : bp < w1.heap.size := by
    rcases hbp with rfl | h
    · omega
    · exact (World.ownsRow.lt hop bp h).2
  clear hb1 hpa hop hmv hnx hbp
  gi_wp2
  refine ⟨trivial, (back_in Fence.wide 5 trivial rfl _ _ _ _).mono ?_⟩
  rintro e w2 ⟨rfl, rfl⟩
  gi_wp2
  obtain ⟨W0, hW0⟩ : ∃ W0, w1.alloc (.cells #[.slice Rp q.reverse.length cp] 91) = W0 := ⟨_, rfl⟩
  have hsz0 : w1.heap.size < W0.heap.size := by rw [← hW0]; simp
  have hbx : W0.cell? ⟨w1.heap.size, 0, none⟩ = some (.slice Rp q.reverse.length cp) := by rw [← hW0]; exact (Whole.new w1 _ _).cell 0
  have hbW : Below w1.heap.size w1 W0 := by rw [← hW0]; exact (Below.refl _ _).alloc (Nat.le_refl _) _
  have hpa0 : PartsAt bp W0 (.slice Rp q.reverse.length cp) q.reverse := HPA.out.below hbW
  have hb0A : Below (w.heap.size + 3) (((w.alloc (.cells #[.slice (some ⟨g, o, none⟩) n c] 23)).alloc (.cells #[.func (.func f) #[] caps] 66)).alloc (.cells #[.int .i64 1] 3)) W0 := by
    have := below_step HB1.out hbW
    rwa [HSA.out] at this
  have hb00 : Below w.heap.size w W0 := HBA.out.trans (hb0A.mono (by omega))
  have hst : KAt w W0.heap.size bl f caps Inv g o n c t q ks 0 1 [] ks W0 :=
    ⟨HTT.out.below hb0A (by omega), HVT.out.below hb0A (by omega), HAT.out.below hb0A (by omega), HA.out.below hb00, HL.out.next hb00, Nat.le_refl _, by omega, by rw [← hq]; exact HR.out, rfl, rfl, V.abide _ _ _ _ (fun _ => False) (hI0 _ (by omega)) (Only.of_below hb00) (fun _ e => e.elim), Only.of_below hb00⟩
  simp only [List.length_reverse] at hW0
  rw [hW0]
  refine range_comes (F := Fence.wide) (n := 6) rfl (by omega) (gf := 83) (lb := #[.pointer (some ⟨w1.heap.size, 0, none⟩)]) rfl trivial (enters_of Tryd.func83 (by kernel_rfl) rfl)
    (x := backY q) (Kp := KpP w1.heap.size bp) (N := q.length) (fun l W hW => by
      have := back_comes Fence.wide 5 trivial rfl (by omega) w1.heap.size bp _ q.reverse (by rw [List.length_reverse]; omega) W0 (by omega) hbx hpa0 l W hW
      rw [List.length_reverse] at this
      exact this.same fun k hk => backY_eq q k hk) (fun _ => rfl) (fun h k => h.trans k)
    (fun W l o' hl k hk => World.putObj_heap_other (by rcases hk with rfl | rfl <;> omega))
    (fun k W => ∃ at_ L left, KAt w W0.heap.size bl f caps Inv g o n c t q ks k at_ L left W) (fun k W W' F ⟨at_, L, left, h⟩ ho hF => ⟨at_, L, left, KAt.stab V (by omega) W W' F h ho hF⟩) ⟨1, [], ks, hst⟩
    (fun k a' W => ∃ Bx, W0.heap.size ≤ Bx ∧ Whole W Bx #[.int .i64 (q.getD k ⟨0, 0⟩).op, .int .i64 ((q.getD k ⟨0, 0⟩).k : Int)] 93 ∧ a' = { tmps := #[.slice (some ⟨g, o, none⟩) n c, .func (.func f) #[] caps, .pointer (some ⟨w.heap.size, 0, none⟩), .pointer (some ⟨w.heap.size + 1, 0, none⟩), .pointer (some ⟨w.heap.size + 1 + 1, 0, none⟩), undef, .pointer (some ⟨Bx, 0, none⟩), undef, .slice (some ⟨g, o, none⟩) n c, .pointer (some ⟨g, o, none⟩), .agg #[.int .i64 no, .int .i64 nA, .int .i64 nB], .slice Rp q.length cp, .func (.func 83) #[] #[.pointer (some ⟨w1.heap.size, 0, none⟩)], .int .i64 ((q.length - 1 - k : Nat) : Int), .agg #[.int .i64 (q.getD k ⟨0, 0⟩).op, .int .i64 ((q.getD k ⟨0, 0⟩).k : Int)], undef, undef, undef, undef, undef, undef, undef, undef, undef, undef, undef, undef, undef, undef, undef, undef, undef], defers := [] })
    (fun k a' W W' F ⟨Bx, h1, h2, h3⟩ ho hF => ⟨Bx, h1, stab_whole _ _ _ W W' F h2 ho fun j e => (hF j e).2, h3⟩) ?assign ?body ?done
  case assign =>
    rintro l k W hk hWs ⟨at_, L, left, hK⟩
    unfold backY
    generalize q.getD k ⟨0, 0⟩ = p
    obtain ⟨po, pk⟩ := p
    gi_wp2
    have hbW : Below W.heap.size W (W.alloc (.cells #[.int .i64 po, .int .i64 (pk : Int)] 93)) := (Below.refl _ _).alloc (Nat.le_refl _) _
    exact ⟨below_keeps hbW, fun j hj => hbW.block j (by rcases hj with rfl | rfl <;> omega), ⟨at_, L, left, hK.below V hbW⟩, W.heap.size, hWs, Whole.new W _ _, rfl⟩
  case body =>
    rintro l k a' W hk hWs ⟨at_, L, left, hK⟩ ⟨Bx, hBx, hX, rfl⟩
    have ca : W.cell? ⟨w.heap.size + 1 + 1, 0, none⟩ = some (.int .i64 (at_ : Int)) := hK.ba.cell 0
    have fa : W.frozen? ⟨w.heap.size + 1 + 1, 0, none⟩ = false := hK.ba.frozen 0
    obtain ⟨p, hp⟩ : ∃ p, q.getD k ⟨0, 0⟩ = p := ⟨_, rfl⟩
    rw [hp] at hX
    have hK0 := hK.le
    by_cases h0 : p.op = 0
    · obtain ⟨x, s, ls, hx, hl, h1, hle, hpr⟩ := hK.kid HT.out hk (by rw [hp]; exact h0)
      obtain ⟨m, hm⟩ : ∃ m, x.length = m := ⟨_, rfl⟩
      rw [hm] at hle hpr
      have hmp : 0 < m := by rw [← hm]; exact h1.pos
      have cX : W.cell? ⟨Bx, 0, none⟩ = some (.int .i64 0) := by rw [hX.cell 0, h0]; rfl
      have ct : W.cell? ⟨w.heap.size, 0, none⟩ = some (.slice (some ⟨g, o, none⟩) n c) := hK.bt.cell 0
      have HWK := Lib.hid (walk_pass (some ⟨g, o, none⟩) n c t (at_ : Int) W HT.out (by omega) hK.hold hK.lim (by unfold I64; omega))
      rw [end_of hx h1 hm] at HWK
      rw [hp]
      obtain ⟨po, pk⟩ := p
      simp only at h0
      subst h0
      have HK := Lib.hid hK
      have HXX := Lib.hid hX
      have HP := Lib.hid hp
      have HX1 := Lib.hid (show x.length = m ∧ t.drop at_ = x ++ s from ⟨hm, hx⟩)
      have HLS := Lib.hid (show left = x :: ls ∧ PartsR (q.drop (k + 1)) ls (t.drop (at_ + m)) from ⟨hl, hpr⟩)
      clear hK hX hp hm hx hl hpr h1
      gi_wp2
      refine ⟨trivial, (CallsIn.inRound l (callsIn_wide.2 HWK.out)).mono ?_⟩
      rintro e W1 ⟨hbW, (⟨y, -, -, -, rfl⟩ | ⟨hbad, -⟩)⟩
      case inr => omega
      have HK1 := Lib.hid (HK.out.below V hbW)
      have HX2 := Lib.hid (HXX.out.below hbW HXX.out.lt)
      have HBW := Lib.hid hbW
      have c3 : W1.cell? ⟨w.heap.size + 1, 0, none⟩ = some (.func (.func f) #[] caps) := HK1.out.bv.cell 0
      have c2 : W1.cell? ⟨w.heap.size, 0, none⟩ = some (.slice (some ⟨g, o, none⟩) n c) := HK1.out.bt.cell 0
      have c4 : W1.cell? ⟨w.heap.size + 1 + 1, 0, none⟩ = some (.int .i64 (at_ : Int)) := HK1.out.ba.cell 0
      have c6 : W1.cell? ⟨Bx, 1, none⟩ = some (.int .i64 (pk : Int)) := HX2.out.cell 1
      clear hbW ct cX ca fa
      gi_wp2
      rename_i K hK
      have hsl := HSL.out
      have hgs := HXX.out.lt
      have hbs := HBW.out.size
      have hV := V.call W0.heap.size L x m (c - at_) (some ⟨g, o + at_ * 3, none⟩) pk W1.drew (V.abide _ _ _ _ (fun _ => False) HK1.out.inv (Only.refl _ W1).drew (fun _ e => e.elim)) (by omega) HK1.out.size HX1.out.1 (by omega) (by
        have h1 := congrArg List.length HK.out.arounds
        have h2 : (aroundsR (q.take k)).length ≤ q.length := by
          unfold aroundsR
          rw [List.length_map]
          exact Nat.le_trans (List.length_filter_le _ _) (by rw [List.length_take]; omega)
        rw [List.length_map] at h1
        omega) ⟨by have := hsl.1; omega, by have := hsl.2.1; omega, fun h => (by cases h)⟩ (piece_nodes HK1.out.hold HX1.out.2 (by rw [HT.out]; omega))
      refine wpIn_region_any (by kernel_rfl) ?_
      refine kids_reg l f caps _ _ _ _ _ _ _ _ _ _ _ _ _ _ _ _ _ _ ⟨w.heap.size, 0, none⟩ ⟨w.heap.size + 1, 0, none⟩ ⟨w.heap.size + 1 + 1, 0, none⟩ Bx g o n c at_ m pk W1.drew c3 c2 c4 c6 hsl.1 hsl.2.1 hle hmp V.enters _ ((CallsIn.inRound l (callsIn_wide.2 hV)).mono ?_)
      rintro e W2 ⟨rfl, hI2, F, hF1, hF2, hF3⟩
      refine ⟨rfl, hK _ _ ?_⟩
      replace hF1 : Only F W1 W2 := (Only.refl F W1).drew.trans hF1 fun _ _ e => e
      have hst := HK.out.step V hg hw0 hbl hbg hb0 (by omega) hk (by rw [HP.out]) HLS.out.1 hle HLS.out.2 HBW.out hF1 hF2 (by rw [HP.out]; exact hI2)
      have fa : W2.frozen? ⟨w.heap.size + 1 + 1, 0, none⟩ = false := (HK1.out.ba.only hF1 fun e => by rcases hF2 _ e with h | h <;> omega).frozen 0
      have ca : W2.cell? ⟨w.heap.size + 1 + 1, 0, none⟩ = some (.int .i64 (at_ : Int)) := (HK1.out.ba.only hF1 fun e => by rcases hF2 _ e with h | h <;> omega).cell 0
      have HST := Lib.hid hst
      have HKF : Hid (KeepsFrom W0.heap.size W W2) := Lib.hid ((below_keeps HBW.out).trans (only_keeps hF1 hF3))
      have HKP : Hid (KpP w1.heap.size bp W W2) := Lib.hid (KpP.trans (fun j hj => HBW.out.block j (by rcases hj with rfl | rfl <;> omega)) (kpp_only hF1 (by have := HK1.out.size; show _ < W1.heap.size; omega) (by have := HK1.out.size; show _ < W1.heap.size; omega) fun j e => by rcases hF2 j e with h | h <;> omega))
      clear hst hV hI2 hF1 hF2 hF3
      gi_wp2
      have := HST.out
      rw [Int.natCast_add] at this
      exact ⟨HKF.out.trans ((KeepsOthers.setCell _ _ _).from _), HKP.out.trans fun j hj => Below.heap_setCell _ _ _ _ (by rcases hj with rfl | rfl <;> simp only <;> omega), at_ + m, _, ls, this⟩
    · obtain ⟨hlt, hnx⟩ := hK.skip V HT.out hg hw0 hbl (by omega) hk (by rw [hp]; exact h0)
      rw [hp]
      obtain ⟨po, pk⟩ := p
      have cX : W.cell? ⟨Bx, 0, none⟩ = some (.int .i64 po) := hX.cell 0
      have cX1 : W.cell? ⟨Bx, 1, none⟩ = some (.int .i64 (pk : Int)) := hX.cell 1
      have e0 : (po != 0) = true := by simpa using h0
      have ewa := IntWalk.i64_in ((at_ : Int) + 1) (by omega)
      have HNX := Lib.hid hnx
      clear hnx hK hp
      gi_wp2
      have := HNX.out
      rw [Int.natCast_add, Int.natCast_one] at this
      exact ⟨(KeepsOthers.setCell _ _ _).from _, fun j hj => Below.heap_setCell _ _ _ _ (by rcases hj with rfl | rfl <;> simp only <;> omega), at_ + 1, L, left, this⟩
  case done =>
    rintro D W hD ⟨at_, L, left, hK⟩ hDK
    have HK := Lib.hid hK
    clear hK
    gi_wp2
    refine ⟨by simp, .inl ⟨_, _, rfl, run_takeDeferred hDK, _, results_none rfl _ _ _, rfl, W0.heap.size, L, by omega, V.stab _ _ W _ _ HK.out.inv (only_putObj W D _) (fun j e => ⟨_, (congrArg (fun i => W.heap[i]?) e).trans hDK, rfl⟩), ?_, ?_, HK.out.only.trans (only_putObj W D _) fun j hj e => by omega⟩⟩
    · have h1 := HK.out.parts
      rw [List.drop_length] at h1
      rw [HK.out.kids, h1.1, List.append_nil]
    · have h1 := HK.out.arounds
      rw [List.take_length] at h1
      rw [h1, ← hq]
end Go.Proofs.YtkkkblghihheeaaDoor
namespace Go.Proofs.YtkkkblghihheeaaDoor
open Go.RowKit

set_option maxRecDepth 100000 in
set_option maxHeartbeats 4000000 in
theorem tkids_any (A : Option Addr) (n c : Nat) (t : List Node3) (w : World) (hn : t.length = n) (hsl : Slice A n c) (hA : Holds w A (nodesV t)) (hL : Lim w) :
    Calls Tryd.prog 20 #[.slice A n c] w (KidsPost t w) := by
  have HSH := Lib.hid (shape_any A n c t w hn hA hL)
  by_cases hs : shapeOf t = 0
  case neg =>
    have e1 : (shapeOf t != 0) = true := by simpa using hs
    have HX := Lib.hid hs
    clear hs hA
    obtain ⟨s1, hs1⟩ : ∃ s1, shapeOf t = s1 := ⟨_, rfl⟩
    rw [hs1] at HSH e1
    clear hs1
    go_enter Tryd.func20, Tryd.ntmps20
    go_wp2_with fail
    refine (HSH.out).mono ?_
    rintro e w1 ⟨rfl, hb1⟩
    go_wp2_with fail
    go_ret
    exact ⟨none, 0, 0, [], rfl, rfl, KRun.start _ _, hb1, .inl ⟨HX.out, rfl⟩⟩
  rw [hs] at HSH
  have hnb : n ≤ 4096 := by have := (ann_of hs).2; omega
  obtain ⟨n0, r, ks, ht, hh, hkr, hpr⟩ := kidsR_of (right_T1 hs)
  have hpos : 0 < n := by rw [← hn, ht]; simp
  obtain ⟨g, o, rfl, hg, -⟩ := hA.at_ (by rw [nodesV_len]; omega)
  have HS := Lib.hid hs
  have HKR := Lib.hid hkr
  have hw0 := hL.pos
  have HK := Lib.hid (show ∀ w1, Below w.heap.size w w1 → _ from fun w1 hb => kids_any 48 #[.pointer (some ⟨w1.heap.size, 0, none⟩)] w1.heap.size (KidsI w1.heap.size) (vis_kids w1.heap.size) g o n c t r n0 ks (w1.alloc (.cells #[.slice none 0 0] 30)) hn hnb hsl ((hA.below hb).alloc _) ((hL.next hb).next ((Below.refl _ _).alloc (Nat.le_refl _) _)) ht hh hpr (by simp) (by have := hb.size; omega) (by have := hb.size; omega)
    (fun B hB => ⟨none, 0, 0, [], Whole.new w1 _ _, KRun.start _ _, rfl, rfl⟩))
  clear hn hsl hA hL hs hkr hpr ht hh
  go_enter Tryd.func20, Tryd.ntmps20
  go_wp2_with fail
  refine (HSH.out).mono ?_
  rintro e w1 ⟨rfl, hb1⟩
  have HB1 := Lib.hid hb1
  have HK1 := Lib.hid (HK.out w1 hb1)
  clear hb1 HK HSH
  go_wp2_with fail
  refine (HK1.out).mono ?_
  rintro e w3 ⟨rfl, B, L, hB, ⟨R, k, cr, l, hW, hKR, hlk, hlm⟩, hks, har, ho⟩
  have cb : w3.cell? ⟨w1.heap.size, 0, none⟩ = some (.slice R k cr) := hW.cell 0
  have HKX := Lib.hid hKR
  have HLK := Lib.hid hlk
  have HLM := Lib.hid hlm
  have HKS := Lib.hid hks
  have HAR := Lib.hid har
  have hbB : w1.heap.size ≤ B := by have := hB; simp at this; omega
  have HB3 := Lib.hid (show Below w.heap.size w w3 from (below_alloc HB1.out (.cells #[.slice none 0 0] 30)).trans (ho.below (B := w.heap.size) (by have := HB1.out.size; simp; omega) fun j hj e => by have := HB1.out.size; omega))
  clear hKR hlk hlm hks har ho hW hB
  go_wp2_with fail
  go_ret
  exact ⟨R, k, cr, l, rfl, HLK.out, HKX.out.mono (Nat.le_trans HB1.out.size hbB), HB3.out, .inr ⟨HS.out, n0, by rw [HLM.out, ← HKS.out]; exact HKR.out⟩⟩
set_option maxRecDepth 100000 in
set_option maxHeartbeats 4000000 in
theorem tbinders_any (A : Option Addr) (n c : Nat) (t : List Node3) (w : World) (hn : t.length = n) (hsl : Slice A n c) (hA : Holds w A (nodesV t)) (hL : Lim w) :
    Calls Tryd.prog 23 #[.slice A n c] w (BindersPost t w) := by
  have HSH := Lib.hid (shape_any A n c t w hn hA hL)
  by_cases hs : shapeOf t = 0
  case neg =>
    have e1 : (shapeOf t != 0) = true := by simpa using hs
    have HX := Lib.hid hs
    clear hs hA
    obtain ⟨s1, hs1⟩ : ∃ s1, shapeOf t = s1 := ⟨_, rfl⟩
    rw [hs1] at HSH e1
    clear hs1
    go_enter Tryd.func23, Tryd.ntmps23
    go_wp2_with fail
    refine (HSH.out).mono ?_
    rintro e w1 ⟨rfl, hb1⟩
    go_wp2_with fail
    go_ret
    exact ⟨none, 0, 0, [], rfl, rfl, IRun.start _ _, hb1, .inl ⟨HX.out, rfl⟩⟩
  rw [hs] at HSH
  have hnb : n ≤ 4096 := by have := (ann_of hs).2; omega
  obtain ⟨n0, r, ks, ht, hh, hkr, hpr⟩ := kidsR_of (right_T1 hs)
  have hpos : 0 < n := by rw [← hn, ht]; simp
  obtain ⟨g, o, rfl, hg, -⟩ := hA.at_ (by rw [nodesV_len]; omega)
  have HS := Lib.hid hs
  have HKR := Lib.hid hkr
  have hw0 := hL.pos
  have HK := Lib.hid (show ∀ w1, Below w.heap.size w w1 → _ from fun w1 hb => kids_any 52 #[.pointer (some ⟨w1.heap.size, 0, none⟩)] w1.heap.size (BindersI w1.heap.size) (vis_binders w1.heap.size) g o n c t r n0 ks (w1.alloc (.cells #[.slice none 0 0] 33)) hn hnb hsl ((hA.below hb).alloc _) ((hL.next hb).next ((Below.refl _ _).alloc (Nat.le_refl _) _)) ht hh hpr (by simp) (by have := hb.size; omega) (by have := hb.size; omega)
    (fun B hB => ⟨none, 0, 0, [], Whole.new w1 _ _, IRun.start _ _, rfl, rfl⟩))
  clear hn hsl hA hL hs hkr hpr ht hh
  go_enter Tryd.func23, Tryd.ntmps23
  go_wp2_with fail
  refine (HSH.out).mono ?_
  rintro e w1 ⟨rfl, hb1⟩
  have HB1 := Lib.hid hb1
  have HK1 := Lib.hid (HK.out w1 hb1)
  clear hb1 HK HSH
  go_wp2_with fail
  refine (HK1.out).mono ?_
  rintro e w3 ⟨rfl, B, L, hB, ⟨R, k, cr, l, hW, hKR, hlk, hlm⟩, hks, har, ho⟩
  have cb : w3.cell? ⟨w1.heap.size, 0, none⟩ = some (.slice R k cr) := hW.cell 0
  have HKX := Lib.hid hKR
  have HLK := Lib.hid hlk
  have HLM := Lib.hid hlm
  have HKS := Lib.hid hks
  have HAR := Lib.hid har
  have hbB : w1.heap.size ≤ B := by have := hB; simp at this; omega
  have HB3 := Lib.hid (show Below w.heap.size w w3 from (below_alloc HB1.out (.cells #[.slice none 0 0] 33)).trans (ho.below (B := w.heap.size) (by have := HB1.out.size; simp; omega) fun j hj e => by have := HB1.out.size; omega))
  clear hKR hlk hlm hks har ho hW hB
  go_wp2_with fail
  go_ret
  exact ⟨R, k, cr, l, rfl, HLK.out, HKX.out.mono (Nat.le_trans HB1.out.size hbB), HB3.out, .inr ⟨HS.out, n0, ks, HKR.out, by
    have h1 := HAR.out
    rw [arounds_follow HKR.out] at h1
    rw [HLM.out, show (L.map fun x => ((x.2 : Nat) : Int)) = (L.map Prod.snd).map fun j => ((j : Nat) : Int) by rw [List.map_map]; rfl, h1, List.map_map]
    rfl⟩⟩
end Go.Proofs.YtkkkblghihheeaaDoor
