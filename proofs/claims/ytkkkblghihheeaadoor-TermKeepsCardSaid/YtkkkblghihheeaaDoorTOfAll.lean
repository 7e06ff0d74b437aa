/- The document's answer: Shape, Of, End. -/
import Derived.Test.YtkkkblghihheeaaDoorTRead2
import Derived.Test.YtkkkblghihheeaaDoorTRead3
import Derived.Test.YtkkkblghihheeaaDoorTRead4
import Derived.Test.YtkkkblghihheeaaDoorTReadP
import Derived.Test.YtkkkblghihheeaaDoorTFacts
import Derived.Test.YtkkkblghihheeaaDoorTFold2
namespace Go.Proofs.YtkkkblghihheeaaDoor
open Go.RowKit

theorem read_any : ∀ (N n : Nat) (t : List Node3) (A : Option Addr) (c : Nat) (w : World), n ≤ N → t.length = n → n ≤ 100000 → Slice A n c → Holds w A (nodesV t) → (∀ x ∈ t, Wide3 x) →
    Calls Tryd.prog 42 #[.slice A n c] w (ReadPost t w) := by
  intro N
  induction N with
  | zero =>
    intro n t A c w hN hn _ _ _ _
    obtain rfl : n = 0 := by omega
    obtain rfl := List.eq_nil_of_length_eq_zero hn
    exact read_nil A c w
  | succ N ih =>
    intro n t A c w hN hn hnb hsl hA hw
    by_cases h0 : n = 0
    · subst h0
      obtain rfl := List.eq_nil_of_length_eq_zero hn
      exact read_nil A c w
    obtain ⟨g, o, rfl, -, -⟩ := hA.at_ (by rw [nodesV_len]; omega)
    have h0' : 0 < n := by omega
    have IH : ∀ (at_ : Nat) (A : Option Addr) (c' : Nat) (w' : World), 0 < at_ → at_ ≤ n → Slice A (n - at_) c' → Holds w' A (nodesV (t.drop at_)) → Calls Tryd.prog 42 #[.slice A (n - at_) c'] w' (ReadPost (t.drop at_) w') := fun at_ A c' w' h1 h2 h3 h4 =>
      ih (n - at_) (t.drop at_) A c' w' (by omega) (by rw [List.length_drop, hn]) (by omega) h3 h4 fun x hx => hw x (List.mem_of_mem_drop hx)
    cases h : topB (t[0]'(by omega)) with
    | false => exact read_topno g o n c t w hn h0' hA hw h
    | true =>
      by_cases h2 : (t[0]'(by omega)).1 = 2
      · exact read_sort g o n c t w hn h0' hnb hA hw h h2
      · by_cases h12 : (t[0]'(by omega)).1 = 12
        · exact read_fix g o n c t w hn h0' hnb hsl hA hw h h2 h12 IH
        · exact read_plain g o n c t w hn h0' hnb hsl hA hw h h2 h12 IH
end Go.Proofs.YtkkkblghihheeaaDoor
namespace Go.Proofs.YtkkkblghihheeaaDoor
open Go.RowKit

theorem top0_of {t : List Node3} {a : Ann} {s : List Node3} {e : Node3} (h : W t (0, 0, 0) [⟨0, 0⟩] = some (a, s, e)) : top0 t = some (a, s) := by
  unfold top0 V
  rw [h]
  rfl
theorem top0_W {t : List Node3} {a : Ann} {s : List Node3} (h : top0 t = some (a, s)) : ∃ e, W t (0, 0, 0) [⟨0, 0⟩] = some (a, s, e) := by
  unfold top0 V at h
  cases hw : W t (0, 0, 0) [⟨0, 0⟩] with
  | none => rw [hw] at h; cases h
  | some x =>
    obtain ⟨a', s', e⟩ := x
    rw [hw] at h
    cases h
    exact ⟨e, rfl⟩
theorem top0_W_none {t : List Node3} (h : top0 t = none) : W t (0, 0, 0) [⟨0, 0⟩] = none := by
  cases hw : W t (0, 0, 0) [⟨0, 0⟩] with
  | none => rfl
  | some x =>
    obtain ⟨a, s, e⟩ := x
    rw [top0_of hw] at h
    cases h
theorem shape_big {t : List Node3} (h : 4096 < t.length) : shapeOf t = 9 := by unfold shapeOf; rw [if_pos h]
theorem end_none {t : List Node3} {at0 : Int} (h : top0 (t.drop at0.toNat) = none) : endOf t at0 = -1 := by
  unfold endOf
  split
  · rfl
  · rw [top0_W_none h]
theorem end_some {t : List Node3} {at0 : Int} {a : Ann} {s : List Node3} (h0 : 0 ≤ at0) (h : top0 (t.drop at0.toNat) = some (a, s)) : endOf t at0 = at0 + a.length := by
  obtain ⟨e, h⟩ := top0_W h
  unfold endOf
  rw [if_neg (by omega), h]
theorem shape_none {t : List Node3} (hl : ¬ 4096 < t.length) (h : top0 t = none) : shapeOf t = 8 := by
  unfold shapeOf
  rw [if_neg hl, end_none (by simpa using h), if_neg (by omega)]
theorem shape_some {t : List Node3} {a : Ann} {s : List Node3} (hl : ¬ 4096 < t.length) (h : top0 t = some (a, s)) : shapeOf t = if a.length = t.length then 0 else 8 := by
  unfold shapeOf
  rw [if_neg hl, end_some (by omega) (by simpa using h)]
  by_cases he : a.length = t.length
  · rw [if_pos he, if_pos (by omega)]
  · rw [if_neg he, if_neg (by omega)]
theorem shape_top {t : List Node3} (h : shapeOf t = 0) : top0 t = some (annOf t, []) := by
  obtain ⟨-, -, e, hW⟩ := right_of h
  exact top0_of hW
theorem small_of {t : List Node3} (h : shapeOf t = 0) : SmallA (annOf t) := fun x hx => by
  have := holds_a ((ann_of h).1.ok x hx)
  omega
theorem len_of {t : List Node3} (h : shapeOf t = 0) : (annOf t).length = t.length ∧ t.length ≤ 4096 := ⟨(ann_of h).1.len, (ann_of h).2⟩
theorem deep_of {t : List Node3} (h : shapeOf t = 0) : DeepA 16384 (annOf t) := fun x hx => by
  obtain ⟨-, -, e, hW⟩ := right_of h
  have := W_bound _ _ _ _ _ _ 0 hW (by intro p hp; simp only [List.mem_cons, List.not_mem_nil, or_false] at hp; subst hp; exact Nat.le_refl _) x hx
  have := len_of h
  omega
theorem gr_lt {a : Ann} {m : Int} (hm : 0 ≤ m) : gr 0 a < m ↔ ∀ x ∈ a, freeN x.1 x.2 < m := by
  have h := top_le freeN 0 a (m - 1)
  constructor
  · intro h1 x hx
    have := (h.1 (by unfold gr at h1; omega)).2 x hx
    simp only [Nat.add_zero] at this
    omega
  · intro h1
    have := h.2 ⟨by omega, fun x hx => by have := h1 x hx; simp only [Nat.add_zero]; omega⟩
    unfold gr
    omega
theorem gr_small {a : Ann} (h : ∀ x ∈ a, holdsN x.1) : gr 0 a ≤ 1048576 := by
  have := (gr_lt (a := a) (m := 1048577) (by omega)).2 fun x hx => by
    have := holds_a (h x hx)
    unfold freeN
    split <;> omega
  omega
theorem lift_still {a : Ann} {by_ from_ : Int} (h : ∀ x ∈ a, freeN x.1 x.2 < from_) : a.map (liftX by_ from_) = a.map Prod.fst :=
  List.map_congr_left fun x hx => liftX_not (by have := h x hx; omega)
theorem free_raise {n : Node3} {k : Nat} {f : Nat} : (0 ≤ freeN n k ∧ (f : Int) ≤ freeN n k) ↔ (n.1 = 1 ∧ ((k + f : Nat) : Int) ≤ n.2.1) := by
  unfold freeN
  by_cases h : n.1 = 1
  · rw [if_pos h]
    constructor
    · intro h'; exact ⟨h, by omega⟩
    · intro h'; omega
  · rw [if_neg h]
    constructor
    · intro h'; omega
    · intro h'; exact absurd h'.1 h
theorem rz_lift {a : Ann} (hok : ∀ x ∈ a, holdsN x.1) (by_ f : Nat) : (rz by_ f a).map Prod.fst = a.map (liftX by_ f) := by
  unfold rz each
  rw [List.map_flatMap, List.map_eq_flatMap]
  refine flat_congr fun x hx => ?_
  have hh := hok x hx
  unfold rzF
  by_cases h : x.1.1 = 1 ∧ ((x.2 + f : Nat) : Int) ≤ x.1.2.1
  · rw [if_pos h, liftX_yes (free_raise.2 h)]
    have hB : x.1.2.2 = 0 := by unfold holdsN at hh; omega
    simp [shA, h.1, hB]
  · rw [if_neg h, liftX_not (fun h' => h (free_raise.1 h'))]
    simp [shA]
theorem hi_room {a : Ann} {by_ f : Nat} (hb : by_ ≤ 4000000) : hi by_ f a ≤ 1048576 ↔ (by_ : Int) ≤ roomN f a := by
  unfold hi
  rw [top_le]
  constructor
  · rintro ⟨-, h⟩
    refine le_room (by omega) fun x hx h1 h2 => ?_
    have := h x hx
    unfold hiF at this
    rwa [if_pos (free_raise.1 ⟨h1, h2⟩)] at this
  · intro h
    refine ⟨by omega, fun x hx => ?_⟩
    unfold hiF
    split
    · rename_i h1
      have h2 := free_raise.2 h1
      exact room_le h x hx h2.1 h2.2
    · omega
/-- Lift's answer, case by case. -/
theorem liftR0 {t : List Node3} {by_ f : Int} (h : shapeOf t ≠ 0) : liftS t by_ f = ([], shapeOf t) := by unfold liftS; rw [if_pos h]
theorem liftR1 {t : List Node3} {by_ f : Int} (h : shapeOf t = 0) (h1 : by_ < 0 ∨ f < 0) : liftS t by_ f = ([], 1) := by unfold liftS; rw [if_neg (by simpa using h), if_pos h1]
theorem liftR2 {t : List Node3} {by_ f : Int} (h : shapeOf t = 0) (h1 : 0 ≤ by_) (hb : by_ ≤ 9223372036854775807) (h2 : 0 ≤ f) (h3 : gr 0 (annOf t) < f) : liftS t by_ f = ((annOf t).map Prod.fst, 0) := by
  have hg := (gr_lt h2).1 h3
  have hr : by_ ≤ roomN f (annOf t) := le_room (by omega) fun x hx _ h5 => by have := hg x hx; omega
  rw [lift_vals h h1 h2, if_neg (by omega), lift_still hg]
theorem liftR3 {t : List Node3} {by_ f : Int} (h : shapeOf t = 0) (h1 : 0 ≤ by_) (h2 : 0 ≤ f) (h3 : f ≤ gr 0 (annOf t)) (hb : 1048576 < by_) : liftS t by_ f = ([], 6) := by
  rw [lift_vals h h1 h2, if_pos]
  refine Decidable.byContradiction fun hr => ?_
  have hr' := room_le (show by_ ≤ roomN f (annOf t) by omega)
  have : gr 0 (annOf t) < f := (gr_lt h2).2 fun x hx => by
    refine Decidable.byContradiction fun hc => ?_
    have h4 := hr' x hx (by omega) (by omega)
    have := holds_a ((ann_of h).1.ok x hx)
    omega
  omega
theorem liftR4 {t : List Node3} {by_ f : Nat} (h : shapeOf t = 0) (hb : by_ ≤ 4000000) (hh : 1048576 < hi by_ f (annOf t)) : liftS t by_ f = ([], 6) := by
  rw [lift_vals h (by omega) (by omega), if_pos]
  refine Decidable.byContradiction fun hr => ?_
  have := hi_room (a := annOf t) (f := f) hb |>.2 (by omega)
  omega
theorem liftR5 {t : List Node3} {by_ f : Nat} (h : shapeOf t = 0) (hb : by_ ≤ 4000000) (hh : ¬ 1048576 < hi by_ f (annOf t)) : liftS t by_ f = ((rz by_ f (annOf t)).map Prod.fst, 0) := by
  have := hi_room (a := annOf t) (f := f) hb |>.1 (by omega)
  rw [lift_vals h (by omega) (by omega), if_neg (by omega), rz_lift (ann_of h).1.ok]
theorem rz_len {a : Ann} (hok : ∀ x ∈ a, holdsN x.1) (by_ f : Nat) : (rz by_ f a).length = a.length := by
  have := congrArg List.length (rz_lift hok by_ f)
  simpa using this
/-- Free and Below. -/
theorem hit_free {v : Nat} {x : Node3 × Nat} : hitB v x = (decide (0 ≤ freeN x.1 x.2) && decide (freeN x.1 x.2 = v)) := by
  unfold hitB freeN
  by_cases h : x.1.1 = 1
  · simp only [h, if_true, true_and]
    by_cases h2 : x.1.2.1 = ((x.2 + v : Nat) : Int)
    · rw [decide_eq_true h2, decide_eq_true (by omega), decide_eq_true (by omega)]; rfl
    · rw [decide_eq_false h2, decide_eq_false (p := x.1.2.1 - (x.2 : Int) = v) (by omega), Bool.and_false]
  · simp [h]
theorem free_tm {v : Nat} {a : Ann} : freeB v a = decide (0 < tmN v a) := by
  unfold freeB tmN
  induction a with
  | nil => rfl
  | cons x a ih =>
    rw [List.any_cons, ih, List.countP_cons, ← hit_free]
    cases hitB v x with
    | true => simp
    | false => simp
theorem freeR0 {t : List Node3} {v : Int} (h : shapeOf t ≠ 0) : freeS t v = false := by unfold freeS; rw [decide_eq_false h]; rfl
theorem freeR1 {t : List Node3} {v : Int} (h : shapeOf t = 0) (hv : v < 0 ∨ 1048576 < v) : freeS t v = false := by
  unfold freeS freeB
  rw [Bool.and_eq_false_iff]
  right
  rw [List.any_eq_false]
  intro x hx
  have := holds_a ((ann_of h).1.ok x hx)
  have : freeN x.1 x.2 ≤ 1048576 := by unfold freeN; split <;> omega
  simp only [Bool.and_eq_true, decide_eq_true_eq]
  omega
theorem freeR2 {t : List Node3} {v : Nat} (h : shapeOf t = 0) : freeS t v = decide (0 < tmN v (annOf t)) := by
  unfold freeS
  rw [decide_eq_true h, Bool.true_and, free_tm]
theorem belowR0 {t : List Node3} {v : Int} (h : shapeOf t ≠ 0) : belowS t v = false := by unfold belowS; rw [decide_eq_false h]; rfl
theorem belowR {t : List Node3} {v : Int} (h : shapeOf t = 0) : belowS t v = decide (gr 0 (annOf t) < 0 ∨ gr 0 (annOf t) < v) := by
  unfold belowS belowB
  rw [decide_eq_true h, Bool.true_and]
  have h0 := gr_lt (a := annOf t) (m := 0) (by omega)
  by_cases hv : 0 ≤ v
  · have h1 := gr_lt (a := annOf t) hv
    by_cases hc : gr 0 (annOf t) < v
    · rw [decide_eq_true (.inr hc), List.all_eq_true]
      intro x hx
      have := h1.1 hc x hx
      simp [this]
    · rw [decide_eq_false (by omega), List.all_eq_false]
      refine Classical.byContradiction fun hn => hc (h1.2 fun x hx => ?_)
      refine Decidable.byContradiction fun hx' => hn ⟨x, hx, ?_⟩
      simp only [Bool.or_eq_true, decide_eq_true_eq]
      omega
  · by_cases hc : gr 0 (annOf t) < 0
    · rw [decide_eq_true (.inl hc), List.all_eq_true]
      intro x hx
      have := h0.1 hc x hx
      simp [this]
    · rw [decide_eq_false (by omega), List.all_eq_false]
      refine Classical.byContradiction fun hn => hc (h0.2 fun x hx => ?_)
      refine Decidable.byContradiction fun hx' => hn ⟨x, hx, ?_⟩
      simp only [Bool.or_eq_true, decide_eq_true_eq]
      omega
end Go.Proofs.YtkkkblghihheeaaDoor
namespace Go.Proofs.YtkkkblghihheeaaDoor
open Go.RowKit

set_option maxRecDepth 100000 in
set_option maxHeartbeats 4000000 in
theorem rshape_any (A : Option Addr) (n c : Nat) (t : List Node3) (w : World) (hn : t.length = n) (hsl : Slice A n c) (hA : Holds w A (nodesV t)) (hw : ∀ x ∈ t, Wide3 x) :
    Calls Tryd.prog 16 #[.slice A n c] w fun e w' => e = .returned (.int .i64 (shapeOf t)) ∧ Below w.heap.size w w' := by
  by_cases h : 4096 < n
  · rw [shape_big (by omega)]
    have h1 : (4096 : Int) < (n : Int) := by omega
    clear hn hA hw hsl
    go_enter Tryd.func16, Tryd.ntmps16
    go_wp2_with fail
    go_ret
    exact ⟨rfl, Below.refl _ _⟩
  · have h1 : ¬ (4096 : Int) < (n : Int) := by omega
    have HR := Lib.hid (read_any n n t A c w (Nat.le_refl _) hn (by omega) hsl hA hw)
    have HN := Lib.hid hn
    clear hn hA hw hsl
    go_enter Tryd.func16, Tryd.ntmps16
    go_wp2_with fail
    refine (HR.out).mono ?_
    rintro e w1 (⟨hno, rfl, hb⟩ | ⟨a, s, v, hy, rfl, ht, hb⟩)
    · have HS := Lib.hid (shape_none (by have := HN.out; omega) hno)
      have HB := Lib.hid (hb.alloc hb.size (.cells #[.int .i64 0, .int .i64 0, .int .i64 0, .slice none 0 0, .slice none 0 0, .slice none 0 0] 59))
      clear hno hb
      go_wp2_with fail
      go_ret
      exact ⟨by rw [HS.out]; rfl, HB.out⟩
    · have HS := Lib.hid (shape_some (by have := HN.out; omega) hy)
      obtain ⟨⟨yo, yA, yB⟩, yK, ynk, yck, yP, ynp, ycp, yF, ynf, ycf⟩ := v
      dsimp only [TV.val]
      have HB := Lib.hid (hb.alloc hb.size (.cells #[.int .i64 yo, .int .i64 yA, .int .i64 yB, .slice yK ynk yck, .slice yP ynp ycp, .slice yF ynf ycf] 59))
      rw [HN.out] at HS
      clear hy hb ht
      generalize a.length = m at *
      by_cases hm : m = n
      · rw [if_pos hm] at HS
        subst hm
        go_wp2_with fail
        go_ret
        exact ⟨by rw [HS.out]; rfl, HB.out⟩
      · rw [if_neg hm] at HS
        have e1 : ((m : Int) != (n : Int)) = true := by simp; omega
        have e2 : ((m : Int) == (n : Int)) = false := by simp; omega
        go_wp2_with fail
        go_ret
        exact ⟨by rw [HS.out]; rfl, HB.out⟩
def OfPost (t : List Node3) (w : World) (e : Ending) (w' : World) : Prop :=
  (shapeOf t ≠ 0 ∧ e = .returned (.tuple #[.agg #[.int .i64 0, .int .i64 0, .int .i64 0, .slice none 0 0, .slice none 0 0, .slice none 0 0], .bool false]) ∧ Below w.heap.size w w') ∨
  ∃ v, shapeOf t = 0 ∧ e = .returned (.tuple #[TV.val v, .bool true]) ∧ TreeR w' (fun k => w.heap.size ≤ k) v (annOf t) ∧ Below w.heap.size w w'
theorem OfPost.no {t : List Node3} {w w' : World} (h : shapeOf t ≠ 0) (hb : Below w.heap.size w w') : OfPost t w (.returned (.tuple #[.agg #[.int .i64 0, .int .i64 0, .int .i64 0, .slice none 0 0, .slice none 0 0, .slice none 0 0], .bool false])) w' := .inl ⟨h, rfl, hb⟩
theorem OfPost.yes {t : List Node3} {w w' : World} {v : TV} (h : shapeOf t = 0) (ht : TreeR w' (fun k => w.heap.size ≤ k) v (annOf t)) (hb : Below w.heap.size w w') : OfPost t w (.returned (.tuple #[TV.val v, .bool true])) w' := .inr ⟨v, h, rfl, ht, hb⟩
set_option maxRecDepth 100000 in
set_option maxHeartbeats 4000000 in
theorem rof_any (A : Option Addr) (n c : Nat) (t : List Node3) (w : World) (hn : t.length = n) (hsl : Slice A n c) (hA : Holds w A (nodesV t)) (hw : ∀ x ∈ t, Wide3 x) :
    Calls Tryd.prog 50 #[.slice A n c] w (OfPost t w) := by
  have hb0 : Below w.heap.size w (w.alloc (.cells #[.int .i64 0, .int .i64 0, .int .i64 0, .slice none 0 0, .slice none 0 0, .slice none 0 0] 59)) := (Below.refl _ _).alloc (Nat.le_refl _) _
  have HB0 := Lib.hid hb0
  have HZ := Lib.hid (Whole.new w #[.int .i64 0, .int .i64 0, .int .i64 0, .slice none 0 0, .slice none 0 0, .slice none 0 0] 59)
  have hA1 := hA.below hb0
  have HS := Lib.hid (rshape_any A n c t (w.alloc (.cells #[.int .i64 0, .int .i64 0, .int .i64 0, .slice none 0 0, .slice none 0 0, .slice none 0 0] 59)) hn hsl hA1 hw)
  have HR := Lib.hid fun (h : n ≤ 100000) w1 (hb : Below (w.alloc (.cells #[.int .i64 0, .int .i64 0, .int .i64 0, .slice none 0 0, .slice none 0 0, .slice none 0 0] 59)).heap.size (w.alloc (.cells #[.int .i64 0, .int .i64 0, .int .i64 0, .slice none 0 0, .slice none 0 0, .slice none 0 0] 59)) w1) => read_any n n t A c w1 (Nat.le_refl _) hn h hsl (hA1.below hb) hw
  have HN := Lib.hid hn
  clear hb0 hA1 hA hw hsl hn
  by_cases hs : shapeOf t = 0
  · rw [hs] at HS
    have HLN := Lib.hid (len_of hs)
    have HTP := Lib.hid (shape_top hs)
    have HSS := Lib.hid hs
    clear hs
    go_enter Tryd.func50, Tryd.ntmps50
    go_wp2_with fail
    refine (HS.out).mono ?_
    rintro e w1 ⟨rfl, hb1⟩
    have HB1 := Lib.hid (below_step HB0.out hb1)
    have HZ1 := Lib.hid (HZ.out.below hb1 HZ.out.lt)
    have HRR := Lib.hid (HR.out (by have := HLN.out; have := HN.out; omega) w1 hb1)
    clear hb1
    go_wp2_with fail
    refine (HRR.out).mono ?_
    rintro e w2 (⟨hno, -, -⟩ | ⟨a, s, v, hy, rfl, ht, hb2⟩)
    · rw [HTP.out] at hno; cases hno
    · rw [HTP.out] at hy
      cases hy
      obtain ⟨⟨yo, yA, yB⟩, yK, ynk, yck, yP, ynp, ycp, yF, ynf, ycf⟩ := v
      dsimp only [TV.val]
      generalize (annOf t).length = m at *
      have HL := Lib.hid (show Below w2.heap.size w2 (w2.alloc (.cells #[.int .i64 yo, .int .i64 yA, .int .i64 yB, .slice yK ynk yck, .slice yP ynp ycp, .slice yF ynf ycf] 59)) from (Below.refl _ _).alloc (Nat.le_refl _) _)
      have HT := Lib.hid (ht.next HL.out)
      have HB2 := Lib.hid (below_step (below_step HB1.out hb2) HL.out)
      have hwz := (HZ1.out.below hb2 HZ1.out.lt).below HL.out (by have := HZ1.out.lt; have := hb2.size; omega)
      have HS1 : Hid (w.heap.size < w1.heap.size) := Lib.hid HZ1.out.lt
      clear hb2 ht
      have z0 : (w2.alloc (.cells #[.int .i64 yo, .int .i64 yA, .int .i64 yB, .slice yK ynk yck, .slice yP ynp ycp, .slice yF ynf ycf] 59)).cell? ⟨w.heap.size, 0, none⟩ = some (.int .i64 0) := hwz.cell 0
      have f0 := hwz.frozen 0
      have z1 : (w2.alloc (.cells #[.int .i64 yo, .int .i64 yA, .int .i64 yB, .slice yK ynk yck, .slice yP ynp ycp, .slice yF ynf ycf] 59)).cell? ⟨w.heap.size, 1, none⟩ = some (.int .i64 0) := hwz.cell 1
      have f1 := hwz.frozen 1
      have z2 : (w2.alloc (.cells #[.int .i64 yo, .int .i64 yA, .int .i64 yB, .slice yK ynk yck, .slice yP ynp ycp, .slice yF ynf ycf] 59)).cell? ⟨w.heap.size, 2, none⟩ = some (.int .i64 0) := hwz.cell 2
      have f2 := hwz.frozen 2
      have z3 : (w2.alloc (.cells #[.int .i64 yo, .int .i64 yA, .int .i64 yB, .slice yK ynk yck, .slice yP ynp ycp, .slice yF ynf ycf] 59)).cell? ⟨w.heap.size, 3, none⟩ = some (.slice none 0 0) := hwz.cell 3
      have f3 := hwz.frozen 3
      have z4 : (w2.alloc (.cells #[.int .i64 yo, .int .i64 yA, .int .i64 yB, .slice yK ynk yck, .slice yP ynp ycp, .slice yF ynf ycf] 59)).cell? ⟨w.heap.size, 4, none⟩ = some (.slice none 0 0) := hwz.cell 4
      have f4 := hwz.frozen 4
      have z5 : (w2.alloc (.cells #[.int .i64 yo, .int .i64 yA, .int .i64 yB, .slice yK ynk yck, .slice yP ynp ycp, .slice yF ynf ycf] 59)).cell? ⟨w.heap.size, 5, none⟩ = some (.slice none 0 0) := hwz.cell 5
      have f5 := hwz.frozen 5
      have HWZ := Lib.hid hwz
      clear hwz
      go_wp2_with fail
      have hw6 := ((((((HWZ.out).set_ 0 (.int .i64 yo)).set_ 1 (.int .i64 yA)).set_ 2 (.int .i64 yB)).set_ 3 (.slice yK ynk yck)).set_ 4 (.slice yP ynp ycp)).set_ 5 (.slice yF ynf ycf)
      have ho6 : Only (fun j => j = w.heap.size) (w2.alloc (.cells #[.int .i64 yo, .int .i64 yA, .int .i64 yB, .slice yK ynk yck, .slice yP ynp ycp, .slice yF ynf ycf] 59)) (((((((w2.alloc (.cells #[.int .i64 yo, .int .i64 yA, .int .i64 yB, .slice yK ynk yck, .slice yP ynp ycp, .slice yF ynf ycf] 59)).setCell ⟨w.heap.size, 0, none⟩ (.int .i64 yo)).setCell ⟨w.heap.size, 1, none⟩ (.int .i64 yA)).setCell ⟨w.heap.size, 2, none⟩ (.int .i64 yB)).setCell ⟨w.heap.size, 3, none⟩ (.slice yK ynk yck)).setCell ⟨w.heap.size, 4, none⟩ (.slice yP ynp ycp)).setCell ⟨w.heap.size, 5, none⟩ (.slice yF ynf ycf)) := ((((((Only.refl (fun j => j = w.heap.size) (w2.alloc (.cells #[.int .i64 yo, .int .i64 yA, .int .i64 yB, .slice yK ynk yck, .slice yP ynp ycp, .slice yF ynf ycf] 59))).set_ (.inl rfl) 0 _).set_ (.inl rfl) 1 _).set_ (.inl rfl) 2 _).set_ (.inl rfl) 3 _).set_ (.inl rfl) 4 _).set_ (.inl rfl) 5 _
      generalize (((((((w2.alloc (.cells #[.int .i64 yo, .int .i64 yA, .int .i64 yB, .slice yK ynk yck, .slice yP ynp ycp, .slice yF ynf ycf] 59)).setCell ⟨w.heap.size, 0, none⟩ (.int .i64 yo)).setCell ⟨w.heap.size, 1, none⟩ (.int .i64 yA)).setCell ⟨w.heap.size, 2, none⟩ (.int .i64 yB)).setCell ⟨w.heap.size, 3, none⟩ (.slice yK ynk yck)).setCell ⟨w.heap.size, 4, none⟩ (.slice yP ynp ycp)).setCell ⟨w.heap.size, 5, none⟩ (.slice yF ynf ycf)) = W6 at *
      have q0 : W6.cell? ⟨w.heap.size, 0, none⟩ = some (.int .i64 yo) := hw6.cell 0
      have q1 : W6.cell? ⟨w.heap.size, 1, none⟩ = some (.int .i64 yA) := hw6.cell 1
      have q2 : W6.cell? ⟨w.heap.size, 2, none⟩ = some (.int .i64 yB) := hw6.cell 2
      have q3 : W6.cell? ⟨w.heap.size, 3, none⟩ = some (.slice yK ynk yck) := hw6.cell 3
      have q4 : W6.cell? ⟨w.heap.size, 4, none⟩ = some (.slice yP ynp ycp) := hw6.cell 4
      have q5 : W6.cell? ⟨w.heap.size, 5, none⟩ = some (.slice yF ynf ycf) := hw6.cell 5
      have hb6 := HB2.out.trans (ho6.below (B := w.heap.size) HB2.out.size fun k hk e => by omega)
      have ht6 := (HT.out.keep fun k hk hl => ho6.block k hl (by have := HS1.out; omega)).mono (G' := fun k => w.heap.size ≤ k) fun k hk _ => by have := HS1.out; omega
      clear hw6 ho6
      (try simp only [Exit.inBlock, Exit.then])
      refine bodyPost_ret (by simp [results, Tryd.results50, go_sem, q0, q1, q2, q3, q4, q5]; try rfl) rfl ?_
      exact OfPost.yes HSS.out ht6 hb6
  · have e1 : (shapeOf t != 0) = true := by simpa using hs
    have e2 : (shapeOf t == 0) = false := by simpa using hs
    have HSS := Lib.hid hs
    clear hs
    generalize hg : shapeOf t = sh at HS e1 e2
    clear hg
    go_enter Tryd.func50, Tryd.ntmps50
    go_wp2_with fail
    refine (HS.out).mono ?_
    rintro e w1 ⟨rfl, hb1⟩
    have HB1 := Lib.hid (below_step HB0.out hb1)
    have hwz := HZ.out.below hb1 HZ.out.lt
    clear hb1
    have z0 : w1.cell? ⟨w.heap.size, 0, none⟩ = some (.int .i64 0) := hwz.cell 0
    have f0 := hwz.frozen 0
    have z1 : w1.cell? ⟨w.heap.size, 1, none⟩ = some (.int .i64 0) := hwz.cell 1
    have f1 := hwz.frozen 1
    have z2 : w1.cell? ⟨w.heap.size, 2, none⟩ = some (.int .i64 0) := hwz.cell 2
    have f2 := hwz.frozen 2
    have z3 : w1.cell? ⟨w.heap.size, 3, none⟩ = some (.slice none 0 0) := hwz.cell 3
    have f3 := hwz.frozen 3
    have z4 : w1.cell? ⟨w.heap.size, 4, none⟩ = some (.slice none 0 0) := hwz.cell 4
    have f4 := hwz.frozen 4
    have z5 : w1.cell? ⟨w.heap.size, 5, none⟩ = some (.slice none 0 0) := hwz.cell 5
    have f5 := hwz.frozen 5
    have HWZ := Lib.hid hwz
    clear hwz
    go_wp2_with fail
    have hw6 := ((((((HWZ.out).set_ 0 (.int .i64 0)).set_ 1 (.int .i64 0)).set_ 2 (.int .i64 0)).set_ 3 (.slice none 0 0)).set_ 4 (.slice none 0 0)).set_ 5 (.slice none 0 0)
    have ho6 : Only (fun j => j = w.heap.size) w1 ((((((w1.setCell ⟨w.heap.size, 0, none⟩ (.int .i64 0)).setCell ⟨w.heap.size, 1, none⟩ (.int .i64 0)).setCell ⟨w.heap.size, 2, none⟩ (.int .i64 0)).setCell ⟨w.heap.size, 3, none⟩ (.slice none 0 0)).setCell ⟨w.heap.size, 4, none⟩ (.slice none 0 0)).setCell ⟨w.heap.size, 5, none⟩ (.slice none 0 0)) := ((((((Only.refl (fun j => j = w.heap.size) w1).set_ (.inl rfl) 0 _).set_ (.inl rfl) 1 _).set_ (.inl rfl) 2 _).set_ (.inl rfl) 3 _).set_ (.inl rfl) 4 _).set_ (.inl rfl) 5 _
    generalize ((((((w1.setCell ⟨w.heap.size, 0, none⟩ (.int .i64 0)).setCell ⟨w.heap.size, 1, none⟩ (.int .i64 0)).setCell ⟨w.heap.size, 2, none⟩ (.int .i64 0)).setCell ⟨w.heap.size, 3, none⟩ (.slice none 0 0)).setCell ⟨w.heap.size, 4, none⟩ (.slice none 0 0)).setCell ⟨w.heap.size, 5, none⟩ (.slice none 0 0)) = W6 at *
    have q0 : W6.cell? ⟨w.heap.size, 0, none⟩ = some (.int .i64 0) := hw6.cell 0
    have q1 : W6.cell? ⟨w.heap.size, 1, none⟩ = some (.int .i64 0) := hw6.cell 1
    have q2 : W6.cell? ⟨w.heap.size, 2, none⟩ = some (.int .i64 0) := hw6.cell 2
    have q3 : W6.cell? ⟨w.heap.size, 3, none⟩ = some (.slice none 0 0) := hw6.cell 3
    have q4 : W6.cell? ⟨w.heap.size, 4, none⟩ = some (.slice none 0 0) := hw6.cell 4
    have q5 : W6.cell? ⟨w.heap.size, 5, none⟩ = some (.slice none 0 0) := hw6.cell 5
    have hb6 := HB1.out.trans (ho6.below (B := w.heap.size) HB1.out.size fun k hk e => by omega)
    clear hw6 ho6
    (try simp only [Exit.inBlock, Exit.then])
    refine bodyPost_ret (by simp [results, Tryd.results50, go_sem, q0, q1, q2, q3, q4, q5]; try rfl) rfl ?_
    exact OfPost.no HSS.out hb6
theorem RowAns.of {r : List Node3 × Int} {l : List Node3} {w w1 : World} {A : Option Addr} {n c B : Nat} (he : r = (l, 0)) (hl : l.length = n) (hB : w.heap.size ≤ B) (h : OwnN w1 B (.slice A n c) n l) (hb : Below w.heap.size w w1) : RowAns r w (.returned (.tuple #[.slice A n c, .int .i64 0])) w1 := by
  subst he
  refine ⟨A, n, c, rfl, hl, ⟨h.1, h.2.imp id ?_⟩, hb⟩
  rintro ⟨g, cap, cur, e, h1, h2⟩
  exact ⟨g, cap, cur, e, Nat.le_trans hB h1, h2⟩
theorem RowAns.err {r : List Node3 × Int} {w w1 : World} {x : Int} (he : r = ([], x)) (hb : Below w.heap.size w w1) : RowAns r w (.returned (.tuple #[.slice Option.none 0 0, .int .i64 x])) w1 := by
  subst he
  exact RowAns.none x hb
end Go.Proofs.YtkkkblghihheeaaDoor
