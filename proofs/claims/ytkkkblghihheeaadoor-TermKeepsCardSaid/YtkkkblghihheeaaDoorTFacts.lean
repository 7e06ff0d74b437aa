/- What lifts and substitutions do to one another. Pure. -/
import Derived.Test.YtkkkblghihheeaaDoorTPure
import Derived.Test.YtkkkblghihheeaaDoorTFree
namespace Go.Proofs.YtkkkblghihheeaaDoor
open Go.RowKit

theorem liftX_yes {by_ from_ : Int} {x : Node3 × Nat} (h : 0 ≤ freeN x.1 x.2 ∧ from_ ≤ freeN x.1 x.2) : liftX by_ from_ x = (x.1.1, x.1.2.1 + by_, x.1.2.2) := by unfold liftX; rw [if_pos h]
theorem liftX_not {by_ from_ : Int} {x : Node3 × Nat} (h : ¬ (0 ≤ freeN x.1 x.2 ∧ from_ ≤ freeN x.1 x.2)) : liftX by_ from_ x = x.1 := by unfold liftX; rw [if_neg h]
theorem subX_lt {at_ : Int} {b : Ann} {x : Node3 × Nat} (h : freeN x.1 x.2 < at_) : subX at_ b x = [x.1] := by unfold subX; rw [if_pos h]
theorem subX_gt {at_ : Int} {b : Ann} {x : Node3 × Nat} (h : at_ < freeN x.1 x.2) : subX at_ b x = [(x.1.1, x.1.2.1 - 1, x.1.2.2)] := by unfold subX; rw [if_neg (by omega), if_pos h]
theorem subX_eq {at_ : Int} {b : Ann} {x : Node3 × Nat} (h : freeN x.1 x.2 = at_) : subX at_ b x = b.map (liftX (at_ + x.2) 0) := by unfold subX; rw [if_neg (by omega), if_neg (by omega)]
theorem subA_lt {at_ : Int} {b : Ann} {x : Node3 × Nat} (h : freeN x.1 x.2 < at_) : subA at_ b x = [x] := by unfold subA; rw [if_pos h]
theorem subA_gt {at_ : Int} {b : Ann} {x : Node3 × Nat} (h : at_ < freeN x.1 x.2) : subA at_ b x = [((x.1.1, x.1.2.1 - 1, x.1.2.2), x.2)] := by unfold subA; rw [if_neg (by omega), if_pos h]
theorem subA_eq {at_ : Int} {b : Ann} {x : Node3 × Nat} (h : freeN x.1 x.2 = at_) : subA at_ b x = b.map fun y => (liftX (at_ + x.2) 0 y, y.2 + x.2) := by unfold subA; rw [if_neg (by omega), if_neg (by omega)]
theorem freeN_of {o A B : Int} {k : Nat} (h : o = 1) : freeN (o, A, B) k = A - k := by unfold freeN; rw [if_pos h]
theorem flat_congr {α β : Type} {f g : α → List β} {l : List α} (h : ∀ x ∈ l, f x = g x) : l.flatMap f = l.flatMap g := by
  induction l with
  | nil => rfl
  | cons x l ih =>
    rw [List.flatMap_cons, List.flatMap_cons, h x (by simp), ih fun y hy => h y (List.mem_cons_of_mem _ hy)]
theorem le_room {from_ : Int} {a : Ann} {m : Int} (hm : m ≤ 9223372036854775807) (h : ∀ x ∈ a, 0 ≤ freeN x.1 x.2 → from_ ≤ freeN x.1 x.2 → x.1.2.1 + m ≤ 1048576) : m ≤ roomN from_ a := by
  unfold roomN
  suffices ∀ (l : Ann) (s : Int), m ≤ s → (∀ x ∈ l, 0 ≤ freeN x.1 x.2 → from_ ≤ freeN x.1 x.2 → x.1.2.1 + m ≤ 1048576) → m ≤ l.foldl (roomF from_) s from this a _ hm h
  intro l
  induction l with
  | nil => intro s hs _; exact hs
  | cons y l ih =>
    intro s hs hl
    rw [List.foldl_cons]
    refine ih _ ?_ fun x hx => hl x (List.mem_cons_of_mem _ hx)
    have := hl y (by simp)
    unfold roomF
    split
    · rename_i hc
      have := this hc.1 hc.2
      split <;> omega
    · exact hs
theorem lift_vals {t : List Node3} {by_ from_ : Int} (h0 : shapeOf t = 0) (h1 : 0 ≤ by_) (h2 : 0 ≤ from_) : liftS t by_ from_ = if roomN from_ (annOf t) < by_ then ([], 6) else ((annOf t).map (liftX by_ from_), 0) := by
  unfold liftS
  rw [if_neg (by simpa using h0), if_neg (by omega)]
theorem undone {t u : List Node3} {at_ : Int} (ht : shapeOf t = 0) (hu : shapeOf u = 0) (h0 : 0 ≤ at_) (h1 : (liftS t 1 at_).2 = 0) : substS (liftS t 1 at_).1 u at_ = (t, 0) := by
  rw [lift_vals ht (by omega) h0] at h1 ⊢
  split at h1
  · cases h1
  rename_i hr
  rw [if_neg hr]
  obtain ⟨ha, hl⟩ := ann_of ht
  have hla := ann_lift ha (by_ := 1) (from_ := at_) (by omega) (room_le (by omega))
  have hll : ((annOf t).map (liftX 1 at_)).length ≤ 4096 := by rw [List.length_map, ha.len]; exact hl
  obtain ⟨hs, hao⟩ := hla.shape hll
  have key : ∀ x ∈ annOf t, freeN (liftX 1 at_ x) x.2 ≠ at_ ∧ subX at_ (annOf u) (liftA 1 at_ x) = [x.1] := by
    intro x _
    have hf := free_lift (by_ := 1) (from_ := at_) (x := x)
    by_cases hc : 0 ≤ freeN x.1 x.2 ∧ at_ ≤ freeN x.1 x.2
    · rw [if_pos hc] at hf
      refine ⟨by omega, ?_⟩
      unfold subX liftA
      simp only
      rw [hf, if_neg (by omega), if_pos (by omega)]
      unfold liftX
      rw [if_pos hc]
      simp
    · rw [if_neg hc] at hf
      refine ⟨by omega, ?_⟩
      unfold subX liftA
      simp only
      rw [hf, if_pos (by omega)]
      unfold liftX
      rw [if_neg hc]
  have hfl : ((annOf t).map (liftA 1 at_)).flatMap (subX at_ (annOf u)) = t := by
    rw [List.flatMap_map]
    have : (annOf t).flatMap (fun x => subX at_ (annOf u) (liftA 1 at_ x)) = (annOf t).map Prod.fst := by
      rw [List.map_eq_flatMap]
      exact flat_congr fun x hx => (key x hx).2
    rw [this]
    exact ha.row.symm
  unfold substS
  have hff : ffS [(annOf t).map (liftX 1 at_), u] = 0 := ff_none fun s hs' => by
    simp only [List.mem_cons, List.not_mem_nil, or_false] at hs'
    rcases hs' with rfl | rfl
    · exact hs
    · exact hu
  simp only
  rw [if_neg (by simpa using hff), if_neg (by omega), hao, hfl, if_neg, if_neg (by omega)]
  intro hany
  rw [List.any_eq_true] at hany
  obtain ⟨y, hy, hh⟩ := hany
  obtain ⟨x, hx, rfl⟩ := List.mem_map.1 hy
  simp only [Bool.and_eq_true, decide_eq_true_eq] at hh
  exact (key x hx).1 hh.1
theorem lifted_twice {t : List Node3} {a b from_ : Int} (ht : shapeOf t = 0) (ha0 : 0 ≤ a) (hb0 : 0 ≤ b) (hab : a + b ≤ 1000000) (hf0 : 0 ≤ from_) (h1 : (liftS t (a + b) from_).2 = 0) :
    (liftS t a from_).2 = 0 ∧ liftS (liftS t a from_).1 b (from_ + a) = ((liftS t (a + b) from_).1, 0) ∧ (0 < a → freeS (liftS t a from_).1 from_ = false) ∧ (belowS t from_ = true → t = (liftS t (a + b) from_).1) := by
  rw [lift_vals ht (by omega) hf0] at h1
  rw [lift_vals ht ha0 hf0, lift_vals (by_ := a + b) ht (by omega) hf0]
  split at h1
  · cases h1
  rename_i hr
  obtain ⟨han, hl⟩ := ann_of ht
  have hrm := room_le (from_ := from_) (a := annOf t) (m := a + b) (by omega)
  have hra : ∀ x ∈ annOf t, 0 ≤ freeN x.1 x.2 → from_ ≤ freeN x.1 x.2 → x.1.2.1 + a ≤ 1048576 := fun x hx h2 h3 => by have := hrm x hx h2 h3; omega
  have hra' := le_room (from_ := from_) (a := annOf t) (m := a) (by omega) hra
  rw [if_neg (by omega), if_neg hr]
  have hla := ann_lift han ha0 hra
  have hll : ((annOf t).map (liftX a from_)).length ≤ 4096 := by rw [List.length_map, han.len]; exact hl
  obtain ⟨hs, hao⟩ := hla.shape hll
  simp only
  refine ⟨trivial, ?_, fun hpos => ?_, fun hbl => ?_⟩
  · rw [lift_vals hs hb0 (by omega), hao]
    have hrb : b ≤ roomN (from_ + a) ((annOf t).map (liftA a from_)) := le_room (by omega) fun y hy h2 h3 => by
      obtain ⟨x, hx, rfl⟩ := List.mem_map.1 hy
      unfold liftA at h2 h3 ⊢
      simp only at h2 h3 ⊢
      rw [free_lift] at h2 h3
      by_cases hc : 0 ≤ freeN x.1 x.2 ∧ from_ ≤ freeN x.1 x.2
      · have := hrm x hx hc.1 hc.2
        unfold liftX
        rw [if_pos hc]
        simp only; omega
      · rw [if_neg hc] at h2 h3
        omega
    rw [if_neg (by omega)]
    simp only [Prod.mk.injEq, and_true]
    rw [List.map_map]
    refine List.map_congr_left fun x _ => ?_
    show liftX b (from_ + a) (liftX a from_ x, x.2) = liftX (a + b) from_ x
    have hf := free_lift (by_ := a) (from_ := from_) (x := x)
    by_cases hc : 0 ≤ freeN x.1 x.2 ∧ from_ ≤ freeN x.1 x.2
    · rw [if_pos hc] at hf
      rw [liftX_yes (x := (liftX a from_ x, x.2)) (by simp only; omega), liftX_yes hc, liftX_yes hc]
      simp only [Prod.mk.injEq, and_true, true_and]
      omega
    · rw [if_neg hc] at hf
      rw [liftX_not (x := (liftX a from_ x, x.2)) (by simp only; omega), liftX_not hc, liftX_not hc]
  · unfold freeS
    rw [hs, hao, decide_eq_true rfl, Bool.true_and]
    unfold freeB
    rw [List.any_eq_false]
    intro y hy hh
    obtain ⟨x, hx, rfl⟩ := List.mem_map.1 hy
    unfold liftA at hh
    simp only [Bool.and_eq_true, decide_eq_true_eq] at hh
    rw [free_lift] at hh
    by_cases hc : 0 ≤ freeN x.1 x.2 ∧ from_ ≤ freeN x.1 x.2
    · rw [if_pos hc] at hh; omega
    · rw [if_neg hc] at hh; omega
  · unfold belowS at hbl
    rw [ht, decide_eq_true rfl, Bool.true_and] at hbl
    unfold belowB at hbl
    rw [List.all_eq_true] at hbl
    conv => lhs; rw [han.row]
    refine List.map_congr_left fun x hx => ?_
    have := hbl x hx
    simp only [Bool.or_eq_true, decide_eq_true_eq] at this
    unfold liftX
    rw [if_neg (by omega)]
theorem subst_vals {t u : List Node3} {at_ : Int} (h0 : 0 ≤ at_) (he : (substS t u at_).2 = 0) : IsAnn t (annOf t) ∧ IsAnn u (annOf u) ∧ substS t u at_ = ((annOf t).flatMap (subX at_ (annOf u)), 0) ∧
    shapeOf (substS t u at_).1 = 0 ∧ annOf (substS t u at_).1 = (annOf t).flatMap (subA at_ (annOf u)) ∧ shapeOf t = 0 ∧ shapeOf u = 0 := by
  unfold substS at he ⊢
  split at he
  · rename_i h
    simp only at he
    exact absurd he h
  rename_i h
  have hff : ffS [t, u] = 0 := by simpa using h
  rw [if_neg h]
  rw [if_neg (by omega)] at he ⊢
  have ht := ff_zero hff t (by simp)
  have hu := ff_zero hff u (by simp)
  obtain ⟨hta, htl⟩ := ann_of ht
  obtain ⟨hua, hul⟩ := ann_of hu
  split at he
  · cases he
  rename_i hany
  rw [if_neg hany]
  split at he
  · cases he
  rename_i hlen
  rw [if_neg hlen]
  have hs := ann_subst (at_ := at_) hta hua h0 (fun x hx hf => by
    refine room_le ?_
    rcases Int.lt_or_le (roomN 0 (annOf u)) (at_ + x.2) with h1 | h1
    · exfalso
      apply hany
      rw [List.any_eq_true]
      exact ⟨x, hx, by simp [hf, h1]⟩
    · exact h1)
  obtain ⟨h1, h2⟩ := hs.shape (by omega)
  exact ⟨hta, hua, rfl, h1, h2, ht, hu⟩
theorem subst_err {t u : List Node3} {at_ : Int} (he : (substS t u at_).2 ≠ 0) : (substS t u at_).1 = [] := by
  unfold substS at he ⊢
  split
  · rfl
  rename_i h
  rw [if_neg h] at he
  split
  · rfl
  rename_i h
  rw [if_neg h] at he
  split
  · rfl
  rename_i h
  rw [if_neg h] at he
  split
  · rfl
  rename_i h
  rw [if_neg h] at he
  exact absurd rfl he
theorem free_in {t u : List Node3} {p : Int} (hp : 0 ≤ p) (he : (substS t u 0).2 = 0) : freeS (substS t u 0).1 p = (freeS t (p + 1) || (freeS t 0 && freeS u p)) := by
  obtain ⟨hta, hua, -, h1, h2, ht, hu⟩ := subst_vals (by omega) he
  unfold freeS
  rw [h1, h2, ht, hu]
  simp only [decide_true, Bool.true_and]
  rw [Bool.eq_iff_iff]
  unfold freeB
  simp only [List.any_eq_true, Bool.or_eq_true, Bool.and_eq_true, decide_eq_true_eq]
  constructor
  · rintro ⟨y, hy, hy0, hyp⟩
    obtain ⟨x, hx, hyx⟩ := List.mem_flatMap.1 hy
    rcases Int.lt_trichotomy (freeN x.1 x.2) 0 with hv | hv | hv
    · rw [subA_lt hv, List.mem_singleton] at hyx
      subst hyx
      omega
    · rw [subA_eq hv] at hyx
      obtain ⟨z, hz, rfl⟩ := List.mem_map.1 hyx
      simp only at hy0 hyp
      rw [free_sub (by omega) z hv] at hy0 hyp
      refine .inr ⟨⟨x, hx, by omega, hv⟩, z, hz, ?_⟩
      by_cases hc : 0 ≤ freeN z.1 z.2
      · rw [if_pos hc] at hyp
        exact ⟨hc, by omega⟩
      · rw [if_neg hc] at hy0
        split at hy0
        · rename_i ho
          have : freeN z.1 z.2 = z.1.2.1 - z.2 := by unfold freeN; rw [if_pos ho]
          omega
        · omega
    · rw [subA_gt hv, List.mem_singleton] at hyx
      subst hyx
      have h3 := freeN_var (n := x.1) (k := x.2) (by omega)
      rw [freeN_of h3.1] at hyp hy0
      exact .inl ⟨x, hx, by omega, by omega⟩
  · rintro (⟨x, hx, hx0, hxp⟩ | ⟨⟨x, hx, hx0, hxp⟩, z, hz, hz0, hzp⟩)
    · refine ⟨((x.1.1, x.1.2.1 - 1, x.1.2.2), x.2), List.mem_flatMap.2 ⟨x, hx, by rw [subA_gt (by omega)]; simp⟩, ?_⟩
      have h3 := freeN_var hx0
      simp only
      rw [freeN_of h3.1]
      omega
    · refine ⟨(liftX (0 + x.2) 0 z, z.2 + x.2), List.mem_flatMap.2 ⟨x, hx, by rw [subA_eq hxp]; exact List.mem_map.2 ⟨z, hz, rfl⟩⟩, ?_⟩
      simp only
      rw [free_sub (by omega) z hxp, if_pos hz0]
      omega
theorem swaps {t u w : List Node3} (h1 : (substS t u 0).2 = 0) (h2 : (substS (substS t u 0).1 w 0).2 = 0) (h3 : (substS t w 1).2 = 0) (h4 : (substS u w 0).2 = 0) (h5 : (substS (substS t w 1).1 (substS u w 0).1 0).2 = 0) :
    (substS (substS t u 0).1 w 0).1 = (substS (substS t w 1).1 (substS u w 0).1 0).1 := by
  obtain ⟨-, -, -, -, a1, -, -⟩ := subst_vals (by omega) h1
  obtain ⟨-, -, e2, -, -, -, -⟩ := subst_vals (by omega) h2
  obtain ⟨-, -, -, -, a3, -, -⟩ := subst_vals (by omega) h3
  obtain ⟨-, -, -, -, a4, -, -⟩ := subst_vals (by omega) h4
  obtain ⟨-, -, e5, -, -, -, -⟩ := subst_vals (by omega) h5
  rw [e2, e5, a1, a3, a4]
  simp only
  generalize annOf t = a
  generalize annOf u = b
  generalize annOf w = c
  rw [List.flatMap_assoc, List.flatMap_assoc]
  refine flat_congr fun x _ => ?_
  obtain ⟨⟨o, A, B⟩, k⟩ := x
  rcases (by omega : freeN (o, A, B) k < 0 ∨ freeN (o, A, B) k = 0 ∨ freeN (o, A, B) k = 1 ∨ 1 < freeN (o, A, B) k) with hv | hv | hv | hv
  · rw [subA_lt hv, subA_lt (by simp only; omega)]
    simp only [List.flatMap_cons, List.flatMap_nil, List.append_nil]
    rw [subX_lt hv, subX_lt hv]
  · have hx := freeN_var (n := (o, A, B)) (k := k) (by omega)
    simp only at hx
    rw [subA_eq hv, subA_lt (by simp only; omega)]
    simp only [List.flatMap_cons, List.flatMap_nil, List.append_nil]
    rw [subX_eq hv, List.flatMap_map, List.map_flatMap]
    refine flat_congr fun y _ => ?_
    have hfs := free_sub (x := ((o, A, B), k)) (by omega) y hv
    simp only at hfs ⊢
    rcases Int.lt_trichotomy (freeN y.1 y.2) 0 with hy | hy | hy
    · have hl : liftX (0 + (k : Int)) 0 y = y.1 := liftX_not (by omega)
      rw [subA_lt hy, subX_lt (free_sub_neg (x := ((o, A, B), k)) (by omega) y hv hy)]
      rw [List.map_cons, List.map_nil, hl]
    · have hyv := freeN_var (n := y.1) (k := y.2) (by omega)
      rw [subA_eq hy, subX_eq (by simp only; rw [hfs, if_pos (by omega)]; omega), List.map_map]
      refine List.map_congr_left fun z _ => ?_
      simp only [Function.comp]
      have hfz := free_sub (x := y) (by omega) z hy
      by_cases hz : 0 ≤ freeN z.1 z.2
      · rw [if_pos hz] at hfz
        rw [liftX_yes ⟨hz, hz⟩, liftX_yes (x := (liftX (0 + (y.2 : Int)) 0 z, z.2 + y.2)) (by simp only; omega), liftX_yes ⟨hz, hz⟩]
        simp only [Prod.mk.injEq, and_true, true_and]
        omega
      · rw [if_neg hz] at hfz
        rw [liftX_not (by omega), liftX_not (x := (liftX (0 + (y.2 : Int)) 0 z, z.2 + y.2)) ?_, liftX_not (by omega)]
        simp only
        rw [hfz]
        split
        · rename_i ho
          have : freeN z.1 z.2 = z.1.2.1 - z.2 := by unfold freeN; rw [if_pos ho]
          omega
        · omega
    · have hyv := freeN_var (n := y.1) (k := y.2) (by omega)
      have hl : liftX (0 + (k : Int)) 0 y = (y.1.1, y.1.2.1 + (0 + (k : Int)), y.1.2.2) := liftX_yes (by omega)
      rw [subA_gt hy, subX_gt (by simp only; rw [hfs, if_pos (by omega)]; omega)]
      simp only [List.map_cons, List.map_nil]
      rw [hl, liftX_yes (x := ((y.1.1, y.1.2.1 - 1, y.1.2.2), y.2)) (by simp only; rw [freeN_of hyv.1]; omega)]
      simp only [List.cons.injEq, Prod.mk.injEq, and_true, true_and]
      omega
  · have hx := freeN_var (n := (o, A, B)) (k := k) (by omega)
    simp only at hx
    rw [subA_gt (by simp only; omega), subA_eq hv]
    simp only [List.flatMap_cons, List.flatMap_nil, List.append_nil]
    rw [subX_eq (by simp only; rw [freeN_of hx.1]; omega), List.flatMap_map, List.map_eq_flatMap]
    refine flat_congr fun z _ => ?_
    have hfz := free_sub (x := ((o, A, B), k)) (by omega) z hv
    simp only at hfz ⊢
    by_cases hz : 0 ≤ freeN z.1 z.2
    · rw [if_pos hz] at hfz
      rw [subX_gt (by simp only; rw [hfz]; omega), liftX_yes ⟨hz, hz⟩, liftX_yes ⟨hz, hz⟩]
      simp only [List.cons.injEq, Prod.mk.injEq, and_true, true_and]
      omega
    · rw [if_neg hz] at hfz
      rw [subX_lt ?_, liftX_not (by omega), liftX_not (by omega)]
      simp only
      rw [hfz]
      split
      · rename_i ho
        have : freeN z.1 z.2 = z.1.2.1 - z.2 := by unfold freeN; rw [if_pos ho]
        omega
      · omega
  · have hx := freeN_var (n := (o, A, B)) (k := k) (by omega)
    simp only at hx
    rw [subA_gt (by simp only; omega), subA_gt (by simp only; omega)]
    simp only [List.flatMap_cons, List.flatMap_nil, List.append_nil]
    rw [subX_gt (by simp only; rw [freeN_of hx.1]; omega), subX_gt (by simp only; rw [freeN_of hx.1]; omega)]
end Go.Proofs.YtkkkblghihheeaaDoor
