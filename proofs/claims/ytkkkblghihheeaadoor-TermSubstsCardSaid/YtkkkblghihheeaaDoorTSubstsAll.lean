/- TermSubsts holds for every input, where the program's table of limits is what its text says (the tied card): a term in a variable's place makes what the document says. -/
import Derived.Test.YtkkkblghihheeaaDoorTOfAll
import Derived.Test.YtkkkblghihheeaaDoorTPut
import Derived.Test.YtkkkblghihheeaaDoorTHighest
import Derived.Test.YtkkkblghihheeaaDoorTTimes
import Derived.Test.YtkkkblghihheeaaDoorTRow
import Derived.Test.YtkkkblghihheeaaDoorTLawKitAll
import Derived.Test.YtkkkblghihheeaaDoorTie
import Derived.Test.YtkkkblghihheeaaDoorCards
import Derived.Stop.Joined
namespace Go.Proofs.YtkkkblghihheeaaDoor
open Go.RowKit

theorem hit_eq {k : Nat} {x : Node3 × Nat} : hitB k x = decide (freeN x.1 x.2 = k) := by
  rw [hit_free]
  by_cases h : freeN x.1 x.2 = (k : Int)
  · rw [decide_eq_true h, decide_eq_true (by omega)]; rfl
  · rw [decide_eq_false h, Bool.and_false]
theorem tmD_max {k : Nat} {a : Ann} : (∀ x ∈ a, hitB k x = true → x.2 ≤ tmD k a) ∧ (0 < tmN k a → ∃ x ∈ a, hitB k x = true ∧ x.2 = tmD k a) := by
  induction a with
  | nil => exact ⟨fun x hx => (by cases hx), fun h => by simp [tmN] at h⟩
  | cons y a ih =>
    have e : tmD k (y :: a) = if hitB k y then max y.2 (tmD k a) else tmD k a := rfl
    have en : tmN k (y :: a) = tmN k a + if hitB k y then 1 else 0 := by unfold tmN; rw [List.countP_cons]
    have hz : tmN k a = 0 → tmD k a = 0 := by
      intro h
      have h0 : ∀ x ∈ a, hitB k x = false := by
        unfold tmN at h
        rw [List.countP_eq_zero] at h
        intro x hx
        simpa using h x hx
      clear ih e en h
      induction a with
      | nil => rfl
      | cons z a ih2 =>
        show (if hitB k z then max z.2 (tmD k a) else tmD k a) = 0
        rw [h0 z (by simp)]
        exact ih2 fun x hx => h0 x (List.mem_cons_of_mem _ hx)
    rw [e, en]
    cases hy : hitB k y with
    | true =>
      simp only [if_true]
      refine ⟨fun x hx h => ?_, fun _ => ?_⟩
      · rcases List.mem_cons.1 hx with rfl | hx
        · omega
        · have := ih.1 x hx h; omega
      · by_cases hc : tmD k a ≤ y.2
        · exact ⟨y, by simp, hy, by omega⟩
        · have hp : 0 < tmN k a := by
            refine Nat.pos_of_ne_zero fun h0 => ?_
            have := hz h0; omega
          obtain ⟨x, hx, hh, e2⟩ := ih.2 hp
          exact ⟨x, List.mem_cons_of_mem _ hx, hh, by omega⟩
    | false =>
      simp only [Bool.false_eq_true, if_false, Nat.add_zero]
      refine ⟨fun x hx h => ?_, fun hp => ?_⟩
      · rcases List.mem_cons.1 hx with rfl | hx
        · rw [hy] at h; cases h
        · exact ih.1 x hx h
      · obtain ⟨x, hx, hh, e2⟩ := ih.2 hp
        exact ⟨x, List.mem_cons_of_mem _ hx, hh, e2⟩
theorem any_hi {k : Nat} {a b : Ann} (hb : k + tmD k a ≤ 4000000) : (a.any fun x => decide (freeN x.1 x.2 = k) && decide (roomN 0 b < k + x.2)) = true ↔ 0 < tmN k a ∧ 1048576 < hi (k + tmD k a) 0 b := by
  have hr := hi_room (a := b) (f := 0) hb
  rw [show ((0 : Nat) : Int) = 0 from rfl] at hr
  have hm := tmD_max (k := k) (a := a)
  rw [List.any_eq_true]
  constructor
  · rintro ⟨x, hx, h⟩
    rw [Bool.and_eq_true, ← hit_eq, decide_eq_true_iff] at h
    have h1 := hm.1 x hx h.1
    refine ⟨?_, ?_⟩
    · unfold tmN
      exact List.countP_pos_iff.2 ⟨x, hx, h.1⟩
    · refine Decidable.byContradiction fun hc => ?_
      have := hr.1 (by omega)
      omega
  · rintro ⟨h1, h2⟩
    obtain ⟨x, hx, hh, e⟩ := hm.2 h1
    refine ⟨x, hx, ?_⟩
    rw [Bool.and_eq_true, ← hit_eq, decide_eq_true_iff]
    refine ⟨hh, Decidable.byContradiction fun hc => ?_⟩
    have := hr.2 (by omega)
    omega
theorem subk_len {k : Nat} {a b : Ann} : ((a.flatMap (subX k b)).length : Int) = a.length + (tmN k a : Int) * ((b.length : Int) - 1) := by
  induction a with
  | nil => simp [tmN]
  | cons x a ih =>
    have en : tmN k (x :: a) = tmN k a + if hitB k x then 1 else 0 := by unfold tmN; rw [List.countP_cons]
    rw [List.flatMap_cons, List.length_append, Int.natCast_add, ih, en, List.length_cons]
    cases hx : hitB k x with
    | true =>
      rw [hit_eq, decide_eq_true_iff] at hx
      rw [subX_eq hx, List.length_map, if_pos rfl, Int.natCast_add (tmN k a) 1, Int.add_mul, Int.natCast_add]
      omega
    | false =>
      rw [hit_eq, decide_eq_false_iff_not] at hx
      have hl : (subX k b x).length = 1 := by
        unfold subX
        split
        · rfl
        split
        · rfl
        · omega
      rw [hl]
      simp only [Bool.false_eq_true, if_false, Nat.add_zero]
      omega
theorem pt_sub {k : Nat} {a b : Ann} (hok : ∀ x ∈ a, holdsN x.1) (hokb : ∀ x ∈ b, holdsN x.1) : (each (ptF b) k a).map Prod.fst = a.flatMap (subX k b) := by
  unfold each
  rw [List.map_flatMap]
  refine flat_congr fun x hx => ?_
  have hh := hok x hx
  unfold ptF
  by_cases h1 : x.1.1 = 1
  · rw [if_pos h1]
    have hB : x.1.2.2 = 0 := by unfold holdsN at hh; omega
    have hf : freeN x.1 x.2 = x.1.2.1 - x.2 := by unfold freeN; rw [if_pos h1]
    by_cases h2 : x.1.2.1 = ((x.2 + k : Nat) : Int)
    · rw [if_pos h2, subX_eq (by omega)]
      unfold shA
      rw [List.map_map]
      have := rz_lift hokb (x.2 + k) 0
      rw [show ((0 : Nat) : Int) = 0 from rfl, show ((x.2 + k : Nat) : Int) = (k : Int) + x.2 by omega] at this
      rw [← this]
      rfl
    · rw [if_neg h2]
      by_cases h3 : ((x.2 + k : Nat) : Int) < x.1.2.1
      · rw [if_pos h3, subX_gt (by omega)]
        simp [shA, h1, hB]
      · rw [if_neg h3, subX_lt (by omega)]
        simp [shA]
  · rw [if_neg h1, subX_lt (by rw [freeN_no h1]; omega)]
    simp [shA]
theorem ff_both {t u : List Node3} (ht : shapeOf t = 0) (hu : shapeOf u = 0) : ffS [t, u] = 0 := by
  simp [ffS, ht, hu]
theorem subR0 {t u : List Node3} {at_ : Int} (h : shapeOf t ≠ 0) : substS t u at_ = ([], shapeOf t) := by
  have e : ffS [t, u] = shapeOf t := by simp [ffS, h]
  unfold substS
  rw [e, if_pos h]
theorem subR1 {t u : List Node3} {at_ : Int} (h : shapeOf t = 0) (h1 : shapeOf u ≠ 0) : substS t u at_ = ([], shapeOf u) := by
  have e : ffS [t, u] = shapeOf u := by simp [ffS, h, h1]
  unfold substS
  rw [e, if_pos h1]
theorem subR2 {t u : List Node3} {at_ : Int} (h : shapeOf t = 0) (h1 : shapeOf u = 0) (h2 : at_ < 0) : substS t u at_ = ([], 1) := by
  unfold substS
  rw [ff_both h h1, if_neg (by simp), if_pos h2]
theorem subMin {t u : List Node3} {at_ : Int} (h : shapeOf t = 0) (hat : 0 ≤ at_) : substS t u at_ = substS t u (min at_ 2097152) := by
  by_cases hc : at_ ≤ 2097152
  · rw [show min at_ 2097152 = at_ by omega]
  · rw [show min at_ 2097152 = 2097152 by omega]
    have hf : ∀ x ∈ annOf t, freeN x.1 x.2 ≤ 1048576 := fun x hx => by
      have := holds_a ((ann_of h).1.ok x hx)
      unfold freeN
      split <;> omega
    have e1 : ∀ m : Int, 1048576 < m → (annOf t).any (fun x => decide (freeN x.1 x.2 = m) && decide (roomN 0 (annOf u) < m + x.2)) = false := fun m hm => by
      rw [List.any_eq_false]
      intro x hx
      have := hf x hx
      simp only [Bool.and_eq_true, decide_eq_true_eq]
      omega
    have e2 : ∀ m : Int, 1048576 < m → (annOf t).flatMap (subX m (annOf u)) = (annOf t).flatMap (fun x => [x.1]) := fun m hm => flat_congr fun x hx => subX_lt (by have := hf x hx; omega)
    unfold substS
    rw [e1 at_ (by omega), e1 2097152 (by omega), e2 at_ (by omega), e2 2097152 (by omega), if_neg (show ¬ at_ < 0 by omega), if_neg (show ¬ (2097152 : Int) < 0 by omega)]
theorem subR {t u : List Node3} {k : Nat} (h : shapeOf t = 0) (h1 : shapeOf u = 0) (hk : k ≤ 2097152) :
    substS t u k = if 0 < tmN k (annOf t) ∧ 1048576 < hi (k + tmD k (annOf t)) 0 (annOf u) then ([], 6) else if (4096 : Int) < (annOf t).length + (tmN k (annOf t) : Int) * (((annOf u).length : Int) - 1) then ([], 9) else ((each (ptF (annOf u)) k (annOf t)).map Prod.fst, 0) := by
  have hd := tmD_le k (deep_of h)
  have ha := any_hi (a := annOf t) (b := annOf u) (k := k) (by omega)
  have hl := subk_len (k := k) (a := annOf t) (b := annOf u)
  unfold substS
  rw [ff_both h h1, if_neg (by simp), if_neg (show ¬ (k : Int) < 0 by omega)]
  by_cases hc : 0 < tmN k (annOf t) ∧ 1048576 < hi (k + tmD k (annOf t)) 0 (annOf u)
  · rw [if_pos hc, if_pos (ha.2 hc)]
  · rw [if_neg hc, if_neg (fun h' => hc (ha.1 h')), pt_sub (ann_of h).1.ok (ann_of h1).1.ok]
    by_cases hb : (4096 : Int) < (annOf t).length + (tmN k (annOf t) : Int) * (((annOf u).length : Int) - 1)
    · rw [if_pos hb, if_pos (by omega)]
    · rw [if_neg hb, if_neg (by omega)]
theorem pt_len {t u : List Node3} {k : Nat} (h : shapeOf t = 0) (h1 : shapeOf u = 0) : ((each (ptF (annOf u)) k (annOf t)).length : Int) = (annOf t).length + (tmN k (annOf t) : Int) * (((annOf u).length : Int) - 1) := by
  have := congrArg List.length (pt_sub (k := k) (ann_of h).1.ok (ann_of h1).1.ok)
  rw [List.length_map] at this
  rw [this]
  exact subk_len
end Go.Proofs.YtkkkblghihheeaaDoor
namespace Go.Proofs.YtkkkblghihheeaaDoor
open Go.RowKit

set_option maxRecDepth 100000 in
set_option maxHeartbeats 1000000 in
theorem rsubst_any (A Au : Option Addr) (n c nu cu : Nat) (t u : List Node3) (at_ : Int) (w : World) (hn : t.length = n) (hsl : Slice A n c) (hA : Holds w A (nodesV t)) (hw : ∀ x ∈ t, Wide3 x) (hnu : u.length = nu) (hslu : Slice Au nu cu) (hAu : Holds w Au (nodesV u)) (hwu : ∀ x ∈ u, Wide3 x) (hat : I64 at_) :
    Calls Tryd.prog 33 #[.slice A n c, .slice Au nu cu, .int .i64 at_] w (RowAns (substS t u at_) w) := by
  obtain ⟨hat1, hat2⟩ := hat
  have HN := Lib.hid hn
  have HNU := Lib.hid hnu
  have HS0 := Lib.hid (fun w1 (hb : Below w.heap.size w w1) => rshape_any A n c t w1 hn hsl (hA.below hb) hw)
  have HO0 := Lib.hid (fun w1 (hb : Below w.heap.size w w1) => rof_any A n c t w1 hn hsl (hA.below hb) hw)
  have HS1 := Lib.hid (fun w1 (hb : Below w.heap.size w w1) => rshape_any Au nu cu u w1 hnu hslu (hAu.below hb) hwu)
  have HO1 := Lib.hid (fun w1 (hb : Below w.heap.size w w1) => rof_any Au nu cu u w1 hnu hslu (hAu.below hb) hwu)
  clear hn hA hw hsl hnu hslu hAu hwu
  by_cases hs : shapeOf t = 0
  case neg =>
    have HR := Lib.hid (subR0 (u := u) (at_ := at_) hs)
    have e1 : (shapeOf t != 0) = true := by simpa using hs
    have e2 : (shapeOf t == 0) = false := by simpa using hs
    clear hs HS1 HO1 HO0
    generalize shapeOf t = sh at *
    go_enter Tryd.func33, Tryd.ntmps33
    go_wp2_with fail
    refine (HS0.out w (Below.refl _ _)).mono ?_
    rintro e w0 ⟨rfl, hb0⟩
    have HB0 := Lib.hid hb0
    clear hb0
    go_wp2_with fail
    go_ret2
    exact RowAns.err HR.out HB0.out
  have hs0 := hs
  rw [hs0] at HS0
  by_cases hsu : shapeOf u = 0
  case neg =>
    have HR := Lib.hid (subR1 (at_ := at_) hs hsu)
    have e1 : (shapeOf u != 0) = true := by simpa using hsu
    have e2 : (shapeOf u == 0) = false := by simpa using hsu
    clear hs hs0 hsu HO1 HO0
    generalize shapeOf u = sh at *
    go_enter Tryd.func33, Tryd.ntmps33
    go_wp2_with fail
    refine (HS0.out w (Below.refl _ _)).mono ?_
    rintro e w0 ⟨rfl, hb0⟩
    have HB0 := Lib.hid hb0
    clear hb0
    go_wp2_with fail
    refine (HS1.out w0 HB0.out).mono ?_
    rintro e w1 ⟨rfl, hb1⟩
    have HB1 := Lib.hid (below_step HB0.out hb1)
    clear hb1
    go_wp2_with fail
    go_ret2
    exact RowAns.err HR.out HB1.out
  have hsu0 := hsu
  rw [hsu0] at HS1
  by_cases hneg : at_ < 0
  · have HR := Lib.hid (subR2 hs hsu hneg)
    clear hs hsu hs0 hsu0 HO0 HO1
    go_enter Tryd.func33, Tryd.ntmps33
    go_wp2_with fail
    refine (HS0.out w (Below.refl _ _)).mono ?_
    rintro e w0 ⟨rfl, hb0⟩
    have HB0 := Lib.hid hb0
    clear hb0
    go_wp2_with fail
    refine (HS1.out w0 HB0.out).mono ?_
    rintro e w1 ⟨rfl, hb1⟩
    have HB1 := Lib.hid (below_step HB0.out hb1)
    clear hb1
    go_wp2_with fail
    go_ret2
    exact RowAns.err HR.out HB1.out
  have hHR : ∃ k : Nat, k ≤ 2097152 ∧ (at_ = (k : Int) ∨ 2097152 < at_ ∧ (k : Int) = 2097152) ∧ substS t u at_ = substS t u k := by
    by_cases hc : at_ ≤ 2097152
    · exact ⟨at_.toNat, by omega, .inl (by omega), by rw [show ((at_.toNat : Nat) : Int) = at_ by omega]⟩
    · refine ⟨2097152, Nat.le_refl _, .inr ⟨by omega, rfl⟩, ?_⟩
      rw [subMin (u := u) hs (show 0 ≤ at_ by omega), show min at_ 2097152 = 2097152 by omega]
      rfl
  obtain ⟨k, hkb, hkk, HR0⟩ := hHR
  rw [subR hs hsu hkb] at HR0
  have HPL := pt_len (k := k) hs hsu
  have HSM := Lib.hid (small_of hs)
  have HSMU := Lib.hid (small_of hsu)
  have HDP := Lib.hid (deep_of hs)
  have hla := (len_of hs).1
  have hlu := (len_of hsu).1
  have hla4 : n ≤ 4096 := by have := (len_of hs).2; have := HN.out; omega
  have hlu4 : nu ≤ 4096 := by have := (len_of hsu).2; have := HNU.out; omega
  have hpu : 1 ≤ nu := by have := (right_of hsu).2.1; have := HNU.out; omega
  rw [HN.out] at hla
  rw [HNU.out] at hlu
  rw [hla, hlu] at HR0 HPL
  have HSS := Lib.hid hs
  have HSSU := Lib.hid hsu
  have HALN := Lib.hid hla
  have HALU := Lib.hid hlu
  have hdk := tmD_le k (deep_of hs)
  have hmk := tmN_le k (annOf t)
  rw [hla] at hmk
  have HR := Lib.hid HR0
  have HPL := Lib.hid HPL
  clear hs hsu hs0 hsu0 HR0 hla hlu
  rcases hkk with hkk | ⟨hkk, hk2⟩
  · subst hkk
    have hkc : ((k : Int)) ≤ 2097152 := by omega
    go_enter Tryd.func33, Tryd.ntmps33
    go_wp2_with fail
    refine (HS0.out w (Below.refl _ _)).mono ?_
    rintro e w0 ⟨rfl, hb0⟩
    have HB0 := Lib.hid hb0
    clear hb0
    go_wp2_with fail
    refine (HS1.out w0 HB0.out).mono ?_
    rintro e w1 ⟨rfl, hb1⟩
    have HB1 := Lib.hid (below_step HB0.out hb1)
    clear hb1
    go_wp2_with fail
    refine (HO0.out w1 HB1.out).mono ?_
    rintro e w2 (⟨hno, -, -⟩ | ⟨v, -, rfl, ht, hb2⟩)
    · exact absurd HSS.out hno
    obtain ⟨⟨yo, yA, yB⟩, yK, ynk, yck, yP, ynp, ycp, yF, ynf, ycf⟩ := v
    dsimp only [TV.val]
    have HL1 := Lib.hid (show Below w2.heap.size w2 (w2.alloc (.cells #[.int .i64 yo, .int .i64 yA, .int .i64 yB, .slice yK ynk yck, .slice yP ynp ycp, .slice yF ynf ycf] 59)) from (Below.refl _ _).alloc (Nat.le_refl _) _)
    have HT := Lib.hid (ht.next HL1.out)
    have HB2 := Lib.hid (below_step (below_step HB1.out hb2) HL1.out)
    have HS12 : Hid (w1.heap.size ≤ (w2.alloc (.cells #[.int .i64 yo, .int .i64 yA, .int .i64 yB, .slice yK ynk yck, .slice yP ynp ycp, .slice yF ynf ycf] 59)).heap.size) := Lib.hid (Nat.le_trans hb2.size HL1.out.size)
    have HBX1 := Lib.hid (holds_at w2 #[.int .i64 yo, .int .i64 yA, .int .i64 yB, .slice yK ynk yck, .slice yP ynp ycp, .slice yF ynf ycf] 59 _ rfl)
    clear hb2 ht
    go_wp2_with fail
    refine (HO1.out (w2.alloc (.cells #[.int .i64 yo, .int .i64 yA, .int .i64 yB, .slice yK ynk yck, .slice yP ynp ycp, .slice yF ynf ycf] 59)) HB2.out).mono ?_
    rintro e w3 (⟨hno, -, -⟩ | ⟨v, -, rfl, ht, hb3⟩)
    · exact absurd HSSU.out hno
    obtain ⟨⟨zo, zA, zB⟩, zK, znk, zck, zP, znp, zcp, zF, znf, zcf⟩ := v
    dsimp only [TV.val]
    have HL2 := Lib.hid (show Below w3.heap.size w3 (w3.alloc (.cells #[.int .i64 zo, .int .i64 zA, .int .i64 zB, .slice zK znk zck, .slice zP znp zcp, .slice zF znf zcf] 59)) from (Below.refl _ _).alloc (Nat.le_refl _) _)
    have HTU := Lib.hid ((ht.next HL2.out).mono (G' := fun j => w1.heap.size ≤ j) fun j hj _ => Nat.le_trans HS12.out hj)
    replace HT := Lib.hid (HT.out.next (below_step hb3 HL2.out))
    have HB3 := Lib.hid (below_step (below_step HB2.out hb3) HL2.out)
    replace HBX1 := Lib.hid (HBX1.out.below (below_step hb3 HL2.out))
    have HBX2 := Lib.hid (holds_at w3 #[.int .i64 zo, .int .i64 zA, .int .i64 zB, .slice zK znk zck, .slice zP znp zcp, .slice zF znf zcf] 59 _ rfl)
    have c0 : (w3.alloc (.cells #[.int .i64 zo, .int .i64 zA, .int .i64 zB, .slice zK znk zck, .slice zP znp zcp, .slice zF znf zcf] 59)).cell? ⟨w2.heap.size, 0, none⟩ = some (.int .i64 yo) := HBX1.out.cell (j := 0) rfl
    have c1 : (w3.alloc (.cells #[.int .i64 zo, .int .i64 zA, .int .i64 zB, .slice zK znk zck, .slice zP znp zcp, .slice zF znf zcf] 59)).cell? ⟨w2.heap.size, 1, none⟩ = some (.int .i64 yA) := HBX1.out.cell (j := 1) rfl
    have c2 : (w3.alloc (.cells #[.int .i64 zo, .int .i64 zA, .int .i64 zB, .slice zK znk zck, .slice zP znp zcp, .slice zF znf zcf] 59)).cell? ⟨w2.heap.size, 2, none⟩ = some (.int .i64 yB) := HBX1.out.cell (j := 2) rfl
    have c3 : (w3.alloc (.cells #[.int .i64 zo, .int .i64 zA, .int .i64 zB, .slice zK znk zck, .slice zP znp zcp, .slice zF znf zcf] 59)).cell? ⟨w2.heap.size, 3, none⟩ = some (.slice yK ynk yck) := HBX1.out.cell (j := 3) rfl
    have c4 : (w3.alloc (.cells #[.int .i64 zo, .int .i64 zA, .int .i64 zB, .slice zK znk zck, .slice zP znp zcp, .slice zF znf zcf] 59)).cell? ⟨w2.heap.size, 4, none⟩ = some (.slice yP ynp ycp) := HBX1.out.cell (j := 4) rfl
    have c5 : (w3.alloc (.cells #[.int .i64 zo, .int .i64 zA, .int .i64 zB, .slice zK znk zck, .slice zP znp zcp, .slice zF znf zcf] 59)).cell? ⟨w2.heap.size, 5, none⟩ = some (.slice yF ynf ycf) := HBX1.out.cell (j := 5) rfl
    clear hb3 ht
    go_wp2_with fail
    have hg := times_any (annOf t).length ⟨(yo, yA, yB), yK, ynk, yck, yP, ynp, ycp, yF, ynf, ycf⟩ (annOf t) (w3.alloc (.cells #[.int .i64 zo, .int .i64 zA, .int .i64 zB, .slice zK znk zck, .slice zP znp zcp, .slice zF znf zcf] 59)) (fun j => w1.heap.size ≤ j) 16384 k (by omega) HDP.out (Nat.le_refl _) HT.out HSM.out (by have := HALN.out; omega)
    dsimp only [TV.val] at hg
    refine hg.mono ?_
    clear hg
    rintro e w4 ⟨rfl, hb4⟩
    have HT4 := Lib.hid (HT.out.next hb4)
    have HTU4 := Lib.hid (HTU.out.next hb4)
    have HB4 := Lib.hid (below_step HB3.out hb4)
    have HX14 := Lib.hid (HBX1.out.below hb4)
    have HX24 := Lib.hid (HBX2.out.below hb4)
    replace c0 : w4.cell? ⟨w2.heap.size, 0, none⟩ = some (.int .i64 yo) := HX14.out.cell (j := 0) rfl
    replace c1 : w4.cell? ⟨w2.heap.size, 1, none⟩ = some (.int .i64 yA) := HX14.out.cell (j := 1) rfl
    replace c2 : w4.cell? ⟨w2.heap.size, 2, none⟩ = some (.int .i64 yB) := HX14.out.cell (j := 2) rfl
    replace c3 : w4.cell? ⟨w2.heap.size, 3, none⟩ = some (.slice yK ynk yck) := HX14.out.cell (j := 3) rfl
    replace c4 : w4.cell? ⟨w2.heap.size, 4, none⟩ = some (.slice yP ynp ycp) := HX14.out.cell (j := 4) rfl
    replace c5 : w4.cell? ⟨w2.heap.size, 5, none⟩ = some (.slice yF ynf ycf) := HX14.out.cell (j := 5) rfl
    have d0 : w4.cell? ⟨w3.heap.size, 0, none⟩ = some (.int .i64 zo) := HX24.out.cell (j := 0) rfl
    have d1 : w4.cell? ⟨w3.heap.size, 1, none⟩ = some (.int .i64 zA) := HX24.out.cell (j := 1) rfl
    have d2 : w4.cell? ⟨w3.heap.size, 2, none⟩ = some (.int .i64 zB) := HX24.out.cell (j := 2) rfl
    have d3 : w4.cell? ⟨w3.heap.size, 3, none⟩ = some (.slice zK znk zck) := HX24.out.cell (j := 3) rfl
    have d4 : w4.cell? ⟨w3.heap.size, 4, none⟩ = some (.slice zP znp zcp) := HX24.out.cell (j := 4) rfl
    have d5 : w4.cell? ⟨w3.heap.size, 5, none⟩ = some (.slice zF znf zcf) := HX24.out.cell (j := 5) rfl
    clear hb4
    generalize tmN k (annOf t) = m at *
    generalize tmD k (annOf t) = dd at *
    have ewa := IntWalk.i64_in ((k : Int) + (dd : Int)) (by omega)
    obtain ⟨q, hq⟩ : ∃ q : Nat, (m : Int) * ((nu : Int) - 1) = (q : Int) := ⟨m * (nu - 1), by rw [Int.natCast_mul]; congr 1; omega⟩
    have hqb : q ≤ 16777216 := by
      have h1 : q = m * (nu - 1) := by
        have : ((m * (nu - 1) : Nat) : Int) = (q : Int) := by rw [← hq, Int.natCast_mul]; congr 1; omega
        omega
      rw [h1]
      have := Nat.mul_le_mul (show m ≤ 4096 by omega) (show nu - 1 ≤ 4096 by omega)
      omega
    rw [hq] at HR HPL
    have ew1 := IntWalk.i64_in ((nu : Int) - 1) (by omega)
    have ew2 := IntWalk.i64_in (q : Int) (by omega)
    have ew3 := IntWalk.i64_in ((n : Int) + (q : Int)) (by omega)
    by_cases hm : 0 < m
    · have hmi : (0 : Int) < (m : Int) := by omega
      go_wp2_with fail
      have hh := highest_any (annOf u).length ⟨(zo, zA, zB), zK, znk, zck, zP, znp, zcp, zF, znf, zcf⟩ (annOf u) w4 (fun j => w1.heap.size ≤ j) (k + dd) 0 (by omega) (Nat.le_refl _) HTU4.out HSMU.out (by have := HALU.out; omega)
      dsimp only [TV.val] at hh
      rw [Int.natCast_add] at hh
      refine hh.mono ?_
      clear hh
      rintro e w5 ⟨rfl, hb5⟩
      have HT5 := Lib.hid (HT4.out.next hb5)
      have HTU5 := Lib.hid (HTU4.out.next hb5)
      have HB5 := Lib.hid (below_step HB4.out hb5)
      have HX15 := Lib.hid (HX14.out.below hb5)
      have HX25 := Lib.hid (HX24.out.below hb5)
      generalize hi (k + dd) 0 (annOf u) = hh at *
      by_cases hhg : 1048576 < hh
      · have HRE := Lib.hid (HR.out.trans (if_pos ⟨hm, hhg⟩))
        clear hb5
        go_wp2_with fail
        go_ret2
        exact RowAns.err HRE.out HB5.out
      · have HRE := Lib.hid (HR.out.trans (if_neg (fun h => hhg h.2)))
        replace c0 : w5.cell? ⟨w2.heap.size, 0, none⟩ = some (.int .i64 yo) := HX15.out.cell (j := 0) rfl
        replace c1 : w5.cell? ⟨w2.heap.size, 1, none⟩ = some (.int .i64 yA) := HX15.out.cell (j := 1) rfl
        replace c2 : w5.cell? ⟨w2.heap.size, 2, none⟩ = some (.int .i64 yB) := HX15.out.cell (j := 2) rfl
        replace c3 : w5.cell? ⟨w2.heap.size, 3, none⟩ = some (.slice yK ynk yck) := HX15.out.cell (j := 3) rfl
        replace c4 : w5.cell? ⟨w2.heap.size, 4, none⟩ = some (.slice yP ynp ycp) := HX15.out.cell (j := 4) rfl
        replace c5 : w5.cell? ⟨w2.heap.size, 5, none⟩ = some (.slice yF ynf ycf) := HX15.out.cell (j := 5) rfl
        replace d0 : w5.cell? ⟨w3.heap.size, 0, none⟩ = some (.int .i64 zo) := HX25.out.cell (j := 0) rfl
        replace d1 : w5.cell? ⟨w3.heap.size, 1, none⟩ = some (.int .i64 zA) := HX25.out.cell (j := 1) rfl
        replace d2 : w5.cell? ⟨w3.heap.size, 2, none⟩ = some (.int .i64 zB) := HX25.out.cell (j := 2) rfl
        replace d3 : w5.cell? ⟨w3.heap.size, 3, none⟩ = some (.slice zK znk zck) := HX25.out.cell (j := 3) rfl
        replace d4 : w5.cell? ⟨w3.heap.size, 4, none⟩ = some (.slice zP znp zcp) := HX25.out.cell (j := 4) rfl
        replace d5 : w5.cell? ⟨w3.heap.size, 5, none⟩ = some (.slice zF znf zcf) := HX25.out.cell (j := 5) rfl
        clear hb5
        by_cases hbg : (4096 : Int) < (n : Int) + (q : Int)
        · have HRF := Lib.hid (HRE.out.trans (if_pos hbg))
          go_wp2_with fail
          go_ret2
          exact RowAns.err HRF.out HB5.out
        · have HRF := Lib.hid (HRE.out.trans (if_neg hbg))
          go_wp2_with fail
          have hz := tput_any (annOf t).length ⟨(yo, yA, yB), yK, ynk, yck, yP, ynp, ycp, yF, ynf, ycf⟩ ⟨(zo, zA, zB), zK, znk, zck, zP, znp, zcp, zF, znf, zcf⟩ (annOf t) (annOf u) w5 (fun j => w1.heap.size ≤ j) k (Nat.le_refl _) HT5.out HTU5.out HSM.out HSMU.out (by have := HALU.out; omega) (by have := HALN.out; omega)
          dsimp only [TV.val] at hz
          refine hz.mono ?_
          clear hz
          rintro e w6 ⟨v6, rfl, ht6, hb6⟩
          obtain ⟨⟨xo, xA, xB⟩, xK, xnk, xck, xP, xnp, xcp, xF, xnf, xcf⟩ := v6
          dsimp only [TV.val]
          have HT6 := Lib.hid ht6
          have HB6 := Lib.hid (below_step HB5.out hb6)
          clear ht6 hb6
          go_wp2_with fail
          have hr := row_any (each (ptF (annOf u)) k (annOf t)).length ⟨(xo, xA, xB), xK, xnk, xck, xP, xnp, xcp, xF, xnf, xcf⟩ (each (ptF (annOf u)) k (annOf t)) w6 _ (Nat.le_refl _) HT6.out (by have := HPL.out; omega)
          dsimp only [TV.val] at hr
          refine hr.mono ?_
          clear hr
          rintro e w7 ⟨A7, n7, c7, rfl, hn7, ho7, hb7⟩
          go_wp2_with fail
          go_ret2
          exact RowAns.of HRF.out (by rw [List.length_map]; exact hn7) HB6.out.size ho7 (below_step HB6.out hb7)
    · have HRE := Lib.hid (HR.out.trans (if_neg (fun h => hm h.1)))
      have hmi : ¬ (0 : Int) < (m : Int) := by omega
      by_cases hbg : (4096 : Int) < (n : Int) + (q : Int)
      · have HRF := Lib.hid (HRE.out.trans (if_pos hbg))
        go_wp2_with fail
        go_ret2
        exact RowAns.err HRF.out HB4.out
      · have HRF := Lib.hid (HRE.out.trans (if_neg hbg))
        go_wp2_with fail
        have hz := tput_any (annOf t).length ⟨(yo, yA, yB), yK, ynk, yck, yP, ynp, ycp, yF, ynf, ycf⟩ ⟨(zo, zA, zB), zK, znk, zck, zP, znp, zcp, zF, znf, zcf⟩ (annOf t) (annOf u) w4 (fun j => w1.heap.size ≤ j) k (Nat.le_refl _) HT4.out HTU4.out HSM.out HSMU.out (by have := HALU.out; omega) (by have := HALN.out; omega)
        dsimp only [TV.val] at hz
        refine hz.mono ?_
        clear hz
        rintro e w6 ⟨v6, rfl, ht6, hb6⟩
        obtain ⟨⟨xo, xA, xB⟩, xK, xnk, xck, xP, xnp, xcp, xF, xnf, xcf⟩ := v6
        dsimp only [TV.val]
        have HT6 := Lib.hid ht6
        have HB6 := Lib.hid (below_step HB4.out hb6)
        clear ht6 hb6
        go_wp2_with fail
        have hr := row_any (each (ptF (annOf u)) k (annOf t)).length ⟨(xo, xA, xB), xK, xnk, xck, xP, xnp, xcp, xF, xnf, xcf⟩ (each (ptF (annOf u)) k (annOf t)) w6 _ (Nat.le_refl _) HT6.out (by have := HPL.out; omega)
        dsimp only [TV.val] at hr
        refine hr.mono ?_
        clear hr
        rintro e w7 ⟨A7, n7, c7, rfl, hn7, ho7, hb7⟩
        go_wp2_with fail
        go_ret2
        exact RowAns.of HRF.out (by rw [List.length_map]; exact hn7) HB6.out.size ho7 (below_step HB6.out hb7)
  · have hkc : ¬ at_ ≤ 2097152 := by omega
    clear hkk
    have HK2 := Lib.hid hk2
    clear hk2
    go_enter Tryd.func33, Tryd.ntmps33
    go_wp2_with fail
    refine (HS0.out w (Below.refl _ _)).mono ?_
    rintro e w0 ⟨rfl, hb0⟩
    have HB0 := Lib.hid hb0
    clear hb0
    go_wp2_with fail
    refine (HS1.out w0 HB0.out).mono ?_
    rintro e w1 ⟨rfl, hb1⟩
    have HB1 := Lib.hid (below_step HB0.out hb1)
    clear hb1
    go_wp2_with fail
    simp only [← HK2.out]
    refine (HO0.out w1 HB1.out).mono ?_
    rintro e w2 (⟨hno, -, -⟩ | ⟨v, -, rfl, ht, hb2⟩)
    · exact absurd HSS.out hno
    obtain ⟨⟨yo, yA, yB⟩, yK, ynk, yck, yP, ynp, ycp, yF, ynf, ycf⟩ := v
    dsimp only [TV.val]
    have HL1 := Lib.hid (show Below w2.heap.size w2 (w2.alloc (.cells #[.int .i64 yo, .int .i64 yA, .int .i64 yB, .slice yK ynk yck, .slice yP ynp ycp, .slice yF ynf ycf] 59)) from (Below.refl _ _).alloc (Nat.le_refl _) _)
    have HT := Lib.hid (ht.next HL1.out)
    have HB2 := Lib.hid (below_step (below_step HB1.out hb2) HL1.out)
    have HS12 : Hid (w1.heap.size ≤ (w2.alloc (.cells #[.int .i64 yo, .int .i64 yA, .int .i64 yB, .slice yK ynk yck, .slice yP ynp ycp, .slice yF ynf ycf] 59)).heap.size) := Lib.hid (Nat.le_trans hb2.size HL1.out.size)
    have HBX1 := Lib.hid (holds_at w2 #[.int .i64 yo, .int .i64 yA, .int .i64 yB, .slice yK ynk yck, .slice yP ynp ycp, .slice yF ynf ycf] 59 _ rfl)
    clear hb2 ht
    go_wp2_with fail
    refine (HO1.out (w2.alloc (.cells #[.int .i64 yo, .int .i64 yA, .int .i64 yB, .slice yK ynk yck, .slice yP ynp ycp, .slice yF ynf ycf] 59)) HB2.out).mono ?_
    rintro e w3 (⟨hno, -, -⟩ | ⟨v, -, rfl, ht, hb3⟩)
    · exact absurd HSSU.out hno
    obtain ⟨⟨zo, zA, zB⟩, zK, znk, zck, zP, znp, zcp, zF, znf, zcf⟩ := v
    dsimp only [TV.val]
    have HL2 := Lib.hid (show Below w3.heap.size w3 (w3.alloc (.cells #[.int .i64 zo, .int .i64 zA, .int .i64 zB, .slice zK znk zck, .slice zP znp zcp, .slice zF znf zcf] 59)) from (Below.refl _ _).alloc (Nat.le_refl _) _)
    have HTU := Lib.hid ((ht.next HL2.out).mono (G' := fun j => w1.heap.size ≤ j) fun j hj _ => Nat.le_trans HS12.out hj)
    replace HT := Lib.hid (HT.out.next (below_step hb3 HL2.out))
    have HB3 := Lib.hid (below_step (below_step HB2.out hb3) HL2.out)
    replace HBX1 := Lib.hid (HBX1.out.below (below_step hb3 HL2.out))
    have HBX2 := Lib.hid (holds_at w3 #[.int .i64 zo, .int .i64 zA, .int .i64 zB, .slice zK znk zck, .slice zP znp zcp, .slice zF znf zcf] 59 _ rfl)
    have c0 : (w3.alloc (.cells #[.int .i64 zo, .int .i64 zA, .int .i64 zB, .slice zK znk zck, .slice zP znp zcp, .slice zF znf zcf] 59)).cell? ⟨w2.heap.size, 0, none⟩ = some (.int .i64 yo) := HBX1.out.cell (j := 0) rfl
    have c1 : (w3.alloc (.cells #[.int .i64 zo, .int .i64 zA, .int .i64 zB, .slice zK znk zck, .slice zP znp zcp, .slice zF znf zcf] 59)).cell? ⟨w2.heap.size, 1, none⟩ = some (.int .i64 yA) := HBX1.out.cell (j := 1) rfl
    have c2 : (w3.alloc (.cells #[.int .i64 zo, .int .i64 zA, .int .i64 zB, .slice zK znk zck, .slice zP znp zcp, .slice zF znf zcf] 59)).cell? ⟨w2.heap.size, 2, none⟩ = some (.int .i64 yB) := HBX1.out.cell (j := 2) rfl
    have c3 : (w3.alloc (.cells #[.int .i64 zo, .int .i64 zA, .int .i64 zB, .slice zK znk zck, .slice zP znp zcp, .slice zF znf zcf] 59)).cell? ⟨w2.heap.size, 3, none⟩ = some (.slice yK ynk yck) := HBX1.out.cell (j := 3) rfl
    have c4 : (w3.alloc (.cells #[.int .i64 zo, .int .i64 zA, .int .i64 zB, .slice zK znk zck, .slice zP znp zcp, .slice zF znf zcf] 59)).cell? ⟨w2.heap.size, 4, none⟩ = some (.slice yP ynp ycp) := HBX1.out.cell (j := 4) rfl
    have c5 : (w3.alloc (.cells #[.int .i64 zo, .int .i64 zA, .int .i64 zB, .slice zK znk zck, .slice zP znp zcp, .slice zF znf zcf] 59)).cell? ⟨w2.heap.size, 5, none⟩ = some (.slice yF ynf ycf) := HBX1.out.cell (j := 5) rfl
    clear hb3 ht
    go_wp2_with fail
    have hg := times_any (annOf t).length ⟨(yo, yA, yB), yK, ynk, yck, yP, ynp, ycp, yF, ynf, ycf⟩ (annOf t) (w3.alloc (.cells #[.int .i64 zo, .int .i64 zA, .int .i64 zB, .slice zK znk zck, .slice zP znp zcp, .slice zF znf zcf] 59)) (fun j => w1.heap.size ≤ j) 16384 k (by omega) HDP.out (Nat.le_refl _) HT.out HSM.out (by have := HALN.out; omega)
    dsimp only [TV.val] at hg
    refine hg.mono ?_
    clear hg
    rintro e w4 ⟨rfl, hb4⟩
    have HT4 := Lib.hid (HT.out.next hb4)
    have HTU4 := Lib.hid (HTU.out.next hb4)
    have HB4 := Lib.hid (below_step HB3.out hb4)
    have HX14 := Lib.hid (HBX1.out.below hb4)
    have HX24 := Lib.hid (HBX2.out.below hb4)
    replace c0 : w4.cell? ⟨w2.heap.size, 0, none⟩ = some (.int .i64 yo) := HX14.out.cell (j := 0) rfl
    replace c1 : w4.cell? ⟨w2.heap.size, 1, none⟩ = some (.int .i64 yA) := HX14.out.cell (j := 1) rfl
    replace c2 : w4.cell? ⟨w2.heap.size, 2, none⟩ = some (.int .i64 yB) := HX14.out.cell (j := 2) rfl
    replace c3 : w4.cell? ⟨w2.heap.size, 3, none⟩ = some (.slice yK ynk yck) := HX14.out.cell (j := 3) rfl
    replace c4 : w4.cell? ⟨w2.heap.size, 4, none⟩ = some (.slice yP ynp ycp) := HX14.out.cell (j := 4) rfl
    replace c5 : w4.cell? ⟨w2.heap.size, 5, none⟩ = some (.slice yF ynf ycf) := HX14.out.cell (j := 5) rfl
    have d0 : w4.cell? ⟨w3.heap.size, 0, none⟩ = some (.int .i64 zo) := HX24.out.cell (j := 0) rfl
    have d1 : w4.cell? ⟨w3.heap.size, 1, none⟩ = some (.int .i64 zA) := HX24.out.cell (j := 1) rfl
    have d2 : w4.cell? ⟨w3.heap.size, 2, none⟩ = some (.int .i64 zB) := HX24.out.cell (j := 2) rfl
    have d3 : w4.cell? ⟨w3.heap.size, 3, none⟩ = some (.slice zK znk zck) := HX24.out.cell (j := 3) rfl
    have d4 : w4.cell? ⟨w3.heap.size, 4, none⟩ = some (.slice zP znp zcp) := HX24.out.cell (j := 4) rfl
    have d5 : w4.cell? ⟨w3.heap.size, 5, none⟩ = some (.slice zF znf zcf) := HX24.out.cell (j := 5) rfl
    clear hb4
    generalize tmN k (annOf t) = m at *
    generalize tmD k (annOf t) = dd at *
    have ewa := IntWalk.i64_in ((k : Int) + (dd : Int)) (by omega)
    obtain ⟨q, hq⟩ : ∃ q : Nat, (m : Int) * ((nu : Int) - 1) = (q : Int) := ⟨m * (nu - 1), by rw [Int.natCast_mul]; congr 1; omega⟩
    have hqb : q ≤ 16777216 := by
      have h1 : q = m * (nu - 1) := by
        have : ((m * (nu - 1) : Nat) : Int) = (q : Int) := by rw [← hq, Int.natCast_mul]; congr 1; omega
        omega
      rw [h1]
      have := Nat.mul_le_mul (show m ≤ 4096 by omega) (show nu - 1 ≤ 4096 by omega)
      omega
    rw [hq] at HR HPL
    have ew1 := IntWalk.i64_in ((nu : Int) - 1) (by omega)
    have ew2 := IntWalk.i64_in (q : Int) (by omega)
    have ew3 := IntWalk.i64_in ((n : Int) + (q : Int)) (by omega)
    by_cases hm : 0 < m
    · have hmi : (0 : Int) < (m : Int) := by omega
      go_wp2_with fail
      have hh := highest_any (annOf u).length ⟨(zo, zA, zB), zK, znk, zck, zP, znp, zcp, zF, znf, zcf⟩ (annOf u) w4 (fun j => w1.heap.size ≤ j) (k + dd) 0 (by omega) (Nat.le_refl _) HTU4.out HSMU.out (by have := HALU.out; omega)
      dsimp only [TV.val] at hh
      rw [Int.natCast_add] at hh
      refine hh.mono ?_
      clear hh
      rintro e w5 ⟨rfl, hb5⟩
      have HT5 := Lib.hid (HT4.out.next hb5)
      have HTU5 := Lib.hid (HTU4.out.next hb5)
      have HB5 := Lib.hid (below_step HB4.out hb5)
      have HX15 := Lib.hid (HX14.out.below hb5)
      have HX25 := Lib.hid (HX24.out.below hb5)
      generalize hi (k + dd) 0 (annOf u) = hh at *
      by_cases hhg : 1048576 < hh
      · have HRE := Lib.hid (HR.out.trans (if_pos ⟨hm, hhg⟩))
        clear hb5
        go_wp2_with fail
        go_ret2
        exact RowAns.err HRE.out HB5.out
      · have HRE := Lib.hid (HR.out.trans (if_neg (fun h => hhg h.2)))
        replace c0 : w5.cell? ⟨w2.heap.size, 0, none⟩ = some (.int .i64 yo) := HX15.out.cell (j := 0) rfl
        replace c1 : w5.cell? ⟨w2.heap.size, 1, none⟩ = some (.int .i64 yA) := HX15.out.cell (j := 1) rfl
        replace c2 : w5.cell? ⟨w2.heap.size, 2, none⟩ = some (.int .i64 yB) := HX15.out.cell (j := 2) rfl
        replace c3 : w5.cell? ⟨w2.heap.size, 3, none⟩ = some (.slice yK ynk yck) := HX15.out.cell (j := 3) rfl
        replace c4 : w5.cell? ⟨w2.heap.size, 4, none⟩ = some (.slice yP ynp ycp) := HX15.out.cell (j := 4) rfl
        replace c5 : w5.cell? ⟨w2.heap.size, 5, none⟩ = some (.slice yF ynf ycf) := HX15.out.cell (j := 5) rfl
        replace d0 : w5.cell? ⟨w3.heap.size, 0, none⟩ = some (.int .i64 zo) := HX25.out.cell (j := 0) rfl
        replace d1 : w5.cell? ⟨w3.heap.size, 1, none⟩ = some (.int .i64 zA) := HX25.out.cell (j := 1) rfl
        replace d2 : w5.cell? ⟨w3.heap.size, 2, none⟩ = some (.int .i64 zB) := HX25.out.cell (j := 2) rfl
        replace d3 : w5.cell? ⟨w3.heap.size, 3, none⟩ = some (.slice zK znk zck) := HX25.out.cell (j := 3) rfl
        replace d4 : w5.cell? ⟨w3.heap.size, 4, none⟩ = some (.slice zP znp zcp) := HX25.out.cell (j := 4) rfl
        replace d5 : w5.cell? ⟨w3.heap.size, 5, none⟩ = some (.slice zF znf zcf) := HX25.out.cell (j := 5) rfl
        clear hb5
        by_cases hbg : (4096 : Int) < (n : Int) + (q : Int)
        · have HRF := Lib.hid (HRE.out.trans (if_pos hbg))
          go_wp2_with fail
          go_ret2
          exact RowAns.err HRF.out HB5.out
        · have HRF := Lib.hid (HRE.out.trans (if_neg hbg))
          go_wp2_with fail
          have hz := tput_any (annOf t).length ⟨(yo, yA, yB), yK, ynk, yck, yP, ynp, ycp, yF, ynf, ycf⟩ ⟨(zo, zA, zB), zK, znk, zck, zP, znp, zcp, zF, znf, zcf⟩ (annOf t) (annOf u) w5 (fun j => w1.heap.size ≤ j) k (Nat.le_refl _) HT5.out HTU5.out HSM.out HSMU.out (by have := HALU.out; omega) (by have := HALN.out; omega)
          dsimp only [TV.val] at hz
          refine hz.mono ?_
          clear hz
          rintro e w6 ⟨v6, rfl, ht6, hb6⟩
          obtain ⟨⟨xo, xA, xB⟩, xK, xnk, xck, xP, xnp, xcp, xF, xnf, xcf⟩ := v6
          dsimp only [TV.val]
          have HT6 := Lib.hid ht6
          have HB6 := Lib.hid (below_step HB5.out hb6)
          clear ht6 hb6
          go_wp2_with fail
          have hr := row_any (each (ptF (annOf u)) k (annOf t)).length ⟨(xo, xA, xB), xK, xnk, xck, xP, xnp, xcp, xF, xnf, xcf⟩ (each (ptF (annOf u)) k (annOf t)) w6 _ (Nat.le_refl _) HT6.out (by have := HPL.out; omega)
          dsimp only [TV.val] at hr
          refine hr.mono ?_
          clear hr
          rintro e w7 ⟨A7, n7, c7, rfl, hn7, ho7, hb7⟩
          go_wp2_with fail
          go_ret2
          exact RowAns.of HRF.out (by rw [List.length_map]; exact hn7) HB6.out.size ho7 (below_step HB6.out hb7)
    · have HRE := Lib.hid (HR.out.trans (if_neg (fun h => hm h.1)))
      have hmi : ¬ (0 : Int) < (m : Int) := by omega
      by_cases hbg : (4096 : Int) < (n : Int) + (q : Int)
      · have HRF := Lib.hid (HRE.out.trans (if_pos hbg))
        go_wp2_with fail
        go_ret2
        exact RowAns.err HRF.out HB4.out
      · have HRF := Lib.hid (HRE.out.trans (if_neg hbg))
        go_wp2_with fail
        have hz := tput_any (annOf t).length ⟨(yo, yA, yB), yK, ynk, yck, yP, ynp, ycp, yF, ynf, ycf⟩ ⟨(zo, zA, zB), zK, znk, zck, zP, znp, zcp, zF, znf, zcf⟩ (annOf t) (annOf u) w4 (fun j => w1.heap.size ≤ j) k (Nat.le_refl _) HT4.out HTU4.out HSM.out HSMU.out (by have := HALU.out; omega) (by have := HALN.out; omega)
        dsimp only [TV.val] at hz
        refine hz.mono ?_
        clear hz
        rintro e w6 ⟨v6, rfl, ht6, hb6⟩
        obtain ⟨⟨xo, xA, xB⟩, xK, xnk, xck, xP, xnp, xcp, xF, xnf, xcf⟩ := v6
        dsimp only [TV.val]
        have HT6 := Lib.hid ht6
        have HB6 := Lib.hid (below_step HB4.out hb6)
        clear ht6 hb6
        go_wp2_with fail
        have hr := row_any (each (ptF (annOf u)) k (annOf t)).length ⟨(xo, xA, xB), xK, xnk, xck, xP, xnp, xcp, xF, xnf, xcf⟩ (each (ptF (annOf u)) k (annOf t)) w6 _ (Nat.le_refl _) HT6.out (by have := HPL.out; omega)
        dsimp only [TV.val] at hr
        refine hr.mono ?_
        clear hr
        rintro e w7 ⟨A7, n7, c7, rfl, hn7, ho7, hb7⟩
        go_wp2_with fail
        go_ret2
        exact RowAns.of HRF.out (by rw [List.length_map]; exact hn7) HB6.out.size ho7 (below_step HB6.out hb7)
end Go.Proofs.YtkkkblghihheeaaDoor
namespace Go.Proofs.YtkkkblghihheeaaDoor
open Go.RowKit

set_option maxHeartbeats 8000000 in
theorem tsubsts_any (A B : Option Addr) (n c m d : Nat) (t u : List Node3) (at_ : Int) (w : World) (hn : t.length = n) (hs : Slice A n c) (hA : Holds w A (nodesV t)) (hw : ∀ x ∈ t, Wide3 x) (hm : u.length = m) (hsu : Slice B m d) (hB : Holds w B (nodesV u)) (hwu : ∀ x ∈ u, Wide3 x) (hL : Lim w) (hnb : n ≤ 4611686018427387904) (hmb : m ≤ 4611686018427387904) (hat : I64 at_) :
    Calls Tryd.prog 5 #[.slice A n c, .slice B m d, .int .i64 at_] w fun e w' => e = .returned (.bool true) ∧ Below w.heap.size w w' := by
  have HR1 := Lib.hid (show ∀ w', Below w.heap.size w w' → RowIn w' A n c t from fun w' hb => ⟨hn, hs, hA.below hb⟩)
  have HR2 := Lib.hid (show ∀ w', Below w.heap.size w w' → RowIn w' B m d u from fun w' hb => ⟨hm, hsu, hB.below hb⟩)
  have HL := Lib.hid (show ∀ w', Below w.heap.size w w' → Lim w' from fun w' hb => hL.next hb)
  have HAW := Lib.hid (awake_any w hL)
  have HN := Lib.hid hn
  have HM := Lib.hid hm
  have HW := Lib.hid hw
  have HWU := Lib.hid hwu
  have HAT := Lib.hid hat
  have HLIT := Lib.hid (show ∀ w1 : World, Holds (w1.alloc (.cells #[.slice A n c, .slice B m d] 23)) (some ⟨w1.heap.size, 0, none⟩) (([(A, c, t), (B, d, u)] : List RowT).map rowV) from fun w1 => by
    have := holds_at w1 #[.slice A n c, .slice B m d] 23 (([(A, c, t), (B, d, u)] : List RowT).map rowV) (by simp [rowV, hn, hm])
    exact this)
  have HLO := Lib.hid (show ∀ w1 : World, _ from fun w1 => long_any (some ⟨w1.heap.size, 0, none⟩) 2 2 [(A, c, t), (B, d, u)] (w1.alloc (.cells #[.slice A n c, .slice B m d] 23)) rfl (by omega) (HLIT.out w1) (by
    intro y hy
    simp only [List.mem_cons, List.not_mem_nil, or_false] at hy
    rcases hy with rfl | rfl
    · simp only; omega
    · simp only; omega))
  clear hA hB hL hn hs hnb hw hm hsu hmb hwu hat
  go_enter Tryd.func5, Tryd.ntmps5
  go_wp2_with fail
  refine (HAW.out).mono ?_
  rintro e w1 ⟨rfl, hb1⟩
  have HB1 := Lib.hid hb1
  have HB2 := Lib.hid (below_alloc hb1 (.cells #[.slice A n c, .slice B m d] 23))
  clear hb1
  go_wp2_with fail
  refine (HLO.out w1).mono ?_
  rintro e w2 ⟨rfl, (rfl | ⟨hlen, rfl⟩)⟩
  · go_wp2_with fail
    go_ret
    exact ⟨rfl, HB2.out⟩
  · clear hlen
    go_wp2_with fail
    refine (subst_in (HR1.out _ HB2.out) (HR2.out _ HB2.out) (HL.out _ HB2.out) at_ HAT.out).mono ?_
    rintro e w3 ⟨A3, n3, c3, rfl, hr3, hb3⟩
    have HB3 := Lib.hid (below_step HB2.out hb3)
    have HRx := Lib.hid hr3
    clear hr3 hb3
    go_wp2_with fail
    refine ((rsubst_any A B n c m d t u at_ _ HN.out (HR1.out _ HB3.out).sl (HR1.out _ HB3.out).ho HW.out HM.out (HR2.out _ HB3.out).sl (HR2.out _ HB3.out).ho HWU.out HAT.out).mono fun _ _ h => h.in_).mono ?_
    rintro e w4 ⟨A4, n4, c4, rfl, hr4, hb4⟩
    have HB4 := Lib.hid (below_step HB3.out hb4)
    have HRx4 := Lib.hid (HRx.out.below hb4)
    have HRy := Lib.hid hr4
    have HLL := Lib.hid (subst_len t u at_)
    clear hr4 hb4
    generalize (substS t u at_).2 = e3 at *
    generalize (substS t u at_).1 = la at *
    go_wp2_with fail
    refine (same_in HRx4.out HRy.out (by have := HRx4.out.len; have := HLL.out; omega) true (by simp)).mono ?_
    rintro e w5 ⟨rfl, hb5⟩
    have HB5 := Lib.hid (below_step HB4.out hb5)
    clear hb5
    go_wp2_with fail
    go_ret
    exact ⟨rfl, HB5.out⟩
end Go.Proofs.YtkkkblghihheeaaDoor
namespace Go.Proofs.YtkkkblghihheeaaDoor
open Go.ChangeShapes Go.WideShapes Go.ChangeAt Go.RowKit

set_option maxRecDepth 100000 in
theorem termSubsts_lifted (os : Os) (started : os.Started) (H : Type) (enc : TypeId × Value → H) :
    ReturnsInHanded {} Tryd.checked os 5 .any (fun w args => (Rows.termSubstsSpec.pre enc Tryd.prog Tryd.f5 [] false w args ∧ laidMetH Tryd.prog laidV w) ∧ sizedMet enc Tryd.prog Tryd.f5 (OpenSpec.ofChange Rows.termSubstsSpec) false w args)
      (Rows.termSubstsSpec.post enc Tryd.prog Tryd.f5 false true false false) := by
  refine returnsInHanded_of_change_and (C := Tryd.checked) (X := fun w _ => laidMetH Tryd.prog laidV w) (fun _ _ _ hh h => h.of_heap hh) Tryd.own started (by kernel_rfl) Tryd.func5
    (ChangeSpec.witness_shaped (enc := enc) (C := Tryd.checked) (os := os) (X := fun w _ => laidMetH Tryd.prog laidV w) false (World.doorLaid Tryd.prog 400 os) #[.slice none 0 0, .slice none 0 0, .int .i64 0] 8 rfl (World.shaped_of_RefB (by kernel_rfl) (by kernel_rfl)) (by kernel_rfl) (by kernel_rfl) (by kernel_rfl) (door_met os _)) ?_
  intro W base args ds gs before hval0 hW _ hsz0 hL _
  have hval : ∀ (j : Nat) t v, Tryd.f5.params[j]? = some t → args[j]? = some v → Value.okWide Tryd.prog W .any base t v := hval0
  have hsz : (DataW.weightsEach Tryd.prog (Tryd.f5.params.toList ++ Rows.termSubstsSpec.plain.varTypes Tryd.prog) (ds ++ gs)).all (· ≤ reachBytes) = true := hsz0
  have hW' := hW
  obtain ⟨p, q, hA0, hV, rfl, hfz, hnd⟩ := hW
  have hA : DataW.TrodAll enc Tryd.prog W 0 (fun _ => true) true Tryd.f5.params.toList args.toList ds p := hA0
  have hlt : ∀ x ∈ p, x.block < W.heap.size := fun x hx => by simpa using hW'.lt x (List.mem_append_left _ hx)
  have hkeep : ∀ W', Below W.heap.size W W' → DataW.TrodAll enc Tryd.prog W' 0 (fun b => decide (b < W.heap.size)) true Tryd.f5.params.toList args.toList ds p :=
    fun W' hb => trodAll_below Tryd.laidOut hb (by kernel_rfl) hA hlt
  rw [Tryd.params5] at hA hval hsz
  obtain ⟨v0, v1, v2, d0, d1, d2, p0, p1, p2, rfl, rfl, rfl, g0, g1, g2⟩ := trodAll_three hA
  obtain ⟨rfl, rfl⟩ := trodVars_none hV
  obtain ⟨A0, c0, l0, rfl, s0, h0, wd0⟩ := open_nodes (hval 0 23 v0 rfl rfl) g0
  have b0 := node_weight hsz (j := 0) rfl rfl g0 s0
  obtain ⟨A1, c1, l1, rfl, s1, h1, wd1⟩ := open_nodes (hval 1 23 v1 rfl rfl) g1
  have b1 := node_weight hsz (j := 1) rfl rfl g1 s1
  obtain ⟨x2, rfl, y2⟩ := open_i64 (hval 2 3 v2 rfl rfl) g2
  have hLim := lim_of_laid hL
  clear hA0 hval0 hL hsz0 hsz
  refine (tsubsts_any A0 A1 _ c0 _ c1 l0 l1 x2 W rfl s0 h0 wd0 rfl s1 h1 wd1 hLim b0 b1 y2).mono fun e W' ⟨he, hb⟩ => ?_
  subst he
  exact ⟨_, rfl, _, _, _, [], _, [], hW', trodAll_mk1 (shut_bool Tryd.underlying4 true), hkeep W' hb, rfl, hb.frame _, fun h => by cases h⟩
/-- TermSubsts: whatever the input, it answers true, and the input reads as it did. -/
theorem termSubsts_row : Rows.TermSubstsSaid :=
  OpenClaim.holds_of_wide 5 Tryd.f5 rfl rfl rfl rfl rfl rfl rfl ⟨rfl, rfl, rfl, rfl, rfl⟩ rfl rfl rfl rfl rfl (by kernel_rfl) Tryd.func5 (by kernel_rfl)
    (of_decide_eq_true (by kernel_rfl)) (by unfold Func.isWrapper; first | (rw [if_pos (by decide +kernel)]; kernel_rfl) | (rw [if_neg (by decide +kernel)]; exact ⟨rfl, rfl⟩))
    (fun os started H enc _ => termSubsts_lifted os started H enc)
/-- The card: the variable limits is tied to the program's text. -/
theorem termSubsts_holds : Rows.TermSubstsCardSaid :=
  Claim7.holds_tied_plain_at .later [] [.data] true _ true termSubsts_row (fun _ h => by cases h) (by kernel_rfl) (fun _ h => by cases h) termSubsts_row_tie rfl ⟨rfl, rfl⟩ (by kernel_rfl) rfl
    (fun f fn hf hfn => by
      obtain rfl : f = 5 := Option.some.inj ((show Tryd.prog.funcNamed "retort/retortlaw04.TermSubsts" = some 5 by kernel_rfl).symm.trans hf) |>.symm
      obtain rfl : fn = Tryd.f5 := (Option.some.inj (Tryd.func5.symm.trans hfn)).symm
      exact ⟨by kernel_rfl, fun j t ht => by
        rw [Tryd.params5] at ht
        have hm : t ∈ [23, 23, 3] := by simpa using Array.mem_of_getElem? ht
        have hall : ([23, 23, 3].all fun u => !Tryd.prog.wantsStandIn u) = true := by kernel_rfl
        exact (show Tryd.prog.wantsStandIn t = false by simpa using List.all_eq_true.1 hall t hm)⟩)
    (by kernel_rfl)
end Go.Proofs.YtkkkblghihheeaaDoor
