/- term.Subst, walked. -/
import Derived.Test.YtkkkblghihheeaaDoorTSubst
namespace Go.Proofs.YtkkkblghihheeaaDoor
open Go.RowKit

theorem RowAns.row {r : List Node3} {w w1 : World} {A : Option Addr} {n c : Nat} (hl : r.length = n) (h : OwnN w1 w.heap.size (.slice A n c) n r) (hb : Below w.heap.size w w1) : RowAns (r, 0) w (.returned (.tuple #[.slice A n c, .int .i64 0])) w1 := ⟨A, n, c, rfl, hl, h, hb⟩
set_option maxHeartbeats 4000000 in
theorem subst_any (A Au : Option Addr) (n c nu cu : Nat) (t u : List Node3) (at_ : Int) (w : World) (hn : t.length = n) (hs : Slice A n c) (hA : Holds w A (nodesV t)) (hu : u.length = nu) (hsu : Slice Au nu cu) (hAu : Holds w Au (nodesV u)) (hL : Lim w) (hat2 : I64 at_) :
    Calls Tryd.prog 32 #[.slice A n c, .slice Au nu cu, .int .i64 at_] w (RowAns (substS t u at_) w) := by
  have hmf : ∀ (fn : Fn) (first cap : Array Value) (w : World), (Instr.makeFunc fn first cap).run Tryd.prog w = .ok (.func fn first cap) w := fun _ _ _ _ => rfl
  obtain ⟨w4, hw4⟩ : ∃ w4, w4 = (((w.alloc (.cells #[.slice A n c] 23)).alloc (.cells #[.slice Au nu cu] 23)).alloc (.cells #[.int .i64 at_] 3)).alloc (.cells #[.slice A n c, .slice Au nu cu] 23) := ⟨_, rfl⟩
  have hb4 : Below w.heap.size w w4 := by rw [hw4]; exact ((((Below.refl _ _).alloc (Nat.le_refl _) _).alloc (by simp) _).alloc (by simp; omega) _).alloc (by simp; omega) _
  have hz4 : w4.heap.size = w.heap.size + 1 + 1 + 1 + 1 := by rw [hw4]; simp
  have x1 : Whole w4 w.heap.size #[.slice A n c] 23 := by
    rw [hw4]
    exact (((Whole.new w _ _).below ((Below.refl _ _).alloc (Nat.le_refl _) _) (by simp)).below ((Below.refl _ _).alloc (Nat.le_refl _) _) (by simp; omega)).below ((Below.refl _ _).alloc (Nat.le_refl _) _) (by simp; omega)
  have x2 : Whole w4 (w.heap.size + 1) #[.slice Au nu cu] 23 := by
    rw [hw4]
    have := ((Whole.new (w.alloc (.cells #[.slice A n c] 23)) #[.slice Au nu cu] 23).below ((Below.refl _ _).alloc (Nat.le_refl _) (.cells #[.int .i64 at_] 3)) (by simp)).below ((Below.refl _ _).alloc (Nat.le_refl _) (.cells #[.slice A n c, .slice Au nu cu] 23)) (by simp)
    rwa [World.size_alloc] at this
  have x3 : Whole w4 (w.heap.size + 1 + 1) #[.int .i64 at_] 3 := by
    rw [hw4]
    have := (Whole.new ((w.alloc (.cells #[.slice A n c] 23)).alloc (.cells #[.slice Au nu cu] 23)) #[.int .i64 at_] 3).below ((Below.refl _ _).alloc (Nat.le_refl _) (.cells #[.slice A n c, .slice Au nu cu] 23)) (by simp)
    simpa using this
  have hlit : Holds w4 (some ⟨w.heap.size + 1 + 1 + 1, 0, none⟩) (([(A, c, t), (Au, cu, u)] : List RowT).map rowV) := by
    rw [hw4]
    have := holds_at (((w.alloc (.cells #[.slice A n c] 23)).alloc (.cells #[.slice Au nu cu] 23)).alloc (.cells #[.int .i64 at_] 3)) #[.slice A n c, .slice Au nu cu] 23 (([(A, c, t), (Au, cu, u)] : List RowT).map rowV) (by simp [rowV, hn, hu])
    simpa using this
  have hok : RowsOk w4 [(A, c, t), (Au, cu, u)] := by
    intro x hx
    simp only [List.mem_cons, List.not_mem_nil, or_false] at hx
    rcases hx with rfl | rfl
    · exact ⟨by simp only [hn]; exact hs, hA.below hb4⟩
    · exact ⟨by simp only [hu]; exact hsu, hAu.below hb4⟩
  have HFF := Lib.hid (firstFault_any (some ⟨w.heap.size + 1 + 1 + 1, 0, none⟩) 2 2 [(A, c, t), (Au, cu, u)] w4 rfl (by omega) hlit hok (hL.next hb4))
  have HB4 := Lib.hid hb4
  have HX1 := Lib.hid x1
  have HX2 := Lib.hid x2
  have HX3 := Lib.hid x3
  have HZ4 := Lib.hid hz4
  simp only [List.map_cons, List.map_nil] at HFF
  unfold substS
  by_cases h0 : ffS [t, u] = 0
  · rw [if_neg (by simpa using h0)]
    have ht0 := ff_zero h0 t (by simp)
    have hu0 := ff_zero h0 u (by simp)
    obtain ⟨hl, hp, e0, hW⟩ := right_of ht0
    obtain ⟨hlu, hpu, eu, hWu⟩ := right_of hu0
    rw [h0] at HFF
    by_cases h1 : at_ < 0
    · rw [if_pos h1]
      clear hn hs hA hu hsu hAu hL hat2 hb4 hz4 x1 x2 x3 hlit hok h0 ht0 hu0 hl hp hW hlu hpu hWu
      go_enter Tryd.func32, Tryd.ntmps32
      go_wp2_with fail
      rw [← hw4]
      clear hw4
      refine (HFF.out).mono ?_
      rintro e w5 ⟨rfl, hb5⟩
      have HB5 := Lib.hid (below_step HB4.out hb5)
      have c3 : w5.cell? ⟨w.heap.size + 1 + 1, 0, none⟩ = some (.int .i64 at_) := (HX3.out.below hb5 HX3.out.lt).cell 0
      clear hb5
      go_wp2_with fail
      go_ret2
      exact RowAns.none _ HB5.out
    · rw [if_neg h1]
      have HMK := Lib.hid (make_nodes n (by omega))
      have hmk := make_nodes n (by omega)
      have HOW := Lib.hid (make_own n (by omega))
      have HRO := Lib.hid (show ∀ w1, Below w.heap.size w w1 → _ from fun w1 hb => room_any Au nu cu u 0 (annOf u) eu w1 hu (by omega) (by omega) (hAu.below hb) (hL.next hb) hWu)
      have HCA := Lib.hid (show ∀ (g bm : Nat) (w8 : World) (v : Value) (hb : Below w.heap.size w w8) (hg : GrowAt w8 g [] v) (hgb : ∀ k, GrowF g v k → w.heap.size ≤ k ∧ k ≠ w.heap.size ∧ k ≠ w.heap.size + 1 + 1 ∧ k ≠ bm ∧ k ≠ w.heap.size + 1) (ct : w8.cell? ⟨w.heap.size, 0, none⟩ = some (.slice A n c)) (ca : w8.cell? ⟨w.heap.size + 1 + 1, 0, none⟩ = some (.int .i64 at_)) (cm : w8.cell? ⟨bm, 0, none⟩ = some (.int .i64 (roomN 0 (annOf u)))) (cu' : w8.cell? ⟨w.heap.size + 1, 0, none⟩ = some (.slice Au nu cu)), _ from
        fun g bm w8 v hb hg hgb ct ca cm cu' => subst_caught at_ (roomN 0 (annOf u)) (annOf t) (annOf u) A Au n c nu cu t u g w.heap.size (w.heap.size + 1 + 1) bm (w.heap.size + 1) w w8 v e0 eu hn (by omega) (by omega) hW hu (by omega) (by omega) hsu hWu (by omega) hat2 rfl hA hAu hL hb hg hgb ct ca cm cu')
      have HN := Lib.hid hn
      clear hn hs hA hu hsu hAu hL hat2 hb4 hz4 x1 x2 x3 hlit hok h0 ht0 hu0 hl hp hW hlu hpu hWu
      obtain ⟨rm, hrm⟩ : ∃ rm, roomN 0 (annOf u) = rm := ⟨_, rfl⟩
      obtain ⟨a, ha⟩ : ∃ a, annOf t = a := ⟨_, rfl⟩
      obtain ⟨b, hb⟩ : ∃ b, annOf u = b := ⟨_, rfl⟩
      rw [hrm] at HRO HCA ⊢
      rw [ha, hb] at HCA ⊢
      clear hrm ha hb
      obtain ⟨r, hr⟩ : ∃ r, (if (a.any fun x => decide (freeN x.1 x.2 = at_) && decide (rm < at_ + x.2)) = true then (([], 6) : List Node3 × Int) else if 4096 < (a.flatMap (subX at_ b)).length then ([], 9) else (a.flatMap (subX at_ b), 0)) = r := ⟨_, rfl⟩
      rw [hr]
      have HR := Lib.hid hr
      clear hr
      go_enter Tryd.func32, Tryd.ntmps32
      go_wp2_with fail
      rw [← hw4]
      clear hw4
      refine (HFF.out).mono ?_
      rintro e w5 ⟨rfl, hb5⟩
      have hb5' := below_step HB4.out hb5
      have HB5 := Lib.hid hb5'
      have hs5 := hb5.size
      have y1 := HX1.out.below hb5 HX1.out.lt
      have y2 := HX2.out.below hb5 HX2.out.lt
      have y3 := HX3.out.below hb5 HX3.out.lt
      have c1 : w5.cell? ⟨w.heap.size, 0, none⟩ = some (.slice A n c) := y1.cell 0
      have c2 : w5.cell? ⟨w.heap.size + 1, 0, none⟩ = some (.slice Au nu cu) := y2.cell 0
      have c3 : w5.cell? ⟨w.heap.size + 1 + 1, 0, none⟩ = some (.int .i64 at_) := y3.cell 0
      have HY1 := Lib.hid y1
      have HY2 := Lib.hid y2
      have HY3 := Lib.hid y3
      have HS5 : Hid (w.heap.size + 1 + 1 + 1 + 1 ≤ w5.heap.size) := Lib.hid (by rw [← HZ4.out]; exact hs5)
      have h56 : Below w5.heap.size w5 ((w5.alloc (.cells (mkNodes n) 53)).alloc (.cells #[.slice (some ⟨w5.heap.size, 0, none⟩) 0 n, .int .i64 0] 80)) := ((Below.refl _ _).alloc (Nat.le_refl _) _).alloc (by simp) _
      have hG6 : GrowAt ((w5.alloc (.cells (mkNodes n) 53)).alloc (.cells #[.slice (some ⟨w5.heap.size, 0, none⟩) 0 n, .int .i64 0] 80)) (w5.heap.size + 1) [] (.slice (some ⟨w5.heap.size, 0, none⟩) 0 n) := by
        refine ⟨?_, ⟨[], (HOW.out w5).alloc _, by simp, fun _ => rfl⟩, fun e => by have := Option.some.inj e; simp only at this; omega⟩
        have := Whole.new (w5.alloc (.cells (mkNodes n) 53)) #[.slice (some ⟨w5.heap.size, 0, none⟩) 0 n, .int .i64 0] 80
        rwa [World.size_alloc] at this
      have z2 := HY2.out.below h56 HY2.out.lt
      have d2 : ((w5.alloc (.cells (mkNodes n) 53)).alloc (.cells #[.slice (some ⟨w5.heap.size, 0, none⟩) 0 n, .int .i64 0] 80)).cell? ⟨w.heap.size + 1, 0, none⟩ = some (.slice Au nu cu) := z2.cell 0
      have HB6 := Lib.hid (below_step HB5.out h56)
      have HZ1 := Lib.hid (HY1.out.below h56 HY1.out.lt)
      have HZ2 := Lib.hid z2
      have HZ3 := Lib.hid (HY3.out.below h56 HY3.out.lt)
      have HG6 := Lib.hid hG6
      clear hb5 hb5' hs5 y1 y2 y3 h56 hG6 z2
      go_wp2_with fail
      refine (HRO.out _ HB6.out).mono ?_
      rintro e w7 ⟨rfl, hb7⟩
      have hr : Below w7.heap.size w7 (w7.alloc (.cells #[.int .i64 rm] 3)) := (Below.refl _ _).alloc (Nat.le_refl _) _
      have h78 := below_step hb7 hr
      have hs7 := hb7.size
      have hsz6 : ((w5.alloc (.cells (mkNodes n) 53)).alloc (.cells #[.slice (some ⟨w5.heap.size, 0, none⟩) 0 n, .int .i64 0] 80)).heap.size = w5.heap.size + 1 + 1 := by simp
      have hca := HCA.out (w5.heap.size + 1) w7.heap.size (w7.alloc (.cells #[.int .i64 rm] 3)) _ (below_step HB6.out h78) (HG6.out.below h78) (by
          have h5 := HS5.out
          rintro k (rfl | hk)
          · omega
          · have := Option.some.inj hk
            simp only at this
            omega) ((HZ1.out.below h78 HZ1.out.lt).cell 0) ((HZ3.out.below h78 HZ3.out.lt).cell 0) ((Whole.new w7 _ _).cell 0) ((HZ2.out.below h78 HZ2.out.lt).cell 0)
      have HC := Lib.hid hca
      clear hr h78 hs7 hsz6 hca hb7 d2 c1 c2 c3 HCA HRO
      go_wp2_with fail
      refine (HC.out).mono ?_
      rintro e w9 (⟨rfl, hany, hb9, v9, hg9, hk9⟩ | ⟨rfl, hany, hb9⟩)
      · have hl9 := grow_row _ _ _ _ hg9
        have HL9 := Lib.hid hl9
        have HG9 := Lib.hid hg9
        have HB9 := Lib.hid hb9
        have HK9 := Lib.hid hk9
        have HRA : Hid ((if 4096 < (a.flatMap (subX at_ b)).length then (([], 9) : List Node3 × Int) else (a.flatMap (subX at_ b), 0)) = r) := Lib.hid (by
          have := HR.out
          rwa [if_neg (by rw [hany]; simp)] at this)
        clear hl9 hg9 hb9 hk9 hany
        go_wp2_with fail
        refine (HL9.out).mono ?_
        rintro e w10 ⟨rfl, (⟨h6, rfl⟩ | ⟨h6, rfl⟩)⟩
        · have HRB : Hid ((([], 9) : List Node3 × Int) = r) := Lib.hid (by
            have := HRA.out
            rwa [if_pos h6] at this)
          clear h6
          go_wp2_with fail
          go_ret2
          rw [← HRB.out]
          exact RowAns.none _ HB9.out
        · have HRB : Hid ((a.flatMap (subX at_ b), (0 : Int)) = r) := Lib.hid (by
            have := HRA.out
            rwa [if_neg (by omega)] at this)
          obtain ⟨l, hl, -, hll⟩ := HG9.out.own
          obtain rfl := hll h6
          obtain ⟨A9, c9, rfl, -, hA9⟩ := own_slice hl
          have hb9 : OwnN w9 w.heap.size (.slice A9 (a.flatMap (subX at_ b)).length c9) (a.flatMap (subX at_ b)).length (a.flatMap (subX at_ b)) := by
            refine ⟨hl.1, hl.2.imp id ?_⟩
            rintro ⟨g, cap, cur, e, _, hr⟩
            cases e
            exact ⟨g, _, cur, rfl, HK9.out g (.inr rfl), hr⟩
          generalize hnl : (a.flatMap (subX at_ b)).length = nl at *
          have HNL := Lib.hid hnl
          have HO9 := Lib.hid hb9
          clear hnl hb9 hl h6 hll hA9
          go_wp2_with fail
          go_ret2
          rw [← HRB.out]
          exact RowAns.row HNL.out HO9.out HB9.out
      · have HRB : Hid ((([], 6) : List Node3 × Int) = r) := Lib.hid (by
          have := HR.out
          rwa [if_pos hany] at this)
        have HB9 := Lib.hid hb9
        clear hany hb9
        go_wp2_with fail
        go_ret2
        rw [← HRB.out]
        exact RowAns.none _ HB9.out
  · rw [if_pos h0]
    clear hn hs hA hu hsu hAu hL hat2 hb4 hz4 x1 x2 x3 hlit hok
    generalize ffS [t, u] = x at *
    have h1 : (x != 0) = true := by simpa using h0
    clear h0
    go_enter Tryd.func32, Tryd.ntmps32
    go_wp2_with fail
    rw [← hw4]
    clear hw4
    refine (HFF.out).mono ?_
    rintro e w5 ⟨rfl, hb5⟩
    have HB5 := Lib.hid (below_step HB4.out hb5)
    clear hb5
    go_wp2_with fail
    go_ret2
    exact RowAns.none _ HB5.out
end Go.Proofs.YtkkkblghihheeaaDoor
