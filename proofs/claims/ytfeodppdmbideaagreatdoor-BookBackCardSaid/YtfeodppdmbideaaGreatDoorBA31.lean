/- The way to the laws of books: BSame to BSame. -/
import Derived.Test.YtfeodppdmbideaaGreatDoorBA28
import Derived.Test.YtfeodppdmbideaaGreatDoorBA8
namespace Go.Proofs.YtfeodppdmbideaaGreatDoor
open Go.RowKit

/-- Asked whether both are the same, it says yes, now and later. -/
def SameYes (f : FuncId) (u v : Value) (w : World) : Prop := ∀ W, Below w.heap.size w W → Calls Tryz.prog f #[u, v] W (fun e W' => e = .returned (.bool true) ∧ Below W.heap.size W W')
set_option maxRecDepth 100000 in
set_option maxHeartbeats 8000000 in
theorem sameent_n (kd : Int) (sA pA iA cA tA bA sA' pA' iA' cA' tA' bA' : Option Addr) (sn pn jn cn tn bn sc pc ic cc tc bc sc' pc' ic' cc' tc' bc' : Nat) (w : World) (hcn : cn ≤ 1000000000)
    (HS : Hid (SameYes 21 (.slice sA sn sc) (.slice sA' sn sc') w)) (HP : Hid (SameYes 166 (.slice pA pn pc) (.slice pA' pn pc') w)) (HI : Hid (SameYes 166 (.slice iA jn ic) (.slice iA' jn ic') w)) (HT : Hid (SameYes 21 (.slice tA tn tc) (.slice tA' tn tc') w)) (HD : Hid (SameYes 21 (.slice bA bn bc) (.slice bA' bn bc') w))
    (HC : Hid (∀ k, k < cn → ∃ b o b' o' aA an ac uA un uc aA' ac' uA' uc', cA = some ⟨b, o, none⟩ ∧ cA' = some ⟨b', o', none⟩ ∧ b < w.heap.size ∧ b' < w.heap.size ∧
      w.cell? ⟨b, o + k * 2, none⟩ = some (.slice aA an ac) ∧ w.cell? ⟨b, o + k * 2 + 1, none⟩ = some (.slice uA un uc) ∧ w.cell? ⟨b', o' + k * 2, none⟩ = some (.slice aA' an ac') ∧ w.cell? ⟨b', o' + k * 2 + 1, none⟩ = some (.slice uA' un uc') ∧
      SameYes 166 (.slice aA an ac) (.slice aA' an ac') w ∧ SameYes 166 (.slice uA un uc) (.slice uA' un uc') w)) :
    Calls Tryz.prog 118 #[.agg #[.int .i64 kd, .slice sA sn sc, .slice pA pn pc, .slice iA jn ic, .slice cA cn cc, .slice tA tn tc, .slice bA bn bc], .agg #[.int .i64 kd, .slice sA' sn sc', .slice pA' pn pc', .slice iA' jn ic', .slice cA' cn cc', .slice tA' tn tc', .slice bA' bn bc']] w (fun e w' => e = .returned (.bool true) ∧ Below w.heap.size w w') := by
  have hb1 : Below w.heap.size w ((w.alloc (.cells #[.int .i64 kd, .slice sA sn sc, .slice pA pn pc, .slice iA jn ic, .slice cA cn cc, .slice tA tn tc, .slice bA bn bc] 60)).alloc (.cells #[.int .i64 kd, .slice sA' sn sc', .slice pA' pn pc', .slice iA' jn ic', .slice cA' cn cc', .slice tA' tn tc', .slice bA' bn bc'] 60)) := ((Below.refl _ _).alloc (Nat.le_refl _) _).alloc (by simp) _
  have x1 : Whole ((w.alloc (.cells #[.int .i64 kd, .slice sA sn sc, .slice pA pn pc, .slice iA jn ic, .slice cA cn cc, .slice tA tn tc, .slice bA bn bc] 60)).alloc (.cells #[.int .i64 kd, .slice sA' sn sc', .slice pA' pn pc', .slice iA' jn ic', .slice cA' cn cc', .slice tA' tn tc', .slice bA' bn bc'] 60)) w.heap.size #[.int .i64 kd, .slice sA sn sc, .slice pA pn pc, .slice iA jn ic, .slice cA cn cc, .slice tA tn tc, .slice bA bn bc] 60 := (Whole.new w _ _).below ((Below.refl _ _).alloc (Nat.le_refl _) _) (by simp)
  have x2 : Whole ((w.alloc (.cells #[.int .i64 kd, .slice sA sn sc, .slice pA pn pc, .slice iA jn ic, .slice cA cn cc, .slice tA tn tc, .slice bA bn bc] 60)).alloc (.cells #[.int .i64 kd, .slice sA' sn sc', .slice pA' pn pc', .slice iA' jn ic', .slice cA' cn cc', .slice tA' tn tc', .slice bA' bn bc'] 60)) (w.heap.size + 1) #[.int .i64 kd, .slice sA' sn sc', .slice pA' pn pc', .slice iA' jn ic', .slice cA' cn cc', .slice tA' tn tc', .slice bA' bn bc'] 60 := by
    have := Whole.new (w.alloc (.cells #[.int .i64 kd, .slice sA sn sc, .slice pA pn pc, .slice iA jn ic, .slice cA cn cc, .slice tA tn tc, .slice bA bn bc] 60)) #[.int .i64 kd, .slice sA' sn sc', .slice pA' pn pc', .slice iA' jn ic', .slice cA' cn cc', .slice tA' tn tc', .slice bA' bn bc'] 60
    rwa [World.size_alloc] at this
  obtain ⟨W1, hW1⟩ : ∃ W1, W1 = ((w.alloc (.cells #[.int .i64 kd, .slice sA sn sc, .slice pA pn pc, .slice iA jn ic, .slice cA cn cc, .slice tA tn tc, .slice bA bn bc] 60)).alloc (.cells #[.int .i64 kd, .slice sA' sn sc', .slice pA' pn pc', .slice iA' jn ic', .slice cA' cn cc', .slice tA' tn tc', .slice bA' bn bc'] 60)) := ⟨_, rfl⟩
  rw [← hW1] at hb1 x1 x2
  have KS := Lib.hid (show ∀ W, Below W1.heap.size W1 W → W.cell? ⟨w.heap.size, 0, none⟩ = some (.int .i64 kd) ∧ W.cell? ⟨w.heap.size, 1, none⟩ = some (.slice sA sn sc) ∧ W.cell? ⟨w.heap.size, 2, none⟩ = some (.slice pA pn pc) ∧ W.cell? ⟨w.heap.size, 3, none⟩ = some (.slice iA jn ic) ∧ W.cell? ⟨w.heap.size, 4, none⟩ = some (.slice cA cn cc) ∧ W.cell? ⟨w.heap.size, 5, none⟩ = some (.slice tA tn tc) ∧ W.cell? ⟨w.heap.size, 6, none⟩ = some (.slice bA bn bc) ∧ W.cell? ⟨w.heap.size + 1, 0, none⟩ = some (.int .i64 kd) ∧ W.cell? ⟨w.heap.size + 1, 1, none⟩ = some (.slice sA' sn sc') ∧ W.cell? ⟨w.heap.size + 1, 2, none⟩ = some (.slice pA' pn pc') ∧ W.cell? ⟨w.heap.size + 1, 3, none⟩ = some (.slice iA' jn ic') ∧ W.cell? ⟨w.heap.size + 1, 4, none⟩ = some (.slice cA' cn cc') ∧ W.cell? ⟨w.heap.size + 1, 5, none⟩ = some (.slice tA' tn tc') ∧ W.cell? ⟨w.heap.size + 1, 6, none⟩ = some (.slice bA' bn bc') from
    fun W g => ⟨(x1.below g x1.lt).cell 0, (x1.below g x1.lt).cell 1, (x1.below g x1.lt).cell 2, (x1.below g x1.lt).cell 3, (x1.below g x1.lt).cell 4, (x1.below g x1.lt).cell 5, (x1.below g x1.lt).cell 6, (x2.below g x2.lt).cell 0, (x2.below g x2.lt).cell 1, (x2.below g x2.lt).cell 2, (x2.below g x2.lt).cell 3, (x2.below g x2.lt).cell 4, (x2.below g x2.lt).cell 5, (x2.below g x2.lt).cell 6⟩)
  have HW1 := Lib.hid hW1
  have HB1_ := Lib.hid hb1
  have HB0 := Lib.hid (Below.refl W1.heap.size W1)
  obtain ⟨r_0, r_1, r_2, r_3, r_4, r_5, r_6, r_7, r_8, r_9, r_10, r_11, r_12, r_13⟩ := KS.out _ HB0.out
  have HUP := Lib.hid (show ∀ W, Below W1.heap.size W1 W → Below w.heap.size w W from fun W g => HB1_.out.trans (g.mono HB1_.out.size))
  clear hb1 x1 x2 hW1
  have QS := Lib.hid (fun W g => HS.out W (HUP.out W g))
  have QP := Lib.hid (fun W g => HP.out W (HUP.out W g))
  have QI := Lib.hid (fun W g => HI.out W (HUP.out W g))
  have QT := Lib.hid (fun W g => HT.out W (HUP.out W g))
  have QD := Lib.hid (fun W g => HD.out W (HUP.out W g))
  clear HS HP HI HT HD
  go_enter Tryz.func118, Tryz.ntmps118
  go_wp2_with fail
  rw [← HW1.out]
  refine (QS.out _ HB0.out).mono ?_
  rintro e w2 ⟨rfl, g⟩
  have HB1 := Lib.hid (HB0.out.trans (g.mono HB0.out.size))
  clear g
  obtain ⟨r0_0, r0_1, r0_2, r0_3, r0_4, r0_5, r0_6, r0_7, r0_8, r0_9, r0_10, r0_11, r0_12, r0_13⟩ := KS.out _ HB1.out
  go_wp2_with fail
  refine (QP.out _ HB1.out).mono ?_
  rintro e w3 ⟨rfl, g⟩
  have HB2 := Lib.hid (HB1.out.trans (g.mono HB1.out.size))
  clear g
  obtain ⟨r1_0, r1_1, r1_2, r1_3, r1_4, r1_5, r1_6, r1_7, r1_8, r1_9, r1_10, r1_11, r1_12, r1_13⟩ := KS.out _ HB2.out
  go_wp2_with fail
  refine (QI.out _ HB2.out).mono ?_
  rintro e w4 ⟨rfl, g⟩
  have HB3 := Lib.hid (HB2.out.trans (g.mono HB2.out.size))
  clear g
  obtain ⟨r2_0, r2_1, r2_2, r2_3, r2_4, r2_5, r2_6, r2_7, r2_8, r2_9, r2_10, r2_11, r2_12, r2_13⟩ := KS.out _ HB3.out
  go_wp2_with fail
  refine (QT.out _ HB3.out).mono ?_
  rintro e w5 ⟨rfl, g⟩
  have HB4 := Lib.hid (HB3.out.trans (g.mono HB3.out.size))
  clear g
  obtain ⟨r3_0, r3_1, r3_2, r3_3, r3_4, r3_5, r3_6, r3_7, r3_8, r3_9, r3_10, r3_11, r3_12, r3_13⟩ := KS.out _ HB4.out
  go_wp2_with fail
  refine (QD.out _ HB4.out).mono ?_
  rintro e w6 ⟨rfl, g⟩
  have HB5 := Lib.hid (HB4.out.trans (g.mono HB4.out.size))
  clear g
  obtain ⟨r4_0, r4_1, r4_2, r4_3, r4_4, r4_5, r4_6, r4_7, r4_8, r4_9, r4_10, r4_11, r4_12, r4_13⟩ := KS.out _ HB5.out
  go_wp2_with fail
  go_loopw [5] (fun i wr => ∃ k : Nat, i = .int .i64 (k : Int) ∧ k ≤ cn ∧ Hid (Below W1.heap.size W1 wr)) (fun i _ => cn - (intOf i).toNat)
  case atStart => exact ⟨0, rfl, Nat.zero_le _, HB5⟩
  case round =>
    obtain ⟨k, rfl, hk, HB⟩ := hrel
    obtain ⟨q_0, q_1, q_2, q_3, q_4, q_5, q_6, q_7, q_8, q_9, q_10, q_11, q_12, q_13⟩ := KS.out _ HB.out
    by_cases hlt : k < cn
    · obtain ⟨b, o, b', o', aA, an, ac, uA, un, uc, aA', ac', uA', uc', rfl, rfl, hl, hl', c0, c1, c2, c3, ya, yu⟩ := HC.out k hlt
      have YA := Lib.hid (fun W g => ya W (HUP.out W g))
      have YU := Lib.hid (fun W g => yu W (HUP.out W g))
      have HST := Lib.hid (show ∀ W, Below W1.heap.size W1 W → W.cell? ⟨w.heap.size, 4, none⟩ = some (.slice (some ⟨b, o, none⟩) cn cc) ∧ W.cell? ⟨w.heap.size + 1, 4, none⟩ = some (.slice (some ⟨b', o', none⟩) cn cc') ∧ W.cell? ⟨b, o + k * 2, none⟩ = some (.slice aA an ac) ∧ W.cell? ⟨b, o + k * 2 + 1, none⟩ = some (.slice uA un uc) ∧ W.cell? ⟨b', o' + k * 2, none⟩ = some (.slice aA' an ac') ∧ W.cell? ⟨b', o' + k * 2 + 1, none⟩ = some (.slice uA' un uc') from fun W g => by
        have k1 := KS.out W g
        have g' := HUP.out W g
        exact ⟨k1.2.2.2.2.1, k1.2.2.2.2.2.2.2.2.2.2.2.1, (g'.cell (p := ⟨b, o + k * 2, none⟩) hl).trans c0, (g'.cell (p := ⟨b, o + k * 2 + 1, none⟩) hl).trans c1, (g'.cell (p := ⟨b', o' + k * 2, none⟩) hl').trans c2, (g'.cell (p := ⟨b', o' + k * 2 + 1, none⟩) hl').trans c3⟩)
      have HR := Lib.hid (show Below W1.heap.size W1 wr.drew from HB.out.trans (below_drewN (Below.refl _ _) 1))
      clear c0 c1 c2 c3 ya yu hl hl'
      go_wp2_with fail
      refine region_begin_any (S := fun W => W.cell? ⟨w.heap.size, 4, none⟩ = some (.slice (some ⟨b, o, none⟩) cn cc) ∧ W.cell? ⟨w.heap.size + 1, 4, none⟩ = some (.slice (some ⟨b', o', none⟩) cn cc') ∧ W.cell? ⟨b, o + k * 2, none⟩ = some (.slice aA an ac) ∧ W.cell? ⟨b, o + k * 2 + 1, none⟩ = some (.slice uA un uc) ∧ W.cell? ⟨b', o' + k * 2, none⟩ = some (.slice aA' an ac') ∧ W.cell? ⟨b', o' + k * 2 + 1, none⟩ = some (.slice uA' un uc')) (by kernel_rfl) (HST.out _ HR.out) (fun W hW hHeld => ?_)
      subst hW
      refine region_take 0 ?_ rfl (by kernel_rfl) (by rfl) hHeld ?_ ?_
      rotate_left
      · intro w hSw
        (try dsimp only at hSw)
        go_simp
        try with_reducible rfl
      try simp only [Act.put, List.setIfInBounds_toArray, List.set_cons_zero, List.set_cons_succ]
      refine region_take 1 ?_ rfl (by kernel_rfl) (by rfl) hHeld ?_ ?_
      rotate_left
      · intro w hSw
        (try dsimp only at hSw)
        go_simp
        try with_reducible rfl
      try simp only [Act.put, List.setIfInBounds_toArray, List.set_cons_zero, List.set_cons_succ]
      refine region_take 2 ?_ rfl (by kernel_rfl) (by rfl) hHeld ?_ ?_
      rotate_left
      · intro w hSw
        (try dsimp only at hSw)
        go_simp
        try with_reducible rfl
      try simp only [Act.put, List.setIfInBounds_toArray, List.set_cons_zero, List.set_cons_succ]
      refine region_take 3 ?_ rfl (by kernel_rfl) (by rfl) hHeld ?_ ?_
      rotate_left
      · intro w hSw
        (try dsimp only at hSw)
        go_simp
        try with_reducible rfl
      try simp only [Act.put, List.setIfInBounds_toArray, List.set_cons_zero, List.set_cons_succ]
      refine region_take 4 ?_ rfl (by kernel_rfl) (by rfl) hHeld ?_ ?_
      rotate_left
      · intro w hSw
        (try dsimp only at hSw)
        go_simp
        try with_reducible rfl
      try simp only [Act.put, List.setIfInBounds_toArray, List.set_cons_zero, List.set_cons_succ]
      refine region_take 5 ?_ rfl (by kernel_rfl) (by rfl) hHeld ?_ ?_
      rotate_left
      · intro w hSw
        (try dsimp only at hSw)
        go_simp
        try with_reducible rfl
      try simp only [Act.put, List.setIfInBounds_toArray, List.set_cons_zero, List.set_cons_succ]
      refine region_take 6 ?_ rfl (by kernel_rfl) (by rfl) hHeld ?_ ?_
      rotate_left
      · intro w hSw
        (try dsimp only at hSw)
        go_simp
        try with_reducible rfl
      try simp only [Act.put, List.setIfInBounds_toArray, List.set_cons_zero, List.set_cons_succ]
      refine region_take 7 ?_ rfl (by kernel_rfl) (by rfl) hHeld ?_ ?_
      rotate_left
      · intro w hSw
        (try dsimp only at hSw)
        go_simp
        try with_reducible rfl
      try simp only [Act.put, List.setIfInBounds_toArray, List.set_cons_zero, List.set_cons_succ]
      refine region_take 8 ?_ rfl (by kernel_rfl) (by rfl) hHeld ?_ ?_
      rotate_left
      · intro w hSw
        (try dsimp only at hSw)
        go_simp
        try with_reducible rfl
      try simp only [Act.put, List.setIfInBounds_toArray, List.set_cons_zero, List.set_cons_succ]
      refine region_take 9 ?_ rfl (by kernel_rfl) (by rfl) hHeld ?_ ?_
      rotate_left
      · intro w hSw
        (try dsimp only at hSw)
        go_simp
        try with_reducible rfl
      try simp only [Act.put, List.setIfInBounds_toArray, List.set_cons_zero, List.set_cons_succ]
      refine region_take 10 ?_ rfl (by kernel_rfl) (by rfl) hHeld ?_ ?_
      rotate_left
      · intro w hSw
        (try dsimp only at hSw)
        go_simp
        try with_reducible rfl
      try simp only [Act.put, List.setIfInBounds_toArray, List.set_cons_zero, List.set_cons_succ]
      refine region_take 11 ?_ rfl (by kernel_rfl) (by rfl) hHeld ?_ ?_
      rotate_left
      · intro w hSw
        (try dsimp only at hSw)
        go_simp
        try with_reducible rfl
      try simp only [Act.put, List.setIfInBounds_toArray, List.set_cons_zero, List.set_cons_succ]
      refine region_call 12 rfl (by kernel_rfl) (by rfl) (fun K hK => ?_)
      go_simp
      refine (YA.out _ HR.out).mono ?_
      rintro e w8 ⟨rfl, g⟩
      have HR8 := Lib.hid (HR.out.trans (g.mono HR.out.size))
      clear g
      refine hK.out _ _ (HST.out _ HR8.out) (fun hHeld => ?_)
      clear hK K
      try simp only [Act.put, List.setIfInBounds_toArray, List.set_cons_zero, List.set_cons_succ]
      refine region_take 13 ?_ rfl (by kernel_rfl) (by rfl) hHeld ?_ ?_
      rotate_left
      · intro w hSw
        (try dsimp only at hSw)
        go_simp
        try with_reducible rfl
      try simp only [Act.put, List.setIfInBounds_toArray, List.set_cons_zero, List.set_cons_succ]
      refine region_take 14 ?_ rfl (by kernel_rfl) (by rfl) hHeld ?_ ?_
      rotate_left
      · intro w hSw
        (try dsimp only at hSw)
        go_simp
        try with_reducible rfl
      try simp only [Act.put, List.setIfInBounds_toArray, List.set_cons_zero, List.set_cons_succ]
      refine region_take 15 ?_ rfl (by kernel_rfl) (by rfl) hHeld ?_ ?_
      rotate_left
      · intro w hSw
        (try dsimp only at hSw)
        go_simp
        try with_reducible rfl
      try simp only [Act.put, List.setIfInBounds_toArray, List.set_cons_zero, List.set_cons_succ]
      refine region_take 16 ?_ rfl (by kernel_rfl) (by rfl) hHeld ?_ ?_
      rotate_left
      · intro w hSw
        (try dsimp only at hSw)
        go_simp
        try with_reducible rfl
      try simp only [Act.put, List.setIfInBounds_toArray, List.set_cons_zero, List.set_cons_succ]
      refine region_take 17 ?_ rfl (by kernel_rfl) (by rfl) hHeld ?_ ?_
      rotate_left
      · intro w hSw
        (try dsimp only at hSw)
        go_simp
        try with_reducible rfl
      try simp only [Act.put, List.setIfInBounds_toArray, List.set_cons_zero, List.set_cons_succ]
      refine region_take 18 ?_ rfl (by kernel_rfl) (by rfl) hHeld ?_ ?_
      rotate_left
      · intro w hSw
        (try dsimp only at hSw)
        go_simp
        try with_reducible rfl
      try simp only [Act.put, List.setIfInBounds_toArray, List.set_cons_zero, List.set_cons_succ]
      refine region_take 19 ?_ rfl (by kernel_rfl) (by rfl) hHeld ?_ ?_
      rotate_left
      · intro w hSw
        (try dsimp only at hSw)
        go_simp
        try with_reducible rfl
      try simp only [Act.put, List.setIfInBounds_toArray, List.set_cons_zero, List.set_cons_succ]
      refine region_take 20 ?_ rfl (by kernel_rfl) (by rfl) hHeld ?_ ?_
      rotate_left
      · intro w hSw
        (try dsimp only at hSw)
        go_simp
        try with_reducible rfl
      try simp only [Act.put, List.setIfInBounds_toArray, List.set_cons_zero, List.set_cons_succ]
      refine region_take 21 ?_ rfl (by kernel_rfl) (by rfl) hHeld ?_ ?_
      rotate_left
      · intro w hSw
        (try dsimp only at hSw)
        go_simp
        try with_reducible rfl
      try simp only [Act.put, List.setIfInBounds_toArray, List.set_cons_zero, List.set_cons_succ]
      refine region_take 22 ?_ rfl (by kernel_rfl) (by rfl) hHeld ?_ ?_
      rotate_left
      · intro w hSw
        (try dsimp only at hSw)
        go_simp
        try with_reducible rfl
      try simp only [Act.put, List.setIfInBounds_toArray, List.set_cons_zero, List.set_cons_succ]
      refine region_take 23 ?_ rfl (by kernel_rfl) (by rfl) hHeld ?_ ?_
      rotate_left
      · intro w hSw
        (try dsimp only at hSw)
        go_simp
        try with_reducible rfl
      try simp only [Act.put, List.setIfInBounds_toArray, List.set_cons_zero, List.set_cons_succ]
      refine region_take 24 ?_ rfl (by kernel_rfl) (by rfl) hHeld ?_ ?_
      rotate_left
      · intro w hSw
        (try dsimp only at hSw)
        go_simp
        try with_reducible rfl
      try simp only [Act.put, List.setIfInBounds_toArray, List.set_cons_zero, List.set_cons_succ]
      refine region_take 25 ?_ rfl (by kernel_rfl) (by rfl) hHeld ?_ ?_
      rotate_left
      · intro w hSw
        (try dsimp only at hSw)
        go_simp
        try with_reducible rfl
      try simp only [Act.put, List.setIfInBounds_toArray, List.set_cons_zero, List.set_cons_succ]
      refine region_take 26 ?_ rfl (by kernel_rfl) (by rfl) hHeld ?_ ?_
      rotate_left
      · intro w hSw
        (try dsimp only at hSw)
        go_simp
        try with_reducible rfl
      try simp only [Act.put, List.setIfInBounds_toArray, List.set_cons_zero, List.set_cons_succ]
      refine region_call 27 rfl (by kernel_rfl) (by rfl) (fun K hK => ?_)
      go_simp
      refine (YU.out _ HR8.out).mono ?_
      rintro e w9 ⟨rfl, g⟩
      have HR9 := Lib.hid (HR8.out.trans (g.mono HR8.out.size))
      clear g
      refine hK.out _ _ (HST.out _ HR9.out) (fun hHeld => ?_)
      clear hK K
      try simp only [Act.put, List.setIfInBounds_toArray, List.set_cons_zero, List.set_cons_succ]
      refine region_take 28 ?_ rfl (by kernel_rfl) (by rfl) hHeld ?_ ?_
      rotate_left
      · intro w hSw
        (try dsimp only at hSw)
        go_simp
        try with_reducible rfl
      try simp only [Act.put, List.setIfInBounds_toArray, List.set_cons_zero, List.set_cons_succ]
      refine region_take 29 ?_ rfl (by kernel_rfl) (by rfl) hHeld ?_ ?_
      rotate_left
      · intro w hSw
        (try dsimp only at hSw)
        go_simp
        try with_reducible rfl
      try simp only [Act.put, List.setIfInBounds_toArray, List.set_cons_zero, List.set_cons_succ]
      refine region_done (by kernel_rfl) ?_
      clear hHeld
      go_wp2_with fail
      go_roundw
      case rel => exact ⟨k + 1, by go_num, by omega, HR9⟩
      case measure => simp [intOf] <;> omega
    · go_wp2_with fail
      go_ret
      exact ⟨rfl, HUP.out _ HB.out⟩
set_option maxRecDepth 100000 in
set_option maxHeartbeats 8000000 in
theorem samebook_n (va nt : Int) (oA eA pA oA' eA' pA' : Option Addr) (on en pn oc ec pc oc' ec' pc' : Nat) (w : World) (hon : on ≤ 1000000000) (hen : en ≤ 1000000000) (hpn : pn ≤ 1000000000)
    (HO : Hid (∀ k, k < on → ∃ b o b' o' x y z, oA = some ⟨b, o, none⟩ ∧ oA' = some ⟨b', o', none⟩ ∧ b < w.heap.size ∧ b' < w.heap.size ∧ w.cell? ⟨b, o + k * 3, none⟩ = some (.int .i64 x) ∧ w.cell? ⟨b, o + k * 3 + 1, none⟩ = some (.int .i64 y) ∧ w.cell? ⟨b, o + k * 3 + 2, none⟩ = some (.int .i64 z) ∧ w.cell? ⟨b', o' + k * 3, none⟩ = some (.int .i64 x) ∧ w.cell? ⟨b', o' + k * 3 + 1, none⟩ = some (.int .i64 y) ∧ w.cell? ⟨b', o' + k * 3 + 2, none⟩ = some (.int .i64 z)))
    (HE : Hid (∀ k, k < en → ∃ b o b' o' kd sA sn sc aA an ac iA jn ic cA cn cc tA tn tc bA bn bc sA' sc' aA' ac' iA' ic' cA' cc' tA' tc' bA' bc', eA = some ⟨b, o, none⟩ ∧ eA' = some ⟨b', o', none⟩ ∧ b < w.heap.size ∧ b' < w.heap.size ∧ (w.cell? ⟨b, o + k * 7, none⟩ = some (.int .i64 kd) ∧ w.cell? ⟨b, o + k * 7 + 1, none⟩ = some (.slice sA sn sc) ∧ w.cell? ⟨b, o + k * 7 + 2, none⟩ = some (.slice aA an ac) ∧ w.cell? ⟨b, o + k * 7 + 3, none⟩ = some (.slice iA jn ic) ∧ w.cell? ⟨b, o + k * 7 + 4, none⟩ = some (.slice cA cn cc) ∧ w.cell? ⟨b, o + k * 7 + 5, none⟩ = some (.slice tA tn tc) ∧ w.cell? ⟨b, o + k * 7 + 6, none⟩ = some (.slice bA bn bc) ∧ w.cell? ⟨b', o' + k * 7, none⟩ = some (.int .i64 kd) ∧ w.cell? ⟨b', o' + k * 7 + 1, none⟩ = some (.slice sA' sn sc') ∧ w.cell? ⟨b', o' + k * 7 + 2, none⟩ = some (.slice aA' an ac') ∧ w.cell? ⟨b', o' + k * 7 + 3, none⟩ = some (.slice iA' jn ic') ∧ w.cell? ⟨b', o' + k * 7 + 4, none⟩ = some (.slice cA' cn cc') ∧ w.cell? ⟨b', o' + k * 7 + 5, none⟩ = some (.slice tA' tn tc') ∧ w.cell? ⟨b', o' + k * 7 + 6, none⟩ = some (.slice bA' bn bc')) ∧ SameYes 118 (.agg #[.int .i64 kd, .slice sA sn sc, .slice aA an ac, .slice iA jn ic, .slice cA cn cc, .slice tA tn tc, .slice bA bn bc]) (.agg #[.int .i64 kd, .slice sA' sn sc', .slice aA' an ac', .slice iA' jn ic', .slice cA' cn cc', .slice tA' tn tc', .slice bA' bn bc']) w))
    (HP : Hid (∀ k, k < pn → ∃ b o b' o' x y, pA = some ⟨b, o, none⟩ ∧ pA' = some ⟨b', o', none⟩ ∧ b < w.heap.size ∧ b' < w.heap.size ∧ w.cell? ⟨b, o + k * 2, none⟩ = some (.int .i64 x) ∧ w.cell? ⟨b, o + k * 2 + 1, none⟩ = some (.int .i64 y) ∧ w.cell? ⟨b', o' + k * 2, none⟩ = some (.int .i64 x) ∧ w.cell? ⟨b', o' + k * 2 + 1, none⟩ = some (.int .i64 y))) :
    Calls Tryz.prog 71 #[.agg #[.int .i64 va, .slice oA on oc, .slice eA en ec, .int .i64 nt, .slice pA pn pc], .agg #[.int .i64 va, .slice oA' on oc', .slice eA' en ec', .int .i64 nt, .slice pA' pn pc']] w (fun e w' => e = .returned (.bool true) ∧ Below w.heap.size w w') := by
  have hb1 : Below w.heap.size w ((w.alloc (.cells #[.int .i64 va, .slice oA on oc, .slice eA en ec, .int .i64 nt, .slice pA pn pc] 26)).alloc (.cells #[.int .i64 va, .slice oA' on oc', .slice eA' en ec', .int .i64 nt, .slice pA' pn pc'] 26)) := ((Below.refl _ _).alloc (Nat.le_refl _) _).alloc (by simp) _
  have x1 : Whole ((w.alloc (.cells #[.int .i64 va, .slice oA on oc, .slice eA en ec, .int .i64 nt, .slice pA pn pc] 26)).alloc (.cells #[.int .i64 va, .slice oA' on oc', .slice eA' en ec', .int .i64 nt, .slice pA' pn pc'] 26)) w.heap.size #[.int .i64 va, .slice oA on oc, .slice eA en ec, .int .i64 nt, .slice pA pn pc] 26 := (Whole.new w _ _).below ((Below.refl _ _).alloc (Nat.le_refl _) _) (by simp)
  have x2 : Whole ((w.alloc (.cells #[.int .i64 va, .slice oA on oc, .slice eA en ec, .int .i64 nt, .slice pA pn pc] 26)).alloc (.cells #[.int .i64 va, .slice oA' on oc', .slice eA' en ec', .int .i64 nt, .slice pA' pn pc'] 26)) (w.heap.size + 1) #[.int .i64 va, .slice oA' on oc', .slice eA' en ec', .int .i64 nt, .slice pA' pn pc'] 26 := by
    have := Whole.new (w.alloc (.cells #[.int .i64 va, .slice oA on oc, .slice eA en ec, .int .i64 nt, .slice pA pn pc] 26)) #[.int .i64 va, .slice oA' on oc', .slice eA' en ec', .int .i64 nt, .slice pA' pn pc'] 26
    rwa [World.size_alloc] at this
  obtain ⟨W1, hW1⟩ : ∃ W1, W1 = ((w.alloc (.cells #[.int .i64 va, .slice oA on oc, .slice eA en ec, .int .i64 nt, .slice pA pn pc] 26)).alloc (.cells #[.int .i64 va, .slice oA' on oc', .slice eA' en ec', .int .i64 nt, .slice pA' pn pc'] 26)) := ⟨_, rfl⟩
  rw [← hW1] at hb1 x1 x2
  have KS := Lib.hid (show ∀ W, Below W1.heap.size W1 W → W.cell? ⟨w.heap.size, 0, none⟩ = some (.int .i64 va) ∧ W.cell? ⟨w.heap.size, 1, none⟩ = some (.slice oA on oc) ∧ W.cell? ⟨w.heap.size, 2, none⟩ = some (.slice eA en ec) ∧ W.cell? ⟨w.heap.size, 3, none⟩ = some (.int .i64 nt) ∧ W.cell? ⟨w.heap.size, 4, none⟩ = some (.slice pA pn pc) ∧ W.cell? ⟨w.heap.size + 1, 0, none⟩ = some (.int .i64 va) ∧ W.cell? ⟨w.heap.size + 1, 1, none⟩ = some (.slice oA' on oc') ∧ W.cell? ⟨w.heap.size + 1, 2, none⟩ = some (.slice eA' en ec') ∧ W.cell? ⟨w.heap.size + 1, 3, none⟩ = some (.int .i64 nt) ∧ W.cell? ⟨w.heap.size + 1, 4, none⟩ = some (.slice pA' pn pc') from
    fun W g => ⟨(x1.below g x1.lt).cell 0, (x1.below g x1.lt).cell 1, (x1.below g x1.lt).cell 2, (x1.below g x1.lt).cell 3, (x1.below g x1.lt).cell 4, (x2.below g x2.lt).cell 0, (x2.below g x2.lt).cell 1, (x2.below g x2.lt).cell 2, (x2.below g x2.lt).cell 3, (x2.below g x2.lt).cell 4⟩)
  have HW1 := Lib.hid hW1
  have HB1_ := Lib.hid hb1
  have HB0 := Lib.hid (Below.refl W1.heap.size W1)
  obtain ⟨r_0, r_1, r_2, r_3, r_4, r_5, r_6, r_7, r_8, r_9⟩ := KS.out _ HB0.out
  have HUP := Lib.hid (show ∀ W, Below W1.heap.size W1 W → Below w.heap.size w W from fun W g => HB1_.out.trans (g.mono HB1_.out.size))
  clear hb1 x1 x2 hW1
  go_enter Tryz.func71, Tryz.ntmps71
  go_wp2_with fail
  rw [← HW1.out]
  go_wp2_with fail
  go_loopw [5] (fun i wr => ∃ k : Nat, i = .int .i64 (k : Int) ∧ k ≤ on ∧ Hid (Below W1.heap.size W1 wr)) (fun i _ => on - (intOf i).toNat)
  case atStart => exact ⟨0, rfl, Nat.zero_le _, HB0⟩
  case round =>
    obtain ⟨k, rfl, hk, HB⟩ := hrel
    obtain ⟨q_0, q_1, q_2, q_3, q_4, q_5, q_6, q_7, q_8, q_9⟩ := KS.out _ HB.out
    by_cases hlt : k < on
    · obtain ⟨b, o, b', o', x, y, z, rfl, rfl, hl, hl', c0, c1, c2, c3, c4, c5⟩ := HO.out k hlt
      have g' := HUP.out _ HB.out
      replace c0 := ((g'.cell (p := ⟨b, o + k * 3, none⟩) hl).trans c0)
      replace c1 := ((g'.cell (p := ⟨b, o + k * 3 + 1, none⟩) hl).trans c1)
      replace c2 := ((g'.cell (p := ⟨b, o + k * 3 + 2, none⟩) hl).trans c2)
      replace c3 := ((g'.cell (p := ⟨b', o' + k * 3, none⟩) hl').trans c3)
      replace c4 := ((g'.cell (p := ⟨b', o' + k * 3 + 1, none⟩) hl').trans c4)
      replace c5 := ((g'.cell (p := ⟨b', o' + k * 3 + 2, none⟩) hl').trans c5)
      clear g' hl hl'
      go_wp2_with fail
      go_region
      go_wp2_with fail
      go_roundw
      case rel => exact ⟨k + 1, by go_num, by omega, Lib.hid (HB.out.trans (below_drewN (Below.refl _ _) 1))⟩
      case measure => simp [intOf] <;> omega
    · have HBA := HB
      go_wp2_with fail
      obtain ⟨wo1, hwo1⟩ : ∃ wo1 : World, wo1 = wr := ⟨_, rfl⟩
      rw [← hwo1] at HBA ⊢
      clear hwo1 HB hlt hk
      go_loopw [6] (fun i wr => ∃ k : Nat, i = .int .i64 (k : Int) ∧ k ≤ en ∧ Hid (Below W1.heap.size W1 wr)) (fun i _ => en - (intOf i).toNat)
      case atStart => exact ⟨0, rfl, Nat.zero_le _, HBA⟩
      case round =>
        obtain ⟨k, rfl, hk, HB⟩ := hrel
        obtain ⟨q_0, q_1, q_2, q_3, q_4, q_5, q_6, q_7, q_8, q_9⟩ := KS.out _ HB.out
        by_cases hlt : k < en
        · obtain ⟨b, o, b', o', kd, sA, sn, sc, aA, an, ac, iA, jn, ic, cA, cn, cc, tA, tn, tc, bA, bn, bc, sA', sc', aA', ac', iA', ic', cA', cc', tA', tc', bA', bc', rfl, rfl, hl, hl', ⟨c0, c1, c2, c3, c4, c5, c6, c7, c8, c9, c10, c11, c12, c13⟩, ye⟩ := HE.out k hlt
          have YE := Lib.hid (fun W g => ye W (HUP.out W g))
          have HST := Lib.hid (show ∀ W, Below W1.heap.size W1 W → W.cell? ⟨w.heap.size, 2, none⟩ = some (.slice (some ⟨b, o, none⟩) en ec) ∧ W.cell? ⟨w.heap.size + 1, 2, none⟩ = some (.slice (some ⟨b', o', none⟩) en ec') ∧ W.cell? ⟨b, o + k * 7, none⟩ = some (.int .i64 kd) ∧ W.cell? ⟨b, o + k * 7 + 1, none⟩ = some (.slice sA sn sc) ∧ W.cell? ⟨b, o + k * 7 + 2, none⟩ = some (.slice aA an ac) ∧ W.cell? ⟨b, o + k * 7 + 3, none⟩ = some (.slice iA jn ic) ∧ W.cell? ⟨b, o + k * 7 + 4, none⟩ = some (.slice cA cn cc) ∧ W.cell? ⟨b, o + k * 7 + 5, none⟩ = some (.slice tA tn tc) ∧ W.cell? ⟨b, o + k * 7 + 6, none⟩ = some (.slice bA bn bc) ∧ W.cell? ⟨b', o' + k * 7, none⟩ = some (.int .i64 kd) ∧ W.cell? ⟨b', o' + k * 7 + 1, none⟩ = some (.slice sA' sn sc') ∧ W.cell? ⟨b', o' + k * 7 + 2, none⟩ = some (.slice aA' an ac') ∧ W.cell? ⟨b', o' + k * 7 + 3, none⟩ = some (.slice iA' jn ic') ∧ W.cell? ⟨b', o' + k * 7 + 4, none⟩ = some (.slice cA' cn cc') ∧ W.cell? ⟨b', o' + k * 7 + 5, none⟩ = some (.slice tA' tn tc') ∧ W.cell? ⟨b', o' + k * 7 + 6, none⟩ = some (.slice bA' bn bc') from fun W g => by
            have k1 := KS.out W g
            have g' := HUP.out W g
            exact ⟨k1.2.2.1, k1.2.2.2.2.2.2.2.1, (g'.cell (p := ⟨b, o + k * 7, none⟩) hl).trans c0, (g'.cell (p := ⟨b, o + k * 7 + 1, none⟩) hl).trans c1, (g'.cell (p := ⟨b, o + k * 7 + 2, none⟩) hl).trans c2, (g'.cell (p := ⟨b, o + k * 7 + 3, none⟩) hl).trans c3, (g'.cell (p := ⟨b, o + k * 7 + 4, none⟩) hl).trans c4, (g'.cell (p := ⟨b, o + k * 7 + 5, none⟩) hl).trans c5, (g'.cell (p := ⟨b, o + k * 7 + 6, none⟩) hl).trans c6, (g'.cell (p := ⟨b', o' + k * 7, none⟩) hl').trans c7, (g'.cell (p := ⟨b', o' + k * 7 + 1, none⟩) hl').trans c8, (g'.cell (p := ⟨b', o' + k * 7 + 2, none⟩) hl').trans c9, (g'.cell (p := ⟨b', o' + k * 7 + 3, none⟩) hl').trans c10, (g'.cell (p := ⟨b', o' + k * 7 + 4, none⟩) hl').trans c11, (g'.cell (p := ⟨b', o' + k * 7 + 5, none⟩) hl').trans c12, (g'.cell (p := ⟨b', o' + k * 7 + 6, none⟩) hl').trans c13⟩)
          have HR := Lib.hid (show Below W1.heap.size W1 wr.drew from HB.out.trans (below_drewN (Below.refl _ _) 1))
          clear c0 c1 c2 c3 c4 c5 c6 c7 c8 c9 c10 c11 c12 c13 ye hl hl'
          go_wp2_with fail
          refine region_begin_any (S := fun W => W.cell? ⟨w.heap.size, 2, none⟩ = some (.slice (some ⟨b, o, none⟩) en ec) ∧ W.cell? ⟨w.heap.size + 1, 2, none⟩ = some (.slice (some ⟨b', o', none⟩) en ec') ∧ W.cell? ⟨b, o + k * 7, none⟩ = some (.int .i64 kd) ∧ W.cell? ⟨b, o + k * 7 + 1, none⟩ = some (.slice sA sn sc) ∧ W.cell? ⟨b, o + k * 7 + 2, none⟩ = some (.slice aA an ac) ∧ W.cell? ⟨b, o + k * 7 + 3, none⟩ = some (.slice iA jn ic) ∧ W.cell? ⟨b, o + k * 7 + 4, none⟩ = some (.slice cA cn cc) ∧ W.cell? ⟨b, o + k * 7 + 5, none⟩ = some (.slice tA tn tc) ∧ W.cell? ⟨b, o + k * 7 + 6, none⟩ = some (.slice bA bn bc) ∧ W.cell? ⟨b', o' + k * 7, none⟩ = some (.int .i64 kd) ∧ W.cell? ⟨b', o' + k * 7 + 1, none⟩ = some (.slice sA' sn sc') ∧ W.cell? ⟨b', o' + k * 7 + 2, none⟩ = some (.slice aA' an ac') ∧ W.cell? ⟨b', o' + k * 7 + 3, none⟩ = some (.slice iA' jn ic') ∧ W.cell? ⟨b', o' + k * 7 + 4, none⟩ = some (.slice cA' cn cc') ∧ W.cell? ⟨b', o' + k * 7 + 5, none⟩ = some (.slice tA' tn tc') ∧ W.cell? ⟨b', o' + k * 7 + 6, none⟩ = some (.slice bA' bn bc')) (by kernel_rfl) (HST.out _ HR.out) (fun W hW hHeld => ?_)
          subst hW
          refine region_take 0 ?_ rfl (by kernel_rfl) (by rfl) hHeld ?_ ?_
          rotate_left
          · intro w hSw
            (try dsimp only at hSw)
            go_simp
            try with_reducible rfl
          try simp only [Act.put, List.setIfInBounds_toArray, List.set_cons_zero, List.set_cons_succ]
          refine region_take 1 ?_ rfl (by kernel_rfl) (by rfl) hHeld ?_ ?_
          rotate_left
          · intro w hSw
            (try dsimp only at hSw)
            go_simp
            try with_reducible rfl
          try simp only [Act.put, List.setIfInBounds_toArray, List.set_cons_zero, List.set_cons_succ]
          refine region_take 2 ?_ rfl (by kernel_rfl) (by rfl) hHeld ?_ ?_
          rotate_left
          · intro w hSw
            (try dsimp only at hSw)
            go_simp
            try with_reducible rfl
          try simp only [Act.put, List.setIfInBounds_toArray, List.set_cons_zero, List.set_cons_succ]
          refine region_take 3 ?_ rfl (by kernel_rfl) (by rfl) hHeld ?_ ?_
          rotate_left
          · intro w hSw
            (try dsimp only at hSw)
            go_simp
            try with_reducible rfl
          try simp only [Act.put, List.setIfInBounds_toArray, List.set_cons_zero, List.set_cons_succ]
          refine region_take 4 ?_ rfl (by kernel_rfl) (by rfl) hHeld ?_ ?_
          rotate_left
          · intro w hSw
            (try dsimp only at hSw)
            go_simp
            try with_reducible rfl
          try simp only [Act.put, List.setIfInBounds_toArray, List.set_cons_zero, List.set_cons_succ]
          refine region_take 5 ?_ rfl (by kernel_rfl) (by rfl) hHeld ?_ ?_
          rotate_left
          · intro w hSw
            (try dsimp only at hSw)
            go_simp
            try with_reducible rfl
          try simp only [Act.put, List.setIfInBounds_toArray, List.set_cons_zero, List.set_cons_succ]
          refine region_take 6 ?_ rfl (by kernel_rfl) (by rfl) hHeld ?_ ?_
          rotate_left
          · intro w hSw
            (try dsimp only at hSw)
            go_simp
            try with_reducible rfl
          try simp only [Act.put, List.setIfInBounds_toArray, List.set_cons_zero, List.set_cons_succ]
          refine region_take 7 ?_ rfl (by kernel_rfl) (by rfl) hHeld ?_ ?_
          rotate_left
          · intro w hSw
            (try dsimp only at hSw)
            go_simp
            try with_reducible rfl
          try simp only [Act.put, List.setIfInBounds_toArray, List.set_cons_zero, List.set_cons_succ]
          refine region_take 8 ?_ rfl (by kernel_rfl) (by rfl) hHeld ?_ ?_
          rotate_left
          · intro w hSw
            (try dsimp only at hSw)
            go_simp
            try with_reducible rfl
          try simp only [Act.put, List.setIfInBounds_toArray, List.set_cons_zero, List.set_cons_succ]
          refine region_take 9 ?_ rfl (by kernel_rfl) (by rfl) hHeld ?_ ?_
          rotate_left
          · intro w hSw
            (try dsimp only at hSw)
            go_simp
            try with_reducible rfl
          try simp only [Act.put, List.setIfInBounds_toArray, List.set_cons_zero, List.set_cons_succ]
          refine region_call 10 rfl (by kernel_rfl) (by rfl) (fun K hK => ?_)
          go_simp
          refine (YE.out _ HR.out).mono ?_
          rintro e w8 ⟨rfl, g⟩
          have HR8 := Lib.hid (HR.out.trans (g.mono HR.out.size))
          clear g
          refine hK.out _ _ (HST.out _ HR8.out) (fun hHeld => ?_)
          clear hK K
          try simp only [Act.put, List.setIfInBounds_toArray, List.set_cons_zero, List.set_cons_succ]
          refine region_take 11 ?_ rfl (by kernel_rfl) (by rfl) hHeld ?_ ?_
          rotate_left
          · intro w hSw
            (try dsimp only at hSw)
            go_simp
            try with_reducible rfl
          try simp only [Act.put, List.setIfInBounds_toArray, List.set_cons_zero, List.set_cons_succ]
          refine region_done (by kernel_rfl) ?_
          clear hHeld
          go_wp2_with fail
          go_roundw
          case rel => exact ⟨k + 1, by go_num, by omega, HR8⟩
          case measure => simp [intOf] <;> omega
        · have HB2 := HB
          go_wp2_with fail
          obtain ⟨wo2, hwo2⟩ : ∃ wo2 : World, wo2 = wr := ⟨_, rfl⟩
          rw [← hwo2] at HB2 ⊢
          clear hwo2 HB hlt hk
          go_loopw [7] (fun i wr => ∃ k : Nat, i = .int .i64 (k : Int) ∧ k ≤ pn ∧ Hid (Below W1.heap.size W1 wr)) (fun i _ => pn - (intOf i).toNat)
          case atStart => exact ⟨0, rfl, Nat.zero_le _, HB2⟩
          case round =>
            obtain ⟨k, rfl, hk, HB⟩ := hrel
            obtain ⟨q_0, q_1, q_2, q_3, q_4, q_5, q_6, q_7, q_8, q_9⟩ := KS.out _ HB.out
            by_cases hlt : k < pn
            · obtain ⟨b, o, b', o', x, y, rfl, rfl, hl, hl', c0, c1, c2, c3⟩ := HP.out k hlt
              have g' := HUP.out _ HB.out
              replace c0 := ((g'.cell (p := ⟨b, o + k * 2, none⟩) hl).trans c0)
              replace c1 := ((g'.cell (p := ⟨b, o + k * 2 + 1, none⟩) hl).trans c1)
              replace c2 := ((g'.cell (p := ⟨b', o' + k * 2, none⟩) hl').trans c2)
              replace c3 := ((g'.cell (p := ⟨b', o' + k * 2 + 1, none⟩) hl').trans c3)
              clear g' hl hl'
              go_wp2_with fail
              go_region
              go_wp2_with fail
              go_roundw
              case rel => exact ⟨k + 1, by go_num, by omega, Lib.hid (HB.out.trans (below_drewN (Below.refl _ _) 1))⟩
              case measure => simp [intOf] <;> omega
            · go_wp2_with fail
              go_ret
              exact ⟨rfl, HUP.out _ HB.out⟩
set_option maxRecDepth 100000 in
set_option maxHeartbeats 8000000 in
theorem sameprog_n (va nt : Int) (oA eA pA mA tA oA' eA' pA' mA' tA' : Option Addr) (on en pn mn tn oc ec pc mc tc oc' ec' pc' mc' tc' : Nat) (w : World)
    (HK : Hid (SameYes 71 (.agg #[.int .i64 va, .slice oA on oc, .slice eA en ec, .int .i64 nt, .slice pA pn pc]) (.agg #[.int .i64 va, .slice oA' on oc', .slice eA' en ec', .int .i64 nt, .slice pA' pn pc']) w)) (HM : Hid (SameYes 21 (.slice mA mn mc) (.slice mA' mn mc') w)) (HT : Hid (SameYes 21 (.slice tA tn tc) (.slice tA' tn tc') w)) :
    Calls Tryz.prog 29 #[.agg #[.int .i64 va, .slice oA on oc, .slice eA en ec, .int .i64 nt, .slice pA pn pc, .slice mA mn mc, .slice tA tn tc], .agg #[.int .i64 va, .slice oA' on oc', .slice eA' en ec', .int .i64 nt, .slice pA' pn pc', .slice mA' mn mc', .slice tA' tn tc']] w (fun e w' => e = .returned (.bool true) ∧ Below w.heap.size w w') := by
  have hb1 : Below w.heap.size w ((w.alloc (.cells #[.int .i64 va, .slice oA on oc, .slice eA en ec, .int .i64 nt, .slice pA pn pc, .slice mA mn mc, .slice tA tn tc] 46)).alloc (.cells #[.int .i64 va, .slice oA' on oc', .slice eA' en ec', .int .i64 nt, .slice pA' pn pc', .slice mA' mn mc', .slice tA' tn tc'] 46)) := ((Below.refl _ _).alloc (Nat.le_refl _) _).alloc (by simp) _
  have x1 : Whole ((w.alloc (.cells #[.int .i64 va, .slice oA on oc, .slice eA en ec, .int .i64 nt, .slice pA pn pc, .slice mA mn mc, .slice tA tn tc] 46)).alloc (.cells #[.int .i64 va, .slice oA' on oc', .slice eA' en ec', .int .i64 nt, .slice pA' pn pc', .slice mA' mn mc', .slice tA' tn tc'] 46)) w.heap.size #[.int .i64 va, .slice oA on oc, .slice eA en ec, .int .i64 nt, .slice pA pn pc, .slice mA mn mc, .slice tA tn tc] 46 := (Whole.new w _ _).below ((Below.refl _ _).alloc (Nat.le_refl _) _) (by simp)
  have x2 : Whole ((w.alloc (.cells #[.int .i64 va, .slice oA on oc, .slice eA en ec, .int .i64 nt, .slice pA pn pc, .slice mA mn mc, .slice tA tn tc] 46)).alloc (.cells #[.int .i64 va, .slice oA' on oc', .slice eA' en ec', .int .i64 nt, .slice pA' pn pc', .slice mA' mn mc', .slice tA' tn tc'] 46)) (w.heap.size + 1) #[.int .i64 va, .slice oA' on oc', .slice eA' en ec', .int .i64 nt, .slice pA' pn pc', .slice mA' mn mc', .slice tA' tn tc'] 46 := by
    have := Whole.new (w.alloc (.cells #[.int .i64 va, .slice oA on oc, .slice eA en ec, .int .i64 nt, .slice pA pn pc, .slice mA mn mc, .slice tA tn tc] 46)) #[.int .i64 va, .slice oA' on oc', .slice eA' en ec', .int .i64 nt, .slice pA' pn pc', .slice mA' mn mc', .slice tA' tn tc'] 46
    rwa [World.size_alloc] at this
  obtain ⟨W1, hW1⟩ : ∃ W1, W1 = ((w.alloc (.cells #[.int .i64 va, .slice oA on oc, .slice eA en ec, .int .i64 nt, .slice pA pn pc, .slice mA mn mc, .slice tA tn tc] 46)).alloc (.cells #[.int .i64 va, .slice oA' on oc', .slice eA' en ec', .int .i64 nt, .slice pA' pn pc', .slice mA' mn mc', .slice tA' tn tc'] 46)) := ⟨_, rfl⟩
  rw [← hW1] at hb1 x1 x2
  have KS := Lib.hid (show ∀ W, Below W1.heap.size W1 W → W.cell? ⟨w.heap.size, 0, none⟩ = some (.int .i64 va) ∧ W.cell? ⟨w.heap.size, 1, none⟩ = some (.slice oA on oc) ∧ W.cell? ⟨w.heap.size, 2, none⟩ = some (.slice eA en ec) ∧ W.cell? ⟨w.heap.size, 3, none⟩ = some (.int .i64 nt) ∧ W.cell? ⟨w.heap.size, 4, none⟩ = some (.slice pA pn pc) ∧ W.cell? ⟨w.heap.size, 5, none⟩ = some (.slice mA mn mc) ∧ W.cell? ⟨w.heap.size, 6, none⟩ = some (.slice tA tn tc) ∧ W.cell? ⟨w.heap.size + 1, 0, none⟩ = some (.int .i64 va) ∧ W.cell? ⟨w.heap.size + 1, 1, none⟩ = some (.slice oA' on oc') ∧ W.cell? ⟨w.heap.size + 1, 2, none⟩ = some (.slice eA' en ec') ∧ W.cell? ⟨w.heap.size + 1, 3, none⟩ = some (.int .i64 nt) ∧ W.cell? ⟨w.heap.size + 1, 4, none⟩ = some (.slice pA' pn pc') ∧ W.cell? ⟨w.heap.size + 1, 5, none⟩ = some (.slice mA' mn mc') ∧ W.cell? ⟨w.heap.size + 1, 6, none⟩ = some (.slice tA' tn tc') from
    fun W g => ⟨(x1.below g x1.lt).cell 0, (x1.below g x1.lt).cell 1, (x1.below g x1.lt).cell 2, (x1.below g x1.lt).cell 3, (x1.below g x1.lt).cell 4, (x1.below g x1.lt).cell 5, (x1.below g x1.lt).cell 6, (x2.below g x2.lt).cell 0, (x2.below g x2.lt).cell 1, (x2.below g x2.lt).cell 2, (x2.below g x2.lt).cell 3, (x2.below g x2.lt).cell 4, (x2.below g x2.lt).cell 5, (x2.below g x2.lt).cell 6⟩)
  have HW1 := Lib.hid hW1
  have HB1_ := Lib.hid hb1
  have HB0 := Lib.hid (Below.refl W1.heap.size W1)
  obtain ⟨r_0, r_1, r_2, r_3, r_4, r_5, r_6, r_7, r_8, r_9, r_10, r_11, r_12, r_13⟩ := KS.out _ HB0.out
  have HUP := Lib.hid (show ∀ W, Below W1.heap.size W1 W → Below w.heap.size w W from fun W g => HB1_.out.trans (g.mono HB1_.out.size))
  clear hb1 x1 x2 hW1
  have QK := Lib.hid (fun W g => HK.out W (HUP.out W g))
  have QM := Lib.hid (fun W g => HM.out W (HUP.out W g))
  have QT := Lib.hid (fun W g => HT.out W (HUP.out W g))
  clear HK HM HT
  go_enter Tryz.func29, Tryz.ntmps29
  go_wp2_with fail
  rw [← HW1.out]
  refine (QK.out _ HB0.out).mono ?_
  rintro e w2 ⟨rfl, g⟩
  have HB1 := Lib.hid (HB0.out.trans (g.mono HB0.out.size))
  clear g
  obtain ⟨r0_0, r0_1, r0_2, r0_3, r0_4, r0_5, r0_6, r0_7, r0_8, r0_9, r0_10, r0_11, r0_12, r0_13⟩ := KS.out _ HB1.out
  go_wp2_with fail
  refine (QM.out _ HB1.out).mono ?_
  rintro e w3 ⟨rfl, g⟩
  have HB2 := Lib.hid (HB1.out.trans (g.mono HB1.out.size))
  clear g
  obtain ⟨r1_0, r1_1, r1_2, r1_3, r1_4, r1_5, r1_6, r1_7, r1_8, r1_9, r1_10, r1_11, r1_12, r1_13⟩ := KS.out _ HB2.out
  go_wp2_with fail
  refine (QT.out _ HB2.out).mono ?_
  rintro e w4 ⟨rfl, g⟩
  have HB3 := Lib.hid (HB2.out.trans (g.mono HB2.out.size))
  clear g
  obtain ⟨r2_0, r2_1, r2_2, r2_3, r2_4, r2_5, r2_6, r2_7, r2_8, r2_9, r2_10, r2_11, r2_12, r2_13⟩ := KS.out _ HB3.out
  go_wp2_with fail
  go_ret
  exact ⟨rfl, HUP.out _ HB3.out⟩
end Go.Proofs.YtfeodppdmbideaaGreatDoor
