/- The document's answer: count. -/
import Derived.Test.YtkkkblghihheeaaDoorTCount
import Derived.Test.YtkkkblghihheeaaDoorTRegion
namespace Go.Proofs.YtkkkblghihheeaaDoor
open Go.RowKit

theorem within_yes (n low high : Int) (w : World) (h : low ≤ n ∧ n ≤ high) : Calls Tryd.prog 73 #[.int .i64 n, .int .i64 low, .int .i64 high] w fun e w' => e = .returned (.bool true) ∧ w = w' := by
  have := within_any n low high w
  rwa [decide_eq_true h] at this
theorem within_no (n low high : Int) (w : World) (h : ¬ (low ≤ n ∧ n ≤ high)) : Calls Tryd.prog 73 #[.int .i64 n, .int .i64 low, .int .i64 high] w fun e w' => e = .returned (.bool false) ∧ w = w' := by
  have := within_any n low high w
  rwa [decide_eq_false h] at this
def CountPost (n : Node3) (w : World) (e : Ending) (w' : World) : Prop := ∃ k : Int, e = .returned (.tuple #[.int .i64 k, .bool (topB n)]) ∧ (topB n = true → k = kidsN n) ∧ Below w.heap.size w w'
theorem CountPost.no {n : Node3} {w w' : World} {k : Int} (h : topB n = false) (hb : Below w.heap.size w w') : CountPost n w (.returned (.tuple #[.int .i64 k, .bool false])) w' := ⟨k, by rw [h], fun h' => (by rw [h] at h'; cases h'), hb⟩
theorem CountPost.yes {n : Node3} {w w' : World} {k : Int} (h : topB n = true) (hk : k = kidsN n) (hb : Below w.heap.size w w') : CountPost n w (.returned (.tuple #[.int .i64 k, .bool true])) w' := ⟨k, by rw [h], fun _ => hk, hb⟩
theorem top_no {n : Node3} (h : ¬ holdsN n) : topB n = false := by unfold topB; rw [decide_eq_false h]; rfl
theorem top_yes {n : Node3} (h : holdsN n) (h3 : n.1 ≠ 3) (h13 : n.1 ≠ 13) : topB n = true := by unfold topB; rw [decide_eq_true h, decide_eq_false h3, decide_eq_false h13]; rfl
set_option maxHeartbeats 4000000 in
set_option maxRecDepth 100000 in
theorem count_1 (A B : Int) (w : World) (hwA : I64 A) (hwB : I64 B) : Calls Tryd.prog 72 #[nodeA (1, A, B)] w (CountPost (1, A, B) w) := by
  have HB := Lib.hid (show Below w.heap.size w (w.alloc (.cells #[.int .i64 1, .int .i64 A, .int .i64 B] 53)) from (Below.refl _ _).alloc (Nat.le_refl _) _)
  have hc := holds_at w #[.int .i64 1, .int .i64 A, .int .i64 B] 53 _ rfl
  have c1 := hc.cell (j := 1) rfl
  have c2 := hc.cell (j := 2) rfl
  rw [Nat.zero_add] at c1 c2
  have HC := Lib.hid (show (w.alloc (.cells #[.int .i64 1, .int .i64 A, .int .i64 B] 53)).drew.cell? ⟨w.heap.size, 1, none⟩ = some (.int .i64 A) ∧ (w.alloc (.cells #[.int .i64 1, .int .i64 A, .int .i64 B] 53)).drew.cell? ⟨w.heap.size, 2, none⟩ = some (.int .i64 B) from ⟨c1, c2⟩)
  clear hc c1 c2
  obtain ⟨hA1, hA2⟩ := hwA
  obtain ⟨hB1, hB2⟩ := hwB
  have HY : Hid ((0 ≤ A ∧ A ≤ 1048576) ∧ (B = 0) → topB (1, A, B) = true ∧ (0 : Int) = (kidsN (1, A, B) : Int)) := Lib.hid fun h =>
    ⟨top_yes (by simp [holdsN]; omega) (by simp) (by simp), by simp [kidsN]; try omega⟩
  have HN : Hid (¬ ((0 ≤ A ∧ A ≤ 1048576) ∧ (B = 0)) → topB (1, A, B) = false) := Lib.hid fun h => top_no (by simp [holdsN]; omega)
  by_cases zA : A = 0
  · subst zA
    by_cases zB : B = 0
    · subst zB
      have HR := Lib.hid (HY.out (by omega))
      clear HY HN
      go_enter Tryd.func72, Tryd.ntmps72
      go_wp2_with fail
      refine region_begin (S := fun W => W.cell? ⟨w.heap.size, 1, none⟩ = some (.int .i64 0) ∧ W.cell? ⟨w.heap.size, 2, none⟩ = some (.int .i64 0)) (by kernel_rfl) (HC.out) (fun hHeld => ?_)
      refine region_take 0 ?_ rfl (by kernel_rfl) (by rfl) hHeld ?_ ?_
      rotate_left
      · intro w hSw
        (try dsimp only at hSw)
        go_simp
        try with_reducible rfl
      try simp only [Act.put, List.setIfInBounds_toArray, List.set_cons_zero, List.set_cons_succ]
      refine region_take 1 ?_ rfl (by kernel_rfl) (by rfl) hHeld ?_ ?_
      rotate_left
      · intro w hSw
        (try dsimp only at hSw)
        go_simp
        try with_reducible rfl
      try simp only [Act.put, List.setIfInBounds_toArray, List.set_cons_zero, List.set_cons_succ]
      refine region_call 2 rfl (by kernel_rfl) (by rfl) (fun K hK => ?_)
      go_simp
      refine (within_yes _ _ _ _ (by omega)).mono ?_
      rintro e w1 ⟨rfl, rfl⟩
      (try dsimp only)
      refine hK.out _ _ (HC.out) (fun hHeld => ?_)
      clear hK K
      try simp only [Act.put, List.setIfInBounds_toArray, List.set_cons_zero, List.set_cons_succ]
      refine region_take 3 ?_ rfl (by kernel_rfl) (by rfl) hHeld ?_ ?_
      rotate_left
      · intro w hSw
        (try dsimp only at hSw)
        go_simp
        try with_reducible rfl
      try simp only [Act.put, List.setIfInBounds_toArray, List.set_cons_zero, List.set_cons_succ]
      refine region_take 4 ?_ rfl (by kernel_rfl) (by rfl) hHeld ?_ ?_
      rotate_left
      · intro w hSw
        (try dsimp only at hSw)
        go_simp
        try with_reducible rfl
      try simp only [Act.put, List.setIfInBounds_toArray, List.set_cons_zero, List.set_cons_succ]
      refine region_take 5 ?_ rfl (by kernel_rfl) (by rfl) hHeld ?_ ?_
      rotate_left
      · intro w hSw
        (try dsimp only at hSw)
        go_simp
        try with_reducible rfl
      try simp only [Act.put, List.setIfInBounds_toArray, List.set_cons_zero, List.set_cons_succ]
      refine region_take 6 ?_ rfl (by kernel_rfl) (by rfl) hHeld ?_ ?_
      rotate_left
      · intro w hSw
        (try dsimp only at hSw)
        go_simp
        try with_reducible rfl
      try simp only [Act.put, List.setIfInBounds_toArray, List.set_cons_zero, List.set_cons_succ]
      refine region_take 7 ?_ rfl (by kernel_rfl) (by rfl) hHeld ?_ ?_
      rotate_left
      · intro w hSw
        (try dsimp only at hSw)
        go_simp
        try with_reducible rfl
      try simp only [Act.put, List.setIfInBounds_toArray, List.set_cons_zero, List.set_cons_succ]
      refine region_take 8 ?_ rfl (by kernel_rfl) (by rfl) hHeld ?_ ?_
      rotate_left
      · intro w hSw
        (try dsimp only at hSw)
        go_simp
        try with_reducible rfl
      try simp only [Act.put, List.setIfInBounds_toArray, List.set_cons_zero, List.set_cons_succ]
      refine region_take 9 ?_ rfl (by kernel_rfl) (by rfl) hHeld ?_ ?_
      rotate_left
      · intro w hSw
        (try dsimp only at hSw)
        go_simp
        try with_reducible rfl
      try simp only [Act.put, List.setIfInBounds_toArray, List.set_cons_zero, List.set_cons_succ]
      refine region_done (by kernel_rfl) ?_
      go_wp2_with fail
      go_ret2
      exact CountPost.yes HR.out.1 HR.out.2 (HB.out.trans (below_drewN (Below.refl _ _) 1))
    · have eB : (B == 0) = false := by simpa using zB
      have HR := Lib.hid (HN.out (by omega))
      clear HY HN
      go_enter Tryd.func72, Tryd.ntmps72
      go_wp2_with fail
      refine region_begin (S := fun W => W.cell? ⟨w.heap.size, 1, none⟩ = some (.int .i64 0) ∧ W.cell? ⟨w.heap.size, 2, none⟩ = some (.int .i64 B)) (by kernel_rfl) (HC.out) (fun hHeld => ?_)
      refine region_take 0 ?_ rfl (by kernel_rfl) (by rfl) hHeld ?_ ?_
      rotate_left
      · intro w hSw
        (try dsimp only at hSw)
        go_simp
        try with_reducible rfl
      try simp only [Act.put, List.setIfInBounds_toArray, List.set_cons_zero, List.set_cons_succ]
      refine region_take 1 ?_ rfl (by kernel_rfl) (by rfl) hHeld ?_ ?_
      rotate_left
      · intro w hSw
        (try dsimp only at hSw)
        go_simp
        try with_reducible rfl
      try simp only [Act.put, List.setIfInBounds_toArray, List.set_cons_zero, List.set_cons_succ]
      refine region_call 2 rfl (by kernel_rfl) (by rfl) (fun K hK => ?_)
      go_simp
      refine (within_yes _ _ _ _ (by omega)).mono ?_
      rintro e w1 ⟨rfl, rfl⟩
      (try dsimp only)
      refine hK.out _ _ (HC.out) (fun hHeld => ?_)
      clear hK K
      try simp only [Act.put, List.setIfInBounds_toArray, List.set_cons_zero, List.set_cons_succ]
      refine region_take 3 ?_ rfl (by kernel_rfl) (by rfl) hHeld ?_ ?_
      rotate_left
      · intro w hSw
        (try dsimp only at hSw)
        go_simp
        try with_reducible rfl
      try simp only [Act.put, List.setIfInBounds_toArray, List.set_cons_zero, List.set_cons_succ]
      refine region_take 4 ?_ rfl (by kernel_rfl) (by rfl) hHeld ?_ ?_
      rotate_left
      · intro w hSw
        (try dsimp only at hSw)
        go_simp
        try with_reducible rfl
      try simp only [Act.put, List.setIfInBounds_toArray, List.set_cons_zero, List.set_cons_succ]
      refine region_take 5 ?_ rfl (by kernel_rfl) (by rfl) hHeld ?_ ?_
      rotate_left
      · intro w hSw
        (try dsimp only at hSw)
        go_simp
        try with_reducible rfl
      try simp only [Act.put, List.setIfInBounds_toArray, List.set_cons_zero, List.set_cons_succ]
      refine region_take 6 ?_ rfl (by kernel_rfl) (by rfl) hHeld ?_ ?_
      rotate_left
      · intro w hSw
        (try dsimp only at hSw)
        go_simp
        try with_reducible rfl
      try simp only [Act.put, List.setIfInBounds_toArray, List.set_cons_zero, List.set_cons_succ]
      refine region_take 7 ?_ rfl (by kernel_rfl) (by rfl) hHeld ?_ ?_
      rotate_left
      · intro w hSw
        (try dsimp only at hSw)
        go_simp
        try with_reducible rfl
      try simp only [Act.put, List.setIfInBounds_toArray, List.set_cons_zero, List.set_cons_succ]
      refine region_take 8 ?_ rfl (by kernel_rfl) (by rfl) hHeld ?_ ?_
      rotate_left
      · intro w hSw
        (try dsimp only at hSw)
        go_simp
        try with_reducible rfl
      try simp only [Act.put, List.setIfInBounds_toArray, List.set_cons_zero, List.set_cons_succ]
      refine region_take 9 ?_ rfl (by kernel_rfl) (by rfl) hHeld ?_ ?_
      rotate_left
      · intro w hSw
        (try dsimp only at hSw)
        go_simp
        try with_reducible rfl
      try simp only [Act.put, List.setIfInBounds_toArray, List.set_cons_zero, List.set_cons_succ]
      refine region_done (by kernel_rfl) ?_
      go_wp2_with fail
      go_ret2
      exact CountPost.no HR.out (HB.out.trans (below_drewN (Below.refl _ _) 1))
  · have eA : (A == 0) = false := by simpa using zA
    by_cases zB : B = 0
    · subst zB
      by_cases ha : 0 ≤ A ∧ A ≤ 1048576
      · obtain ⟨ha1, ha2⟩ := ha
        have HR := Lib.hid (HY.out (by omega))
        clear HY HN
        go_enter Tryd.func72, Tryd.ntmps72
        go_wp2_with fail
        refine region_begin (S := fun W => W.cell? ⟨w.heap.size, 1, none⟩ = some (.int .i64 A) ∧ W.cell? ⟨w.heap.size, 2, none⟩ = some (.int .i64 0)) (by kernel_rfl) (HC.out) (fun hHeld => ?_)
        refine region_take 0 ?_ rfl (by kernel_rfl) (by rfl) hHeld ?_ ?_
        rotate_left
        · intro w hSw
          (try dsimp only at hSw)
          go_simp
          try with_reducible rfl
        try simp only [Act.put, List.setIfInBounds_toArray, List.set_cons_zero, List.set_cons_succ]
        refine region_take 1 ?_ rfl (by kernel_rfl) (by rfl) hHeld ?_ ?_
        rotate_left
        · intro w hSw
          (try dsimp only at hSw)
          go_simp
          try with_reducible rfl
        try simp only [Act.put, List.setIfInBounds_toArray, List.set_cons_zero, List.set_cons_succ]
        refine region_call 2 rfl (by kernel_rfl) (by rfl) (fun K hK => ?_)
        go_simp
        refine (within_yes _ _ _ _ (by omega)).mono ?_
        rintro e w1 ⟨rfl, rfl⟩
        (try dsimp only)
        refine hK.out _ _ (HC.out) (fun hHeld => ?_)
        clear hK K
        try simp only [Act.put, List.setIfInBounds_toArray, List.set_cons_zero, List.set_cons_succ]
        refine region_take 3 ?_ rfl (by kernel_rfl) (by rfl) hHeld ?_ ?_
        rotate_left
        · intro w hSw
          (try dsimp only at hSw)
          go_simp
          try with_reducible rfl
        try simp only [Act.put, List.setIfInBounds_toArray, List.set_cons_zero, List.set_cons_succ]
        refine region_take 4 ?_ rfl (by kernel_rfl) (by rfl) hHeld ?_ ?_
        rotate_left
        · intro w hSw
          (try dsimp only at hSw)
          go_simp
          try with_reducible rfl
        try simp only [Act.put, List.setIfInBounds_toArray, List.set_cons_zero, List.set_cons_succ]
        refine region_take 5 ?_ rfl (by kernel_rfl) (by rfl) hHeld ?_ ?_
        rotate_left
        · intro w hSw
          (try dsimp only at hSw)
          go_simp
          try with_reducible rfl
        try simp only [Act.put, List.setIfInBounds_toArray, List.set_cons_zero, List.set_cons_succ]
        refine region_take 6 ?_ rfl (by kernel_rfl) (by rfl) hHeld ?_ ?_
        rotate_left
        · intro w hSw
          (try dsimp only at hSw)
          go_simp
          try with_reducible rfl
        try simp only [Act.put, List.setIfInBounds_toArray, List.set_cons_zero, List.set_cons_succ]
        refine region_take 7 ?_ rfl (by kernel_rfl) (by rfl) hHeld ?_ ?_
        rotate_left
        · intro w hSw
          (try dsimp only at hSw)
          go_simp
          try with_reducible rfl
        try simp only [Act.put, List.setIfInBounds_toArray, List.set_cons_zero, List.set_cons_succ]
        refine region_take 8 ?_ rfl (by kernel_rfl) (by rfl) hHeld ?_ ?_
        rotate_left
        · intro w hSw
          (try dsimp only at hSw)
          go_simp
          try with_reducible rfl
        try simp only [Act.put, List.setIfInBounds_toArray, List.set_cons_zero, List.set_cons_succ]
        refine region_take 9 ?_ rfl (by kernel_rfl) (by rfl) hHeld ?_ ?_
        rotate_left
        · intro w hSw
          (try dsimp only at hSw)
          go_simp
          try with_reducible rfl
        try simp only [Act.put, List.setIfInBounds_toArray, List.set_cons_zero, List.set_cons_succ]
        refine region_done (by kernel_rfl) ?_
        go_wp2_with fail
        go_ret2
        exact CountPost.yes HR.out.1 HR.out.2 (HB.out.trans (below_drewN (Below.refl _ _) 1))
      · have HR := Lib.hid (HN.out (by omega))
        clear HY HN
        go_enter Tryd.func72, Tryd.ntmps72
        go_wp2_with fail
        refine region_begin (S := fun W => W.cell? ⟨w.heap.size, 1, none⟩ = some (.int .i64 A) ∧ W.cell? ⟨w.heap.size, 2, none⟩ = some (.int .i64 0)) (by kernel_rfl) (HC.out) (fun hHeld => ?_)
        refine region_take 0 ?_ rfl (by kernel_rfl) (by rfl) hHeld ?_ ?_
        rotate_left
        · intro w hSw
          (try dsimp only at hSw)
          go_simp
          try with_reducible rfl
        try simp only [Act.put, List.setIfInBounds_toArray, List.set_cons_zero, List.set_cons_succ]
        refine region_take 1 ?_ rfl (by kernel_rfl) (by rfl) hHeld ?_ ?_
        rotate_left
        · intro w hSw
          (try dsimp only at hSw)
          go_simp
          try with_reducible rfl
        try simp only [Act.put, List.setIfInBounds_toArray, List.set_cons_zero, List.set_cons_succ]
        refine region_call 2 rfl (by kernel_rfl) (by rfl) (fun K hK => ?_)
        go_simp
        refine (within_no _ _ _ _ (by omega)).mono ?_
        rintro e w1 ⟨rfl, rfl⟩
        (try dsimp only)
        refine hK.out _ _ (HC.out) (fun hHeld => ?_)
        clear hK K
        try simp only [Act.put, List.setIfInBounds_toArray, List.set_cons_zero, List.set_cons_succ]
        refine region_take 3 ?_ rfl (by kernel_rfl) (by rfl) hHeld ?_ ?_
        rotate_left
        · intro w hSw
          (try dsimp only at hSw)
          go_simp
          try with_reducible rfl
        try simp only [Act.put, List.setIfInBounds_toArray, List.set_cons_zero, List.set_cons_succ]
        refine region_skip 4 rfl (by kernel_rfl) (by rfl) hHeld ?_
        try simp only [Act.put, List.setIfInBounds_toArray, List.set_cons_zero, List.set_cons_succ]
        refine region_skip 5 rfl (by kernel_rfl) (by rfl) hHeld ?_
        try simp only [Act.put, List.setIfInBounds_toArray, List.set_cons_zero, List.set_cons_succ]
        refine region_skip 6 rfl (by kernel_rfl) (by rfl) hHeld ?_
        try simp only [Act.put, List.setIfInBounds_toArray, List.set_cons_zero, List.set_cons_succ]
        refine region_take 7 ?_ rfl (by kernel_rfl) (by rfl) hHeld ?_ ?_
        rotate_left
        · intro w hSw
          (try dsimp only at hSw)
          go_simp
          try with_reducible rfl
        try simp only [Act.put, List.setIfInBounds_toArray, List.set_cons_zero, List.set_cons_succ]
        refine region_take 8 ?_ rfl (by kernel_rfl) (by rfl) hHeld ?_ ?_
        rotate_left
        · intro w hSw
          (try dsimp only at hSw)
          go_simp
          try with_reducible rfl
        try simp only [Act.put, List.setIfInBounds_toArray, List.set_cons_zero, List.set_cons_succ]
        refine region_take 9 ?_ rfl (by kernel_rfl) (by rfl) hHeld ?_ ?_
        rotate_left
        · intro w hSw
          (try dsimp only at hSw)
          go_simp
          try with_reducible rfl
        try simp only [Act.put, List.setIfInBounds_toArray, List.set_cons_zero, List.set_cons_succ]
        refine region_done (by kernel_rfl) ?_
        go_wp2_with fail
        go_ret2
        exact CountPost.no HR.out (HB.out.trans (below_drewN (Below.refl _ _) 1))
    · have eB : (B == 0) = false := by simpa using zB
      by_cases ha : 0 ≤ A ∧ A ≤ 1048576
      · obtain ⟨ha1, ha2⟩ := ha
        have HR := Lib.hid (HN.out (by omega))
        clear HY HN
        go_enter Tryd.func72, Tryd.ntmps72
        go_wp2_with fail
        refine region_begin (S := fun W => W.cell? ⟨w.heap.size, 1, none⟩ = some (.int .i64 A) ∧ W.cell? ⟨w.heap.size, 2, none⟩ = some (.int .i64 B)) (by kernel_rfl) (HC.out) (fun hHeld => ?_)
        refine region_take 0 ?_ rfl (by kernel_rfl) (by rfl) hHeld ?_ ?_
        rotate_left
        · intro w hSw
          (try dsimp only at hSw)
          go_simp
          try with_reducible rfl
        try simp only [Act.put, List.setIfInBounds_toArray, List.set_cons_zero, List.set_cons_succ]
        refine region_take 1 ?_ rfl (by kernel_rfl) (by rfl) hHeld ?_ ?_
        rotate_left
        · intro w hSw
          (try dsimp only at hSw)
          go_simp
          try with_reducible rfl
        try simp only [Act.put, List.setIfInBounds_toArray, List.set_cons_zero, List.set_cons_succ]
        refine region_call 2 rfl (by kernel_rfl) (by rfl) (fun K hK => ?_)
        go_simp
        refine (within_yes _ _ _ _ (by omega)).mono ?_
        rintro e w1 ⟨rfl, rfl⟩
        (try dsimp only)
        refine hK.out _ _ (HC.out) (fun hHeld => ?_)
        clear hK K
        try simp only [Act.put, List.setIfInBounds_toArray, List.set_cons_zero, List.set_cons_succ]
        refine region_take 3 ?_ rfl (by kernel_rfl) (by rfl) hHeld ?_ ?_
        rotate_left
        · intro w hSw
          (try dsimp only at hSw)
          go_simp
          try with_reducible rfl
        try simp only [Act.put, List.setIfInBounds_toArray, List.set_cons_zero, List.set_cons_succ]
        refine region_take 4 ?_ rfl (by kernel_rfl) (by rfl) hHeld ?_ ?_
        rotate_left
        · intro w hSw
          (try dsimp only at hSw)
          go_simp
          try with_reducible rfl
        try simp only [Act.put, List.setIfInBounds_toArray, List.set_cons_zero, List.set_cons_succ]
        refine region_take 5 ?_ rfl (by kernel_rfl) (by rfl) hHeld ?_ ?_
        rotate_left
        · intro w hSw
          (try dsimp only at hSw)
          go_simp
          try with_reducible rfl
        try simp only [Act.put, List.setIfInBounds_toArray, List.set_cons_zero, List.set_cons_succ]
        refine region_take 6 ?_ rfl (by kernel_rfl) (by rfl) hHeld ?_ ?_
        rotate_left
        · intro w hSw
          (try dsimp only at hSw)
          go_simp
          try with_reducible rfl
        try simp only [Act.put, List.setIfInBounds_toArray, List.set_cons_zero, List.set_cons_succ]
        refine region_take 7 ?_ rfl (by kernel_rfl) (by rfl) hHeld ?_ ?_
        rotate_left
        · intro w hSw
          (try dsimp only at hSw)
          go_simp
          try with_reducible rfl
        try simp only [Act.put, List.setIfInBounds_toArray, List.set_cons_zero, List.set_cons_succ]
        refine region_take 8 ?_ rfl (by kernel_rfl) (by rfl) hHeld ?_ ?_
        rotate_left
        · intro w hSw
          (try dsimp only at hSw)
          go_simp
          try with_reducible rfl
        try simp only [Act.put, List.setIfInBounds_toArray, List.set_cons_zero, List.set_cons_succ]
        refine region_take 9 ?_ rfl (by kernel_rfl) (by rfl) hHeld ?_ ?_
        rotate_left
        · intro w hSw
          (try dsimp only at hSw)
          go_simp
          try with_reducible rfl
        try simp only [Act.put, List.setIfInBounds_toArray, List.set_cons_zero, List.set_cons_succ]
        refine region_done (by kernel_rfl) ?_
        go_wp2_with fail
        go_ret2
        exact CountPost.no HR.out (HB.out.trans (below_drewN (Below.refl _ _) 1))
      · have HR := Lib.hid (HN.out (by omega))
        clear HY HN
        go_enter Tryd.func72, Tryd.ntmps72
        go_wp2_with fail
        refine region_begin (S := fun W => W.cell? ⟨w.heap.size, 1, none⟩ = some (.int .i64 A) ∧ W.cell? ⟨w.heap.size, 2, none⟩ = some (.int .i64 B)) (by kernel_rfl) (HC.out) (fun hHeld => ?_)
        refine region_take 0 ?_ rfl (by kernel_rfl) (by rfl) hHeld ?_ ?_
        rotate_left
        · intro w hSw
          (try dsimp only at hSw)
          go_simp
          try with_reducible rfl
        try simp only [Act.put, List.setIfInBounds_toArray, List.set_cons_zero, List.set_cons_succ]
        refine region_take 1 ?_ rfl (by kernel_rfl) (by rfl) hHeld ?_ ?_
        rotate_left
        · intro w hSw
          (try dsimp only at hSw)
          go_simp
          try with_reducible rfl
        try simp only [Act.put, List.setIfInBounds_toArray, List.set_cons_zero, List.set_cons_succ]
        refine region_call 2 rfl (by kernel_rfl) (by rfl) (fun K hK => ?_)
        go_simp
        refine (within_no _ _ _ _ (by omega)).mono ?_
        rintro e w1 ⟨rfl, rfl⟩
        (try dsimp only)
        refine hK.out _ _ (HC.out) (fun hHeld => ?_)
        clear hK K
        try simp only [Act.put, List.setIfInBounds_toArray, List.set_cons_zero, List.set_cons_succ]
        refine region_take 3 ?_ rfl (by kernel_rfl) (by rfl) hHeld ?_ ?_
        rotate_left
        · intro w hSw
          (try dsimp only at hSw)
          go_simp
          try with_reducible rfl
        try simp only [Act.put, List.setIfInBounds_toArray, List.set_cons_zero, List.set_cons_succ]
        refine region_skip 4 rfl (by kernel_rfl) (by rfl) hHeld ?_
        try simp only [Act.put, List.setIfInBounds_toArray, List.set_cons_zero, List.set_cons_succ]
        refine region_skip 5 rfl (by kernel_rfl) (by rfl) hHeld ?_
        try simp only [Act.put, List.setIfInBounds_toArray, List.set_cons_zero, List.set_cons_succ]
        refine region_skip 6 rfl (by kernel_rfl) (by rfl) hHeld ?_
        try simp only [Act.put, List.setIfInBounds_toArray, List.set_cons_zero, List.set_cons_succ]
        refine region_take 7 ?_ rfl (by kernel_rfl) (by rfl) hHeld ?_ ?_
        rotate_left
        · intro w hSw
          (try dsimp only at hSw)
          go_simp
          try with_reducible rfl
        try simp only [Act.put, List.setIfInBounds_toArray, List.set_cons_zero, List.set_cons_succ]
        refine region_take 8 ?_ rfl (by kernel_rfl) (by rfl) hHeld ?_ ?_
        rotate_left
        · intro w hSw
          (try dsimp only at hSw)
          go_simp
          try with_reducible rfl
        try simp only [Act.put, List.setIfInBounds_toArray, List.set_cons_zero, List.set_cons_succ]
        refine region_take 9 ?_ rfl (by kernel_rfl) (by rfl) hHeld ?_ ?_
        rotate_left
        · intro w hSw
          (try dsimp only at hSw)
          go_simp
          try with_reducible rfl
        try simp only [Act.put, List.setIfInBounds_toArray, List.set_cons_zero, List.set_cons_succ]
        refine region_done (by kernel_rfl) ?_
        go_wp2_with fail
        go_ret2
        exact CountPost.no HR.out (HB.out.trans (below_drewN (Below.refl _ _) 1))
set_option maxHeartbeats 4000000 in
set_option maxRecDepth 100000 in
theorem count_2 (A B : Int) (w : World) (hwA : I64 A) (hwB : I64 B) : Calls Tryd.prog 72 #[nodeA (2, A, B)] w (CountPost (2, A, B) w) := by
  have HB := Lib.hid (show Below w.heap.size w (w.alloc (.cells #[.int .i64 2, .int .i64 A, .int .i64 B] 53)) from (Below.refl _ _).alloc (Nat.le_refl _) _)
  have hc := holds_at w #[.int .i64 2, .int .i64 A, .int .i64 B] 53 _ rfl
  have c1 := hc.cell (j := 1) rfl
  have c2 := hc.cell (j := 2) rfl
  rw [Nat.zero_add] at c1 c2
  have HC := Lib.hid (show (w.alloc (.cells #[.int .i64 2, .int .i64 A, .int .i64 B] 53)).drew.cell? ⟨w.heap.size, 1, none⟩ = some (.int .i64 A) ∧ (w.alloc (.cells #[.int .i64 2, .int .i64 A, .int .i64 B] 53)).drew.cell? ⟨w.heap.size, 2, none⟩ = some (.int .i64 B) from ⟨c1, c2⟩)
  clear hc c1 c2
  obtain ⟨hA1, hA2⟩ := hwA
  obtain ⟨hB1, hB2⟩ := hwB
  have HY : Hid ((0 ≤ A ∧ A ≤ 1) ∧ (1 ≤ B ∧ B ≤ 4) → topB (2, A, B) = true ∧ (0 : Int) = (kidsN (2, A, B) : Int)) := Lib.hid fun h =>
    ⟨top_yes (by simp [holdsN]; omega) (by simp) (by simp), by simp [kidsN]; try omega⟩
  have HN : Hid (¬ ((0 ≤ A ∧ A ≤ 1) ∧ (1 ≤ B ∧ B ≤ 4)) → topB (2, A, B) = false) := Lib.hid fun h => top_no (by simp [holdsN]; omega)
  by_cases zA : A = 0
  · subst zA
    by_cases zB : B = 0
    · subst zB
      have HR := Lib.hid (HN.out (by omega))
      clear HY HN
      go_enter Tryd.func72, Tryd.ntmps72
      go_wp2_with fail
      refine (within_yes _ _ _ _ (by omega)).mono ?_
      rintro e w1 ⟨rfl, rfl⟩
      go_wp2_with fail
      refine (within_no _ _ _ _ (by omega)).mono ?_
      rintro e w1 ⟨rfl, rfl⟩
      go_wp2_with fail
      go_ret2
      exact CountPost.no HR.out HB.out
    · have eB : (B == 0) = false := by simpa using zB
      by_cases hb : 1 ≤ B ∧ B ≤ 4
      · obtain ⟨hb1, hb2⟩ := hb
        have HR := Lib.hid (HY.out (by omega))
        clear HY HN
        go_enter Tryd.func72, Tryd.ntmps72
        go_wp2_with fail
        refine (within_yes _ _ _ _ (by omega)).mono ?_
        rintro e w1 ⟨rfl, rfl⟩
        go_wp2_with fail
        refine (within_yes _ _ _ _ (by omega)).mono ?_
        rintro e w1 ⟨rfl, rfl⟩
        go_wp2_with fail
        go_ret2
        exact CountPost.yes HR.out.1 HR.out.2 HB.out
      · have HR := Lib.hid (HN.out (by omega))
        clear HY HN
        go_enter Tryd.func72, Tryd.ntmps72
        go_wp2_with fail
        refine (within_yes _ _ _ _ (by omega)).mono ?_
        rintro e w1 ⟨rfl, rfl⟩
        go_wp2_with fail
        refine (within_no _ _ _ _ (by omega)).mono ?_
        rintro e w1 ⟨rfl, rfl⟩
        go_wp2_with fail
        go_ret2
        exact CountPost.no HR.out HB.out
  · have eA : (A == 0) = false := by simpa using zA
    by_cases zB : B = 0
    · subst zB
      by_cases ha : 0 ≤ A ∧ A ≤ 1
      · obtain ⟨ha1, ha2⟩ := ha
        have HR := Lib.hid (HN.out (by omega))
        clear HY HN
        go_enter Tryd.func72, Tryd.ntmps72
        go_wp2_with fail
        refine (within_yes _ _ _ _ (by omega)).mono ?_
        rintro e w1 ⟨rfl, rfl⟩
        go_wp2_with fail
        refine (within_no _ _ _ _ (by omega)).mono ?_
        rintro e w1 ⟨rfl, rfl⟩
        go_wp2_with fail
        go_ret2
        exact CountPost.no HR.out HB.out
      · have HR := Lib.hid (HN.out (by omega))
        clear HY HN
        go_enter Tryd.func72, Tryd.ntmps72
        go_wp2_with fail
        refine (within_no _ _ _ _ (by omega)).mono ?_
        rintro e w1 ⟨rfl, rfl⟩
        go_wp2_with fail
        go_ret2
        exact CountPost.no HR.out HB.out
    · have eB : (B == 0) = false := by simpa using zB
      by_cases ha : 0 ≤ A ∧ A ≤ 1
      · obtain ⟨ha1, ha2⟩ := ha
        by_cases hb : 1 ≤ B ∧ B ≤ 4
        · obtain ⟨hb1, hb2⟩ := hb
          have HR := Lib.hid (HY.out (by omega))
          clear HY HN
          go_enter Tryd.func72, Tryd.ntmps72
          go_wp2_with fail
          refine (within_yes _ _ _ _ (by omega)).mono ?_
          rintro e w1 ⟨rfl, rfl⟩
          go_wp2_with fail
          refine (within_yes _ _ _ _ (by omega)).mono ?_
          rintro e w1 ⟨rfl, rfl⟩
          go_wp2_with fail
          go_ret2
          exact CountPost.yes HR.out.1 HR.out.2 HB.out
        · have HR := Lib.hid (HN.out (by omega))
          clear HY HN
          go_enter Tryd.func72, Tryd.ntmps72
          go_wp2_with fail
          refine (within_yes _ _ _ _ (by omega)).mono ?_
          rintro e w1 ⟨rfl, rfl⟩
          go_wp2_with fail
          refine (within_no _ _ _ _ (by omega)).mono ?_
          rintro e w1 ⟨rfl, rfl⟩
          go_wp2_with fail
          go_ret2
          exact CountPost.no HR.out HB.out
      · have HR := Lib.hid (HN.out (by omega))
        clear HY HN
        go_enter Tryd.func72, Tryd.ntmps72
        go_wp2_with fail
        refine (within_no _ _ _ _ (by omega)).mono ?_
        rintro e w1 ⟨rfl, rfl⟩
        go_wp2_with fail
        go_ret2
        exact CountPost.no HR.out HB.out
set_option maxHeartbeats 4000000 in
set_option maxRecDepth 100000 in
theorem count_4 (A B : Int) (w : World) (hwA : I64 A) (hwB : I64 B) : Calls Tryd.prog 72 #[nodeA (4, A, B)] w (CountPost (4, A, B) w) := by
  have HB := Lib.hid (show Below w.heap.size w (w.alloc (.cells #[.int .i64 4, .int .i64 A, .int .i64 B] 53)) from (Below.refl _ _).alloc (Nat.le_refl _) _)
  have hc := holds_at w #[.int .i64 4, .int .i64 A, .int .i64 B] 53 _ rfl
  have c1 := hc.cell (j := 1) rfl
  have c2 := hc.cell (j := 2) rfl
  rw [Nat.zero_add] at c1 c2
  have HC := Lib.hid (show (w.alloc (.cells #[.int .i64 4, .int .i64 A, .int .i64 B] 53)).drew.cell? ⟨w.heap.size, 1, none⟩ = some (.int .i64 A) ∧ (w.alloc (.cells #[.int .i64 4, .int .i64 A, .int .i64 B] 53)).drew.cell? ⟨w.heap.size, 2, none⟩ = some (.int .i64 B) from ⟨c1, c2⟩)
  clear hc c1 c2
  obtain ⟨hA1, hA2⟩ := hwA
  obtain ⟨hB1, hB2⟩ := hwB
  have HY : Hid ((A = 0) ∧ (B = 0) → topB (4, A, B) = true ∧ (2 : Int) = (kidsN (4, A, B) : Int)) := Lib.hid fun h =>
    ⟨top_yes (by simp [holdsN]; omega) (by simp) (by simp), by simp [kidsN]; try omega⟩
  have HN : Hid (¬ ((A = 0) ∧ (B = 0)) → topB (4, A, B) = false) := Lib.hid fun h => top_no (by simp [holdsN]; omega)
  by_cases zA : A = 0
  · subst zA
    by_cases zB : B = 0
    · subst zB
      have HR := Lib.hid (HY.out (by omega))
      clear HY HN
      go_enter Tryd.func72, Tryd.ntmps72
      go_wp2_with fail
      go_ret2
      exact CountPost.yes HR.out.1 HR.out.2 HB.out
    · have eB : (B == 0) = false := by simpa using zB
      have HR := Lib.hid (HN.out (by omega))
      clear HY HN
      go_enter Tryd.func72, Tryd.ntmps72
      go_wp2_with fail
      go_ret2
      exact CountPost.no HR.out HB.out
  · have eA : (A == 0) = false := by simpa using zA
    by_cases zB : B = 0
    · subst zB
      have HR := Lib.hid (HN.out (by omega))
      clear HY HN
      go_enter Tryd.func72, Tryd.ntmps72
      go_wp2_with fail
      go_ret2
      exact CountPost.no HR.out HB.out
    · have eB : (B == 0) = false := by simpa using zB
      have HR := Lib.hid (HN.out (by omega))
      clear HY HN
      go_enter Tryd.func72, Tryd.ntmps72
      go_wp2_with fail
      go_ret2
      exact CountPost.no HR.out HB.out
set_option maxHeartbeats 4000000 in
set_option maxRecDepth 100000 in
theorem count_5 (A B : Int) (w : World) (hwA : I64 A) (hwB : I64 B) : Calls Tryd.prog 72 #[nodeA (5, A, B)] w (CountPost (5, A, B) w) := by
  have HB := Lib.hid (show Below w.heap.size w (w.alloc (.cells #[.int .i64 5, .int .i64 A, .int .i64 B] 53)) from (Below.refl _ _).alloc (Nat.le_refl _) _)
  have hc := holds_at w #[.int .i64 5, .int .i64 A, .int .i64 B] 53 _ rfl
  have c1 := hc.cell (j := 1) rfl
  have c2 := hc.cell (j := 2) rfl
  rw [Nat.zero_add] at c1 c2
  have HC := Lib.hid (show (w.alloc (.cells #[.int .i64 5, .int .i64 A, .int .i64 B] 53)).drew.cell? ⟨w.heap.size, 1, none⟩ = some (.int .i64 A) ∧ (w.alloc (.cells #[.int .i64 5, .int .i64 A, .int .i64 B] 53)).drew.cell? ⟨w.heap.size, 2, none⟩ = some (.int .i64 B) from ⟨c1, c2⟩)
  clear hc c1 c2
  obtain ⟨hA1, hA2⟩ := hwA
  obtain ⟨hB1, hB2⟩ := hwB
  have HY : Hid ((A = 0) ∧ (B = 0) → topB (5, A, B) = true ∧ (2 : Int) = (kidsN (5, A, B) : Int)) := Lib.hid fun h =>
    ⟨top_yes (by simp [holdsN]; omega) (by simp) (by simp), by simp [kidsN]; try omega⟩
  have HN : Hid (¬ ((A = 0) ∧ (B = 0)) → topB (5, A, B) = false) := Lib.hid fun h => top_no (by simp [holdsN]; omega)
  by_cases zA : A = 0
  · subst zA
    by_cases zB : B = 0
    · subst zB
      have HR := Lib.hid (HY.out (by omega))
      clear HY HN
      go_enter Tryd.func72, Tryd.ntmps72
      go_wp2_with fail
      go_ret2
      exact CountPost.yes HR.out.1 HR.out.2 HB.out
    · have eB : (B == 0) = false := by simpa using zB
      have HR := Lib.hid (HN.out (by omega))
      clear HY HN
      go_enter Tryd.func72, Tryd.ntmps72
      go_wp2_with fail
      go_ret2
      exact CountPost.no HR.out HB.out
  · have eA : (A == 0) = false := by simpa using zA
    by_cases zB : B = 0
    · subst zB
      have HR := Lib.hid (HN.out (by omega))
      clear HY HN
      go_enter Tryd.func72, Tryd.ntmps72
      go_wp2_with fail
      go_ret2
      exact CountPost.no HR.out HB.out
    · have eB : (B == 0) = false := by simpa using zB
      have HR := Lib.hid (HN.out (by omega))
      clear HY HN
      go_enter Tryd.func72, Tryd.ntmps72
      go_wp2_with fail
      go_ret2
      exact CountPost.no HR.out HB.out
set_option maxHeartbeats 4000000 in
set_option maxRecDepth 100000 in
theorem count_6 (A B : Int) (w : World) (hwA : I64 A) (hwB : I64 B) : Calls Tryd.prog 72 #[nodeA (6, A, B)] w (CountPost (6, A, B) w) := by
  have HB := Lib.hid (show Below w.heap.size w (w.alloc (.cells #[.int .i64 6, .int .i64 A, .int .i64 B] 53)) from (Below.refl _ _).alloc (Nat.le_refl _) _)
  have hc := holds_at w #[.int .i64 6, .int .i64 A, .int .i64 B] 53 _ rfl
  have c1 := hc.cell (j := 1) rfl
  have c2 := hc.cell (j := 2) rfl
  rw [Nat.zero_add] at c1 c2
  have HC := Lib.hid (show (w.alloc (.cells #[.int .i64 6, .int .i64 A, .int .i64 B] 53)).drew.cell? ⟨w.heap.size, 1, none⟩ = some (.int .i64 A) ∧ (w.alloc (.cells #[.int .i64 6, .int .i64 A, .int .i64 B] 53)).drew.cell? ⟨w.heap.size, 2, none⟩ = some (.int .i64 B) from ⟨c1, c2⟩)
  clear hc c1 c2
  obtain ⟨hA1, hA2⟩ := hwA
  obtain ⟨hB1, hB2⟩ := hwB
  have HY : Hid ((A = 0) ∧ (B = 0) → topB (6, A, B) = true ∧ (2 : Int) = (kidsN (6, A, B) : Int)) := Lib.hid fun h =>
    ⟨top_yes (by simp [holdsN]; omega) (by simp) (by simp), by simp [kidsN]; try omega⟩
  have HN : Hid (¬ ((A = 0) ∧ (B = 0)) → topB (6, A, B) = false) := Lib.hid fun h => top_no (by simp [holdsN]; omega)
  by_cases zA : A = 0
  · subst zA
    by_cases zB : B = 0
    · subst zB
      have HR := Lib.hid (HY.out (by omega))
      clear HY HN
      go_enter Tryd.func72, Tryd.ntmps72
      go_wp2_with fail
      go_ret2
      exact CountPost.yes HR.out.1 HR.out.2 HB.out
    · have eB : (B == 0) = false := by simpa using zB
      have HR := Lib.hid (HN.out (by omega))
      clear HY HN
      go_enter Tryd.func72, Tryd.ntmps72
      go_wp2_with fail
      go_ret2
      exact CountPost.no HR.out HB.out
  · have eA : (A == 0) = false := by simpa using zA
    by_cases zB : B = 0
    · subst zB
      have HR := Lib.hid (HN.out (by omega))
      clear HY HN
      go_enter Tryd.func72, Tryd.ntmps72
      go_wp2_with fail
      go_ret2
      exact CountPost.no HR.out HB.out
    · have eB : (B == 0) = false := by simpa using zB
      have HR := Lib.hid (HN.out (by omega))
      clear HY HN
      go_enter Tryd.func72, Tryd.ntmps72
      go_wp2_with fail
      go_ret2
      exact CountPost.no HR.out HB.out
set_option maxHeartbeats 4000000 in
set_option maxRecDepth 100000 in
theorem count_7 (A B : Int) (w : World) (hwA : I64 A) (hwB : I64 B) : Calls Tryd.prog 72 #[nodeA (7, A, B)] w (CountPost (7, A, B) w) := by
  have HB := Lib.hid (show Below w.heap.size w (w.alloc (.cells #[.int .i64 7, .int .i64 A, .int .i64 B] 53)) from (Below.refl _ _).alloc (Nat.le_refl _) _)
  have hc := holds_at w #[.int .i64 7, .int .i64 A, .int .i64 B] 53 _ rfl
  have c1 := hc.cell (j := 1) rfl
  have c2 := hc.cell (j := 2) rfl
  rw [Nat.zero_add] at c1 c2
  have HC := Lib.hid (show (w.alloc (.cells #[.int .i64 7, .int .i64 A, .int .i64 B] 53)).drew.cell? ⟨w.heap.size, 1, none⟩ = some (.int .i64 A) ∧ (w.alloc (.cells #[.int .i64 7, .int .i64 A, .int .i64 B] 53)).drew.cell? ⟨w.heap.size, 2, none⟩ = some (.int .i64 B) from ⟨c1, c2⟩)
  clear hc c1 c2
  obtain ⟨hA1, hA2⟩ := hwA
  obtain ⟨hB1, hB2⟩ := hwB
  have HY : Hid ((A = 0) ∧ (B = 0) → topB (7, A, B) = true ∧ (3 : Int) = (kidsN (7, A, B) : Int)) := Lib.hid fun h =>
    ⟨top_yes (by simp [holdsN]; omega) (by simp) (by simp), by simp [kidsN]; try omega⟩
  have HN : Hid (¬ ((A = 0) ∧ (B = 0)) → topB (7, A, B) = false) := Lib.hid fun h => top_no (by simp [holdsN]; omega)
  by_cases zA : A = 0
  · subst zA
    by_cases zB : B = 0
    · subst zB
      have HR := Lib.hid (HY.out (by omega))
      clear HY HN
      go_enter Tryd.func72, Tryd.ntmps72
      go_wp2_with fail
      go_ret2
      exact CountPost.yes HR.out.1 HR.out.2 HB.out
    · have eB : (B == 0) = false := by simpa using zB
      have HR := Lib.hid (HN.out (by omega))
      clear HY HN
      go_enter Tryd.func72, Tryd.ntmps72
      go_wp2_with fail
      go_ret2
      exact CountPost.no HR.out HB.out
  · have eA : (A == 0) = false := by simpa using zA
    by_cases zB : B = 0
    · subst zB
      have HR := Lib.hid (HN.out (by omega))
      clear HY HN
      go_enter Tryd.func72, Tryd.ntmps72
      go_wp2_with fail
      go_ret2
      exact CountPost.no HR.out HB.out
    · have eB : (B == 0) = false := by simpa using zB
      have HR := Lib.hid (HN.out (by omega))
      clear HY HN
      go_enter Tryd.func72, Tryd.ntmps72
      go_wp2_with fail
      go_ret2
      exact CountPost.no HR.out HB.out
set_option maxHeartbeats 4000000 in
set_option maxRecDepth 100000 in
theorem count_8 (A B : Int) (w : World) (hwA : I64 A) (hwB : I64 B) : Calls Tryd.prog 72 #[nodeA (8, A, B)] w (CountPost (8, A, B) w) := by
  have HB := Lib.hid (show Below w.heap.size w (w.alloc (.cells #[.int .i64 8, .int .i64 A, .int .i64 B] 53)) from (Below.refl _ _).alloc (Nat.le_refl _) _)
  have hc := holds_at w #[.int .i64 8, .int .i64 A, .int .i64 B] 53 _ rfl
  have c1 := hc.cell (j := 1) rfl
  have c2 := hc.cell (j := 2) rfl
  rw [Nat.zero_add] at c1 c2
  have HC := Lib.hid (show (w.alloc (.cells #[.int .i64 8, .int .i64 A, .int .i64 B] 53)).drew.cell? ⟨w.heap.size, 1, none⟩ = some (.int .i64 A) ∧ (w.alloc (.cells #[.int .i64 8, .int .i64 A, .int .i64 B] 53)).drew.cell? ⟨w.heap.size, 2, none⟩ = some (.int .i64 B) from ⟨c1, c2⟩)
  clear hc c1 c2
  obtain ⟨hA1, hA2⟩ := hwA
  obtain ⟨hB1, hB2⟩ := hwB
  have HY : Hid ((0 ≤ A ∧ A ≤ 63) ∧ (B = 0) → topB (8, A, B) = true ∧ (0 : Int) = (kidsN (8, A, B) : Int)) := Lib.hid fun h =>
    ⟨top_yes (by simp [holdsN]; omega) (by simp) (by simp), by simp [kidsN]; try omega⟩
  have HN : Hid (¬ ((0 ≤ A ∧ A ≤ 63) ∧ (B = 0)) → topB (8, A, B) = false) := Lib.hid fun h => top_no (by simp [holdsN]; omega)
  by_cases zA : A = 0
  · subst zA
    by_cases zB : B = 0
    · subst zB
      have HR := Lib.hid (HY.out (by omega))
      clear HY HN
      go_enter Tryd.func72, Tryd.ntmps72
      go_wp2_with fail
      refine region_begin (S := fun W => W.cell? ⟨w.heap.size, 1, none⟩ = some (.int .i64 0) ∧ W.cell? ⟨w.heap.size, 2, none⟩ = some (.int .i64 0)) (by kernel_rfl) (HC.out) (fun hHeld => ?_)
      refine region_take 0 ?_ rfl (by kernel_rfl) (by rfl) hHeld ?_ ?_
      rotate_left
      · intro w hSw
        (try dsimp only at hSw)
        go_simp
        try with_reducible rfl
      try simp only [Act.put, List.setIfInBounds_toArray, List.set_cons_zero, List.set_cons_succ]
      refine region_take 1 ?_ rfl (by kernel_rfl) (by rfl) hHeld ?_ ?_
      rotate_left
      · intro w hSw
        (try dsimp only at hSw)
        go_simp
        try with_reducible rfl
      try simp only [Act.put, List.setIfInBounds_toArray, List.set_cons_zero, List.set_cons_succ]
      refine region_call 2 rfl (by kernel_rfl) (by rfl) (fun K hK => ?_)
      go_simp
      refine (within_yes _ _ _ _ (by omega)).mono ?_
      rintro e w1 ⟨rfl, rfl⟩
      (try dsimp only)
      refine hK.out _ _ (HC.out) (fun hHeld => ?_)
      clear hK K
      try simp only [Act.put, List.setIfInBounds_toArray, List.set_cons_zero, List.set_cons_succ]
      refine region_take 3 ?_ rfl (by kernel_rfl) (by rfl) hHeld ?_ ?_
      rotate_left
      · intro w hSw
        (try dsimp only at hSw)
        go_simp
        try with_reducible rfl
      try simp only [Act.put, List.setIfInBounds_toArray, List.set_cons_zero, List.set_cons_succ]
      refine region_take 4 ?_ rfl (by kernel_rfl) (by rfl) hHeld ?_ ?_
      rotate_left
      · intro w hSw
        (try dsimp only at hSw)
        go_simp
        try with_reducible rfl
      try simp only [Act.put, List.setIfInBounds_toArray, List.set_cons_zero, List.set_cons_succ]
      refine region_take 5 ?_ rfl (by kernel_rfl) (by rfl) hHeld ?_ ?_
      rotate_left
      · intro w hSw
        (try dsimp only at hSw)
        go_simp
        try with_reducible rfl
      try simp only [Act.put, List.setIfInBounds_toArray, List.set_cons_zero, List.set_cons_succ]
      refine region_take 6 ?_ rfl (by kernel_rfl) (by rfl) hHeld ?_ ?_
      rotate_left
      · intro w hSw
        (try dsimp only at hSw)
        go_simp
        try with_reducible rfl
      try simp only [Act.put, List.setIfInBounds_toArray, List.set_cons_zero, List.set_cons_succ]
      refine region_take 7 ?_ rfl (by kernel_rfl) (by rfl) hHeld ?_ ?_
      rotate_left
      · intro w hSw
        (try dsimp only at hSw)
        go_simp
        try with_reducible rfl
      try simp only [Act.put, List.setIfInBounds_toArray, List.set_cons_zero, List.set_cons_succ]
      refine region_take 8 ?_ rfl (by kernel_rfl) (by rfl) hHeld ?_ ?_
      rotate_left
      · intro w hSw
        (try dsimp only at hSw)
        go_simp
        try with_reducible rfl
      try simp only [Act.put, List.setIfInBounds_toArray, List.set_cons_zero, List.set_cons_succ]
      refine region_take 9 ?_ rfl (by kernel_rfl) (by rfl) hHeld ?_ ?_
      rotate_left
      · intro w hSw
        (try dsimp only at hSw)
        go_simp
        try with_reducible rfl
      try simp only [Act.put, List.setIfInBounds_toArray, List.set_cons_zero, List.set_cons_succ]
      refine region_done (by kernel_rfl) ?_
      go_wp2_with fail
      go_ret2
      exact CountPost.yes HR.out.1 HR.out.2 (HB.out.trans (below_drewN (Below.refl _ _) 1))
    · have eB : (B == 0) = false := by simpa using zB
      have HR := Lib.hid (HN.out (by omega))
      clear HY HN
      go_enter Tryd.func72, Tryd.ntmps72
      go_wp2_with fail
      refine region_begin (S := fun W => W.cell? ⟨w.heap.size, 1, none⟩ = some (.int .i64 0) ∧ W.cell? ⟨w.heap.size, 2, none⟩ = some (.int .i64 B)) (by kernel_rfl) (HC.out) (fun hHeld => ?_)
      refine region_take 0 ?_ rfl (by kernel_rfl) (by rfl) hHeld ?_ ?_
      rotate_left
      · intro w hSw
        (try dsimp only at hSw)
        go_simp
        try with_reducible rfl
      try simp only [Act.put, List.setIfInBounds_toArray, List.set_cons_zero, List.set_cons_succ]
      refine region_take 1 ?_ rfl (by kernel_rfl) (by rfl) hHeld ?_ ?_
      rotate_left
      · intro w hSw
        (try dsimp only at hSw)
        go_simp
        try with_reducible rfl
      try simp only [Act.put, List.setIfInBounds_toArray, List.set_cons_zero, List.set_cons_succ]
      refine region_call 2 rfl (by kernel_rfl) (by rfl) (fun K hK => ?_)
      go_simp
      refine (within_yes _ _ _ _ (by omega)).mono ?_
      rintro e w1 ⟨rfl, rfl⟩
      (try dsimp only)
      refine hK.out _ _ (HC.out) (fun hHeld => ?_)
      clear hK K
      try simp only [Act.put, List.setIfInBounds_toArray, List.set_cons_zero, List.set_cons_succ]
      refine region_take 3 ?_ rfl (by kernel_rfl) (by rfl) hHeld ?_ ?_
      rotate_left
      · intro w hSw
        (try dsimp only at hSw)
        go_simp
        try with_reducible rfl
      try simp only [Act.put, List.setIfInBounds_toArray, List.set_cons_zero, List.set_cons_succ]
      refine region_take 4 ?_ rfl (by kernel_rfl) (by rfl) hHeld ?_ ?_
      rotate_left
      · intro w hSw
        (try dsimp only at hSw)
        go_simp
        try with_reducible rfl
      try simp only [Act.put, List.setIfInBounds_toArray, List.set_cons_zero, List.set_cons_succ]
      refine region_take 5 ?_ rfl (by kernel_rfl) (by rfl) hHeld ?_ ?_
      rotate_left
      · intro w hSw
        (try dsimp only at hSw)
        go_simp
        try with_reducible rfl
      try simp only [Act.put, List.setIfInBounds_toArray, List.set_cons_zero, List.set_cons_succ]
      refine region_take 6 ?_ rfl (by kernel_rfl) (by rfl) hHeld ?_ ?_
      rotate_left
      · intro w hSw
        (try dsimp only at hSw)
        go_simp
        try with_reducible rfl
      try simp only [Act.put, List.setIfInBounds_toArray, List.set_cons_zero, List.set_cons_succ]
      refine region_take 7 ?_ rfl (by kernel_rfl) (by rfl) hHeld ?_ ?_
      rotate_left
      · intro w hSw
        (try dsimp only at hSw)
        go_simp
        try with_reducible rfl
      try simp only [Act.put, List.setIfInBounds_toArray, List.set_cons_zero, List.set_cons_succ]
      refine region_take 8 ?_ rfl (by kernel_rfl) (by rfl) hHeld ?_ ?_
      rotate_left
      · intro w hSw
        (try dsimp only at hSw)
        go_simp
        try with_reducible rfl
      try simp only [Act.put, List.setIfInBounds_toArray, List.set_cons_zero, List.set_cons_succ]
      refine region_take 9 ?_ rfl (by kernel_rfl) (by rfl) hHeld ?_ ?_
      rotate_left
      · intro w hSw
        (try dsimp only at hSw)
        go_simp
        try with_reducible rfl
      try simp only [Act.put, List.setIfInBounds_toArray, List.set_cons_zero, List.set_cons_succ]
      refine region_done (by kernel_rfl) ?_
      go_wp2_with fail
      go_ret2
      exact CountPost.no HR.out (HB.out.trans (below_drewN (Below.refl _ _) 1))
  · have eA : (A == 0) = false := by simpa using zA
    by_cases zB : B = 0
    · subst zB
      by_cases ha : 0 ≤ A ∧ A ≤ 63
      · obtain ⟨ha1, ha2⟩ := ha
        have HR := Lib.hid (HY.out (by omega))
        clear HY HN
        go_enter Tryd.func72, Tryd.ntmps72
        go_wp2_with fail
        refine region_begin (S := fun W => W.cell? ⟨w.heap.size, 1, none⟩ = some (.int .i64 A) ∧ W.cell? ⟨w.heap.size, 2, none⟩ = some (.int .i64 0)) (by kernel_rfl) (HC.out) (fun hHeld => ?_)
        refine region_take 0 ?_ rfl (by kernel_rfl) (by rfl) hHeld ?_ ?_
        rotate_left
        · intro w hSw
          (try dsimp only at hSw)
          go_simp
          try with_reducible rfl
        try simp only [Act.put, List.setIfInBounds_toArray, List.set_cons_zero, List.set_cons_succ]
        refine region_take 1 ?_ rfl (by kernel_rfl) (by rfl) hHeld ?_ ?_
        rotate_left
        · intro w hSw
          (try dsimp only at hSw)
          go_simp
          try with_reducible rfl
        try simp only [Act.put, List.setIfInBounds_toArray, List.set_cons_zero, List.set_cons_succ]
        refine region_call 2 rfl (by kernel_rfl) (by rfl) (fun K hK => ?_)
        go_simp
        refine (within_yes _ _ _ _ (by omega)).mono ?_
        rintro e w1 ⟨rfl, rfl⟩
        (try dsimp only)
        refine hK.out _ _ (HC.out) (fun hHeld => ?_)
        clear hK K
        try simp only [Act.put, List.setIfInBounds_toArray, List.set_cons_zero, List.set_cons_succ]
        refine region_take 3 ?_ rfl (by kernel_rfl) (by rfl) hHeld ?_ ?_
        rotate_left
        · intro w hSw
          (try dsimp only at hSw)
          go_simp
          try with_reducible rfl
        try simp only [Act.put, List.setIfInBounds_toArray, List.set_cons_zero, List.set_cons_succ]
        refine region_take 4 ?_ rfl (by kernel_rfl) (by rfl) hHeld ?_ ?_
        rotate_left
        · intro w hSw
          (try dsimp only at hSw)
          go_simp
          try with_reducible rfl
        try simp only [Act.put, List.setIfInBounds_toArray, List.set_cons_zero, List.set_cons_succ]
        refine region_take 5 ?_ rfl (by kernel_rfl) (by rfl) hHeld ?_ ?_
        rotate_left
        · intro w hSw
          (try dsimp only at hSw)
          go_simp
          try with_reducible rfl
        try simp only [Act.put, List.setIfInBounds_toArray, List.set_cons_zero, List.set_cons_succ]
        refine region_take 6 ?_ rfl (by kernel_rfl) (by rfl) hHeld ?_ ?_
        rotate_left
        · intro w hSw
          (try dsimp only at hSw)
          go_simp
          try with_reducible rfl
        try simp only [Act.put, List.setIfInBounds_toArray, List.set_cons_zero, List.set_cons_succ]
        refine region_take 7 ?_ rfl (by kernel_rfl) (by rfl) hHeld ?_ ?_
        rotate_left
        · intro w hSw
          (try dsimp only at hSw)
          go_simp
          try with_reducible rfl
        try simp only [Act.put, List.setIfInBounds_toArray, List.set_cons_zero, List.set_cons_succ]
        refine region_take 8 ?_ rfl (by kernel_rfl) (by rfl) hHeld ?_ ?_
        rotate_left
        · intro w hSw
          (try dsimp only at hSw)
          go_simp
          try with_reducible rfl
        try simp only [Act.put, List.setIfInBounds_toArray, List.set_cons_zero, List.set_cons_succ]
        refine region_take 9 ?_ rfl (by kernel_rfl) (by rfl) hHeld ?_ ?_
        rotate_left
        · intro w hSw
          (try dsimp only at hSw)
          go_simp
          try with_reducible rfl
        try simp only [Act.put, List.setIfInBounds_toArray, List.set_cons_zero, List.set_cons_succ]
        refine region_done (by kernel_rfl) ?_
        go_wp2_with fail
        go_ret2
        exact CountPost.yes HR.out.1 HR.out.2 (HB.out.trans (below_drewN (Below.refl _ _) 1))
      · have HR := Lib.hid (HN.out (by omega))
        clear HY HN
        go_enter Tryd.func72, Tryd.ntmps72
        go_wp2_with fail
        refine region_begin (S := fun W => W.cell? ⟨w.heap.size, 1, none⟩ = some (.int .i64 A) ∧ W.cell? ⟨w.heap.size, 2, none⟩ = some (.int .i64 0)) (by kernel_rfl) (HC.out) (fun hHeld => ?_)
        refine region_take 0 ?_ rfl (by kernel_rfl) (by rfl) hHeld ?_ ?_
        rotate_left
        · intro w hSw
          (try dsimp only at hSw)
          go_simp
          try with_reducible rfl
        try simp only [Act.put, List.setIfInBounds_toArray, List.set_cons_zero, List.set_cons_succ]
        refine region_take 1 ?_ rfl (by kernel_rfl) (by rfl) hHeld ?_ ?_
        rotate_left
        · intro w hSw
          (try dsimp only at hSw)
          go_simp
          try with_reducible rfl
        try simp only [Act.put, List.setIfInBounds_toArray, List.set_cons_zero, List.set_cons_succ]
        refine region_call 2 rfl (by kernel_rfl) (by rfl) (fun K hK => ?_)
        go_simp
        refine (within_no _ _ _ _ (by omega)).mono ?_
        rintro e w1 ⟨rfl, rfl⟩
        (try dsimp only)
        refine hK.out _ _ (HC.out) (fun hHeld => ?_)
        clear hK K
        try simp only [Act.put, List.setIfInBounds_toArray, List.set_cons_zero, List.set_cons_succ]
        refine region_take 3 ?_ rfl (by kernel_rfl) (by rfl) hHeld ?_ ?_
        rotate_left
        · intro w hSw
          (try dsimp only at hSw)
          go_simp
          try with_reducible rfl
        try simp only [Act.put, List.setIfInBounds_toArray, List.set_cons_zero, List.set_cons_succ]
        refine region_skip 4 rfl (by kernel_rfl) (by rfl) hHeld ?_
        try simp only [Act.put, List.setIfInBounds_toArray, List.set_cons_zero, List.set_cons_succ]
        refine region_skip 5 rfl (by kernel_rfl) (by rfl) hHeld ?_
        try simp only [Act.put, List.setIfInBounds_toArray, List.set_cons_zero, List.set_cons_succ]
        refine region_skip 6 rfl (by kernel_rfl) (by rfl) hHeld ?_
        try simp only [Act.put, List.setIfInBounds_toArray, List.set_cons_zero, List.set_cons_succ]
        refine region_take 7 ?_ rfl (by kernel_rfl) (by rfl) hHeld ?_ ?_
        rotate_left
        · intro w hSw
          (try dsimp only at hSw)
          go_simp
          try with_reducible rfl
        try simp only [Act.put, List.setIfInBounds_toArray, List.set_cons_zero, List.set_cons_succ]
        refine region_take 8 ?_ rfl (by kernel_rfl) (by rfl) hHeld ?_ ?_
        rotate_left
        · intro w hSw
          (try dsimp only at hSw)
          go_simp
          try with_reducible rfl
        try simp only [Act.put, List.setIfInBounds_toArray, List.set_cons_zero, List.set_cons_succ]
        refine region_take 9 ?_ rfl (by kernel_rfl) (by rfl) hHeld ?_ ?_
        rotate_left
        · intro w hSw
          (try dsimp only at hSw)
          go_simp
          try with_reducible rfl
        try simp only [Act.put, List.setIfInBounds_toArray, List.set_cons_zero, List.set_cons_succ]
        refine region_done (by kernel_rfl) ?_
        go_wp2_with fail
        go_ret2
        exact CountPost.no HR.out (HB.out.trans (below_drewN (Below.refl _ _) 1))
    · have eB : (B == 0) = false := by simpa using zB
      by_cases ha : 0 ≤ A ∧ A ≤ 63
      · obtain ⟨ha1, ha2⟩ := ha
        have HR := Lib.hid (HN.out (by omega))
        clear HY HN
        go_enter Tryd.func72, Tryd.ntmps72
        go_wp2_with fail
        refine region_begin (S := fun W => W.cell? ⟨w.heap.size, 1, none⟩ = some (.int .i64 A) ∧ W.cell? ⟨w.heap.size, 2, none⟩ = some (.int .i64 B)) (by kernel_rfl) (HC.out) (fun hHeld => ?_)
        refine region_take 0 ?_ rfl (by kernel_rfl) (by rfl) hHeld ?_ ?_
        rotate_left
        · intro w hSw
          (try dsimp only at hSw)
          go_simp
          try with_reducible rfl
        try simp only [Act.put, List.setIfInBounds_toArray, List.set_cons_zero, List.set_cons_succ]
        refine region_take 1 ?_ rfl (by kernel_rfl) (by rfl) hHeld ?_ ?_
        rotate_left
        · intro w hSw
          (try dsimp only at hSw)
          go_simp
          try with_reducible rfl
        try simp only [Act.put, List.setIfInBounds_toArray, List.set_cons_zero, List.set_cons_succ]
        refine region_call 2 rfl (by kernel_rfl) (by rfl) (fun K hK => ?_)
        go_simp
        refine (within_yes _ _ _ _ (by omega)).mono ?_
        rintro e w1 ⟨rfl, rfl⟩
        (try dsimp only)
        refine hK.out _ _ (HC.out) (fun hHeld => ?_)
        clear hK K
        try simp only [Act.put, List.setIfInBounds_toArray, List.set_cons_zero, List.set_cons_succ]
        refine region_take 3 ?_ rfl (by kernel_rfl) (by rfl) hHeld ?_ ?_
        rotate_left
        · intro w hSw
          (try dsimp only at hSw)
          go_simp
          try with_reducible rfl
        try simp only [Act.put, List.setIfInBounds_toArray, List.set_cons_zero, List.set_cons_succ]
        refine region_take 4 ?_ rfl (by kernel_rfl) (by rfl) hHeld ?_ ?_
        rotate_left
        · intro w hSw
          (try dsimp only at hSw)
          go_simp
          try with_reducible rfl
        try simp only [Act.put, List.setIfInBounds_toArray, List.set_cons_zero, List.set_cons_succ]
        refine region_take 5 ?_ rfl (by kernel_rfl) (by rfl) hHeld ?_ ?_
        rotate_left
        · intro w hSw
          (try dsimp only at hSw)
          go_simp
          try with_reducible rfl
        try simp only [Act.put, List.setIfInBounds_toArray, List.set_cons_zero, List.set_cons_succ]
        refine region_take 6 ?_ rfl (by kernel_rfl) (by rfl) hHeld ?_ ?_
        rotate_left
        · intro w hSw
          (try dsimp only at hSw)
          go_simp
          try with_reducible rfl
        try simp only [Act.put, List.setIfInBounds_toArray, List.set_cons_zero, List.set_cons_succ]
        refine region_take 7 ?_ rfl (by kernel_rfl) (by rfl) hHeld ?_ ?_
        rotate_left
        · intro w hSw
          (try dsimp only at hSw)
          go_simp
          try with_reducible rfl
        try simp only [Act.put, List.setIfInBounds_toArray, List.set_cons_zero, List.set_cons_succ]
        refine region_take 8 ?_ rfl (by kernel_rfl) (by rfl) hHeld ?_ ?_
        rotate_left
        · intro w hSw
          (try dsimp only at hSw)
          go_simp
          try with_reducible rfl
        try simp only [Act.put, List.setIfInBounds_toArray, List.set_cons_zero, List.set_cons_succ]
        refine region_take 9 ?_ rfl (by kernel_rfl) (by rfl) hHeld ?_ ?_
        rotate_left
        · intro w hSw
          (try dsimp only at hSw)
          go_simp
          try with_reducible rfl
        try simp only [Act.put, List.setIfInBounds_toArray, List.set_cons_zero, List.set_cons_succ]
        refine region_done (by kernel_rfl) ?_
        go_wp2_with fail
        go_ret2
        exact CountPost.no HR.out (HB.out.trans (below_drewN (Below.refl _ _) 1))
      · have HR := Lib.hid (HN.out (by omega))
        clear HY HN
        go_enter Tryd.func72, Tryd.ntmps72
        go_wp2_with fail
        refine region_begin (S := fun W => W.cell? ⟨w.heap.size, 1, none⟩ = some (.int .i64 A) ∧ W.cell? ⟨w.heap.size, 2, none⟩ = some (.int .i64 B)) (by kernel_rfl) (HC.out) (fun hHeld => ?_)
        refine region_take 0 ?_ rfl (by kernel_rfl) (by rfl) hHeld ?_ ?_
        rotate_left
        · intro w hSw
          (try dsimp only at hSw)
          go_simp
          try with_reducible rfl
        try simp only [Act.put, List.setIfInBounds_toArray, List.set_cons_zero, List.set_cons_succ]
        refine region_take 1 ?_ rfl (by kernel_rfl) (by rfl) hHeld ?_ ?_
        rotate_left
        · intro w hSw
          (try dsimp only at hSw)
          go_simp
          try with_reducible rfl
        try simp only [Act.put, List.setIfInBounds_toArray, List.set_cons_zero, List.set_cons_succ]
        refine region_call 2 rfl (by kernel_rfl) (by rfl) (fun K hK => ?_)
        go_simp
        refine (within_no _ _ _ _ (by omega)).mono ?_
        rintro e w1 ⟨rfl, rfl⟩
        (try dsimp only)
        refine hK.out _ _ (HC.out) (fun hHeld => ?_)
        clear hK K
        try simp only [Act.put, List.setIfInBounds_toArray, List.set_cons_zero, List.set_cons_succ]
        refine region_take 3 ?_ rfl (by kernel_rfl) (by rfl) hHeld ?_ ?_
        rotate_left
        · intro w hSw
          (try dsimp only at hSw)
          go_simp
          try with_reducible rfl
        try simp only [Act.put, List.setIfInBounds_toArray, List.set_cons_zero, List.set_cons_succ]
        refine region_skip 4 rfl (by kernel_rfl) (by rfl) hHeld ?_
        try simp only [Act.put, List.setIfInBounds_toArray, List.set_cons_zero, List.set_cons_succ]
        refine region_skip 5 rfl (by kernel_rfl) (by rfl) hHeld ?_
        try simp only [Act.put, List.setIfInBounds_toArray, List.set_cons_zero, List.set_cons_succ]
        refine region_skip 6 rfl (by kernel_rfl) (by rfl) hHeld ?_
        try simp only [Act.put, List.setIfInBounds_toArray, List.set_cons_zero, List.set_cons_succ]
        refine region_take 7 ?_ rfl (by kernel_rfl) (by rfl) hHeld ?_ ?_
        rotate_left
        · intro w hSw
          (try dsimp only at hSw)
          go_simp
          try with_reducible rfl
        try simp only [Act.put, List.setIfInBounds_toArray, List.set_cons_zero, List.set_cons_succ]
        refine region_take 8 ?_ rfl (by kernel_rfl) (by rfl) hHeld ?_ ?_
        rotate_left
        · intro w hSw
          (try dsimp only at hSw)
          go_simp
          try with_reducible rfl
        try simp only [Act.put, List.setIfInBounds_toArray, List.set_cons_zero, List.set_cons_succ]
        refine region_take 9 ?_ rfl (by kernel_rfl) (by rfl) hHeld ?_ ?_
        rotate_left
        · intro w hSw
          (try dsimp only at hSw)
          go_simp
          try with_reducible rfl
        try simp only [Act.put, List.setIfInBounds_toArray, List.set_cons_zero, List.set_cons_succ]
        refine region_done (by kernel_rfl) ?_
        go_wp2_with fail
        go_ret2
        exact CountPost.no HR.out (HB.out.trans (below_drewN (Below.refl _ _) 1))
set_option maxHeartbeats 4000000 in
set_option maxRecDepth 100000 in
theorem count_9 (A B : Int) (w : World) (hwA : I64 A) (hwB : I64 B) : Calls Tryd.prog 72 #[nodeA (9, A, B)] w (CountPost (9, A, B) w) := by
  have HB := Lib.hid (show Below w.heap.size w (w.alloc (.cells #[.int .i64 9, .int .i64 A, .int .i64 B] 53)) from (Below.refl _ _).alloc (Nat.le_refl _) _)
  have hc := holds_at w #[.int .i64 9, .int .i64 A, .int .i64 B] 53 _ rfl
  have c1 := hc.cell (j := 1) rfl
  have c2 := hc.cell (j := 2) rfl
  rw [Nat.zero_add] at c1 c2
  have HC := Lib.hid (show (w.alloc (.cells #[.int .i64 9, .int .i64 A, .int .i64 B] 53)).drew.cell? ⟨w.heap.size, 1, none⟩ = some (.int .i64 A) ∧ (w.alloc (.cells #[.int .i64 9, .int .i64 A, .int .i64 B] 53)).drew.cell? ⟨w.heap.size, 2, none⟩ = some (.int .i64 B) from ⟨c1, c2⟩)
  clear hc c1 c2
  obtain ⟨hA1, hA2⟩ := hwA
  obtain ⟨hB1, hB2⟩ := hwB
  have HY : Hid ((0 ≤ A ∧ A ≤ 63) ∧ (B = 0) → topB (9, A, B) = true ∧ (0 : Int) = (kidsN (9, A, B) : Int)) := Lib.hid fun h =>
    ⟨top_yes (by simp [holdsN]; omega) (by simp) (by simp), by simp [kidsN]; try omega⟩
  have HN : Hid (¬ ((0 ≤ A ∧ A ≤ 63) ∧ (B = 0)) → topB (9, A, B) = false) := Lib.hid fun h => top_no (by simp [holdsN]; omega)
  by_cases zA : A = 0
  · subst zA
    by_cases zB : B = 0
    · subst zB
      have HR := Lib.hid (HY.out (by omega))
      clear HY HN
      go_enter Tryd.func72, Tryd.ntmps72
      go_wp2_with fail
      refine region_begin (S := fun W => W.cell? ⟨w.heap.size, 1, none⟩ = some (.int .i64 0) ∧ W.cell? ⟨w.heap.size, 2, none⟩ = some (.int .i64 0)) (by kernel_rfl) (HC.out) (fun hHeld => ?_)
      refine region_take 0 ?_ rfl (by kernel_rfl) (by rfl) hHeld ?_ ?_
      rotate_left
      · intro w hSw
        (try dsimp only at hSw)
        go_simp
        try with_reducible rfl
      try simp only [Act.put, List.setIfInBounds_toArray, List.set_cons_zero, List.set_cons_succ]
      refine region_take 1 ?_ rfl (by kernel_rfl) (by rfl) hHeld ?_ ?_
      rotate_left
      · intro w hSw
        (try dsimp only at hSw)
        go_simp
        try with_reducible rfl
      try simp only [Act.put, List.setIfInBounds_toArray, List.set_cons_zero, List.set_cons_succ]
      refine region_call 2 rfl (by kernel_rfl) (by rfl) (fun K hK => ?_)
      go_simp
      refine (within_yes _ _ _ _ (by omega)).mono ?_
      rintro e w1 ⟨rfl, rfl⟩
      (try dsimp only)
      refine hK.out _ _ (HC.out) (fun hHeld => ?_)
      clear hK K
      try simp only [Act.put, List.setIfInBounds_toArray, List.set_cons_zero, List.set_cons_succ]
      refine region_take 3 ?_ rfl (by kernel_rfl) (by rfl) hHeld ?_ ?_
      rotate_left
      · intro w hSw
        (try dsimp only at hSw)
        go_simp
        try with_reducible rfl
      try simp only [Act.put, List.setIfInBounds_toArray, List.set_cons_zero, List.set_cons_succ]
      refine region_take 4 ?_ rfl (by kernel_rfl) (by rfl) hHeld ?_ ?_
      rotate_left
      · intro w hSw
        (try dsimp only at hSw)
        go_simp
        try with_reducible rfl
      try simp only [Act.put, List.setIfInBounds_toArray, List.set_cons_zero, List.set_cons_succ]
      refine region_take 5 ?_ rfl (by kernel_rfl) (by rfl) hHeld ?_ ?_
      rotate_left
      · intro w hSw
        (try dsimp only at hSw)
        go_simp
        try with_reducible rfl
      try simp only [Act.put, List.setIfInBounds_toArray, List.set_cons_zero, List.set_cons_succ]
      refine region_take 6 ?_ rfl (by kernel_rfl) (by rfl) hHeld ?_ ?_
      rotate_left
      · intro w hSw
        (try dsimp only at hSw)
        go_simp
        try with_reducible rfl
      try simp only [Act.put, List.setIfInBounds_toArray, List.set_cons_zero, List.set_cons_succ]
      refine region_take 7 ?_ rfl (by kernel_rfl) (by rfl) hHeld ?_ ?_
      rotate_left
      · intro w hSw
        (try dsimp only at hSw)
        go_simp
        try with_reducible rfl
      try simp only [Act.put, List.setIfInBounds_toArray, List.set_cons_zero, List.set_cons_succ]
      refine region_take 8 ?_ rfl (by kernel_rfl) (by rfl) hHeld ?_ ?_
      rotate_left
      · intro w hSw
        (try dsimp only at hSw)
        go_simp
        try with_reducible rfl
      try simp only [Act.put, List.setIfInBounds_toArray, List.set_cons_zero, List.set_cons_succ]
      refine region_take 9 ?_ rfl (by kernel_rfl) (by rfl) hHeld ?_ ?_
      rotate_left
      · intro w hSw
        (try dsimp only at hSw)
        go_simp
        try with_reducible rfl
      try simp only [Act.put, List.setIfInBounds_toArray, List.set_cons_zero, List.set_cons_succ]
      refine region_done (by kernel_rfl) ?_
      go_wp2_with fail
      go_ret2
      exact CountPost.yes HR.out.1 HR.out.2 (HB.out.trans (below_drewN (Below.refl _ _) 1))
    · have eB : (B == 0) = false := by simpa using zB
      have HR := Lib.hid (HN.out (by omega))
      clear HY HN
      go_enter Tryd.func72, Tryd.ntmps72
      go_wp2_with fail
      refine region_begin (S := fun W => W.cell? ⟨w.heap.size, 1, none⟩ = some (.int .i64 0) ∧ W.cell? ⟨w.heap.size, 2, none⟩ = some (.int .i64 B)) (by kernel_rfl) (HC.out) (fun hHeld => ?_)
      refine region_take 0 ?_ rfl (by kernel_rfl) (by rfl) hHeld ?_ ?_
      rotate_left
      · intro w hSw
        (try dsimp only at hSw)
        go_simp
        try with_reducible rfl
      try simp only [Act.put, List.setIfInBounds_toArray, List.set_cons_zero, List.set_cons_succ]
      refine region_take 1 ?_ rfl (by kernel_rfl) (by rfl) hHeld ?_ ?_
      rotate_left
      · intro w hSw
        (try dsimp only at hSw)
        go_simp
        try with_reducible rfl
      try simp only [Act.put, List.setIfInBounds_toArray, List.set_cons_zero, List.set_cons_succ]
      refine region_call 2 rfl (by kernel_rfl) (by rfl) (fun K hK => ?_)
      go_simp
      refine (within_yes _ _ _ _ (by omega)).mono ?_
      rintro e w1 ⟨rfl, rfl⟩
      (try dsimp only)
      refine hK.out _ _ (HC.out) (fun hHeld => ?_)
      clear hK K
      try simp only [Act.put, List.setIfInBounds_toArray, List.set_cons_zero, List.set_cons_succ]
      refine region_take 3 ?_ rfl (by kernel_rfl) (by rfl) hHeld ?_ ?_
      rotate_left
      · intro w hSw
        (try dsimp only at hSw)
        go_simp
        try with_reducible rfl
      try simp only [Act.put, List.setIfInBounds_toArray, List.set_cons_zero, List.set_cons_succ]
      refine region_take 4 ?_ rfl (by kernel_rfl) (by rfl) hHeld ?_ ?_
      rotate_left
      · intro w hSw
        (try dsimp only at hSw)
        go_simp
        try with_reducible rfl
      try simp only [Act.put, List.setIfInBounds_toArray, List.set_cons_zero, List.set_cons_succ]
      refine region_take 5 ?_ rfl (by kernel_rfl) (by rfl) hHeld ?_ ?_
      rotate_left
      · intro w hSw
        (try dsimp only at hSw)
        go_simp
        try with_reducible rfl
      try simp only [Act.put, List.setIfInBounds_toArray, List.set_cons_zero, List.set_cons_succ]
      refine region_take 6 ?_ rfl (by kernel_rfl) (by rfl) hHeld ?_ ?_
      rotate_left
      · intro w hSw
        (try dsimp only at hSw)
        go_simp
        try with_reducible rfl
      try simp only [Act.put, List.setIfInBounds_toArray, List.set_cons_zero, List.set_cons_succ]
      refine region_take 7 ?_ rfl (by kernel_rfl) (by rfl) hHeld ?_ ?_
      rotate_left
      · intro w hSw
        (try dsimp only at hSw)
        go_simp
        try with_reducible rfl
      try simp only [Act.put, List.setIfInBounds_toArray, List.set_cons_zero, List.set_cons_succ]
      refine region_take 8 ?_ rfl (by kernel_rfl) (by rfl) hHeld ?_ ?_
      rotate_left
      · intro w hSw
        (try dsimp only at hSw)
        go_simp
        try with_reducible rfl
      try simp only [Act.put, List.setIfInBounds_toArray, List.set_cons_zero, List.set_cons_succ]
      refine region_take 9 ?_ rfl (by kernel_rfl) (by rfl) hHeld ?_ ?_
      rotate_left
      · intro w hSw
        (try dsimp only at hSw)
        go_simp
        try with_reducible rfl
      try simp only [Act.put, List.setIfInBounds_toArray, List.set_cons_zero, List.set_cons_succ]
      refine region_done (by kernel_rfl) ?_
      go_wp2_with fail
      go_ret2
      exact CountPost.no HR.out (HB.out.trans (below_drewN (Below.refl _ _) 1))
  · have eA : (A == 0) = false := by simpa using zA
    by_cases zB : B = 0
    · subst zB
      by_cases ha : 0 ≤ A ∧ A ≤ 63
      · obtain ⟨ha1, ha2⟩ := ha
        have HR := Lib.hid (HY.out (by omega))
        clear HY HN
        go_enter Tryd.func72, Tryd.ntmps72
        go_wp2_with fail
        refine region_begin (S := fun W => W.cell? ⟨w.heap.size, 1, none⟩ = some (.int .i64 A) ∧ W.cell? ⟨w.heap.size, 2, none⟩ = some (.int .i64 0)) (by kernel_rfl) (HC.out) (fun hHeld => ?_)
        refine region_take 0 ?_ rfl (by kernel_rfl) (by rfl) hHeld ?_ ?_
        rotate_left
        · intro w hSw
          (try dsimp only at hSw)
          go_simp
          try with_reducible rfl
        try simp only [Act.put, List.setIfInBounds_toArray, List.set_cons_zero, List.set_cons_succ]
        refine region_take 1 ?_ rfl (by kernel_rfl) (by rfl) hHeld ?_ ?_
        rotate_left
        · intro w hSw
          (try dsimp only at hSw)
          go_simp
          try with_reducible rfl
        try simp only [Act.put, List.setIfInBounds_toArray, List.set_cons_zero, List.set_cons_succ]
        refine region_call 2 rfl (by kernel_rfl) (by rfl) (fun K hK => ?_)
        go_simp
        refine (within_yes _ _ _ _ (by omega)).mono ?_
        rintro e w1 ⟨rfl, rfl⟩
        (try dsimp only)
        refine hK.out _ _ (HC.out) (fun hHeld => ?_)
        clear hK K
        try simp only [Act.put, List.setIfInBounds_toArray, List.set_cons_zero, List.set_cons_succ]
        refine region_take 3 ?_ rfl (by kernel_rfl) (by rfl) hHeld ?_ ?_
        rotate_left
        · intro w hSw
          (try dsimp only at hSw)
          go_simp
          try with_reducible rfl
        try simp only [Act.put, List.setIfInBounds_toArray, List.set_cons_zero, List.set_cons_succ]
        refine region_take 4 ?_ rfl (by kernel_rfl) (by rfl) hHeld ?_ ?_
        rotate_left
        · intro w hSw
          (try dsimp only at hSw)
          go_simp
          try with_reducible rfl
        try simp only [Act.put, List.setIfInBounds_toArray, List.set_cons_zero, List.set_cons_succ]
        refine region_take 5 ?_ rfl (by kernel_rfl) (by rfl) hHeld ?_ ?_
        rotate_left
        · intro w hSw
          (try dsimp only at hSw)
          go_simp
          try with_reducible rfl
        try simp only [Act.put, List.setIfInBounds_toArray, List.set_cons_zero, List.set_cons_succ]
        refine region_take 6 ?_ rfl (by kernel_rfl) (by rfl) hHeld ?_ ?_
        rotate_left
        · intro w hSw
          (try dsimp only at hSw)
          go_simp
          try with_reducible rfl
        try simp only [Act.put, List.setIfInBounds_toArray, List.set_cons_zero, List.set_cons_succ]
        refine region_take 7 ?_ rfl (by kernel_rfl) (by rfl) hHeld ?_ ?_
        rotate_left
        · intro w hSw
          (try dsimp only at hSw)
          go_simp
          try with_reducible rfl
        try simp only [Act.put, List.setIfInBounds_toArray, List.set_cons_zero, List.set_cons_succ]
        refine region_take 8 ?_ rfl (by kernel_rfl) (by rfl) hHeld ?_ ?_
        rotate_left
        · intro w hSw
          (try dsimp only at hSw)
          go_simp
          try with_reducible rfl
        try simp only [Act.put, List.setIfInBounds_toArray, List.set_cons_zero, List.set_cons_succ]
        refine region_take 9 ?_ rfl (by kernel_rfl) (by rfl) hHeld ?_ ?_
        rotate_left
        · intro w hSw
          (try dsimp only at hSw)
          go_simp
          try with_reducible rfl
        try simp only [Act.put, List.setIfInBounds_toArray, List.set_cons_zero, List.set_cons_succ]
        refine region_done (by kernel_rfl) ?_
        go_wp2_with fail
        go_ret2
        exact CountPost.yes HR.out.1 HR.out.2 (HB.out.trans (below_drewN (Below.refl _ _) 1))
      · have HR := Lib.hid (HN.out (by omega))
        clear HY HN
        go_enter Tryd.func72, Tryd.ntmps72
        go_wp2_with fail
        refine region_begin (S := fun W => W.cell? ⟨w.heap.size, 1, none⟩ = some (.int .i64 A) ∧ W.cell? ⟨w.heap.size, 2, none⟩ = some (.int .i64 0)) (by kernel_rfl) (HC.out) (fun hHeld => ?_)
        refine region_take 0 ?_ rfl (by kernel_rfl) (by rfl) hHeld ?_ ?_
        rotate_left
        · intro w hSw
          (try dsimp only at hSw)
          go_simp
          try with_reducible rfl
        try simp only [Act.put, List.setIfInBounds_toArray, List.set_cons_zero, List.set_cons_succ]
        refine region_take 1 ?_ rfl (by kernel_rfl) (by rfl) hHeld ?_ ?_
        rotate_left
        · intro w hSw
          (try dsimp only at hSw)
          go_simp
          try with_reducible rfl
        try simp only [Act.put, List.setIfInBounds_toArray, List.set_cons_zero, List.set_cons_succ]
        refine region_call 2 rfl (by kernel_rfl) (by rfl) (fun K hK => ?_)
        go_simp
        refine (within_no _ _ _ _ (by omega)).mono ?_
        rintro e w1 ⟨rfl, rfl⟩
        (try dsimp only)
        refine hK.out _ _ (HC.out) (fun hHeld => ?_)
        clear hK K
        try simp only [Act.put, List.setIfInBounds_toArray, List.set_cons_zero, List.set_cons_succ]
        refine region_take 3 ?_ rfl (by kernel_rfl) (by rfl) hHeld ?_ ?_
        rotate_left
        · intro w hSw
          (try dsimp only at hSw)
          go_simp
          try with_reducible rfl
        try simp only [Act.put, List.setIfInBounds_toArray, List.set_cons_zero, List.set_cons_succ]
        refine region_skip 4 rfl (by kernel_rfl) (by rfl) hHeld ?_
        try simp only [Act.put, List.setIfInBounds_toArray, List.set_cons_zero, List.set_cons_succ]
        refine region_skip 5 rfl (by kernel_rfl) (by rfl) hHeld ?_
        try simp only [Act.put, List.setIfInBounds_toArray, List.set_cons_zero, List.set_cons_succ]
        refine region_skip 6 rfl (by kernel_rfl) (by rfl) hHeld ?_
        try simp only [Act.put, List.setIfInBounds_toArray, List.set_cons_zero, List.set_cons_succ]
        refine region_take 7 ?_ rfl (by kernel_rfl) (by rfl) hHeld ?_ ?_
        rotate_left
        · intro w hSw
          (try dsimp only at hSw)
          go_simp
          try with_reducible rfl
        try simp only [Act.put, List.setIfInBounds_toArray, List.set_cons_zero, List.set_cons_succ]
        refine region_take 8 ?_ rfl (by kernel_rfl) (by rfl) hHeld ?_ ?_
        rotate_left
        · intro w hSw
          (try dsimp only at hSw)
          go_simp
          try with_reducible rfl
        try simp only [Act.put, List.setIfInBounds_toArray, List.set_cons_zero, List.set_cons_succ]
        refine region_take 9 ?_ rfl (by kernel_rfl) (by rfl) hHeld ?_ ?_
        rotate_left
        · intro w hSw
          (try dsimp only at hSw)
          go_simp
          try with_reducible rfl
        try simp only [Act.put, List.setIfInBounds_toArray, List.set_cons_zero, List.set_cons_succ]
        refine region_done (by kernel_rfl) ?_
        go_wp2_with fail
        go_ret2
        exact CountPost.no HR.out (HB.out.trans (below_drewN (Below.refl _ _) 1))
    · have eB : (B == 0) = false := by simpa using zB
      by_cases ha : 0 ≤ A ∧ A ≤ 63
      · obtain ⟨ha1, ha2⟩ := ha
        have HR := Lib.hid (HN.out (by omega))
        clear HY HN
        go_enter Tryd.func72, Tryd.ntmps72
        go_wp2_with fail
        refine region_begin (S := fun W => W.cell? ⟨w.heap.size, 1, none⟩ = some (.int .i64 A) ∧ W.cell? ⟨w.heap.size, 2, none⟩ = some (.int .i64 B)) (by kernel_rfl) (HC.out) (fun hHeld => ?_)
        refine region_take 0 ?_ rfl (by kernel_rfl) (by rfl) hHeld ?_ ?_
        rotate_left
        · intro w hSw
          (try dsimp only at hSw)
          go_simp
          try with_reducible rfl
        try simp only [Act.put, List.setIfInBounds_toArray, List.set_cons_zero, List.set_cons_succ]
        refine region_take 1 ?_ rfl (by kernel_rfl) (by rfl) hHeld ?_ ?_
        rotate_left
        · intro w hSw
          (try dsimp only at hSw)
          go_simp
          try with_reducible rfl
        try simp only [Act.put, List.setIfInBounds_toArray, List.set_cons_zero, List.set_cons_succ]
        refine region_call 2 rfl (by kernel_rfl) (by rfl) (fun K hK => ?_)
        go_simp
        refine (within_yes _ _ _ _ (by omega)).mono ?_
        rintro e w1 ⟨rfl, rfl⟩
        (try dsimp only)
        refine hK.out _ _ (HC.out) (fun hHeld => ?_)
        clear hK K
        try simp only [Act.put, List.setIfInBounds_toArray, List.set_cons_zero, List.set_cons_succ]
        refine region_take 3 ?_ rfl (by kernel_rfl) (by rfl) hHeld ?_ ?_
        rotate_left
        · intro w hSw
          (try dsimp only at hSw)
          go_simp
          try with_reducible rfl
        try simp only [Act.put, List.setIfInBounds_toArray, List.set_cons_zero, List.set_cons_succ]
        refine region_take 4 ?_ rfl (by kernel_rfl) (by rfl) hHeld ?_ ?_
        rotate_left
        · intro w hSw
          (try dsimp only at hSw)
          go_simp
          try with_reducible rfl
        try simp only [Act.put, List.setIfInBounds_toArray, List.set_cons_zero, List.set_cons_succ]
        refine region_take 5 ?_ rfl (by kernel_rfl) (by rfl) hHeld ?_ ?_
        rotate_left
        · intro w hSw
          (try dsimp only at hSw)
          go_simp
          try with_reducible rfl
        try simp only [Act.put, List.setIfInBounds_toArray, List.set_cons_zero, List.set_cons_succ]
        refine region_take 6 ?_ rfl (by kernel_rfl) (by rfl) hHeld ?_ ?_
        rotate_left
        · intro w hSw
          (try dsimp only at hSw)
          go_simp
          try with_reducible rfl
        try simp only [Act.put, List.setIfInBounds_toArray, List.set_cons_zero, List.set_cons_succ]
        refine region_take 7 ?_ rfl (by kernel_rfl) (by rfl) hHeld ?_ ?_
        rotate_left
        · intro w hSw
          (try dsimp only at hSw)
          go_simp
          try with_reducible rfl
        try simp only [Act.put, List.setIfInBounds_toArray, List.set_cons_zero, List.set_cons_succ]
        refine region_take 8 ?_ rfl (by kernel_rfl) (by rfl) hHeld ?_ ?_
        rotate_left
        · intro w hSw
          (try dsimp only at hSw)
          go_simp
          try with_reducible rfl
        try simp only [Act.put, List.setIfInBounds_toArray, List.set_cons_zero, List.set_cons_succ]
        refine region_take 9 ?_ rfl (by kernel_rfl) (by rfl) hHeld ?_ ?_
        rotate_left
        · intro w hSw
          (try dsimp only at hSw)
          go_simp
          try with_reducible rfl
        try simp only [Act.put, List.setIfInBounds_toArray, List.set_cons_zero, List.set_cons_succ]
        refine region_done (by kernel_rfl) ?_
        go_wp2_with fail
        go_ret2
        exact CountPost.no HR.out (HB.out.trans (below_drewN (Below.refl _ _) 1))
      · have HR := Lib.hid (HN.out (by omega))
        clear HY HN
        go_enter Tryd.func72, Tryd.ntmps72
        go_wp2_with fail
        refine region_begin (S := fun W => W.cell? ⟨w.heap.size, 1, none⟩ = some (.int .i64 A) ∧ W.cell? ⟨w.heap.size, 2, none⟩ = some (.int .i64 B)) (by kernel_rfl) (HC.out) (fun hHeld => ?_)
        refine region_take 0 ?_ rfl (by kernel_rfl) (by rfl) hHeld ?_ ?_
        rotate_left
        · intro w hSw
          (try dsimp only at hSw)
          go_simp
          try with_reducible rfl
        try simp only [Act.put, List.setIfInBounds_toArray, List.set_cons_zero, List.set_cons_succ]
        refine region_take 1 ?_ rfl (by kernel_rfl) (by rfl) hHeld ?_ ?_
        rotate_left
        · intro w hSw
          (try dsimp only at hSw)
          go_simp
          try with_reducible rfl
        try simp only [Act.put, List.setIfInBounds_toArray, List.set_cons_zero, List.set_cons_succ]
        refine region_call 2 rfl (by kernel_rfl) (by rfl) (fun K hK => ?_)
        go_simp
        refine (within_no _ _ _ _ (by omega)).mono ?_
        rintro e w1 ⟨rfl, rfl⟩
        (try dsimp only)
        refine hK.out _ _ (HC.out) (fun hHeld => ?_)
        clear hK K
        try simp only [Act.put, List.setIfInBounds_toArray, List.set_cons_zero, List.set_cons_succ]
        refine region_take 3 ?_ rfl (by kernel_rfl) (by rfl) hHeld ?_ ?_
        rotate_left
        · intro w hSw
          (try dsimp only at hSw)
          go_simp
          try with_reducible rfl
        try simp only [Act.put, List.setIfInBounds_toArray, List.set_cons_zero, List.set_cons_succ]
        refine region_skip 4 rfl (by kernel_rfl) (by rfl) hHeld ?_
        try simp only [Act.put, List.setIfInBounds_toArray, List.set_cons_zero, List.set_cons_succ]
        refine region_skip 5 rfl (by kernel_rfl) (by rfl) hHeld ?_
        try simp only [Act.put, List.setIfInBounds_toArray, List.set_cons_zero, List.set_cons_succ]
        refine region_skip 6 rfl (by kernel_rfl) (by rfl) hHeld ?_
        try simp only [Act.put, List.setIfInBounds_toArray, List.set_cons_zero, List.set_cons_succ]
        refine region_take 7 ?_ rfl (by kernel_rfl) (by rfl) hHeld ?_ ?_
        rotate_left
        · intro w hSw
          (try dsimp only at hSw)
          go_simp
          try with_reducible rfl
        try simp only [Act.put, List.setIfInBounds_toArray, List.set_cons_zero, List.set_cons_succ]
        refine region_take 8 ?_ rfl (by kernel_rfl) (by rfl) hHeld ?_ ?_
        rotate_left
        · intro w hSw
          (try dsimp only at hSw)
          go_simp
          try with_reducible rfl
        try simp only [Act.put, List.setIfInBounds_toArray, List.set_cons_zero, List.set_cons_succ]
        refine region_take 9 ?_ rfl (by kernel_rfl) (by rfl) hHeld ?_ ?_
        rotate_left
        · intro w hSw
          (try dsimp only at hSw)
          go_simp
          try with_reducible rfl
        try simp only [Act.put, List.setIfInBounds_toArray, List.set_cons_zero, List.set_cons_succ]
        refine region_done (by kernel_rfl) ?_
        go_wp2_with fail
        go_ret2
        exact CountPost.no HR.out (HB.out.trans (below_drewN (Below.refl _ _) 1))
set_option maxHeartbeats 4000000 in
set_option maxRecDepth 100000 in
theorem count_10 (A B : Int) (w : World) (hwA : I64 A) (hwB : I64 B) : Calls Tryd.prog 72 #[nodeA (10, A, B)] w (CountPost (10, A, B) w) := by
  have HB := Lib.hid (show Below w.heap.size w (w.alloc (.cells #[.int .i64 10, .int .i64 A, .int .i64 B] 53)) from (Below.refl _ _).alloc (Nat.le_refl _) _)
  have hc := holds_at w #[.int .i64 10, .int .i64 A, .int .i64 B] 53 _ rfl
  have c1 := hc.cell (j := 1) rfl
  have c2 := hc.cell (j := 2) rfl
  rw [Nat.zero_add] at c1 c2
  have HC := Lib.hid (show (w.alloc (.cells #[.int .i64 10, .int .i64 A, .int .i64 B] 53)).drew.cell? ⟨w.heap.size, 1, none⟩ = some (.int .i64 A) ∧ (w.alloc (.cells #[.int .i64 10, .int .i64 A, .int .i64 B] 53)).drew.cell? ⟨w.heap.size, 2, none⟩ = some (.int .i64 B) from ⟨c1, c2⟩)
  clear hc c1 c2
  obtain ⟨hA1, hA2⟩ := hwA
  obtain ⟨hB1, hB2⟩ := hwB
  have HY : Hid ((0 ≤ A ∧ A ≤ 63) ∧ (0 ≤ B ∧ B ≤ 15) → topB (10, A, B) = true ∧ (0 : Int) = (kidsN (10, A, B) : Int)) := Lib.hid fun h =>
    ⟨top_yes (by simp [holdsN]; omega) (by simp) (by simp), by simp [kidsN]; try omega⟩
  have HN : Hid (¬ ((0 ≤ A ∧ A ≤ 63) ∧ (0 ≤ B ∧ B ≤ 15)) → topB (10, A, B) = false) := Lib.hid fun h => top_no (by simp [holdsN]; omega)
  by_cases zA : A = 0
  · subst zA
    by_cases zB : B = 0
    · subst zB
      have HR := Lib.hid (HY.out (by omega))
      clear HY HN
      go_enter Tryd.func72, Tryd.ntmps72
      go_wp2_with fail
      refine (within_yes _ _ _ _ (by omega)).mono ?_
      rintro e w1 ⟨rfl, rfl⟩
      go_wp2_with fail
      refine (within_yes _ _ _ _ (by omega)).mono ?_
      rintro e w1 ⟨rfl, rfl⟩
      go_wp2_with fail
      go_ret2
      exact CountPost.yes HR.out.1 HR.out.2 HB.out
    · have eB : (B == 0) = false := by simpa using zB
      by_cases hb : 0 ≤ B ∧ B ≤ 15
      · obtain ⟨hb1, hb2⟩ := hb
        have HR := Lib.hid (HY.out (by omega))
        clear HY HN
        go_enter Tryd.func72, Tryd.ntmps72
        go_wp2_with fail
        refine (within_yes _ _ _ _ (by omega)).mono ?_
        rintro e w1 ⟨rfl, rfl⟩
        go_wp2_with fail
        refine (within_yes _ _ _ _ (by omega)).mono ?_
        rintro e w1 ⟨rfl, rfl⟩
        go_wp2_with fail
        go_ret2
        exact CountPost.yes HR.out.1 HR.out.2 HB.out
      · have HR := Lib.hid (HN.out (by omega))
        clear HY HN
        go_enter Tryd.func72, Tryd.ntmps72
        go_wp2_with fail
        refine (within_yes _ _ _ _ (by omega)).mono ?_
        rintro e w1 ⟨rfl, rfl⟩
        go_wp2_with fail
        refine (within_no _ _ _ _ (by omega)).mono ?_
        rintro e w1 ⟨rfl, rfl⟩
        go_wp2_with fail
        go_ret2
        exact CountPost.no HR.out HB.out
  · have eA : (A == 0) = false := by simpa using zA
    by_cases zB : B = 0
    · subst zB
      by_cases ha : 0 ≤ A ∧ A ≤ 63
      · obtain ⟨ha1, ha2⟩ := ha
        have HR := Lib.hid (HY.out (by omega))
        clear HY HN
        go_enter Tryd.func72, Tryd.ntmps72
        go_wp2_with fail
        refine (within_yes _ _ _ _ (by omega)).mono ?_
        rintro e w1 ⟨rfl, rfl⟩
        go_wp2_with fail
        refine (within_yes _ _ _ _ (by omega)).mono ?_
        rintro e w1 ⟨rfl, rfl⟩
        go_wp2_with fail
        go_ret2
        exact CountPost.yes HR.out.1 HR.out.2 HB.out
      · have HR := Lib.hid (HN.out (by omega))
        clear HY HN
        go_enter Tryd.func72, Tryd.ntmps72
        go_wp2_with fail
        refine (within_no _ _ _ _ (by omega)).mono ?_
        rintro e w1 ⟨rfl, rfl⟩
        go_wp2_with fail
        go_ret2
        exact CountPost.no HR.out HB.out
    · have eB : (B == 0) = false := by simpa using zB
      by_cases ha : 0 ≤ A ∧ A ≤ 63
      · obtain ⟨ha1, ha2⟩ := ha
        by_cases hb : 0 ≤ B ∧ B ≤ 15
        · obtain ⟨hb1, hb2⟩ := hb
          have HR := Lib.hid (HY.out (by omega))
          clear HY HN
          go_enter Tryd.func72, Tryd.ntmps72
          go_wp2_with fail
          refine (within_yes _ _ _ _ (by omega)).mono ?_
          rintro e w1 ⟨rfl, rfl⟩
          go_wp2_with fail
          refine (within_yes _ _ _ _ (by omega)).mono ?_
          rintro e w1 ⟨rfl, rfl⟩
          go_wp2_with fail
          go_ret2
          exact CountPost.yes HR.out.1 HR.out.2 HB.out
        · have HR := Lib.hid (HN.out (by omega))
          clear HY HN
          go_enter Tryd.func72, Tryd.ntmps72
          go_wp2_with fail
          refine (within_yes _ _ _ _ (by omega)).mono ?_
          rintro e w1 ⟨rfl, rfl⟩
          go_wp2_with fail
          refine (within_no _ _ _ _ (by omega)).mono ?_
          rintro e w1 ⟨rfl, rfl⟩
          go_wp2_with fail
          go_ret2
          exact CountPost.no HR.out HB.out
      · have HR := Lib.hid (HN.out (by omega))
        clear HY HN
        go_enter Tryd.func72, Tryd.ntmps72
        go_wp2_with fail
        refine (within_no _ _ _ _ (by omega)).mono ?_
        rintro e w1 ⟨rfl, rfl⟩
        go_wp2_with fail
        go_ret2
        exact CountPost.no HR.out HB.out
set_option maxHeartbeats 4000000 in
set_option maxRecDepth 100000 in
theorem count_11 (A B : Int) (w : World) (hwA : I64 A) (hwB : I64 B) : Calls Tryd.prog 72 #[nodeA (11, A, B)] w (CountPost (11, A, B) w) := by
  have HB := Lib.hid (show Below w.heap.size w (w.alloc (.cells #[.int .i64 11, .int .i64 A, .int .i64 B] 53)) from (Below.refl _ _).alloc (Nat.le_refl _) _)
  have hc := holds_at w #[.int .i64 11, .int .i64 A, .int .i64 B] 53 _ rfl
  have c1 := hc.cell (j := 1) rfl
  have c2 := hc.cell (j := 2) rfl
  rw [Nat.zero_add] at c1 c2
  have HC := Lib.hid (show (w.alloc (.cells #[.int .i64 11, .int .i64 A, .int .i64 B] 53)).drew.cell? ⟨w.heap.size, 1, none⟩ = some (.int .i64 A) ∧ (w.alloc (.cells #[.int .i64 11, .int .i64 A, .int .i64 B] 53)).drew.cell? ⟨w.heap.size, 2, none⟩ = some (.int .i64 B) from ⟨c1, c2⟩)
  clear hc c1 c2
  obtain ⟨hA1, hA2⟩ := hwA
  obtain ⟨hB1, hB2⟩ := hwB
  have HY : Hid ((0 ≤ A ∧ A ≤ 63) ∧ (0 ≤ B ∧ B ≤ 16) → topB (11, A, B) = true ∧ (2 + B : Int) = (kidsN (11, A, B) : Int)) := Lib.hid fun h =>
    ⟨top_yes (by simp [holdsN]; omega) (by simp) (by simp), by simp [kidsN]; try omega⟩
  have HN : Hid (¬ ((0 ≤ A ∧ A ≤ 63) ∧ (0 ≤ B ∧ B ≤ 16)) → topB (11, A, B) = false) := Lib.hid fun h => top_no (by simp [holdsN]; omega)
  by_cases zA : A = 0
  · subst zA
    by_cases zB : B = 0
    · subst zB
      have HR := Lib.hid (HY.out (by omega))
      clear HY HN
      go_enter Tryd.func72, Tryd.ntmps72
      go_wp2_with fail
      refine region_begin (S := fun W => W.cell? ⟨w.heap.size, 1, none⟩ = some (.int .i64 0) ∧ W.cell? ⟨w.heap.size, 2, none⟩ = some (.int .i64 0)) (by kernel_rfl) (HC.out) (fun hHeld => ?_)
      refine region_take 0 ?_ rfl (by kernel_rfl) (by rfl) hHeld ?_ ?_
      rotate_left
      · intro w hSw
        (try dsimp only at hSw)
        go_simp
        try with_reducible rfl
      try simp only [Act.put, List.setIfInBounds_toArray, List.set_cons_zero, List.set_cons_succ]
      refine region_take 1 ?_ rfl (by kernel_rfl) (by rfl) hHeld ?_ ?_
      rotate_left
      · intro w hSw
        (try dsimp only at hSw)
        go_simp
        try with_reducible rfl
      try simp only [Act.put, List.setIfInBounds_toArray, List.set_cons_zero, List.set_cons_succ]
      refine region_take 2 ?_ rfl (by kernel_rfl) (by rfl) hHeld ?_ ?_
      rotate_left
      · intro w hSw
        (try dsimp only at hSw)
        go_simp
        try with_reducible rfl
      try simp only [Act.put, List.setIfInBounds_toArray, List.set_cons_zero, List.set_cons_succ]
      refine region_take 3 ?_ rfl (by kernel_rfl) (by rfl) hHeld ?_ ?_
      rotate_left
      · intro w hSw
        (try dsimp only at hSw)
        go_simp
        try with_reducible rfl
      try simp only [Act.put, List.setIfInBounds_toArray, List.set_cons_zero, List.set_cons_succ]
      refine region_take 4 ?_ rfl (by kernel_rfl) (by rfl) hHeld ?_ ?_
      rotate_left
      · intro w hSw
        (try dsimp only at hSw)
        go_simp
        try with_reducible rfl
      try simp only [Act.put, List.setIfInBounds_toArray, List.set_cons_zero, List.set_cons_succ]
      refine region_call 5 rfl (by kernel_rfl) (by rfl) (fun K hK => ?_)
      go_simp
      refine (within_yes _ _ _ _ (by omega)).mono ?_
      rintro e w1 ⟨rfl, rfl⟩
      (try dsimp only)
      refine hK.out _ _ (HC.out) (fun hHeld => ?_)
      clear hK K
      try simp only [Act.put, List.setIfInBounds_toArray, List.set_cons_zero, List.set_cons_succ]
      refine region_take 6 ?_ rfl (by kernel_rfl) (by rfl) hHeld ?_ ?_
      rotate_left
      · intro w hSw
        (try dsimp only at hSw)
        go_simp
        try with_reducible rfl
      try simp only [Act.put, List.setIfInBounds_toArray, List.set_cons_zero, List.set_cons_succ]
      refine region_take 7 ?_ rfl (by kernel_rfl) (by rfl) hHeld ?_ ?_
      rotate_left
      · intro w hSw
        (try dsimp only at hSw)
        go_simp
        try with_reducible rfl
      try simp only [Act.put, List.setIfInBounds_toArray, List.set_cons_zero, List.set_cons_succ]
      refine region_take 8 ?_ rfl (by kernel_rfl) (by rfl) hHeld ?_ ?_
      rotate_left
      · intro w hSw
        (try dsimp only at hSw)
        go_simp
        try with_reducible rfl
      try simp only [Act.put, List.setIfInBounds_toArray, List.set_cons_zero, List.set_cons_succ]
      refine region_call 9 rfl (by kernel_rfl) (by rfl) (fun K hK => ?_)
      go_simp
      refine (within_yes _ _ _ _ (by omega)).mono ?_
      rintro e w1 ⟨rfl, rfl⟩
      (try dsimp only)
      refine hK.out _ _ (HC.out) (fun hHeld => ?_)
      clear hK K
      try simp only [Act.put, List.setIfInBounds_toArray, List.set_cons_zero, List.set_cons_succ]
      refine region_take 10 ?_ rfl (by kernel_rfl) (by rfl) hHeld ?_ ?_
      rotate_left
      · intro w hSw
        (try dsimp only at hSw)
        go_simp
        try with_reducible rfl
      try simp only [Act.put, List.setIfInBounds_toArray, List.set_cons_zero, List.set_cons_succ]
      refine region_take 11 ?_ rfl (by kernel_rfl) (by rfl) hHeld ?_ ?_
      rotate_left
      · intro w hSw
        (try dsimp only at hSw)
        go_simp
        try with_reducible rfl
      try simp only [Act.put, List.setIfInBounds_toArray, List.set_cons_zero, List.set_cons_succ]
      refine region_take 12 ?_ rfl (by kernel_rfl) (by rfl) hHeld ?_ ?_
      rotate_left
      · intro w hSw
        (try dsimp only at hSw)
        go_simp
        try with_reducible rfl
      try simp only [Act.put, List.setIfInBounds_toArray, List.set_cons_zero, List.set_cons_succ]
      refine region_done (by kernel_rfl) ?_
      go_wp2_with fail
      go_ret2
      exact CountPost.yes HR.out.1 HR.out.2 (HB.out.trans (below_drewN (Below.refl _ _) 1))
    · have eB : (B == 0) = false := by simpa using zB
      by_cases hb : 0 ≤ B ∧ B ≤ 16
      · obtain ⟨hb1, hb2⟩ := hb
        have HR := Lib.hid (HY.out (by omega))
        clear HY HN
        have ew := IntWalk.i64_in (2 + B) (by omega)
        go_enter Tryd.func72, Tryd.ntmps72
        go_wp2_with fail
        refine region_begin (S := fun W => W.cell? ⟨w.heap.size, 1, none⟩ = some (.int .i64 0) ∧ W.cell? ⟨w.heap.size, 2, none⟩ = some (.int .i64 B)) (by kernel_rfl) (HC.out) (fun hHeld => ?_)
        refine region_take 0 ?_ rfl (by kernel_rfl) (by rfl) hHeld ?_ ?_
        rotate_left
        · intro w hSw
          (try dsimp only at hSw)
          go_simp
          try with_reducible rfl
        try simp only [Act.put, List.setIfInBounds_toArray, List.set_cons_zero, List.set_cons_succ]
        refine region_take 1 ?_ rfl (by kernel_rfl) (by rfl) hHeld ?_ ?_
        rotate_left
        · intro w hSw
          (try dsimp only at hSw)
          go_simp
          try with_reducible rfl
        try simp only [Act.put, List.setIfInBounds_toArray, List.set_cons_zero, List.set_cons_succ]
        refine region_take 2 ?_ rfl (by kernel_rfl) (by rfl) hHeld ?_ ?_
        rotate_left
        · intro w hSw
          (try dsimp only at hSw)
          go_simp
          try with_reducible rfl
        try simp only [Act.put, List.setIfInBounds_toArray, List.set_cons_zero, List.set_cons_succ]
        refine region_take 3 ?_ rfl (by kernel_rfl) (by rfl) hHeld ?_ ?_
        rotate_left
        · intro w hSw
          (try dsimp only at hSw)
          go_simp
          try with_reducible rfl
        try simp only [Act.put, List.setIfInBounds_toArray, List.set_cons_zero, List.set_cons_succ]
        refine region_take 4 ?_ rfl (by kernel_rfl) (by rfl) hHeld ?_ ?_
        rotate_left
        · intro w hSw
          (try dsimp only at hSw)
          go_simp
          try with_reducible rfl
        try simp only [Act.put, List.setIfInBounds_toArray, List.set_cons_zero, List.set_cons_succ]
        refine region_call 5 rfl (by kernel_rfl) (by rfl) (fun K hK => ?_)
        go_simp
        refine (within_yes _ _ _ _ (by omega)).mono ?_
        rintro e w1 ⟨rfl, rfl⟩
        (try dsimp only)
        refine hK.out _ _ (HC.out) (fun hHeld => ?_)
        clear hK K
        try simp only [Act.put, List.setIfInBounds_toArray, List.set_cons_zero, List.set_cons_succ]
        refine region_take 6 ?_ rfl (by kernel_rfl) (by rfl) hHeld ?_ ?_
        rotate_left
        · intro w hSw
          (try dsimp only at hSw)
          go_simp
          try with_reducible rfl
        try simp only [Act.put, List.setIfInBounds_toArray, List.set_cons_zero, List.set_cons_succ]
        refine region_take 7 ?_ rfl (by kernel_rfl) (by rfl) hHeld ?_ ?_
        rotate_left
        · intro w hSw
          (try dsimp only at hSw)
          go_simp
          try with_reducible rfl
        try simp only [Act.put, List.setIfInBounds_toArray, List.set_cons_zero, List.set_cons_succ]
        refine region_take 8 ?_ rfl (by kernel_rfl) (by rfl) hHeld ?_ ?_
        rotate_left
        · intro w hSw
          (try dsimp only at hSw)
          go_simp
          try with_reducible rfl
        try simp only [Act.put, List.setIfInBounds_toArray, List.set_cons_zero, List.set_cons_succ]
        refine region_call 9 rfl (by kernel_rfl) (by rfl) (fun K hK => ?_)
        go_simp
        refine (within_yes _ _ _ _ (by omega)).mono ?_
        rintro e w1 ⟨rfl, rfl⟩
        (try dsimp only)
        refine hK.out _ _ (HC.out) (fun hHeld => ?_)
        clear hK K
        try simp only [Act.put, List.setIfInBounds_toArray, List.set_cons_zero, List.set_cons_succ]
        refine region_take 10 ?_ rfl (by kernel_rfl) (by rfl) hHeld ?_ ?_
        rotate_left
        · intro w hSw
          (try dsimp only at hSw)
          go_simp
          try with_reducible rfl
        try simp only [Act.put, List.setIfInBounds_toArray, List.set_cons_zero, List.set_cons_succ]
        refine region_take 11 ?_ rfl (by kernel_rfl) (by rfl) hHeld ?_ ?_
        rotate_left
        · intro w hSw
          (try dsimp only at hSw)
          go_simp
          try with_reducible rfl
        try simp only [Act.put, List.setIfInBounds_toArray, List.set_cons_zero, List.set_cons_succ]
        refine region_take 12 ?_ rfl (by kernel_rfl) (by rfl) hHeld ?_ ?_
        rotate_left
        · intro w hSw
          (try dsimp only at hSw)
          go_simp
          try with_reducible rfl
        try simp only [Act.put, List.setIfInBounds_toArray, List.set_cons_zero, List.set_cons_succ]
        refine region_done (by kernel_rfl) ?_
        go_wp2_with fail
        go_ret2
        exact CountPost.yes HR.out.1 HR.out.2 (HB.out.trans (below_drewN (Below.refl _ _) 1))
      · have HR := Lib.hid (HN.out (by omega))
        clear HY HN
        go_enter Tryd.func72, Tryd.ntmps72
        go_wp2_with fail
        refine region_begin (S := fun W => W.cell? ⟨w.heap.size, 1, none⟩ = some (.int .i64 0) ∧ W.cell? ⟨w.heap.size, 2, none⟩ = some (.int .i64 B)) (by kernel_rfl) (HC.out) (fun hHeld => ?_)
        refine region_take 0 ?_ rfl (by kernel_rfl) (by rfl) hHeld ?_ ?_
        rotate_left
        · intro w hSw
          (try dsimp only at hSw)
          go_simp
          try with_reducible rfl
        try simp only [Act.put, List.setIfInBounds_toArray, List.set_cons_zero, List.set_cons_succ]
        refine region_take 1 ?_ rfl (by kernel_rfl) (by rfl) hHeld ?_ ?_
        rotate_left
        · intro w hSw
          (try dsimp only at hSw)
          go_simp
          try with_reducible rfl
        try simp only [Act.put, List.setIfInBounds_toArray, List.set_cons_zero, List.set_cons_succ]
        refine region_take 2 ?_ rfl (by kernel_rfl) (by rfl) hHeld ?_ ?_
        rotate_left
        · intro w hSw
          (try dsimp only at hSw)
          go_simp
          try with_reducible rfl
        try simp only [Act.put, List.setIfInBounds_toArray, List.set_cons_zero, List.set_cons_succ]
        refine region_take 3 ?_ rfl (by kernel_rfl) (by rfl) hHeld ?_ ?_
        rotate_left
        · intro w hSw
          (try dsimp only at hSw)
          go_simp
          try with_reducible rfl
        try simp only [Act.put, List.setIfInBounds_toArray, List.set_cons_zero, List.set_cons_succ]
        refine region_take 4 ?_ rfl (by kernel_rfl) (by rfl) hHeld ?_ ?_
        rotate_left
        · intro w hSw
          (try dsimp only at hSw)
          go_simp
          try with_reducible rfl
        try simp only [Act.put, List.setIfInBounds_toArray, List.set_cons_zero, List.set_cons_succ]
        refine region_call 5 rfl (by kernel_rfl) (by rfl) (fun K hK => ?_)
        go_simp
        refine (within_yes _ _ _ _ (by omega)).mono ?_
        rintro e w1 ⟨rfl, rfl⟩
        (try dsimp only)
        refine hK.out _ _ (HC.out) (fun hHeld => ?_)
        clear hK K
        try simp only [Act.put, List.setIfInBounds_toArray, List.set_cons_zero, List.set_cons_succ]
        refine region_take 6 ?_ rfl (by kernel_rfl) (by rfl) hHeld ?_ ?_
        rotate_left
        · intro w hSw
          (try dsimp only at hSw)
          go_simp
          try with_reducible rfl
        try simp only [Act.put, List.setIfInBounds_toArray, List.set_cons_zero, List.set_cons_succ]
        refine region_take 7 ?_ rfl (by kernel_rfl) (by rfl) hHeld ?_ ?_
        rotate_left
        · intro w hSw
          (try dsimp only at hSw)
          go_simp
          try with_reducible rfl
        try simp only [Act.put, List.setIfInBounds_toArray, List.set_cons_zero, List.set_cons_succ]
        refine region_take 8 ?_ rfl (by kernel_rfl) (by rfl) hHeld ?_ ?_
        rotate_left
        · intro w hSw
          (try dsimp only at hSw)
          go_simp
          try with_reducible rfl
        try simp only [Act.put, List.setIfInBounds_toArray, List.set_cons_zero, List.set_cons_succ]
        refine region_call 9 rfl (by kernel_rfl) (by rfl) (fun K hK => ?_)
        go_simp
        refine (within_no _ _ _ _ (by omega)).mono ?_
        rintro e w1 ⟨rfl, rfl⟩
        (try dsimp only)
        refine hK.out _ _ (HC.out) (fun hHeld => ?_)
        clear hK K
        try simp only [Act.put, List.setIfInBounds_toArray, List.set_cons_zero, List.set_cons_succ]
        refine region_take 10 ?_ rfl (by kernel_rfl) (by rfl) hHeld ?_ ?_
        rotate_left
        · intro w hSw
          (try dsimp only at hSw)
          go_simp
          try with_reducible rfl
        try simp only [Act.put, List.setIfInBounds_toArray, List.set_cons_zero, List.set_cons_succ]
        refine region_take 11 ?_ rfl (by kernel_rfl) (by rfl) hHeld ?_ ?_
        rotate_left
        · intro w hSw
          (try dsimp only at hSw)
          go_simp
          try with_reducible rfl
        try simp only [Act.put, List.setIfInBounds_toArray, List.set_cons_zero, List.set_cons_succ]
        refine region_take 12 ?_ rfl (by kernel_rfl) (by rfl) hHeld ?_ ?_
        rotate_left
        · intro w hSw
          (try dsimp only at hSw)
          go_simp
          try with_reducible rfl
        try simp only [Act.put, List.setIfInBounds_toArray, List.set_cons_zero, List.set_cons_succ]
        refine region_done (by kernel_rfl) ?_
        go_wp2_with fail
        go_ret2
        exact CountPost.no HR.out (HB.out.trans (below_drewN (Below.refl _ _) 1))
  · have eA : (A == 0) = false := by simpa using zA
    by_cases zB : B = 0
    · subst zB
      by_cases ha : 0 ≤ A ∧ A ≤ 63
      · obtain ⟨ha1, ha2⟩ := ha
        have HR := Lib.hid (HY.out (by omega))
        clear HY HN
        go_enter Tryd.func72, Tryd.ntmps72
        go_wp2_with fail
        refine region_begin (S := fun W => W.cell? ⟨w.heap.size, 1, none⟩ = some (.int .i64 A) ∧ W.cell? ⟨w.heap.size, 2, none⟩ = some (.int .i64 0)) (by kernel_rfl) (HC.out) (fun hHeld => ?_)
        refine region_take 0 ?_ rfl (by kernel_rfl) (by rfl) hHeld ?_ ?_
        rotate_left
        · intro w hSw
          (try dsimp only at hSw)
          go_simp
          try with_reducible rfl
        try simp only [Act.put, List.setIfInBounds_toArray, List.set_cons_zero, List.set_cons_succ]
        refine region_take 1 ?_ rfl (by kernel_rfl) (by rfl) hHeld ?_ ?_
        rotate_left
        · intro w hSw
          (try dsimp only at hSw)
          go_simp
          try with_reducible rfl
        try simp only [Act.put, List.setIfInBounds_toArray, List.set_cons_zero, List.set_cons_succ]
        refine region_take 2 ?_ rfl (by kernel_rfl) (by rfl) hHeld ?_ ?_
        rotate_left
        · intro w hSw
          (try dsimp only at hSw)
          go_simp
          try with_reducible rfl
        try simp only [Act.put, List.setIfInBounds_toArray, List.set_cons_zero, List.set_cons_succ]
        refine region_take 3 ?_ rfl (by kernel_rfl) (by rfl) hHeld ?_ ?_
        rotate_left
        · intro w hSw
          (try dsimp only at hSw)
          go_simp
          try with_reducible rfl
        try simp only [Act.put, List.setIfInBounds_toArray, List.set_cons_zero, List.set_cons_succ]
        refine region_take 4 ?_ rfl (by kernel_rfl) (by rfl) hHeld ?_ ?_
        rotate_left
        · intro w hSw
          (try dsimp only at hSw)
          go_simp
          try with_reducible rfl
        try simp only [Act.put, List.setIfInBounds_toArray, List.set_cons_zero, List.set_cons_succ]
        refine region_call 5 rfl (by kernel_rfl) (by rfl) (fun K hK => ?_)
        go_simp
        refine (within_yes _ _ _ _ (by omega)).mono ?_
        rintro e w1 ⟨rfl, rfl⟩
        (try dsimp only)
        refine hK.out _ _ (HC.out) (fun hHeld => ?_)
        clear hK K
        try simp only [Act.put, List.setIfInBounds_toArray, List.set_cons_zero, List.set_cons_succ]
        refine region_take 6 ?_ rfl (by kernel_rfl) (by rfl) hHeld ?_ ?_
        rotate_left
        · intro w hSw
          (try dsimp only at hSw)
          go_simp
          try with_reducible rfl
        try simp only [Act.put, List.setIfInBounds_toArray, List.set_cons_zero, List.set_cons_succ]
        refine region_take 7 ?_ rfl (by kernel_rfl) (by rfl) hHeld ?_ ?_
        rotate_left
        · intro w hSw
          (try dsimp only at hSw)
          go_simp
          try with_reducible rfl
        try simp only [Act.put, List.setIfInBounds_toArray, List.set_cons_zero, List.set_cons_succ]
        refine region_take 8 ?_ rfl (by kernel_rfl) (by rfl) hHeld ?_ ?_
        rotate_left
        · intro w hSw
          (try dsimp only at hSw)
          go_simp
          try with_reducible rfl
        try simp only [Act.put, List.setIfInBounds_toArray, List.set_cons_zero, List.set_cons_succ]
        refine region_call 9 rfl (by kernel_rfl) (by rfl) (fun K hK => ?_)
        go_simp
        refine (within_yes _ _ _ _ (by omega)).mono ?_
        rintro e w1 ⟨rfl, rfl⟩
        (try dsimp only)
        refine hK.out _ _ (HC.out) (fun hHeld => ?_)
        clear hK K
        try simp only [Act.put, List.setIfInBounds_toArray, List.set_cons_zero, List.set_cons_succ]
        refine region_take 10 ?_ rfl (by kernel_rfl) (by rfl) hHeld ?_ ?_
        rotate_left
        · intro w hSw
          (try dsimp only at hSw)
          go_simp
          try with_reducible rfl
        try simp only [Act.put, List.setIfInBounds_toArray, List.set_cons_zero, List.set_cons_succ]
        refine region_take 11 ?_ rfl (by kernel_rfl) (by rfl) hHeld ?_ ?_
        rotate_left
        · intro w hSw
          (try dsimp only at hSw)
          go_simp
          try with_reducible rfl
        try simp only [Act.put, List.setIfInBounds_toArray, List.set_cons_zero, List.set_cons_succ]
        refine region_take 12 ?_ rfl (by kernel_rfl) (by rfl) hHeld ?_ ?_
        rotate_left
        · intro w hSw
          (try dsimp only at hSw)
          go_simp
          try with_reducible rfl
        try simp only [Act.put, List.setIfInBounds_toArray, List.set_cons_zero, List.set_cons_succ]
        refine region_done (by kernel_rfl) ?_
        go_wp2_with fail
        go_ret2
        exact CountPost.yes HR.out.1 HR.out.2 (HB.out.trans (below_drewN (Below.refl _ _) 1))
      · have HR := Lib.hid (HN.out (by omega))
        clear HY HN
        go_enter Tryd.func72, Tryd.ntmps72
        go_wp2_with fail
        refine region_begin (S := fun W => W.cell? ⟨w.heap.size, 1, none⟩ = some (.int .i64 A) ∧ W.cell? ⟨w.heap.size, 2, none⟩ = some (.int .i64 0)) (by kernel_rfl) (HC.out) (fun hHeld => ?_)
        refine region_take 0 ?_ rfl (by kernel_rfl) (by rfl) hHeld ?_ ?_
        rotate_left
        · intro w hSw
          (try dsimp only at hSw)
          go_simp
          try with_reducible rfl
        try simp only [Act.put, List.setIfInBounds_toArray, List.set_cons_zero, List.set_cons_succ]
        refine region_take 1 ?_ rfl (by kernel_rfl) (by rfl) hHeld ?_ ?_
        rotate_left
        · intro w hSw
          (try dsimp only at hSw)
          go_simp
          try with_reducible rfl
        try simp only [Act.put, List.setIfInBounds_toArray, List.set_cons_zero, List.set_cons_succ]
        refine region_take 2 ?_ rfl (by kernel_rfl) (by rfl) hHeld ?_ ?_
        rotate_left
        · intro w hSw
          (try dsimp only at hSw)
          go_simp
          try with_reducible rfl
        try simp only [Act.put, List.setIfInBounds_toArray, List.set_cons_zero, List.set_cons_succ]
        refine region_take 3 ?_ rfl (by kernel_rfl) (by rfl) hHeld ?_ ?_
        rotate_left
        · intro w hSw
          (try dsimp only at hSw)
          go_simp
          try with_reducible rfl
        try simp only [Act.put, List.setIfInBounds_toArray, List.set_cons_zero, List.set_cons_succ]
        refine region_take 4 ?_ rfl (by kernel_rfl) (by rfl) hHeld ?_ ?_
        rotate_left
        · intro w hSw
          (try dsimp only at hSw)
          go_simp
          try with_reducible rfl
        try simp only [Act.put, List.setIfInBounds_toArray, List.set_cons_zero, List.set_cons_succ]
        refine region_call 5 rfl (by kernel_rfl) (by rfl) (fun K hK => ?_)
        go_simp
        refine (within_no _ _ _ _ (by omega)).mono ?_
        rintro e w1 ⟨rfl, rfl⟩
        (try dsimp only)
        refine hK.out _ _ (HC.out) (fun hHeld => ?_)
        clear hK K
        try simp only [Act.put, List.setIfInBounds_toArray, List.set_cons_zero, List.set_cons_succ]
        refine region_take 6 ?_ rfl (by kernel_rfl) (by rfl) hHeld ?_ ?_
        rotate_left
        · intro w hSw
          (try dsimp only at hSw)
          go_simp
          try with_reducible rfl
        try simp only [Act.put, List.setIfInBounds_toArray, List.set_cons_zero, List.set_cons_succ]
        refine region_skip 7 rfl (by kernel_rfl) (by rfl) hHeld ?_
        try simp only [Act.put, List.setIfInBounds_toArray, List.set_cons_zero, List.set_cons_succ]
        refine region_skip 8 rfl (by kernel_rfl) (by rfl) hHeld ?_
        try simp only [Act.put, List.setIfInBounds_toArray, List.set_cons_zero, List.set_cons_succ]
        refine region_skip 9 rfl (by kernel_rfl) (by rfl) hHeld ?_
        try simp only [Act.put, List.setIfInBounds_toArray, List.set_cons_zero, List.set_cons_succ]
        refine region_take 10 ?_ rfl (by kernel_rfl) (by rfl) hHeld ?_ ?_
        rotate_left
        · intro w hSw
          (try dsimp only at hSw)
          go_simp
          try with_reducible rfl
        try simp only [Act.put, List.setIfInBounds_toArray, List.set_cons_zero, List.set_cons_succ]
        refine region_take 11 ?_ rfl (by kernel_rfl) (by rfl) hHeld ?_ ?_
        rotate_left
        · intro w hSw
          (try dsimp only at hSw)
          go_simp
          try with_reducible rfl
        try simp only [Act.put, List.setIfInBounds_toArray, List.set_cons_zero, List.set_cons_succ]
        refine region_take 12 ?_ rfl (by kernel_rfl) (by rfl) hHeld ?_ ?_
        rotate_left
        · intro w hSw
          (try dsimp only at hSw)
          go_simp
          try with_reducible rfl
        try simp only [Act.put, List.setIfInBounds_toArray, List.set_cons_zero, List.set_cons_succ]
        refine region_done (by kernel_rfl) ?_
        go_wp2_with fail
        go_ret2
        exact CountPost.no HR.out (HB.out.trans (below_drewN (Below.refl _ _) 1))
    · have eB : (B == 0) = false := by simpa using zB
      by_cases ha : 0 ≤ A ∧ A ≤ 63
      · obtain ⟨ha1, ha2⟩ := ha
        by_cases hb : 0 ≤ B ∧ B ≤ 16
        · obtain ⟨hb1, hb2⟩ := hb
          have HR := Lib.hid (HY.out (by omega))
          clear HY HN
          have ew := IntWalk.i64_in (2 + B) (by omega)
          go_enter Tryd.func72, Tryd.ntmps72
          go_wp2_with fail
          refine region_begin (S := fun W => W.cell? ⟨w.heap.size, 1, none⟩ = some (.int .i64 A) ∧ W.cell? ⟨w.heap.size, 2, none⟩ = some (.int .i64 B)) (by kernel_rfl) (HC.out) (fun hHeld => ?_)
          refine region_take 0 ?_ rfl (by kernel_rfl) (by rfl) hHeld ?_ ?_
          rotate_left
          · intro w hSw
            (try dsimp only at hSw)
            go_simp
            try with_reducible rfl
          try simp only [Act.put, List.setIfInBounds_toArray, List.set_cons_zero, List.set_cons_succ]
          refine region_take 1 ?_ rfl (by kernel_rfl) (by rfl) hHeld ?_ ?_
          rotate_left
          · intro w hSw
            (try dsimp only at hSw)
            go_simp
            try with_reducible rfl
          try simp only [Act.put, List.setIfInBounds_toArray, List.set_cons_zero, List.set_cons_succ]
          refine region_take 2 ?_ rfl (by kernel_rfl) (by rfl) hHeld ?_ ?_
          rotate_left
          · intro w hSw
            (try dsimp only at hSw)
            go_simp
            try with_reducible rfl
          try simp only [Act.put, List.setIfInBounds_toArray, List.set_cons_zero, List.set_cons_succ]
          refine region_take 3 ?_ rfl (by kernel_rfl) (by rfl) hHeld ?_ ?_
          rotate_left
          · intro w hSw
            (try dsimp only at hSw)
            go_simp
            try with_reducible rfl
          try simp only [Act.put, List.setIfInBounds_toArray, List.set_cons_zero, List.set_cons_succ]
          refine region_take 4 ?_ rfl (by kernel_rfl) (by rfl) hHeld ?_ ?_
          rotate_left
          · intro w hSw
            (try dsimp only at hSw)
            go_simp
            try with_reducible rfl
          try simp only [Act.put, List.setIfInBounds_toArray, List.set_cons_zero, List.set_cons_succ]
          refine region_call 5 rfl (by kernel_rfl) (by rfl) (fun K hK => ?_)
          go_simp
          refine (within_yes _ _ _ _ (by omega)).mono ?_
          rintro e w1 ⟨rfl, rfl⟩
          (try dsimp only)
          refine hK.out _ _ (HC.out) (fun hHeld => ?_)
          clear hK K
          try simp only [Act.put, List.setIfInBounds_toArray, List.set_cons_zero, List.set_cons_succ]
          refine region_take 6 ?_ rfl (by kernel_rfl) (by rfl) hHeld ?_ ?_
          rotate_left
          · intro w hSw
            (try dsimp only at hSw)
            go_simp
            try with_reducible rfl
          try simp only [Act.put, List.setIfInBounds_toArray, List.set_cons_zero, List.set_cons_succ]
          refine region_take 7 ?_ rfl (by kernel_rfl) (by rfl) hHeld ?_ ?_
          rotate_left
          · intro w hSw
            (try dsimp only at hSw)
            go_simp
            try with_reducible rfl
          try simp only [Act.put, List.setIfInBounds_toArray, List.set_cons_zero, List.set_cons_succ]
          refine region_take 8 ?_ rfl (by kernel_rfl) (by rfl) hHeld ?_ ?_
          rotate_left
          · intro w hSw
            (try dsimp only at hSw)
            go_simp
            try with_reducible rfl
          try simp only [Act.put, List.setIfInBounds_toArray, List.set_cons_zero, List.set_cons_succ]
          refine region_call 9 rfl (by kernel_rfl) (by rfl) (fun K hK => ?_)
          go_simp
          refine (within_yes _ _ _ _ (by omega)).mono ?_
          rintro e w1 ⟨rfl, rfl⟩
          (try dsimp only)
          refine hK.out _ _ (HC.out) (fun hHeld => ?_)
          clear hK K
          try simp only [Act.put, List.setIfInBounds_toArray, List.set_cons_zero, List.set_cons_succ]
          refine region_take 10 ?_ rfl (by kernel_rfl) (by rfl) hHeld ?_ ?_
          rotate_left
          · intro w hSw
            (try dsimp only at hSw)
            go_simp
            try with_reducible rfl
          try simp only [Act.put, List.setIfInBounds_toArray, List.set_cons_zero, List.set_cons_succ]
          refine region_take 11 ?_ rfl (by kernel_rfl) (by rfl) hHeld ?_ ?_
          rotate_left
          · intro w hSw
            (try dsimp only at hSw)
            go_simp
            try with_reducible rfl
          try simp only [Act.put, List.setIfInBounds_toArray, List.set_cons_zero, List.set_cons_succ]
          refine region_take 12 ?_ rfl (by kernel_rfl) (by rfl) hHeld ?_ ?_
          rotate_left
          · intro w hSw
            (try dsimp only at hSw)
            go_simp
            try with_reducible rfl
          try simp only [Act.put, List.setIfInBounds_toArray, List.set_cons_zero, List.set_cons_succ]
          refine region_done (by kernel_rfl) ?_
          go_wp2_with fail
          go_ret2
          exact CountPost.yes HR.out.1 HR.out.2 (HB.out.trans (below_drewN (Below.refl _ _) 1))
        · have HR := Lib.hid (HN.out (by omega))
          clear HY HN
          go_enter Tryd.func72, Tryd.ntmps72
          go_wp2_with fail
          refine region_begin (S := fun W => W.cell? ⟨w.heap.size, 1, none⟩ = some (.int .i64 A) ∧ W.cell? ⟨w.heap.size, 2, none⟩ = some (.int .i64 B)) (by kernel_rfl) (HC.out) (fun hHeld => ?_)
          refine region_take 0 ?_ rfl (by kernel_rfl) (by rfl) hHeld ?_ ?_
          rotate_left
          · intro w hSw
            (try dsimp only at hSw)
            go_simp
            try with_reducible rfl
          try simp only [Act.put, List.setIfInBounds_toArray, List.set_cons_zero, List.set_cons_succ]
          refine region_take 1 ?_ rfl (by kernel_rfl) (by rfl) hHeld ?_ ?_
          rotate_left
          · intro w hSw
            (try dsimp only at hSw)
            go_simp
            try with_reducible rfl
          try simp only [Act.put, List.setIfInBounds_toArray, List.set_cons_zero, List.set_cons_succ]
          refine region_take 2 ?_ rfl (by kernel_rfl) (by rfl) hHeld ?_ ?_
          rotate_left
          · intro w hSw
            (try dsimp only at hSw)
            go_simp
            try with_reducible rfl
          try simp only [Act.put, List.setIfInBounds_toArray, List.set_cons_zero, List.set_cons_succ]
          refine region_take 3 ?_ rfl (by kernel_rfl) (by rfl) hHeld ?_ ?_
          rotate_left
          · intro w hSw
            (try dsimp only at hSw)
            go_simp
            try with_reducible rfl
          try simp only [Act.put, List.setIfInBounds_toArray, List.set_cons_zero, List.set_cons_succ]
          refine region_take 4 ?_ rfl (by kernel_rfl) (by rfl) hHeld ?_ ?_
          rotate_left
          · intro w hSw
            (try dsimp only at hSw)
            go_simp
            try with_reducible rfl
          try simp only [Act.put, List.setIfInBounds_toArray, List.set_cons_zero, List.set_cons_succ]
          refine region_call 5 rfl (by kernel_rfl) (by rfl) (fun K hK => ?_)
          go_simp
          refine (within_yes _ _ _ _ (by omega)).mono ?_
          rintro e w1 ⟨rfl, rfl⟩
          (try dsimp only)
          refine hK.out _ _ (HC.out) (fun hHeld => ?_)
          clear hK K
          try simp only [Act.put, List.setIfInBounds_toArray, List.set_cons_zero, List.set_cons_succ]
          refine region_take 6 ?_ rfl (by kernel_rfl) (by rfl) hHeld ?_ ?_
          rotate_left
          · intro w hSw
            (try dsimp only at hSw)
            go_simp
            try with_reducible rfl
          try simp only [Act.put, List.setIfInBounds_toArray, List.set_cons_zero, List.set_cons_succ]
          refine region_take 7 ?_ rfl (by kernel_rfl) (by rfl) hHeld ?_ ?_
          rotate_left
          · intro w hSw
            (try dsimp only at hSw)
            go_simp
            try with_reducible rfl
          try simp only [Act.put, List.setIfInBounds_toArray, List.set_cons_zero, List.set_cons_succ]
          refine region_take 8 ?_ rfl (by kernel_rfl) (by rfl) hHeld ?_ ?_
          rotate_left
          · intro w hSw
            (try dsimp only at hSw)
            go_simp
            try with_reducible rfl
          try simp only [Act.put, List.setIfInBounds_toArray, List.set_cons_zero, List.set_cons_succ]
          refine region_call 9 rfl (by kernel_rfl) (by rfl) (fun K hK => ?_)
          go_simp
          refine (within_no _ _ _ _ (by omega)).mono ?_
          rintro e w1 ⟨rfl, rfl⟩
          (try dsimp only)
          refine hK.out _ _ (HC.out) (fun hHeld => ?_)
          clear hK K
          try simp only [Act.put, List.setIfInBounds_toArray, List.set_cons_zero, List.set_cons_succ]
          refine region_take 10 ?_ rfl (by kernel_rfl) (by rfl) hHeld ?_ ?_
          rotate_left
          · intro w hSw
            (try dsimp only at hSw)
            go_simp
            try with_reducible rfl
          try simp only [Act.put, List.setIfInBounds_toArray, List.set_cons_zero, List.set_cons_succ]
          refine region_take 11 ?_ rfl (by kernel_rfl) (by rfl) hHeld ?_ ?_
          rotate_left
          · intro w hSw
            (try dsimp only at hSw)
            go_simp
            try with_reducible rfl
          try simp only [Act.put, List.setIfInBounds_toArray, List.set_cons_zero, List.set_cons_succ]
          refine region_take 12 ?_ rfl (by kernel_rfl) (by rfl) hHeld ?_ ?_
          rotate_left
          · intro w hSw
            (try dsimp only at hSw)
            go_simp
            try with_reducible rfl
          try simp only [Act.put, List.setIfInBounds_toArray, List.set_cons_zero, List.set_cons_succ]
          refine region_done (by kernel_rfl) ?_
          go_wp2_with fail
          go_ret2
          exact CountPost.no HR.out (HB.out.trans (below_drewN (Below.refl _ _) 1))
      · have HR := Lib.hid (HN.out (by omega))
        clear HY HN
        go_enter Tryd.func72, Tryd.ntmps72
        go_wp2_with fail
        refine region_begin (S := fun W => W.cell? ⟨w.heap.size, 1, none⟩ = some (.int .i64 A) ∧ W.cell? ⟨w.heap.size, 2, none⟩ = some (.int .i64 B)) (by kernel_rfl) (HC.out) (fun hHeld => ?_)
        refine region_take 0 ?_ rfl (by kernel_rfl) (by rfl) hHeld ?_ ?_
        rotate_left
        · intro w hSw
          (try dsimp only at hSw)
          go_simp
          try with_reducible rfl
        try simp only [Act.put, List.setIfInBounds_toArray, List.set_cons_zero, List.set_cons_succ]
        refine region_take 1 ?_ rfl (by kernel_rfl) (by rfl) hHeld ?_ ?_
        rotate_left
        · intro w hSw
          (try dsimp only at hSw)
          go_simp
          try with_reducible rfl
        try simp only [Act.put, List.setIfInBounds_toArray, List.set_cons_zero, List.set_cons_succ]
        refine region_take 2 ?_ rfl (by kernel_rfl) (by rfl) hHeld ?_ ?_
        rotate_left
        · intro w hSw
          (try dsimp only at hSw)
          go_simp
          try with_reducible rfl
        try simp only [Act.put, List.setIfInBounds_toArray, List.set_cons_zero, List.set_cons_succ]
        refine region_take 3 ?_ rfl (by kernel_rfl) (by rfl) hHeld ?_ ?_
        rotate_left
        · intro w hSw
          (try dsimp only at hSw)
          go_simp
          try with_reducible rfl
        try simp only [Act.put, List.setIfInBounds_toArray, List.set_cons_zero, List.set_cons_succ]
        refine region_take 4 ?_ rfl (by kernel_rfl) (by rfl) hHeld ?_ ?_
        rotate_left
        · intro w hSw
          (try dsimp only at hSw)
          go_simp
          try with_reducible rfl
        try simp only [Act.put, List.setIfInBounds_toArray, List.set_cons_zero, List.set_cons_succ]
        refine region_call 5 rfl (by kernel_rfl) (by rfl) (fun K hK => ?_)
        go_simp
        refine (within_no _ _ _ _ (by omega)).mono ?_
        rintro e w1 ⟨rfl, rfl⟩
        (try dsimp only)
        refine hK.out _ _ (HC.out) (fun hHeld => ?_)
        clear hK K
        try simp only [Act.put, List.setIfInBounds_toArray, List.set_cons_zero, List.set_cons_succ]
        refine region_take 6 ?_ rfl (by kernel_rfl) (by rfl) hHeld ?_ ?_
        rotate_left
        · intro w hSw
          (try dsimp only at hSw)
          go_simp
          try with_reducible rfl
        try simp only [Act.put, List.setIfInBounds_toArray, List.set_cons_zero, List.set_cons_succ]
        refine region_skip 7 rfl (by kernel_rfl) (by rfl) hHeld ?_
        try simp only [Act.put, List.setIfInBounds_toArray, List.set_cons_zero, List.set_cons_succ]
        refine region_skip 8 rfl (by kernel_rfl) (by rfl) hHeld ?_
        try simp only [Act.put, List.setIfInBounds_toArray, List.set_cons_zero, List.set_cons_succ]
        refine region_skip 9 rfl (by kernel_rfl) (by rfl) hHeld ?_
        try simp only [Act.put, List.setIfInBounds_toArray, List.set_cons_zero, List.set_cons_succ]
        refine region_take 10 ?_ rfl (by kernel_rfl) (by rfl) hHeld ?_ ?_
        rotate_left
        · intro w hSw
          (try dsimp only at hSw)
          go_simp
          try with_reducible rfl
        try simp only [Act.put, List.setIfInBounds_toArray, List.set_cons_zero, List.set_cons_succ]
        refine region_take 11 ?_ rfl (by kernel_rfl) (by rfl) hHeld ?_ ?_
        rotate_left
        · intro w hSw
          (try dsimp only at hSw)
          go_simp
          try with_reducible rfl
        try simp only [Act.put, List.setIfInBounds_toArray, List.set_cons_zero, List.set_cons_succ]
        refine region_take 12 ?_ rfl (by kernel_rfl) (by rfl) hHeld ?_ ?_
        rotate_left
        · intro w hSw
          (try dsimp only at hSw)
          go_simp
          try with_reducible rfl
        try simp only [Act.put, List.setIfInBounds_toArray, List.set_cons_zero, List.set_cons_succ]
        refine region_done (by kernel_rfl) ?_
        go_wp2_with fail
        go_ret2
        exact CountPost.no HR.out (HB.out.trans (below_drewN (Below.refl _ _) 1))
set_option maxHeartbeats 4000000 in
set_option maxRecDepth 100000 in
theorem count_12 (A B : Int) (w : World) (hwA : I64 A) (hwB : I64 B) : Calls Tryd.prog 72 #[nodeA (12, A, B)] w (CountPost (12, A, B) w) := by
  have HB := Lib.hid (show Below w.heap.size w (w.alloc (.cells #[.int .i64 12, .int .i64 A, .int .i64 B] 53)) from (Below.refl _ _).alloc (Nat.le_refl _) _)
  have hc := holds_at w #[.int .i64 12, .int .i64 A, .int .i64 B] 53 _ rfl
  have c1 := hc.cell (j := 1) rfl
  have c2 := hc.cell (j := 2) rfl
  rw [Nat.zero_add] at c1 c2
  have HC := Lib.hid (show (w.alloc (.cells #[.int .i64 12, .int .i64 A, .int .i64 B] 53)).drew.cell? ⟨w.heap.size, 1, none⟩ = some (.int .i64 A) ∧ (w.alloc (.cells #[.int .i64 12, .int .i64 A, .int .i64 B] 53)).drew.cell? ⟨w.heap.size, 2, none⟩ = some (.int .i64 B) from ⟨c1, c2⟩)
  clear hc c1 c2
  obtain ⟨hA1, hA2⟩ := hwA
  obtain ⟨hB1, hB2⟩ := hwB
  have HY : Hid ((1 ≤ B ∧ B ≤ 4) ∧ (0 ≤ A ∧ A ≤ B - 1) → topB (12, A, B) = true ∧ (2 * B : Int) = (kidsN (12, A, B) : Int)) := Lib.hid fun h =>
    ⟨top_yes (by simp [holdsN]; omega) (by simp) (by simp), by simp [kidsN]; try omega⟩
  have HN : Hid (¬ ((1 ≤ B ∧ B ≤ 4) ∧ (0 ≤ A ∧ A ≤ B - 1)) → topB (12, A, B) = false) := Lib.hid fun h => top_no (by simp [holdsN]; omega)
  by_cases zA : A = 0
  · subst zA
    by_cases zB : B = 0
    · subst zB
      have HR := Lib.hid (HN.out (by omega))
      clear HY HN
      go_enter Tryd.func72, Tryd.ntmps72
      go_wp2_with fail
      refine region_begin (S := fun W => W.cell? ⟨w.heap.size, 1, none⟩ = some (.int .i64 0) ∧ W.cell? ⟨w.heap.size, 2, none⟩ = some (.int .i64 0)) (by kernel_rfl) (HC.out) (fun hHeld => ?_)
      refine region_take 0 ?_ rfl (by kernel_rfl) (by rfl) hHeld ?_ ?_
      rotate_left
      · intro w hSw
        (try dsimp only at hSw)
        go_simp
        try with_reducible rfl
      try simp only [Act.put, List.setIfInBounds_toArray, List.set_cons_zero, List.set_cons_succ]
      refine region_take 1 ?_ rfl (by kernel_rfl) (by rfl) hHeld ?_ ?_
      rotate_left
      · intro w hSw
        (try dsimp only at hSw)
        go_simp
        try with_reducible rfl
      try simp only [Act.put, List.setIfInBounds_toArray, List.set_cons_zero, List.set_cons_succ]
      refine region_take 2 ?_ rfl (by kernel_rfl) (by rfl) hHeld ?_ ?_
      rotate_left
      · intro w hSw
        (try dsimp only at hSw)
        go_simp
        try with_reducible rfl
      try simp only [Act.put, List.setIfInBounds_toArray, List.set_cons_zero, List.set_cons_succ]
      refine region_take 3 ?_ rfl (by kernel_rfl) (by rfl) hHeld ?_ ?_
      rotate_left
      · intro w hSw
        (try dsimp only at hSw)
        go_simp
        try with_reducible rfl
      try simp only [Act.put, List.setIfInBounds_toArray, List.set_cons_zero, List.set_cons_succ]
      refine region_take 4 ?_ rfl (by kernel_rfl) (by rfl) hHeld ?_ ?_
      rotate_left
      · intro w hSw
        (try dsimp only at hSw)
        go_simp
        try with_reducible rfl
      try simp only [Act.put, List.setIfInBounds_toArray, List.set_cons_zero, List.set_cons_succ]
      refine region_call 5 rfl (by kernel_rfl) (by rfl) (fun K hK => ?_)
      go_simp
      refine (within_no _ _ _ _ (by omega)).mono ?_
      rintro e w1 ⟨rfl, rfl⟩
      (try dsimp only)
      refine hK.out _ _ (HC.out) (fun hHeld => ?_)
      clear hK K
      try simp only [Act.put, List.setIfInBounds_toArray, List.set_cons_zero, List.set_cons_succ]
      refine region_take 6 ?_ rfl (by kernel_rfl) (by rfl) hHeld ?_ ?_
      rotate_left
      · intro w hSw
        (try dsimp only at hSw)
        go_simp
        try with_reducible rfl
      try simp only [Act.put, List.setIfInBounds_toArray, List.set_cons_zero, List.set_cons_succ]
      refine region_skip 7 rfl (by kernel_rfl) (by rfl) hHeld ?_
      try simp only [Act.put, List.setIfInBounds_toArray, List.set_cons_zero, List.set_cons_succ]
      refine region_skip 8 rfl (by kernel_rfl) (by rfl) hHeld ?_
      try simp only [Act.put, List.setIfInBounds_toArray, List.set_cons_zero, List.set_cons_succ]
      refine region_skip 9 rfl (by kernel_rfl) (by rfl) hHeld ?_
      try simp only [Act.put, List.setIfInBounds_toArray, List.set_cons_zero, List.set_cons_succ]
      refine region_skip 10 rfl (by kernel_rfl) (by rfl) hHeld ?_
      try simp only [Act.put, List.setIfInBounds_toArray, List.set_cons_zero, List.set_cons_succ]
      refine region_skip 11 rfl (by kernel_rfl) (by rfl) hHeld ?_
      try simp only [Act.put, List.setIfInBounds_toArray, List.set_cons_zero, List.set_cons_succ]
      refine region_skip 12 rfl (by kernel_rfl) (by rfl) hHeld ?_
      try simp only [Act.put, List.setIfInBounds_toArray, List.set_cons_zero, List.set_cons_succ]
      refine region_take 13 ?_ rfl (by kernel_rfl) (by rfl) hHeld ?_ ?_
      rotate_left
      · intro w hSw
        (try dsimp only at hSw)
        go_simp
        try with_reducible rfl
      try simp only [Act.put, List.setIfInBounds_toArray, List.set_cons_zero, List.set_cons_succ]
      refine region_take 14 ?_ rfl (by kernel_rfl) (by rfl) hHeld ?_ ?_
      rotate_left
      · intro w hSw
        (try dsimp only at hSw)
        go_simp
        try with_reducible rfl
      try simp only [Act.put, List.setIfInBounds_toArray, List.set_cons_zero, List.set_cons_succ]
      refine region_take 15 ?_ rfl (by kernel_rfl) (by rfl) hHeld ?_ ?_
      rotate_left
      · intro w hSw
        (try dsimp only at hSw)
        go_simp
        try with_reducible rfl
      try simp only [Act.put, List.setIfInBounds_toArray, List.set_cons_zero, List.set_cons_succ]
      refine region_done (by kernel_rfl) ?_
      go_wp2_with fail
      go_ret2
      exact CountPost.no HR.out (HB.out.trans (below_drewN (Below.refl _ _) 1))
    · have eB : (B == 0) = false := by simpa using zB
      by_cases hb : 1 ≤ B ∧ B ≤ 4
      · obtain ⟨hb1, hb2⟩ := hb
        have HR := Lib.hid (HY.out (by omega))
        clear HY HN
        have ew := IntWalk.i64_in (2 * B) (by omega)
        have ew1 := IntWalk.i64_in (B - 1) (by omega)
        go_enter Tryd.func72, Tryd.ntmps72
        go_wp2_with fail
        refine region_begin (S := fun W => W.cell? ⟨w.heap.size, 1, none⟩ = some (.int .i64 0) ∧ W.cell? ⟨w.heap.size, 2, none⟩ = some (.int .i64 B)) (by kernel_rfl) (HC.out) (fun hHeld => ?_)
        refine region_take 0 ?_ rfl (by kernel_rfl) (by rfl) hHeld ?_ ?_
        rotate_left
        · intro w hSw
          (try dsimp only at hSw)
          go_simp
          try with_reducible rfl
        try simp only [Act.put, List.setIfInBounds_toArray, List.set_cons_zero, List.set_cons_succ]
        refine region_take 1 ?_ rfl (by kernel_rfl) (by rfl) hHeld ?_ ?_
        rotate_left
        · intro w hSw
          (try dsimp only at hSw)
          go_simp
          try with_reducible rfl
        try simp only [Act.put, List.setIfInBounds_toArray, List.set_cons_zero, List.set_cons_succ]
        refine region_take 2 ?_ rfl (by kernel_rfl) (by rfl) hHeld ?_ ?_
        rotate_left
        · intro w hSw
          (try dsimp only at hSw)
          go_simp
          try with_reducible rfl
        try simp only [Act.put, List.setIfInBounds_toArray, List.set_cons_zero, List.set_cons_succ]
        refine region_take 3 ?_ rfl (by kernel_rfl) (by rfl) hHeld ?_ ?_
        rotate_left
        · intro w hSw
          (try dsimp only at hSw)
          go_simp
          try with_reducible rfl
        try simp only [Act.put, List.setIfInBounds_toArray, List.set_cons_zero, List.set_cons_succ]
        refine region_take 4 ?_ rfl (by kernel_rfl) (by rfl) hHeld ?_ ?_
        rotate_left
        · intro w hSw
          (try dsimp only at hSw)
          go_simp
          try with_reducible rfl
        try simp only [Act.put, List.setIfInBounds_toArray, List.set_cons_zero, List.set_cons_succ]
        refine region_call 5 rfl (by kernel_rfl) (by rfl) (fun K hK => ?_)
        go_simp
        refine (within_yes _ _ _ _ (by omega)).mono ?_
        rintro e w1 ⟨rfl, rfl⟩
        (try dsimp only)
        refine hK.out _ _ (HC.out) (fun hHeld => ?_)
        clear hK K
        try simp only [Act.put, List.setIfInBounds_toArray, List.set_cons_zero, List.set_cons_succ]
        refine region_take 6 ?_ rfl (by kernel_rfl) (by rfl) hHeld ?_ ?_
        rotate_left
        · intro w hSw
          (try dsimp only at hSw)
          go_simp
          try with_reducible rfl
        try simp only [Act.put, List.setIfInBounds_toArray, List.set_cons_zero, List.set_cons_succ]
        refine region_take 7 ?_ rfl (by kernel_rfl) (by rfl) hHeld ?_ ?_
        rotate_left
        · intro w hSw
          (try dsimp only at hSw)
          go_simp
          try with_reducible rfl
        try simp only [Act.put, List.setIfInBounds_toArray, List.set_cons_zero, List.set_cons_succ]
        refine region_take 8 ?_ rfl (by kernel_rfl) (by rfl) hHeld ?_ ?_
        rotate_left
        · intro w hSw
          (try dsimp only at hSw)
          go_simp
          try with_reducible rfl
        try simp only [Act.put, List.setIfInBounds_toArray, List.set_cons_zero, List.set_cons_succ]
        refine region_take 9 ?_ rfl (by kernel_rfl) (by rfl) hHeld ?_ ?_
        rotate_left
        · intro w hSw
          (try dsimp only at hSw)
          go_simp
          try with_reducible rfl
        try simp only [Act.put, List.setIfInBounds_toArray, List.set_cons_zero, List.set_cons_succ]
        refine region_take 10 ?_ rfl (by kernel_rfl) (by rfl) hHeld ?_ ?_
        rotate_left
        · intro w hSw
          (try dsimp only at hSw)
          go_simp
          try with_reducible rfl
        try simp only [Act.put, List.setIfInBounds_toArray, List.set_cons_zero, List.set_cons_succ]
        refine region_take 11 ?_ rfl (by kernel_rfl) (by rfl) hHeld ?_ ?_
        rotate_left
        · intro w hSw
          (try dsimp only at hSw)
          go_simp
          try with_reducible rfl
        try simp only [Act.put, List.setIfInBounds_toArray, List.set_cons_zero, List.set_cons_succ]
        refine region_call 12 rfl (by kernel_rfl) (by rfl) (fun K hK => ?_)
        go_simp
        refine (within_yes _ _ _ _ (by omega)).mono ?_
        rintro e w1 ⟨rfl, rfl⟩
        (try dsimp only)
        refine hK.out _ _ (HC.out) (fun hHeld => ?_)
        clear hK K
        try simp only [Act.put, List.setIfInBounds_toArray, List.set_cons_zero, List.set_cons_succ]
        refine region_take 13 ?_ rfl (by kernel_rfl) (by rfl) hHeld ?_ ?_
        rotate_left
        · intro w hSw
          (try dsimp only at hSw)
          go_simp
          try with_reducible rfl
        try simp only [Act.put, List.setIfInBounds_toArray, List.set_cons_zero, List.set_cons_succ]
        refine region_take 14 ?_ rfl (by kernel_rfl) (by rfl) hHeld ?_ ?_
        rotate_left
        · intro w hSw
          (try dsimp only at hSw)
          go_simp
          try with_reducible rfl
        try simp only [Act.put, List.setIfInBounds_toArray, List.set_cons_zero, List.set_cons_succ]
        refine region_take 15 ?_ rfl (by kernel_rfl) (by rfl) hHeld ?_ ?_
        rotate_left
        · intro w hSw
          (try dsimp only at hSw)
          go_simp
          try with_reducible rfl
        try simp only [Act.put, List.setIfInBounds_toArray, List.set_cons_zero, List.set_cons_succ]
        refine region_done (by kernel_rfl) ?_
        go_wp2_with fail
        go_ret2
        exact CountPost.yes HR.out.1 HR.out.2 (HB.out.trans (below_drewN (Below.refl _ _) 1))
      · have HR := Lib.hid (HN.out (by omega))
        clear HY HN
        go_enter Tryd.func72, Tryd.ntmps72
        go_wp2_with fail
        refine region_begin (S := fun W => W.cell? ⟨w.heap.size, 1, none⟩ = some (.int .i64 0) ∧ W.cell? ⟨w.heap.size, 2, none⟩ = some (.int .i64 B)) (by kernel_rfl) (HC.out) (fun hHeld => ?_)
        refine region_take 0 ?_ rfl (by kernel_rfl) (by rfl) hHeld ?_ ?_
        rotate_left
        · intro w hSw
          (try dsimp only at hSw)
          go_simp
          try with_reducible rfl
        try simp only [Act.put, List.setIfInBounds_toArray, List.set_cons_zero, List.set_cons_succ]
        refine region_take 1 ?_ rfl (by kernel_rfl) (by rfl) hHeld ?_ ?_
        rotate_left
        · intro w hSw
          (try dsimp only at hSw)
          go_simp
          try with_reducible rfl
        try simp only [Act.put, List.setIfInBounds_toArray, List.set_cons_zero, List.set_cons_succ]
        refine region_take 2 ?_ rfl (by kernel_rfl) (by rfl) hHeld ?_ ?_
        rotate_left
        · intro w hSw
          (try dsimp only at hSw)
          go_simp
          try with_reducible rfl
        try simp only [Act.put, List.setIfInBounds_toArray, List.set_cons_zero, List.set_cons_succ]
        refine region_take 3 ?_ rfl (by kernel_rfl) (by rfl) hHeld ?_ ?_
        rotate_left
        · intro w hSw
          (try dsimp only at hSw)
          go_simp
          try with_reducible rfl
        try simp only [Act.put, List.setIfInBounds_toArray, List.set_cons_zero, List.set_cons_succ]
        refine region_take 4 ?_ rfl (by kernel_rfl) (by rfl) hHeld ?_ ?_
        rotate_left
        · intro w hSw
          (try dsimp only at hSw)
          go_simp
          try with_reducible rfl
        try simp only [Act.put, List.setIfInBounds_toArray, List.set_cons_zero, List.set_cons_succ]
        refine region_call 5 rfl (by kernel_rfl) (by rfl) (fun K hK => ?_)
        go_simp
        refine (within_no _ _ _ _ (by omega)).mono ?_
        rintro e w1 ⟨rfl, rfl⟩
        (try dsimp only)
        refine hK.out _ _ (HC.out) (fun hHeld => ?_)
        clear hK K
        try simp only [Act.put, List.setIfInBounds_toArray, List.set_cons_zero, List.set_cons_succ]
        refine region_take 6 ?_ rfl (by kernel_rfl) (by rfl) hHeld ?_ ?_
        rotate_left
        · intro w hSw
          (try dsimp only at hSw)
          go_simp
          try with_reducible rfl
        try simp only [Act.put, List.setIfInBounds_toArray, List.set_cons_zero, List.set_cons_succ]
        refine region_skip 7 rfl (by kernel_rfl) (by rfl) hHeld ?_
        try simp only [Act.put, List.setIfInBounds_toArray, List.set_cons_zero, List.set_cons_succ]
        refine region_skip 8 rfl (by kernel_rfl) (by rfl) hHeld ?_
        try simp only [Act.put, List.setIfInBounds_toArray, List.set_cons_zero, List.set_cons_succ]
        refine region_skip 9 rfl (by kernel_rfl) (by rfl) hHeld ?_
        try simp only [Act.put, List.setIfInBounds_toArray, List.set_cons_zero, List.set_cons_succ]
        refine region_skip 10 rfl (by kernel_rfl) (by rfl) hHeld ?_
        try simp only [Act.put, List.setIfInBounds_toArray, List.set_cons_zero, List.set_cons_succ]
        refine region_skip 11 rfl (by kernel_rfl) (by rfl) hHeld ?_
        try simp only [Act.put, List.setIfInBounds_toArray, List.set_cons_zero, List.set_cons_succ]
        refine region_skip 12 rfl (by kernel_rfl) (by rfl) hHeld ?_
        try simp only [Act.put, List.setIfInBounds_toArray, List.set_cons_zero, List.set_cons_succ]
        refine region_take 13 ?_ rfl (by kernel_rfl) (by rfl) hHeld ?_ ?_
        rotate_left
        · intro w hSw
          (try dsimp only at hSw)
          go_simp
          try with_reducible rfl
        try simp only [Act.put, List.setIfInBounds_toArray, List.set_cons_zero, List.set_cons_succ]
        refine region_take 14 ?_ rfl (by kernel_rfl) (by rfl) hHeld ?_ ?_
        rotate_left
        · intro w hSw
          (try dsimp only at hSw)
          go_simp
          try with_reducible rfl
        try simp only [Act.put, List.setIfInBounds_toArray, List.set_cons_zero, List.set_cons_succ]
        refine region_take 15 ?_ rfl (by kernel_rfl) (by rfl) hHeld ?_ ?_
        rotate_left
        · intro w hSw
          (try dsimp only at hSw)
          go_simp
          try with_reducible rfl
        try simp only [Act.put, List.setIfInBounds_toArray, List.set_cons_zero, List.set_cons_succ]
        refine region_done (by kernel_rfl) ?_
        go_wp2_with fail
        go_ret2
        exact CountPost.no HR.out (HB.out.trans (below_drewN (Below.refl _ _) 1))
  · have eA : (A == 0) = false := by simpa using zA
    by_cases zB : B = 0
    · subst zB
      have HR := Lib.hid (HN.out (by omega))
      clear HY HN
      go_enter Tryd.func72, Tryd.ntmps72
      go_wp2_with fail
      refine region_begin (S := fun W => W.cell? ⟨w.heap.size, 1, none⟩ = some (.int .i64 A) ∧ W.cell? ⟨w.heap.size, 2, none⟩ = some (.int .i64 0)) (by kernel_rfl) (HC.out) (fun hHeld => ?_)
      refine region_take 0 ?_ rfl (by kernel_rfl) (by rfl) hHeld ?_ ?_
      rotate_left
      · intro w hSw
        (try dsimp only at hSw)
        go_simp
        try with_reducible rfl
      try simp only [Act.put, List.setIfInBounds_toArray, List.set_cons_zero, List.set_cons_succ]
      refine region_take 1 ?_ rfl (by kernel_rfl) (by rfl) hHeld ?_ ?_
      rotate_left
      · intro w hSw
        (try dsimp only at hSw)
        go_simp
        try with_reducible rfl
      try simp only [Act.put, List.setIfInBounds_toArray, List.set_cons_zero, List.set_cons_succ]
      refine region_take 2 ?_ rfl (by kernel_rfl) (by rfl) hHeld ?_ ?_
      rotate_left
      · intro w hSw
        (try dsimp only at hSw)
        go_simp
        try with_reducible rfl
      try simp only [Act.put, List.setIfInBounds_toArray, List.set_cons_zero, List.set_cons_succ]
      refine region_take 3 ?_ rfl (by kernel_rfl) (by rfl) hHeld ?_ ?_
      rotate_left
      · intro w hSw
        (try dsimp only at hSw)
        go_simp
        try with_reducible rfl
      try simp only [Act.put, List.setIfInBounds_toArray, List.set_cons_zero, List.set_cons_succ]
      refine region_take 4 ?_ rfl (by kernel_rfl) (by rfl) hHeld ?_ ?_
      rotate_left
      · intro w hSw
        (try dsimp only at hSw)
        go_simp
        try with_reducible rfl
      try simp only [Act.put, List.setIfInBounds_toArray, List.set_cons_zero, List.set_cons_succ]
      refine region_call 5 rfl (by kernel_rfl) (by rfl) (fun K hK => ?_)
      go_simp
      refine (within_no _ _ _ _ (by omega)).mono ?_
      rintro e w1 ⟨rfl, rfl⟩
      (try dsimp only)
      refine hK.out _ _ (HC.out) (fun hHeld => ?_)
      clear hK K
      try simp only [Act.put, List.setIfInBounds_toArray, List.set_cons_zero, List.set_cons_succ]
      refine region_take 6 ?_ rfl (by kernel_rfl) (by rfl) hHeld ?_ ?_
      rotate_left
      · intro w hSw
        (try dsimp only at hSw)
        go_simp
        try with_reducible rfl
      try simp only [Act.put, List.setIfInBounds_toArray, List.set_cons_zero, List.set_cons_succ]
      refine region_skip 7 rfl (by kernel_rfl) (by rfl) hHeld ?_
      try simp only [Act.put, List.setIfInBounds_toArray, List.set_cons_zero, List.set_cons_succ]
      refine region_skip 8 rfl (by kernel_rfl) (by rfl) hHeld ?_
      try simp only [Act.put, List.setIfInBounds_toArray, List.set_cons_zero, List.set_cons_succ]
      refine region_skip 9 rfl (by kernel_rfl) (by rfl) hHeld ?_
      try simp only [Act.put, List.setIfInBounds_toArray, List.set_cons_zero, List.set_cons_succ]
      refine region_skip 10 rfl (by kernel_rfl) (by rfl) hHeld ?_
      try simp only [Act.put, List.setIfInBounds_toArray, List.set_cons_zero, List.set_cons_succ]
      refine region_skip 11 rfl (by kernel_rfl) (by rfl) hHeld ?_
      try simp only [Act.put, List.setIfInBounds_toArray, List.set_cons_zero, List.set_cons_succ]
      refine region_skip 12 rfl (by kernel_rfl) (by rfl) hHeld ?_
      try simp only [Act.put, List.setIfInBounds_toArray, List.set_cons_zero, List.set_cons_succ]
      refine region_take 13 ?_ rfl (by kernel_rfl) (by rfl) hHeld ?_ ?_
      rotate_left
      · intro w hSw
        (try dsimp only at hSw)
        go_simp
        try with_reducible rfl
      try simp only [Act.put, List.setIfInBounds_toArray, List.set_cons_zero, List.set_cons_succ]
      refine region_take 14 ?_ rfl (by kernel_rfl) (by rfl) hHeld ?_ ?_
      rotate_left
      · intro w hSw
        (try dsimp only at hSw)
        go_simp
        try with_reducible rfl
      try simp only [Act.put, List.setIfInBounds_toArray, List.set_cons_zero, List.set_cons_succ]
      refine region_take 15 ?_ rfl (by kernel_rfl) (by rfl) hHeld ?_ ?_
      rotate_left
      · intro w hSw
        (try dsimp only at hSw)
        go_simp
        try with_reducible rfl
      try simp only [Act.put, List.setIfInBounds_toArray, List.set_cons_zero, List.set_cons_succ]
      refine region_done (by kernel_rfl) ?_
      go_wp2_with fail
      go_ret2
      exact CountPost.no HR.out (HB.out.trans (below_drewN (Below.refl _ _) 1))
    · have eB : (B == 0) = false := by simpa using zB
      by_cases hb : 1 ≤ B ∧ B ≤ 4
      · obtain ⟨hb1, hb2⟩ := hb
        by_cases ha : 0 ≤ A ∧ A ≤ B - 1
        · obtain ⟨ha1, ha2⟩ := ha
          have HR := Lib.hid (HY.out (by omega))
          clear HY HN
          have ew := IntWalk.i64_in (2 * B) (by omega)
          have ew1 := IntWalk.i64_in (B - 1) (by omega)
          go_enter Tryd.func72, Tryd.ntmps72
          go_wp2_with fail
          refine region_begin (S := fun W => W.cell? ⟨w.heap.size, 1, none⟩ = some (.int .i64 A) ∧ W.cell? ⟨w.heap.size, 2, none⟩ = some (.int .i64 B)) (by kernel_rfl) (HC.out) (fun hHeld => ?_)
          refine region_take 0 ?_ rfl (by kernel_rfl) (by rfl) hHeld ?_ ?_
          rotate_left
          · intro w hSw
            (try dsimp only at hSw)
            go_simp
            try with_reducible rfl
          try simp only [Act.put, List.setIfInBounds_toArray, List.set_cons_zero, List.set_cons_succ]
          refine region_take 1 ?_ rfl (by kernel_rfl) (by rfl) hHeld ?_ ?_
          rotate_left
          · intro w hSw
            (try dsimp only at hSw)
            go_simp
            try with_reducible rfl
          try simp only [Act.put, List.setIfInBounds_toArray, List.set_cons_zero, List.set_cons_succ]
          refine region_take 2 ?_ rfl (by kernel_rfl) (by rfl) hHeld ?_ ?_
          rotate_left
          · intro w hSw
            (try dsimp only at hSw)
            go_simp
            try with_reducible rfl
          try simp only [Act.put, List.setIfInBounds_toArray, List.set_cons_zero, List.set_cons_succ]
          refine region_take 3 ?_ rfl (by kernel_rfl) (by rfl) hHeld ?_ ?_
          rotate_left
          · intro w hSw
            (try dsimp only at hSw)
            go_simp
            try with_reducible rfl
          try simp only [Act.put, List.setIfInBounds_toArray, List.set_cons_zero, List.set_cons_succ]
          refine region_take 4 ?_ rfl (by kernel_rfl) (by rfl) hHeld ?_ ?_
          rotate_left
          · intro w hSw
            (try dsimp only at hSw)
            go_simp
            try with_reducible rfl
          try simp only [Act.put, List.setIfInBounds_toArray, List.set_cons_zero, List.set_cons_succ]
          refine region_call 5 rfl (by kernel_rfl) (by rfl) (fun K hK => ?_)
          go_simp
          refine (within_yes _ _ _ _ (by omega)).mono ?_
          rintro e w1 ⟨rfl, rfl⟩
          (try dsimp only)
          refine hK.out _ _ (HC.out) (fun hHeld => ?_)
          clear hK K
          try simp only [Act.put, List.setIfInBounds_toArray, List.set_cons_zero, List.set_cons_succ]
          refine region_take 6 ?_ rfl (by kernel_rfl) (by rfl) hHeld ?_ ?_
          rotate_left
          · intro w hSw
            (try dsimp only at hSw)
            go_simp
            try with_reducible rfl
          try simp only [Act.put, List.setIfInBounds_toArray, List.set_cons_zero, List.set_cons_succ]
          refine region_take 7 ?_ rfl (by kernel_rfl) (by rfl) hHeld ?_ ?_
          rotate_left
          · intro w hSw
            (try dsimp only at hSw)
            go_simp
            try with_reducible rfl
          try simp only [Act.put, List.setIfInBounds_toArray, List.set_cons_zero, List.set_cons_succ]
          refine region_take 8 ?_ rfl (by kernel_rfl) (by rfl) hHeld ?_ ?_
          rotate_left
          · intro w hSw
            (try dsimp only at hSw)
            go_simp
            try with_reducible rfl
          try simp only [Act.put, List.setIfInBounds_toArray, List.set_cons_zero, List.set_cons_succ]
          refine region_take 9 ?_ rfl (by kernel_rfl) (by rfl) hHeld ?_ ?_
          rotate_left
          · intro w hSw
            (try dsimp only at hSw)
            go_simp
            try with_reducible rfl
          try simp only [Act.put, List.setIfInBounds_toArray, List.set_cons_zero, List.set_cons_succ]
          refine region_take 10 ?_ rfl (by kernel_rfl) (by rfl) hHeld ?_ ?_
          rotate_left
          · intro w hSw
            (try dsimp only at hSw)
            go_simp
            try with_reducible rfl
          try simp only [Act.put, List.setIfInBounds_toArray, List.set_cons_zero, List.set_cons_succ]
          refine region_take 11 ?_ rfl (by kernel_rfl) (by rfl) hHeld ?_ ?_
          rotate_left
          · intro w hSw
            (try dsimp only at hSw)
            go_simp
            try with_reducible rfl
          try simp only [Act.put, List.setIfInBounds_toArray, List.set_cons_zero, List.set_cons_succ]
          refine region_call 12 rfl (by kernel_rfl) (by rfl) (fun K hK => ?_)
          go_simp
          refine (within_yes _ _ _ _ (by omega)).mono ?_
          rintro e w1 ⟨rfl, rfl⟩
          (try dsimp only)
          refine hK.out _ _ (HC.out) (fun hHeld => ?_)
          clear hK K
          try simp only [Act.put, List.setIfInBounds_toArray, List.set_cons_zero, List.set_cons_succ]
          refine region_take 13 ?_ rfl (by kernel_rfl) (by rfl) hHeld ?_ ?_
          rotate_left
          · intro w hSw
            (try dsimp only at hSw)
            go_simp
            try with_reducible rfl
          try simp only [Act.put, List.setIfInBounds_toArray, List.set_cons_zero, List.set_cons_succ]
          refine region_take 14 ?_ rfl (by kernel_rfl) (by rfl) hHeld ?_ ?_
          rotate_left
          · intro w hSw
            (try dsimp only at hSw)
            go_simp
            try with_reducible rfl
          try simp only [Act.put, List.setIfInBounds_toArray, List.set_cons_zero, List.set_cons_succ]
          refine region_take 15 ?_ rfl (by kernel_rfl) (by rfl) hHeld ?_ ?_
          rotate_left
          · intro w hSw
            (try dsimp only at hSw)
            go_simp
            try with_reducible rfl
          try simp only [Act.put, List.setIfInBounds_toArray, List.set_cons_zero, List.set_cons_succ]
          refine region_done (by kernel_rfl) ?_
          go_wp2_with fail
          go_ret2
          exact CountPost.yes HR.out.1 HR.out.2 (HB.out.trans (below_drewN (Below.refl _ _) 1))
        · have HR := Lib.hid (HN.out (by omega))
          clear HY HN
          have ew := IntWalk.i64_in (2 * B) (by omega)
          have ew1 := IntWalk.i64_in (B - 1) (by omega)
          go_enter Tryd.func72, Tryd.ntmps72
          go_wp2_with fail
          refine region_begin (S := fun W => W.cell? ⟨w.heap.size, 1, none⟩ = some (.int .i64 A) ∧ W.cell? ⟨w.heap.size, 2, none⟩ = some (.int .i64 B)) (by kernel_rfl) (HC.out) (fun hHeld => ?_)
          refine region_take 0 ?_ rfl (by kernel_rfl) (by rfl) hHeld ?_ ?_
          rotate_left
          · intro w hSw
            (try dsimp only at hSw)
            go_simp
            try with_reducible rfl
          try simp only [Act.put, List.setIfInBounds_toArray, List.set_cons_zero, List.set_cons_succ]
          refine region_take 1 ?_ rfl (by kernel_rfl) (by rfl) hHeld ?_ ?_
          rotate_left
          · intro w hSw
            (try dsimp only at hSw)
            go_simp
            try with_reducible rfl
          try simp only [Act.put, List.setIfInBounds_toArray, List.set_cons_zero, List.set_cons_succ]
          refine region_take 2 ?_ rfl (by kernel_rfl) (by rfl) hHeld ?_ ?_
          rotate_left
          · intro w hSw
            (try dsimp only at hSw)
            go_simp
            try with_reducible rfl
          try simp only [Act.put, List.setIfInBounds_toArray, List.set_cons_zero, List.set_cons_succ]
          refine region_take 3 ?_ rfl (by kernel_rfl) (by rfl) hHeld ?_ ?_
          rotate_left
          · intro w hSw
            (try dsimp only at hSw)
            go_simp
            try with_reducible rfl
          try simp only [Act.put, List.setIfInBounds_toArray, List.set_cons_zero, List.set_cons_succ]
          refine region_take 4 ?_ rfl (by kernel_rfl) (by rfl) hHeld ?_ ?_
          rotate_left
          · intro w hSw
            (try dsimp only at hSw)
            go_simp
            try with_reducible rfl
          try simp only [Act.put, List.setIfInBounds_toArray, List.set_cons_zero, List.set_cons_succ]
          refine region_call 5 rfl (by kernel_rfl) (by rfl) (fun K hK => ?_)
          go_simp
          refine (within_yes _ _ _ _ (by omega)).mono ?_
          rintro e w1 ⟨rfl, rfl⟩
          (try dsimp only)
          refine hK.out _ _ (HC.out) (fun hHeld => ?_)
          clear hK K
          try simp only [Act.put, List.setIfInBounds_toArray, List.set_cons_zero, List.set_cons_succ]
          refine region_take 6 ?_ rfl (by kernel_rfl) (by rfl) hHeld ?_ ?_
          rotate_left
          · intro w hSw
            (try dsimp only at hSw)
            go_simp
            try with_reducible rfl
          try simp only [Act.put, List.setIfInBounds_toArray, List.set_cons_zero, List.set_cons_succ]
          refine region_take 7 ?_ rfl (by kernel_rfl) (by rfl) hHeld ?_ ?_
          rotate_left
          · intro w hSw
            (try dsimp only at hSw)
            go_simp
            try with_reducible rfl
          try simp only [Act.put, List.setIfInBounds_toArray, List.set_cons_zero, List.set_cons_succ]
          refine region_take 8 ?_ rfl (by kernel_rfl) (by rfl) hHeld ?_ ?_
          rotate_left
          · intro w hSw
            (try dsimp only at hSw)
            go_simp
            try with_reducible rfl
          try simp only [Act.put, List.setIfInBounds_toArray, List.set_cons_zero, List.set_cons_succ]
          refine region_take 9 ?_ rfl (by kernel_rfl) (by rfl) hHeld ?_ ?_
          rotate_left
          · intro w hSw
            (try dsimp only at hSw)
            go_simp
            try with_reducible rfl
          try simp only [Act.put, List.setIfInBounds_toArray, List.set_cons_zero, List.set_cons_succ]
          refine region_take 10 ?_ rfl (by kernel_rfl) (by rfl) hHeld ?_ ?_
          rotate_left
          · intro w hSw
            (try dsimp only at hSw)
            go_simp
            try with_reducible rfl
          try simp only [Act.put, List.setIfInBounds_toArray, List.set_cons_zero, List.set_cons_succ]
          refine region_take 11 ?_ rfl (by kernel_rfl) (by rfl) hHeld ?_ ?_
          rotate_left
          · intro w hSw
            (try dsimp only at hSw)
            go_simp
            try with_reducible rfl
          try simp only [Act.put, List.setIfInBounds_toArray, List.set_cons_zero, List.set_cons_succ]
          refine region_call 12 rfl (by kernel_rfl) (by rfl) (fun K hK => ?_)
          go_simp
          refine (within_no _ _ _ _ (by omega)).mono ?_
          rintro e w1 ⟨rfl, rfl⟩
          (try dsimp only)
          refine hK.out _ _ (HC.out) (fun hHeld => ?_)
          clear hK K
          try simp only [Act.put, List.setIfInBounds_toArray, List.set_cons_zero, List.set_cons_succ]
          refine region_take 13 ?_ rfl (by kernel_rfl) (by rfl) hHeld ?_ ?_
          rotate_left
          · intro w hSw
            (try dsimp only at hSw)
            go_simp
            try with_reducible rfl
          try simp only [Act.put, List.setIfInBounds_toArray, List.set_cons_zero, List.set_cons_succ]
          refine region_take 14 ?_ rfl (by kernel_rfl) (by rfl) hHeld ?_ ?_
          rotate_left
          · intro w hSw
            (try dsimp only at hSw)
            go_simp
            try with_reducible rfl
          try simp only [Act.put, List.setIfInBounds_toArray, List.set_cons_zero, List.set_cons_succ]
          refine region_take 15 ?_ rfl (by kernel_rfl) (by rfl) hHeld ?_ ?_
          rotate_left
          · intro w hSw
            (try dsimp only at hSw)
            go_simp
            try with_reducible rfl
          try simp only [Act.put, List.setIfInBounds_toArray, List.set_cons_zero, List.set_cons_succ]
          refine region_done (by kernel_rfl) ?_
          go_wp2_with fail
          go_ret2
          exact CountPost.no HR.out (HB.out.trans (below_drewN (Below.refl _ _) 1))
      · have HR := Lib.hid (HN.out (by omega))
        clear HY HN
        go_enter Tryd.func72, Tryd.ntmps72
        go_wp2_with fail
        refine region_begin (S := fun W => W.cell? ⟨w.heap.size, 1, none⟩ = some (.int .i64 A) ∧ W.cell? ⟨w.heap.size, 2, none⟩ = some (.int .i64 B)) (by kernel_rfl) (HC.out) (fun hHeld => ?_)
        refine region_take 0 ?_ rfl (by kernel_rfl) (by rfl) hHeld ?_ ?_
        rotate_left
        · intro w hSw
          (try dsimp only at hSw)
          go_simp
          try with_reducible rfl
        try simp only [Act.put, List.setIfInBounds_toArray, List.set_cons_zero, List.set_cons_succ]
        refine region_take 1 ?_ rfl (by kernel_rfl) (by rfl) hHeld ?_ ?_
        rotate_left
        · intro w hSw
          (try dsimp only at hSw)
          go_simp
          try with_reducible rfl
        try simp only [Act.put, List.setIfInBounds_toArray, List.set_cons_zero, List.set_cons_succ]
        refine region_take 2 ?_ rfl (by kernel_rfl) (by rfl) hHeld ?_ ?_
        rotate_left
        · intro w hSw
          (try dsimp only at hSw)
          go_simp
          try with_reducible rfl
        try simp only [Act.put, List.setIfInBounds_toArray, List.set_cons_zero, List.set_cons_succ]
        refine region_take 3 ?_ rfl (by kernel_rfl) (by rfl) hHeld ?_ ?_
        rotate_left
        · intro w hSw
          (try dsimp only at hSw)
          go_simp
          try with_reducible rfl
        try simp only [Act.put, List.setIfInBounds_toArray, List.set_cons_zero, List.set_cons_succ]
        refine region_take 4 ?_ rfl (by kernel_rfl) (by rfl) hHeld ?_ ?_
        rotate_left
        · intro w hSw
          (try dsimp only at hSw)
          go_simp
          try with_reducible rfl
        try simp only [Act.put, List.setIfInBounds_toArray, List.set_cons_zero, List.set_cons_succ]
        refine region_call 5 rfl (by kernel_rfl) (by rfl) (fun K hK => ?_)
        go_simp
        refine (within_no _ _ _ _ (by omega)).mono ?_
        rintro e w1 ⟨rfl, rfl⟩
        (try dsimp only)
        refine hK.out _ _ (HC.out) (fun hHeld => ?_)
        clear hK K
        try simp only [Act.put, List.setIfInBounds_toArray, List.set_cons_zero, List.set_cons_succ]
        refine region_take 6 ?_ rfl (by kernel_rfl) (by rfl) hHeld ?_ ?_
        rotate_left
        · intro w hSw
          (try dsimp only at hSw)
          go_simp
          try with_reducible rfl
        try simp only [Act.put, List.setIfInBounds_toArray, List.set_cons_zero, List.set_cons_succ]
        refine region_skip 7 rfl (by kernel_rfl) (by rfl) hHeld ?_
        try simp only [Act.put, List.setIfInBounds_toArray, List.set_cons_zero, List.set_cons_succ]
        refine region_skip 8 rfl (by kernel_rfl) (by rfl) hHeld ?_
        try simp only [Act.put, List.setIfInBounds_toArray, List.set_cons_zero, List.set_cons_succ]
        refine region_skip 9 rfl (by kernel_rfl) (by rfl) hHeld ?_
        try simp only [Act.put, List.setIfInBounds_toArray, List.set_cons_zero, List.set_cons_succ]
        refine region_skip 10 rfl (by kernel_rfl) (by rfl) hHeld ?_
        try simp only [Act.put, List.setIfInBounds_toArray, List.set_cons_zero, List.set_cons_succ]
        refine region_skip 11 rfl (by kernel_rfl) (by rfl) hHeld ?_
        try simp only [Act.put, List.setIfInBounds_toArray, List.set_cons_zero, List.set_cons_succ]
        refine region_skip 12 rfl (by kernel_rfl) (by rfl) hHeld ?_
        try simp only [Act.put, List.setIfInBounds_toArray, List.set_cons_zero, List.set_cons_succ]
        refine region_take 13 ?_ rfl (by kernel_rfl) (by rfl) hHeld ?_ ?_
        rotate_left
        · intro w hSw
          (try dsimp only at hSw)
          go_simp
          try with_reducible rfl
        try simp only [Act.put, List.setIfInBounds_toArray, List.set_cons_zero, List.set_cons_succ]
        refine region_take 14 ?_ rfl (by kernel_rfl) (by rfl) hHeld ?_ ?_
        rotate_left
        · intro w hSw
          (try dsimp only at hSw)
          go_simp
          try with_reducible rfl
        try simp only [Act.put, List.setIfInBounds_toArray, List.set_cons_zero, List.set_cons_succ]
        refine region_take 15 ?_ rfl (by kernel_rfl) (by rfl) hHeld ?_ ?_
        rotate_left
        · intro w hSw
          (try dsimp only at hSw)
          go_simp
          try with_reducible rfl
        try simp only [Act.put, List.setIfInBounds_toArray, List.set_cons_zero, List.set_cons_succ]
        refine region_done (by kernel_rfl) ?_
        go_wp2_with fail
        go_ret2
        exact CountPost.no HR.out (HB.out.trans (below_drewN (Below.refl _ _) 1))
set_option maxHeartbeats 4000000 in
theorem count_other (o A B : Int) (w : World) (h1 : o ≠ 1) (h2 : o ≠ 2) (h4 : o ≠ 4) (h5 : o ≠ 5) (h6 : o ≠ 6) (h7 : o ≠ 7) (h8 : o ≠ 8) (h9 : o ≠ 9) (h10 : o ≠ 10) (h11 : o ≠ 11) (h12 : o ≠ 12) : Calls Tryd.prog 72 #[nodeA (o, A, B)] w (CountPost (o, A, B) w) := by
  have HB := Lib.hid (show Below w.heap.size w (w.alloc (.cells #[.int .i64 o, .int .i64 A, .int .i64 B] 53)) from (Below.refl _ _).alloc (Nat.le_refl _) _)
  have HR := Lib.hid (show topB (o, A, B) = false by
    unfold topB
    by_cases h : holdsN (o, A, B)
    · have := holds_op h
      by_cases e3 : o = 3
      · simp [e3]
      · have e13 : o = 13 := by simp only at this; omega
        simp [e13]
    · rw [decide_eq_false h]; rfl)
  have e1 : (o == 1) = false := by simpa using h1
  have e2 : (o == 2) = false := by simpa using h2
  have e4 : (o == 4) = false := by simpa using h4
  have e5 : (o == 5) = false := by simpa using h5
  have e6 : (o == 6) = false := by simpa using h6
  have e7 : (o == 7) = false := by simpa using h7
  have e8 : (o == 8) = false := by simpa using h8
  have e9 : (o == 9) = false := by simpa using h9
  have e10 : (o == 10) = false := by simpa using h10
  have e11 : (o == 11) = false := by simpa using h11
  have e12 : (o == 12) = false := by simpa using h12
  by_cases zA : A = 0
  · subst zA
    by_cases zB : B = 0
    · subst zB
      go_enter Tryd.func72, Tryd.ntmps72
      go_wp2_with fail
      go_ret2
      exact CountPost.no HR.out HB.out
    · have eB : (B == 0) = false := by simpa using zB
      go_enter Tryd.func72, Tryd.ntmps72
      go_wp2_with fail
      go_ret2
      exact CountPost.no HR.out HB.out
  · have eA : (A == 0) = false := by simpa using zA
    by_cases zB : B = 0
    · subst zB
      go_enter Tryd.func72, Tryd.ntmps72
      go_wp2_with fail
      go_ret2
      exact CountPost.no HR.out HB.out
    · have eB : (B == 0) = false := by simpa using zB
      go_enter Tryd.func72, Tryd.ntmps72
      go_wp2_with fail
      go_ret2
      exact CountPost.no HR.out HB.out
theorem count_any (n : Node3) (w : World) (h : Wide3 n) : Calls Tryd.prog 72 #[nodeA n] w (CountPost n w) := by
  obtain ⟨o, A, B⟩ := n
  by_cases h1 : o = 1
  · subst h1
    exact count_1 A B w h.2.1 h.2.2
  by_cases h2 : o = 2
  · subst h2
    exact count_2 A B w h.2.1 h.2.2
  by_cases h4 : o = 4
  · subst h4
    exact count_4 A B w h.2.1 h.2.2
  by_cases h5 : o = 5
  · subst h5
    exact count_5 A B w h.2.1 h.2.2
  by_cases h6 : o = 6
  · subst h6
    exact count_6 A B w h.2.1 h.2.2
  by_cases h7 : o = 7
  · subst h7
    exact count_7 A B w h.2.1 h.2.2
  by_cases h8 : o = 8
  · subst h8
    exact count_8 A B w h.2.1 h.2.2
  by_cases h9 : o = 9
  · subst h9
    exact count_9 A B w h.2.1 h.2.2
  by_cases h10 : o = 10
  · subst h10
    exact count_10 A B w h.2.1 h.2.2
  by_cases h11 : o = 11
  · subst h11
    exact count_11 A B w h.2.1 h.2.2
  by_cases h12 : o = 12
  · subst h12
    exact count_12 A B w h.2.1 h.2.2
  exact count_other o A B w h1 h2 h4 h5 h6 h7 h8 h9 h10 h11 h12
end Go.Proofs.YtkkkblghihheeaaDoor
