/- LevelTight, where there is a gap. -/
import Derived.Test.YtdpannjnhhjicaaLTightA
namespace Go.Proofs.Ytdpannjnhhjicaa
open Go.RowKit

theorem below_step' {B : Nat} {w w1 w2 : World} (h : Below B w w1) (k : Below w1.heap.size w1 w2) (hB : B ≤ w1.heap.size) : Below B w w2 := h.trans (k.mono hB)
set_option maxHeartbeats 4000000 in
theorem ltight_some (A C : Option Addr) (n c k f : Nat) (E : List Ord3) (m i j : Nat) (far : Int) (w : World) (hn : E.length = n) (hA : Holds w A (ordsV E)) (h63 : n ≤ 63) (hi : i ≤ m) (hj : j ≤ m) (d : Dist) (hd : distS m E = some d) (hsA : Slice A n c) (gg : Int) (hg : gapS m E i j = some gg) (g0 : -1000 ≤ gg) (g1 : gg ≤ 1000) :
    Calls Try.prog 8 #[ordAgg m A C n c k f i j, .int .u16 far] w fun e w' => e = .returned (.bool true) ∧ Below w.heap.size w w' := by
  have hb0 := (Below.refl w.heap.size w).alloc (Nat.le_refl _) (ordBox m A C n c k f i j)
  have hx := holds_at w #[.int .i64 m, .slice A n c, .slice C k f, .int .i64 i, .int .i64 j] 39 _ rfl
  have CK := Lib.hid fun w hA => check_n m A c n E w hn hA (by omega) _ rfl
  have t1 : ¬ (63 : Int) < (n : Int) := by omega
  have he : errS m E = 0 := ((err_right (dist_some hd).1).1 d hd).1
  have hz : (errS m E != 0) = false := by simp [he]
  have hm16 := (dist_some hd).2.1
  have q0 : ¬ (i : Int) < 0 := by omega
  have q1 : ¬ (m : Int) < (i : Int) := by omega
  have q2 : ¬ (j : Int) < 0 := by omega
  have q3 : ¬ (m : Int) < (j : Int) := by omega
  have HN := Lib.hid hn
  have GP := Lib.hid fun w hA => gap_n m A c n E i j w hn hA (by omega) ⟨by omega, by omega⟩ ⟨by omega, by omega⟩ gg true (by rw [hg]; rfl) (by rw [hg]; rfl)
  have hte : errS m (E ++ [((j : Int), (-gg), (i : Int))]) = 0 := tight_err hd (by omega) hi hj (by omega) (by omega) (by intro g h; rw [hg] at h; cases h; rfl)
  have CK2 := Lib.hid fun A6 c6 w (h : Holds w A6 (ordsV ([] ++ E ++ [((j : Int), (-gg), (i : Int))]))) => check_n m A6 c6 (n + 1) _ w (by rw [List.nil_append, List.length_append, hn]; rfl) h (by omega) 0 (by rw [List.nil_append]; exact hte)
  have e1 : IntKind.i64.wrap (-gg) = -gg := IntWalk.i64_in _ (by omega)
  clear he hn hg hd hi hj hte
  go_enter Try.func8, Try.ntmps8
  go_wp2_with fail
  refine (awake_any _).mono ?_
  rintro e w1 ⟨rfl, hb1⟩
  have hb := below_step hb0 hb1
  have HX := hx.below hb1
  clear hb0 hb1 hx
  have c0 : w1.cell? ⟨w.heap.size, 0, none⟩ = some (.int .i64 (m : Int)) := HX.cell (j := 0) rfl
  have c1 : w1.cell? ⟨w.heap.size, 1, none⟩ = some (.slice A n c) := HX.cell (j := 1) rfl
  have c2 : w1.cell? ⟨w.heap.size, 2, none⟩ = some (.slice C k f) := HX.cell (j := 2) rfl
  have c3 : w1.cell? ⟨w.heap.size, 3, none⟩ = some (.int .i64 (i : Int)) := HX.cell (j := 3) rfl
  have c4 : w1.cell? ⟨w.heap.size, 4, none⟩ = some (.int .i64 (j : Int)) := HX.cell (j := 4) rfl
  replace hA := hA.below hb
  go_wp2_with fail
  refine (CK.out _ hA).mono ?_
  rintro e w2 ⟨rfl, g⟩
  clear c0 c1 c2 c3 c4
  replace HX := HX.below g
  replace hA := hA.below g
  replace hb := below_step hb g
  clear g
  have c0 : w2.cell? ⟨w.heap.size, 0, none⟩ = some (.int .i64 (m : Int)) := HX.cell (j := 0) rfl
  have c1 : w2.cell? ⟨w.heap.size, 1, none⟩ = some (.slice A n c) := HX.cell (j := 1) rfl
  have c2 : w2.cell? ⟨w.heap.size, 2, none⟩ = some (.slice C k f) := HX.cell (j := 2) rfl
  have c3 : w2.cell? ⟨w.heap.size, 3, none⟩ = some (.int .i64 (i : Int)) := HX.cell (j := 3) rfl
  have c4 : w2.cell? ⟨w.heap.size, 4, none⟩ = some (.int .i64 (j : Int)) := HX.cell (j := 4) rfl
  go_wp2_with fail
  refine (GP.out _ hA).mono ?_
  rintro e w3 ⟨rfl, g⟩
  clear c0 c1 c2 c3 c4
  replace HX := HX.below g
  replace hA := hA.below g
  replace hb := below_step hb g
  clear g
  have c0 : w3.cell? ⟨w.heap.size, 0, none⟩ = some (.int .i64 (m : Int)) := HX.cell (j := 0) rfl
  have c1 : w3.cell? ⟨w.heap.size, 1, none⟩ = some (.slice A n c) := HX.cell (j := 1) rfl
  have c2 : w3.cell? ⟨w.heap.size, 2, none⟩ = some (.slice C k f) := HX.cell (j := 2) rfl
  have c3 : w3.cell? ⟨w.heap.size, 3, none⟩ = some (.int .i64 (i : Int)) := HX.cell (j := 3) rfl
  have c4 : w3.cell? ⟨w.heap.size, 4, none⟩ = some (.int .i64 (j : Int)) := HX.cell (j := 4) rfl
  have t5 : ¬ 1000 < gg := by omega
  have t6 : ¬ gg < -1000 := by omega
  have HO := holds_at w3 #[.int .i64 j, .int .i64 (-gg), .int .i64 i] 53 _ rfl
  have HX4 := HX.alloc (.cells #[.int .i64 j, .int .i64 (-gg), .int .i64 i] 53)
  have hA4 := hA.alloc (.cells #[.int .i64 j, .int .i64 (-gg), .int .i64 i] 53)
  have hb4 := below_alloc hb (.cells #[.int .i64 j, .int .i64 (-gg), .int .i64 i] 53)
  go_wp2_with fail
  clear c0 c1 c2 c3 c4
  replace HX := HX4
  replace hA := hA4
  replace hb := hb4
  clear HX4 hA4 hb4
  generalize w3.heap.size = go at *
  generalize w3.alloc (.cells #[.int .i64 j, .int .i64 (-gg), .int .i64 i] 53) = w4 at *
  have HKS := Lib.hid fun (w' : World) (g : Below w4.heap.size w4 w') => (show w'.cell? ⟨w.heap.size, 0, none⟩ = some (.int .i64 m) ∧ w'.cell? ⟨w.heap.size, 1, none⟩ = some (.slice A n c) ∧ w'.cell? ⟨go, 0, none⟩ = some (.int .i64 j) ∧ w'.cell? ⟨go, 1, none⟩ = some (.int .i64 (-gg)) ∧ w'.cell? ⟨go, 2, none⟩ = some (.int .i64 i) from ⟨(HX.below g).cell (j := 0) rfl, (HX.below g).cell (j := 1) rfl, (HO.below g).cell (j := 0) rfl, (HO.below g).cell (j := 1) rfl, (HO.below g).cell (j := 2) rfl⟩)
  refine region_begin_any (S := fun w' => w'.cell? ⟨w.heap.size, 0, none⟩ = some (.int .i64 m) ∧ w'.cell? ⟨w.heap.size, 1, none⟩ = some (.slice A n c) ∧ w'.cell? ⟨go, 0, none⟩ = some (.int .i64 j) ∧ w'.cell? ⟨go, 1, none⟩ = some (.int .i64 (-gg)) ∧ w'.cell? ⟨go, 2, none⟩ = some (.int .i64 i)) (by kernel_rfl) (HKS.out _ (below_drewN (Below.refl _ _) 1)) (fun W hW hHeld => ?_)
  have h0 : Below w4.heap.size w4 W := by rw [hW]; exact below_drewN (Below.refl _ _) 1
  clear hW
  obtain ⟨W0, rfl⟩ : ∃ W0 : World, W0 = W := ⟨_, rfl⟩
  refine region_take 0 ?_ rfl (by kernel_rfl) (by rfl) hHeld ?_ ?_
  rotate_left
  · intro w hSw
    (try dsimp only at hSw)
    go_simp
    try with_reducible rfl
  try simp only [Act.put, List.setIfInBounds_toArray, List.set_cons_zero, List.set_cons_succ]
  refine region_take 1 ?_ rfl (by kernel_rfl) (by rfl) hHeld ?_ ?_
  rotate_left
  · intro w hSw
    (try dsimp only at hSw)
    go_simp
    try with_reducible rfl
  try simp only [Act.put, List.setIfInBounds_toArray, List.set_cons_zero, List.set_cons_succ]
  refine region_take 3 ?_ rfl (by kernel_rfl) (by rfl) hHeld ?_ ?_
  rotate_left
  · intro w hSw
    (try dsimp only at hSw)
    go_simp
    try with_reducible rfl
  try simp only [Act.put, List.setIfInBounds_toArray, List.set_cons_zero, List.set_cons_succ]
  refine region_take 4 ?_ rfl (by kernel_rfl) (by rfl) hHeld ?_ ?_
  rotate_left
  · intro w hSw
    (try dsimp only at hSw)
    go_simp
    try with_reducible rfl
  try simp only [Act.put, List.setIfInBounds_toArray, List.set_cons_zero, List.set_cons_succ]
  refine region_take 6 ?_ rfl (by kernel_rfl) (by rfl) hHeld ?_ ?_
  rotate_left
  · intro w hSw
    (try dsimp only at hSw)
    go_simp
    try with_reducible rfl
  try simp only [Act.put, List.setIfInBounds_toArray, List.set_cons_zero, List.set_cons_succ]
  refine region_two 2 7 rfl rfl (by kernel_rfl) (by rfl) (by rfl) (fun K hK => ?_) (fun K hK => ?_)
  · go_simp
    refine hK.out _ _ (HKS.out _ (h0.alloc h0.size (.cells #[] 53))) (fun hHeld => ?_)
    clear hK K
    have ho := OwnO.empty W0 w4.heap.size h0.size
    have h1 := h0.alloc h0.size (.cells #[] 53)
    have z0 : W0.heap.size < (W0.alloc (.cells #[] 53)).heap.size := by simp
    generalize W0.alloc (.cells #[] 53) = W1 at *
    try simp only [Act.put, List.setIfInBounds_toArray, List.set_cons_zero, List.set_cons_succ]
    refine region_two 5 7 rfl rfl (by kernel_rfl) (by rfl) (by rfl) (fun K hK => ?_) (fun K hK => ?_)
    · refine wp_append_orders _ _ _ rfl Try.underlying37 w4.heap.size (.slice (some ⟨W0.heap.size, 0, none⟩) 0 0) [] E rfl ho A n c rfl HN.out hsA (hA.below h1) n (by simp) (by omega) h1.size ?_
      intro A5 c5 W2 ho5 hs5 hg
      have h2 := h1.grown hg h1.size (fun k hk => (ho.lt k hk).1)
      refine hK.out _ _ (HKS.out _ h2) (fun hHeld => ?_)
      clear hK K
      replace ho := ho5
      clear hg
      try simp only [Act.put, List.setIfInBounds_toArray, List.set_cons_zero, List.set_cons_succ]
      refine region_call 7 rfl (by kernel_rfl) (by rfl) (fun K hK => ?_)
      go_simp
      refine hK.out _ _ (HKS.out _ (h2.alloc h2.size (.cells #[.int .i64 j, .int .i64 (-gg), .int .i64 i] 53))) (fun hHeld => ?_)
      clear hK K
      have hone := holds_at W2 #[.int .i64 j, .int .i64 (-gg), .int .i64 i] 53 (ordsV [((j : Int), (-gg), (i : Int))]) rfl
      have h3 := h2.alloc h2.size (.cells #[.int .i64 j, .int .i64 (-gg), .int .i64 i] 53)
      have z2 : W2.heap.size < (W2.alloc (.cells #[.int .i64 j, .int .i64 (-gg), .int .i64 i] 53)).heap.size := by simp
      replace ho := ho.alloc (.cells #[.int .i64 j, .int .i64 (-gg), .int .i64 i] 53)
      generalize W2.alloc (.cells #[.int .i64 j, .int .i64 (-gg), .int .i64 i] 53) = W3 at *
      try simp only [Act.put, List.setIfInBounds_toArray, List.set_cons_zero, List.set_cons_succ]
      refine region_call 8 rfl (by kernel_rfl) (by rfl) (fun K hK => ?_)
      refine wp_append_orders _ _ _ rfl Try.underlying37 w4.heap.size (.slice A5 n c5) ([] ++ E) [((j : Int), (-gg), (i : Int))] rfl ho (some ⟨W2.heap.size, 0, none⟩) 1 1 rfl rfl ⟨by omega, by omega, fun h => by cases h⟩ hone (n + 1) (by rw [List.nil_append, HN.out]) (by omega) h3.size ?_
      intro A6 c6 W4 ho6 hs6 hg
      have h4 := h3.grown hg h3.size (fun k hk => (ho.lt k hk).1)
      refine hK.out _ _ (HKS.out _ h4) (fun hHeld => ?_)
      clear hK K
      have hc6 := CK2.out A6 c6 W4 ho6.holds
      clear hg
      try simp only [Act.put, List.setIfInBounds_toArray, List.set_cons_zero, List.set_cons_succ]
      refine region_call 9 rfl (by kernel_rfl) (by rfl) (fun K hK => ?_)
      go_simp
      (with_reducible refine hc6.mono ?_)
      rintro e W5 ⟨rfl, g⟩
      have h5 := below_step' h4 g h4.size
      refine hK.out _ _ (HKS.out _ h5) (fun hHeld => ?_)
      clear hK K
      try simp only [Act.put, List.setIfInBounds_toArray, List.set_cons_zero, List.set_cons_succ]
      refine region_take 10 ?_ rfl (by kernel_rfl) (by rfl) hHeld ?_ ?_
      rotate_left
      · intro w hSw
        (try dsimp only at hSw)
        go_simp
        try with_reducible rfl
      try simp only [Act.put, List.setIfInBounds_toArray, List.set_cons_zero, List.set_cons_succ]
      refine region_take 11 ?_ rfl (by kernel_rfl) (by rfl) hHeld ?_ ?_
      rotate_left
      · intro w hSw
        (try dsimp only at hSw)
        go_simp
        try with_reducible rfl
      try simp only [Act.put, List.setIfInBounds_toArray, List.set_cons_zero, List.set_cons_succ]
      refine region_done (by kernel_rfl) ?_
      clear hHeld
      go_wp2_with fail
      go_ret
      exact ⟨by simp, below_step hb h5⟩
    · go_simp
      refine hK.out _ _ (HKS.out _ (h1.alloc h1.size (.cells #[.int .i64 j, .int .i64 (-gg), .int .i64 i] 53))) (fun hHeld => ?_)
      clear hK K
      have hone := holds_at W1 #[.int .i64 j, .int .i64 (-gg), .int .i64 i] 53 (ordsV [((j : Int), (-gg), (i : Int))]) rfl
      have h2 := h1.alloc h1.size (.cells #[.int .i64 j, .int .i64 (-gg), .int .i64 i] 53)
      have z1 : W1.heap.size < (W1.alloc (.cells #[.int .i64 j, .int .i64 (-gg), .int .i64 i] 53)).heap.size := by simp
      replace ho := ho.alloc (.cells #[.int .i64 j, .int .i64 (-gg), .int .i64 i] 53)
      generalize W1.alloc (.cells #[.int .i64 j, .int .i64 (-gg), .int .i64 i] 53) = W2 at *
      try simp only [Act.put, List.setIfInBounds_toArray, List.set_cons_zero, List.set_cons_succ]
      refine region_call 5 rfl (by kernel_rfl) (by rfl) (fun K hK => ?_)
      refine wp_append_orders _ _ _ rfl Try.underlying37 w4.heap.size (.slice (some ⟨W0.heap.size, 0, none⟩) 0 0) [] E rfl ho A n c rfl HN.out hsA (hA.below h2) n (by simp) (by omega) h2.size ?_
      intro A5 c5 W3 ho5 hs5 hg
      have h3 := h2.grown hg h2.size (fun k hk => (ho.lt k hk).1)
      replace hone := hone.grown hg (by simp [Value.ownBlock]; omega)
      refine hK.out _ _ (HKS.out _ h3) (fun hHeld => ?_)
      clear hK K
      replace ho := ho5
      clear hg
      try simp only [Act.put, List.setIfInBounds_toArray, List.set_cons_zero, List.set_cons_succ]
      refine region_call 8 rfl (by kernel_rfl) (by rfl) (fun K hK => ?_)
      refine wp_append_orders _ _ _ rfl Try.underlying37 w4.heap.size (.slice A5 n c5) ([] ++ E) [((j : Int), (-gg), (i : Int))] rfl ho (some ⟨W1.heap.size, 0, none⟩) 1 1 rfl rfl ⟨by omega, by omega, fun h => by cases h⟩ hone (n + 1) (by rw [List.nil_append, HN.out]) (by omega) h3.size ?_
      intro A6 c6 W4 ho6 hs6 hg
      have h4 := h3.grown hg h3.size (fun k hk => (ho.lt k hk).1)
      refine hK.out _ _ (HKS.out _ h4) (fun hHeld => ?_)
      clear hK K
      have hc6 := CK2.out A6 c6 W4 ho6.holds
      clear hg
      try simp only [Act.put, List.setIfInBounds_toArray, List.set_cons_zero, List.set_cons_succ]
      refine region_call 9 rfl (by kernel_rfl) (by rfl) (fun K hK => ?_)
      go_simp
      (with_reducible refine hc6.mono ?_)
      rintro e W5 ⟨rfl, g⟩
      have h5 := below_step' h4 g h4.size
      refine hK.out _ _ (HKS.out _ h5) (fun hHeld => ?_)
      clear hK K
      try simp only [Act.put, List.setIfInBounds_toArray, List.set_cons_zero, List.set_cons_succ]
      refine region_take 10 ?_ rfl (by kernel_rfl) (by rfl) hHeld ?_ ?_
      rotate_left
      · intro w hSw
        (try dsimp only at hSw)
        go_simp
        try with_reducible rfl
      try simp only [Act.put, List.setIfInBounds_toArray, List.set_cons_zero, List.set_cons_succ]
      refine region_take 11 ?_ rfl (by kernel_rfl) (by rfl) hHeld ?_ ?_
      rotate_left
      · intro w hSw
        (try dsimp only at hSw)
        go_simp
        try with_reducible rfl
      try simp only [Act.put, List.setIfInBounds_toArray, List.set_cons_zero, List.set_cons_succ]
      refine region_done (by kernel_rfl) ?_
      clear hHeld
      go_wp2_with fail
      go_ret
      exact ⟨by simp, below_step hb h5⟩
  · go_simp
    refine hK.out _ _ (HKS.out _ (h0.alloc h0.size (.cells #[.int .i64 j, .int .i64 (-gg), .int .i64 i] 53))) (fun hHeld => ?_)
    clear hK K
    have hone := holds_at W0 #[.int .i64 j, .int .i64 (-gg), .int .i64 i] 53 (ordsV [((j : Int), (-gg), (i : Int))]) rfl
    have h1 := h0.alloc h0.size (.cells #[.int .i64 j, .int .i64 (-gg), .int .i64 i] 53)
    have z0 : W0.heap.size < (W0.alloc (.cells #[.int .i64 j, .int .i64 (-gg), .int .i64 i] 53)).heap.size := by simp
    generalize W0.alloc (.cells #[.int .i64 j, .int .i64 (-gg), .int .i64 i] 53) = W1 at *
    try simp only [Act.put, List.setIfInBounds_toArray, List.set_cons_zero, List.set_cons_succ]
    refine region_call 2 rfl (by kernel_rfl) (by rfl) (fun K hK => ?_)
    go_simp
    refine hK.out _ _ (HKS.out _ (h1.alloc h1.size (.cells #[] 53))) (fun hHeld => ?_)
    clear hK K
    have ho := OwnO.empty W1 w4.heap.size h1.size
    have h2 := h1.alloc h1.size (.cells #[] 53)
    have z1 : W1.heap.size < (W1.alloc (.cells #[] 53)).heap.size := by simp
    replace hone := hone.alloc (.cells #[] 53)
    generalize W1.alloc (.cells #[] 53) = W2 at *
    try simp only [Act.put, List.setIfInBounds_toArray, List.set_cons_zero, List.set_cons_succ]
    refine region_call 5 rfl (by kernel_rfl) (by rfl) (fun K hK => ?_)
    refine wp_append_orders _ _ _ rfl Try.underlying37 w4.heap.size (.slice (some ⟨W1.heap.size, 0, none⟩) 0 0) [] E rfl ho A n c rfl HN.out hsA (hA.below h2) n (by simp) (by omega) h2.size ?_
    intro A5 c5 W3 ho5 hs5 hg
    have h3 := h2.grown hg h2.size (fun k hk => (ho.lt k hk).1)
    replace hone := hone.grown hg (by simp [Value.ownBlock]; omega)
    refine hK.out _ _ (HKS.out _ h3) (fun hHeld => ?_)
    clear hK K
    replace ho := ho5
    clear hg
    try simp only [Act.put, List.setIfInBounds_toArray, List.set_cons_zero, List.set_cons_succ]
    refine region_call 8 rfl (by kernel_rfl) (by rfl) (fun K hK => ?_)
    refine wp_append_orders _ _ _ rfl Try.underlying37 w4.heap.size (.slice A5 n c5) ([] ++ E) [((j : Int), (-gg), (i : Int))] rfl ho (some ⟨W0.heap.size, 0, none⟩) 1 1 rfl rfl ⟨by omega, by omega, fun h => by cases h⟩ hone (n + 1) (by rw [List.nil_append, HN.out]) (by omega) h3.size ?_
    intro A6 c6 W4 ho6 hs6 hg
    have h4 := h3.grown hg h3.size (fun k hk => (ho.lt k hk).1)
    refine hK.out _ _ (HKS.out _ h4) (fun hHeld => ?_)
    clear hK K
    have hc6 := CK2.out A6 c6 W4 ho6.holds
    clear hg
    try simp only [Act.put, List.setIfInBounds_toArray, List.set_cons_zero, List.set_cons_succ]
    refine region_call 9 rfl (by kernel_rfl) (by rfl) (fun K hK => ?_)
    go_simp
    (with_reducible refine hc6.mono ?_)
    rintro e W5 ⟨rfl, g⟩
    have h5 := below_step' h4 g h4.size
    refine hK.out _ _ (HKS.out _ h5) (fun hHeld => ?_)
    clear hK K
    try simp only [Act.put, List.setIfInBounds_toArray, List.set_cons_zero, List.set_cons_succ]
    refine region_take 10 ?_ rfl (by kernel_rfl) (by rfl) hHeld ?_ ?_
    rotate_left
    · intro w hSw
      (try dsimp only at hSw)
      go_simp
      try with_reducible rfl
    try simp only [Act.put, List.setIfInBounds_toArray, List.set_cons_zero, List.set_cons_succ]
    refine region_take 11 ?_ rfl (by kernel_rfl) (by rfl) hHeld ?_ ?_
    rotate_left
    · intro w hSw
      (try dsimp only at hSw)
      go_simp
      try with_reducible rfl
    try simp only [Act.put, List.setIfInBounds_toArray, List.set_cons_zero, List.set_cons_succ]
    refine region_done (by kernel_rfl) ?_
    clear hHeld
    go_wp2_with fail
    go_ret
    exact ⟨by simp, below_step hb h5⟩
end Go.Proofs.Ytdpannjnhhjicaa
