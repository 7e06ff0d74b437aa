/- retortref04.Same, retortlaw04.v, awake. -/
import Derived.Test.YtkkkblghihheeaaDoorTSubstW
namespace Go.Proofs.YtkkkblghihheeaaDoor
open Go.RowKit

set_option maxHeartbeats 1000000 in
theorem tsame_any (A B : Option Addr) (c d : Nat) (l r : List Node3) (w : World) (hA : Holds w A (nodesV l)) (hB : Holds w B (nodesV r)) (hl : l.length ≤ 1000000000) (v : Bool) (hv : v = decide (l = r)) :
    Calls Tryd.prog 27 #[.slice A l.length c, .slice B r.length d] w fun e w' => e = .returned (.bool v) ∧ ∃ q, w' = w.drewN q := by
  have HV := Lib.hid hv
  clear hv
  by_cases hn : l.length = r.length
  · have HN := Lib.hid hn
    obtain ⟨n, hnl⟩ : ∃ n, n = l.length := ⟨_, rfl⟩
    rw [← hn, ← hnl]
    rw [← hnl] at hl
    have HNL := Lib.hid hnl
    clear hn hnl
    go_enter Tryd.func27, Tryd.ntmps27
    go_wp2_with fail
    go_loopw [5] (fun i wr => (∃ q, wr = w.drewN q) ∧ ∃ k : Nat, k ≤ n ∧ i = .int .i64 k ∧ Hid (l.take k = r.take k)) (fun i _ => n - (intOf i).toNat)
    case atStart => exact ⟨⟨0, rfl⟩, 0, Nat.zero_le _, rfl, show _ = _ by simp⟩
    case round =>
      obtain ⟨⟨q, hq⟩, k, hk, rfl, HA⟩ := hrel
      have HQ : Hid (∃ q, wr = w.drewN q) := ⟨q, hq⟩
      have hA' : Holds wr A (nodesV l) := by rw [hq]; exact hA
      have hB' : Holds wr B (nodesV r) := by rw [hq]; exact hB
      clear hq
      by_cases hlt : k < n
      · have kl : k < l.length := by have := HNL.out; omega
        have kr : k < r.length := by have := HN.out; omega
        obtain ⟨b, o, rfl, hcM⟩ := hA' (by rw [nodesV_len]; omega)
        obtain ⟨b', o', rfl, hcN⟩ := hB' (by rw [nodesV_len]; omega)
        have s0 := hcM (k * 3) _ (nodesV_get0 kl)
        have s1 := hcM (k * 3 + 1) _ (nodesV_get1 kl)
        have s2 := hcM (k * 3 + 2) _ (nodesV_get2 kl)
        have t0 := hcN (k * 3) _ (nodesV_get0 kr)
        have t1 := hcN (k * 3 + 1) _ (nodesV_get1 kr)
        have t2 := hcN (k * 3 + 2) _ (nodesV_get2 kr)
        rw [← Nat.add_assoc] at s1 s2 t1 t2
        have ht1 := List.take_succ_eq_append_getElem kl
        have ht2 := List.take_succ_eq_append_getElem kr
        have hne : l[k] ≠ r[k] → v = false := fun h => by
          rw [HV.out, decide_eq_false_iff_not]
          intro e
          subst e
          exact h rfl
        have HNE := Lib.hid hne
        have HT1 := Lib.hid ht1
        have HT2 := Lib.hid ht2
        clear hcM hcN hne ht1 ht2
        generalize l[k] = x at *
        generalize r[k] = y at *
        obtain ⟨p, q, u⟩ := x
        obtain ⟨p', q', u'⟩ := y
        simp only at s0 s1 s2 t0 t1 t2
        by_cases e1 : p = p'
        · subst e1
          by_cases e2 : q = q'
          · subst e2
            by_cases e3 : u = u'
            · subst e3
              go_wp2_with fail
              go_region
              go_wp2_with fail
              go_roundw
              case rel => exact ⟨by obtain ⟨q, hq⟩ := HQ.out; exact ⟨q + 1, by rw [hq]; rfl⟩, k + 1, by omega, by go_num, show _ = _ by rw [HT1.out, HT2.out, HA.out]⟩
              case measure => simp [intOf] <;> omega
            · have HF := Lib.hid (HNE.out (by simp [e3]))
              go_wp2_with fail
              go_region
              go_wp2_with fail
              go_ret
              exact ⟨ret_bool HF.out.symm, by obtain ⟨q, hq⟩ := HQ.out; exact ⟨q + 1, by rw [hq]; rfl⟩⟩
          · have HF := Lib.hid (HNE.out (by simp [e2]))
            go_wp2_with fail
            go_region
            go_wp2_with fail
            go_ret
            exact ⟨ret_bool HF.out.symm, by obtain ⟨q, hq⟩ := HQ.out; exact ⟨q + 1, by rw [hq]; rfl⟩⟩
        · have HF := Lib.hid (HNE.out (by simp [e1]))
          go_wp2_with fail
          go_region
          go_wp2_with fail
          go_ret
          exact ⟨ret_bool HF.out.symm, by obtain ⟨q, hq⟩ := HQ.out; exact ⟨q + 1, by rw [hq]; rfl⟩⟩
      · have hk' : k = n := by omega
        subst hk'
        have he : v = true := by
          have h1 := HA.out
          rw [List.take_of_length_le (by have := HNL.out; omega), List.take_of_length_le (by have := HNL.out; have := HN.out; omega)] at h1
          rw [HV.out, h1]; simp
        have HD := Lib.hid he
        clear he
        go_wp2_with fail
        go_ret
        exact ⟨ret_bool HD.out.symm, HQ.out⟩
  · have hz : ((l.length : Int) != (r.length : Int)) = true := by simp; omega
    have he : v = false := by
      rw [HV.out, decide_eq_false_iff_not]
      intro e
      exact hn (by rw [e])
    have HF := Lib.hid he
    clear hn he
    go_enter Tryd.func27, Tryd.ntmps27
    go_wp2_with fail
    go_ret
    exact ⟨ret_bool HF.out.symm, 0, rfl⟩

theorem tsame_n (A B : Option Addr) (n m c d : Nat) (l r : List Node3) (w : World) (hn : l.length = n) (hm : r.length = m) (hA : Holds w A (nodesV l)) (hB : Holds w B (nodesV r)) (hl : n ≤ 1000000000) (v : Bool) (hv : v = decide (l = r)) :
    Calls Tryd.prog 27 #[.slice A n c, .slice B m d] w fun e w' => e = .returned (.bool v) ∧ Below w.heap.size w w' := by
  subst hn hm
  exact (tsame_any A B c d l r w hA hB hl v hv).mono fun e w' h => ⟨h.1, by obtain ⟨q, hq⟩ := h.2; rw [hq]; exact below_drewN (Below.refl _ _) q⟩
theorem v_any (x : Int) (w : World) : Calls Tryd.prog 41 #[.int .i64 x] w fun e w' => e = .returned (nodeA (1, x, 0)) ∧ Below w.heap.size w w' := by
  go_enter Tryd.func41, Tryd.ntmps41
  go_wp2_with fail
  exact bodyPost_ret (v := nodeA (1, x, 0)) (by simp [results, Tryd.results41, go_sem]) rfl ⟨rfl, (Below.refl _ _).alloc (Nat.le_refl _) _⟩
def rowA : List Node3 := [(5, 0, 0), (1, 0, 0), (6, 0, 0), (1, 0, 0), (1, 1, 0)]
def rowB : List Node3 := [(1, 5, 0)]
def rowC : List Node3 := [(5, 0, 0), (1, 5, 0), (6, 0, 0), (1, 0, 0), (1, 6, 0)]
def rowD : List Node3 := [(3, 0, 0)]
theorem subst_awake : substS rowA rowB 0 = (rowC, 0) := by kernel_rfl
theorem shape_awake : shapeOf rowD = 8 := by kernel_rfl
theorem subst_known (g h : Nat) (w : World) (h5 : Holds w (some ⟨g, 0, none⟩) (nodesV rowA)) (h7 : Holds w (some ⟨h, 0, none⟩) (nodesV rowB)) (hL : Lim w) :
    Calls Tryd.prog 32 #[.slice (some ⟨g, 0, none⟩) 5 5, .slice (some ⟨h, 0, none⟩) 1 1, .int .i64 0] w fun e w' => ∃ A c, e = .returned (.tuple #[.slice A 5 c, .int .i64 0]) ∧ OwnN w' w.heap.size (.slice A 5 c) 5 rowC ∧ Below w.heap.size w w' := by
  refine (subst_any _ _ 5 5 1 1 rowA rowB 0 w rfl ⟨Nat.le_refl _, by omega, fun h => by cases h⟩ h5 rfl ⟨Nat.le_refl _, by omega, fun h => by cases h⟩ h7 hL (by unfold I64; omega)).mono fun e w' hp => ?_
  rw [subst_awake] at hp
  obtain ⟨A, n, c, he, hn, ho, hb⟩ := hp
  obtain rfl : 5 = n := hn
  exact ⟨A, c, he, ho, hb⟩
theorem shape_known (g : Nat) (w : World) (h : Holds w (some ⟨g, 0, none⟩) (nodesV rowD)) (hL : Lim w) : Calls Tryd.prog 15 #[.slice (some ⟨g, 0, none⟩) 1 1] w fun e w' => e = .returned (.int .i64 8) ∧ Below w.heap.size w w' := by
  have := shape_any (some ⟨g, 0, none⟩) 1 1 rowD w rfl h hL
  rwa [shape_awake] at this
set_option maxHeartbeats 4000000 in
theorem awake_any (w : World) (hL : Lim w) : Calls Tryd.prog 13 #[] w fun e w' => e = .returned (.bool true) ∧ Below w.heap.size w w' := by
  have hb0 : Below w.heap.size w ((w.alloc (.cells #[.int .i64 5, .int .i64 0, .int .i64 0] 53)).alloc (.cells #[.int .i64 6, .int .i64 0, .int .i64 0] 53)) := ((Below.refl _ _).alloc (Nat.le_refl _) _).alloc (by simp) _
  have x1 : Whole ((w.alloc (.cells #[.int .i64 5, .int .i64 0, .int .i64 0] 53)).alloc (.cells #[.int .i64 6, .int .i64 0, .int .i64 0] 53)) w.heap.size #[.int .i64 5, .int .i64 0, .int .i64 0] 53 := (Whole.new w _ _).below ((Below.refl _ _).alloc (Nat.le_refl _) _) (by simp)
  have x2 : Whole ((w.alloc (.cells #[.int .i64 5, .int .i64 0, .int .i64 0] 53)).alloc (.cells #[.int .i64 6, .int .i64 0, .int .i64 0] 53)) (w.heap.size + 1) #[.int .i64 6, .int .i64 0, .int .i64 0] 53 := by
    have := Whole.new (w.alloc (.cells #[.int .i64 5, .int .i64 0, .int .i64 0] 53)) #[.int .i64 6, .int .i64 0, .int .i64 0] 53
    rwa [World.size_alloc] at this
  have HKS := Lib.hid (show ∀ w', Below ((w.alloc (.cells #[.int .i64 5, .int .i64 0, .int .i64 0] 53)).alloc (.cells #[.int .i64 6, .int .i64 0, .int .i64 0] 53)).heap.size ((w.alloc (.cells #[.int .i64 5, .int .i64 0, .int .i64 0] 53)).alloc (.cells #[.int .i64 6, .int .i64 0, .int .i64 0] 53)) w' → (fun w' => (w'.cell? ⟨w.heap.size, 0, none⟩ = some (.int .i64 5) ∧ w'.cell? ⟨w.heap.size, 1, none⟩ = some (.int .i64 0) ∧ w'.cell? ⟨w.heap.size, 2, none⟩ = some (.int .i64 0) ∧ w'.cell? ⟨w.heap.size + 1, 0, none⟩ = some (.int .i64 6) ∧ w'.cell? ⟨w.heap.size + 1, 1, none⟩ = some (.int .i64 0) ∧ w'.cell? ⟨w.heap.size + 1, 2, none⟩ = some (.int .i64 0)) ∧ Below ((w.alloc (.cells #[.int .i64 5, .int .i64 0, .int .i64 0] 53)).alloc (.cells #[.int .i64 6, .int .i64 0, .int .i64 0] 53)).heap.size ((w.alloc (.cells #[.int .i64 5, .int .i64 0, .int .i64 0] 53)).alloc (.cells #[.int .i64 6, .int .i64 0, .int .i64 0] 53)) w') w' from fun w' g => ⟨⟨(x1.below g x1.lt).cell 0, (x1.below g x1.lt).cell 1, (x1.below g x1.lt).cell 2, (x2.below g x2.lt).cell 0, (x2.below g x2.lt).cell 1, (x2.below g x2.lt).cell 2⟩, g⟩)
  have HL := Lib.hid (hL.next hb0)
  have HB0 := Lib.hid hb0
  clear hL hb0 x1 x2
  go_enter Tryd.func13, Tryd.ntmps13
  go_wp2_with fail
  refine region_begin_any (S := fun w' => (w'.cell? ⟨w.heap.size, 0, none⟩ = some (.int .i64 5) ∧ w'.cell? ⟨w.heap.size, 1, none⟩ = some (.int .i64 0) ∧ w'.cell? ⟨w.heap.size, 2, none⟩ = some (.int .i64 0) ∧ w'.cell? ⟨w.heap.size + 1, 0, none⟩ = some (.int .i64 6) ∧ w'.cell? ⟨w.heap.size + 1, 1, none⟩ = some (.int .i64 0) ∧ w'.cell? ⟨w.heap.size + 1, 2, none⟩ = some (.int .i64 0)) ∧ Below ((w.alloc (.cells #[.int .i64 5, .int .i64 0, .int .i64 0] 53)).alloc (.cells #[.int .i64 6, .int .i64 0, .int .i64 0] 53)).heap.size ((w.alloc (.cells #[.int .i64 5, .int .i64 0, .int .i64 0] 53)).alloc (.cells #[.int .i64 6, .int .i64 0, .int .i64 0] 53)) w') (by kernel_rfl) (HKS.out _ (below_drewN (Below.refl _ _) 1)) (fun W hW hHeld => ?_)
  subst hW
  refine region_take 0 ?_ rfl (by kernel_rfl) (by rfl) hHeld ?_ ?_
  rotate_left
  · intro w hSw
    (try dsimp only at hSw)
    go_simp
    try with_reducible rfl
  try simp only [Act.put, List.setIfInBounds_toArray, List.set_cons_zero, List.set_cons_succ]
  refine region_take 2 ?_ rfl (by kernel_rfl) (by rfl) hHeld ?_ ?_
  rotate_left
  · intro w hSw
    (try dsimp only at hSw)
    go_simp
    try with_reducible rfl
  try simp only [Act.put, List.setIfInBounds_toArray, List.set_cons_zero, List.set_cons_succ]
  refine region_call 1 rfl (by kernel_rfl) (by rfl) (fun K hK => ?_)
  go_simp
  go_at_call 41
  refine (v_any 0 _).mono ?_
  rintro e w1 ⟨rfl, g1⟩
  refine hK.out _ _ (HKS.out _ (below_step hHeld.2 g1)) (fun hHeld => ?_)
  clear hK K
  try simp only [Act.put, List.setIfInBounds_toArray, List.set_cons_zero, List.set_cons_succ]
  refine region_call 3 rfl (by kernel_rfl) (by rfl) (fun K hK => ?_)
  go_simp
  go_at_call 41
  refine (v_any 0 _).mono ?_
  rintro e w3 ⟨rfl, g3⟩
  refine hK.out _ _ (HKS.out _ (below_step hHeld.2 g3)) (fun hHeld => ?_)
  clear hK K
  try simp only [Act.put, List.setIfInBounds_toArray, List.set_cons_zero, List.set_cons_succ]
  refine region_call 4 rfl (by kernel_rfl) (by rfl) (fun K hK => ?_)
  go_simp
  go_at_call 41
  refine (v_any 1 _).mono ?_
  rintro e w4 ⟨rfl, g4⟩
  refine hK.out _ _ (HKS.out _ (below_step hHeld.2 g4)) (fun hHeld => ?_)
  clear hK K
  try simp only [Act.put, List.setIfInBounds_toArray, List.set_cons_zero, List.set_cons_succ]
  refine region_two 5 6 rfl rfl (by kernel_rfl) (by rfl) (by rfl) (fun K hK => ?_) (fun K hK => ?_)
  · go_simp
    refine hK.out _ _ (HKS.out _ (below_alloc hHeld.2 _)) (fun hHeld => ?_)
    clear hK K
    have g5 : Below w4.heap.size w4 (w4.alloc (.cells #[.int .i64 5, .int .i64 0, .int .i64 0, .int .i64 1, .int .i64 0, .int .i64 0, .int .i64 6, .int .i64 0, .int .i64 0, .int .i64 1, .int .i64 0, .int .i64 0, .int .i64 1, .int .i64 1, .int .i64 0] 53)) := (Below.refl _ _).alloc (Nat.le_refl _) _
    have h5 : Holds (w4.alloc (.cells #[.int .i64 5, .int .i64 0, .int .i64 0, .int .i64 1, .int .i64 0, .int .i64 0, .int .i64 6, .int .i64 0, .int .i64 0, .int .i64 1, .int .i64 0, .int .i64 0, .int .i64 1, .int .i64 1, .int .i64 0] 53)) (some ⟨w4.heap.size, 0, none⟩) (nodesV rowA) := holds_lit w4 [.int .i64 5, .int .i64 0, .int .i64 0, .int .i64 1, .int .i64 0, .int .i64 0, .int .i64 6, .int .i64 0, .int .i64 0, .int .i64 1, .int .i64 0, .int .i64 0, .int .i64 1, .int .i64 1, .int .i64 0] _
    generalize w4.alloc (.cells #[.int .i64 5, .int .i64 0, .int .i64 0, .int .i64 1, .int .i64 0, .int .i64 0, .int .i64 6, .int .i64 0, .int .i64 0, .int .i64 1, .int .i64 0, .int .i64 0, .int .i64 1, .int .i64 1, .int .i64 0] 53) = w5 at *
    try simp only [Act.put, List.setIfInBounds_toArray, List.set_cons_zero, List.set_cons_succ]
    refine region_call 6 rfl (by kernel_rfl) (by rfl) (fun K hK => ?_)
    go_simp
    go_at_call 41
    refine (v_any 5 _).mono ?_
    rintro e w6 ⟨rfl, g6⟩
    refine hK.out _ _ (HKS.out _ (below_step hHeld.2 g6)) (fun hHeld => ?_)
    clear hK K
    have h5_6 := h5.below g6
    clear h5
    try simp only [Act.put, List.setIfInBounds_toArray, List.set_cons_zero, List.set_cons_succ]
    refine region_call 7 rfl (by kernel_rfl) (by rfl) (fun K hK => ?_)
    go_simp
    refine hK.out _ _ (HKS.out _ (below_alloc hHeld.2 _)) (fun hHeld => ?_)
    clear hK K
    have g7 : Below w6.heap.size w6 (w6.alloc (.cells #[.int .i64 1, .int .i64 5, .int .i64 0] 53)) := (Below.refl _ _).alloc (Nat.le_refl _) _
    have h7 : Holds (w6.alloc (.cells #[.int .i64 1, .int .i64 5, .int .i64 0] 53)) (some ⟨w6.heap.size, 0, none⟩) (nodesV rowB) := holds_lit w6 [.int .i64 1, .int .i64 5, .int .i64 0] _
    generalize w6.alloc (.cells #[.int .i64 1, .int .i64 5, .int .i64 0] 53) = w7 at *
    have h5_6_7 := h5_6.below g7
    clear h5_6
    try simp only [Act.put, List.setIfInBounds_toArray, List.set_cons_zero, List.set_cons_succ]
    refine region_call 8 rfl (by kernel_rfl) (by rfl) (fun K hK => ?_)
    go_simp
    go_at_call 32
    refine (subst_known _ _ _ h5_6_7 h7 (HL.out.next hHeld.2)).mono ?_
    rintro e w8 ⟨A8, c8, rfl, ho8, g8⟩
    refine hK.out _ _ (HKS.out _ (below_step hHeld.2 g8)) (fun hHeld => ?_)
    clear hK K
    try simp only [Act.put, List.setIfInBounds_toArray, List.set_cons_zero, List.set_cons_succ]
    refine region_take 9 ?_ rfl (by kernel_rfl) (by rfl) hHeld ?_ ?_
    rotate_left
    · intro w hSw
      (try dsimp only at hSw)
      go_simp
      try with_reducible rfl
    try simp only [Act.put, List.setIfInBounds_toArray, List.set_cons_zero, List.set_cons_succ]
    refine region_take 10 ?_ rfl (by kernel_rfl) (by rfl) hHeld ?_ ?_
    rotate_left
    · intro w hSw
      (try dsimp only at hSw)
      go_simp
      try with_reducible rfl
    try simp only [Act.put, List.setIfInBounds_toArray, List.set_cons_zero, List.set_cons_succ]
    refine region_take 11 ?_ rfl (by kernel_rfl) (by rfl) hHeld ?_ ?_
    rotate_left
    · intro w hSw
      (try dsimp only at hSw)
      go_simp
      try with_reducible rfl
    try simp only [Act.put, List.setIfInBounds_toArray, List.set_cons_zero, List.set_cons_succ]
    refine region_take 12 ?_ rfl (by kernel_rfl) (by rfl) hHeld ?_ ?_
    rotate_left
    · intro w hSw
      (try dsimp only at hSw)
      go_simp
      try with_reducible rfl
    try simp only [Act.put, List.setIfInBounds_toArray, List.set_cons_zero, List.set_cons_succ]
    refine region_take 13 ?_ rfl (by kernel_rfl) (by rfl) hHeld ?_ ?_
    rotate_left
    · intro w hSw
      (try dsimp only at hSw)
      go_simp
      try with_reducible rfl
    try simp only [Act.put, List.setIfInBounds_toArray, List.set_cons_zero, List.set_cons_succ]
    refine region_done (by kernel_rfl) ?_
    obtain ⟨-, hb8⟩ := hHeld
    have HB8 := Lib.hid hb8
    have HO8 := Lib.hid (own_holds ho8)
    clear hb8 ho8 g1 g3 g4 g5 g6 g7 g8 h5_6_7 h7
    go_wp2_with fail
    have k0 : Holds w8.drew A8 (nodesV rowC) := HO8.out
    refine region_begin_any (S := fun w' => (w'.cell? ⟨w.heap.size, 0, none⟩ = some (.int .i64 5) ∧ w'.cell? ⟨w.heap.size, 1, none⟩ = some (.int .i64 0) ∧ w'.cell? ⟨w.heap.size, 2, none⟩ = some (.int .i64 0) ∧ w'.cell? ⟨w.heap.size + 1, 0, none⟩ = some (.int .i64 6) ∧ w'.cell? ⟨w.heap.size + 1, 1, none⟩ = some (.int .i64 0) ∧ w'.cell? ⟨w.heap.size + 1, 2, none⟩ = some (.int .i64 0)) ∧ Below ((w.alloc (.cells #[.int .i64 5, .int .i64 0, .int .i64 0] 53)).alloc (.cells #[.int .i64 6, .int .i64 0, .int .i64 0] 53)).heap.size ((w.alloc (.cells #[.int .i64 5, .int .i64 0, .int .i64 0] 53)).alloc (.cells #[.int .i64 6, .int .i64 0, .int .i64 0] 53)) w') (by kernel_rfl) (HKS.out _ (below_drewN HB8.out 1)) (fun W hW hHeld => ?_)
    subst hW
    refine region_take 0 ?_ rfl (by kernel_rfl) (by rfl) hHeld ?_ ?_
    rotate_left
    · intro w hSw
      (try dsimp only at hSw)
      go_simp
      try with_reducible rfl
    try simp only [Act.put, List.setIfInBounds_toArray, List.set_cons_zero, List.set_cons_succ]
    refine region_take 1 ?_ rfl (by kernel_rfl) (by rfl) hHeld ?_ ?_
    rotate_left
    · intro w hSw
      (try dsimp only at hSw)
      go_simp
      try with_reducible rfl
    try simp only [Act.put, List.setIfInBounds_toArray, List.set_cons_zero, List.set_cons_succ]
    refine region_take 2 ?_ rfl (by kernel_rfl) (by rfl) hHeld ?_ ?_
    rotate_left
    · intro w hSw
      (try dsimp only at hSw)
      go_simp
      try with_reducible rfl
    try simp only [Act.put, List.setIfInBounds_toArray, List.set_cons_zero, List.set_cons_succ]
    refine region_take 3 ?_ rfl (by kernel_rfl) (by rfl) hHeld ?_ ?_
    rotate_left
    · intro w hSw
      (try dsimp only at hSw)
      go_simp
      try with_reducible rfl
    try simp only [Act.put, List.setIfInBounds_toArray, List.set_cons_zero, List.set_cons_succ]
    refine region_take 4 ?_ rfl (by kernel_rfl) (by rfl) hHeld ?_ ?_
    rotate_left
    · intro w hSw
      (try dsimp only at hSw)
      go_simp
      try with_reducible rfl
    try simp only [Act.put, List.setIfInBounds_toArray, List.set_cons_zero, List.set_cons_succ]
    refine region_take 6 ?_ rfl (by kernel_rfl) (by rfl) hHeld ?_ ?_
    rotate_left
    · intro w hSw
      (try dsimp only at hSw)
      go_simp
      try with_reducible rfl
    try simp only [Act.put, List.setIfInBounds_toArray, List.set_cons_zero, List.set_cons_succ]
    refine region_call 5 rfl (by kernel_rfl) (by rfl) (fun K hK => ?_)
    go_simp
    go_at_call 41
    refine (v_any 5 _).mono ?_
    rintro e w5' ⟨rfl, g5⟩
    refine hK.out _ _ (HKS.out _ (below_step hHeld.2 g5)) (fun hHeld => ?_)
    clear hK K
    have k5 := k0.below g5
    try simp only [Act.put, List.setIfInBounds_toArray, List.set_cons_zero, List.set_cons_succ]
    refine region_call 7 rfl (by kernel_rfl) (by rfl) (fun K hK => ?_)
    go_simp
    go_at_call 41
    refine (v_any 0 _).mono ?_
    rintro e w7' ⟨rfl, g7⟩
    refine hK.out _ _ (HKS.out _ (below_step hHeld.2 g7)) (fun hHeld => ?_)
    clear hK K
    have k7 := k5.below g7
    try simp only [Act.put, List.setIfInBounds_toArray, List.set_cons_zero, List.set_cons_succ]
    refine region_call 8 rfl (by kernel_rfl) (by rfl) (fun K hK => ?_)
    go_simp
    go_at_call 41
    refine (v_any 6 _).mono ?_
    rintro e w8' ⟨rfl, g8⟩
    refine hK.out _ _ (HKS.out _ (below_step hHeld.2 g8)) (fun hHeld => ?_)
    clear hK K
    have k8 := k7.below g8
    try simp only [Act.put, List.setIfInBounds_toArray, List.set_cons_zero, List.set_cons_succ]
    refine region_call 9 rfl (by kernel_rfl) (by rfl) (fun K hK => ?_)
    go_simp
    refine hK.out _ _ (HKS.out _ (below_alloc hHeld.2 _)) (fun hHeld => ?_)
    clear hK K
    have k9 := k8.alloc (.cells #[.int .i64 5, .int .i64 0, .int .i64 0, .int .i64 1, .int .i64 5, .int .i64 0, .int .i64 6, .int .i64 0, .int .i64 0, .int .i64 1, .int .i64 0, .int .i64 0, .int .i64 1, .int .i64 6, .int .i64 0] 53)
    have h9 : Holds (w8'.alloc (.cells #[.int .i64 5, .int .i64 0, .int .i64 0, .int .i64 1, .int .i64 5, .int .i64 0, .int .i64 6, .int .i64 0, .int .i64 0, .int .i64 1, .int .i64 0, .int .i64 0, .int .i64 1, .int .i64 6, .int .i64 0] 53)) (some ⟨w8'.heap.size, 0, none⟩) (nodesV rowC) := holds_lit w8' [.int .i64 5, .int .i64 0, .int .i64 0, .int .i64 1, .int .i64 5, .int .i64 0, .int .i64 6, .int .i64 0, .int .i64 0, .int .i64 1, .int .i64 0, .int .i64 0, .int .i64 1, .int .i64 6, .int .i64 0] _
    generalize w8'.alloc (.cells #[.int .i64 5, .int .i64 0, .int .i64 0, .int .i64 1, .int .i64 5, .int .i64 0, .int .i64 6, .int .i64 0, .int .i64 0, .int .i64 1, .int .i64 0, .int .i64 0, .int .i64 1, .int .i64 6, .int .i64 0] 53) = w9 at *
    try simp only [Act.put, List.setIfInBounds_toArray, List.set_cons_zero, List.set_cons_succ]
    refine region_call 10 rfl (by kernel_rfl) (by rfl) (fun K hK => ?_)
    go_simp
    go_at_call 27
    refine (tsame_n _ _ 5 5 _ _ rowC rowC _ rfl rfl k9 h9 (by omega) true (by decide)).mono ?_
    rintro e w10 ⟨rfl, g10⟩
    refine hK.out _ _ (HKS.out _ (below_step hHeld.2 g10)) (fun hHeld => ?_)
    clear hK K
    try simp only [Act.put, List.setIfInBounds_toArray, List.set_cons_zero, List.set_cons_succ]
    refine region_take 11 ?_ rfl (by kernel_rfl) (by rfl) hHeld ?_ ?_
    rotate_left
    · intro w hSw
      (try dsimp only at hSw)
      go_simp
      try with_reducible rfl
    try simp only [Act.put, List.setIfInBounds_toArray, List.set_cons_zero, List.set_cons_succ]
    refine region_take 12 ?_ rfl (by kernel_rfl) (by rfl) hHeld ?_ ?_
    rotate_left
    · intro w hSw
      (try dsimp only at hSw)
      go_simp
      try with_reducible rfl
    try simp only [Act.put, List.setIfInBounds_toArray, List.set_cons_zero, List.set_cons_succ]
    refine region_take 13 ?_ rfl (by kernel_rfl) (by rfl) hHeld ?_ ?_
    rotate_left
    · intro w hSw
      (try dsimp only at hSw)
      go_simp
      try with_reducible rfl
    try simp only [Act.put, List.setIfInBounds_toArray, List.set_cons_zero, List.set_cons_succ]
    refine region_call 14 rfl (by kernel_rfl) (by rfl) (fun K hK => ?_)
    go_simp
    refine hK.out _ _ (HKS.out _ (below_alloc hHeld.2 _)) (fun hHeld => ?_)
    clear hK K
    have h14 : Holds (w10.alloc (.cells #[.int .i64 3, .int .i64 0, .int .i64 0] 53)) (some ⟨w10.heap.size, 0, none⟩) (nodesV rowD) := holds_lit w10 [.int .i64 3, .int .i64 0, .int .i64 0] _
    generalize w10.alloc (.cells #[.int .i64 3, .int .i64 0, .int .i64 0] 53) = w14 at *
    try simp only [Act.put, List.setIfInBounds_toArray, List.set_cons_zero, List.set_cons_succ]
    refine region_call 15 rfl (by kernel_rfl) (by rfl) (fun K hK => ?_)
    go_simp
    go_at_call 15
    refine (shape_known _ _ h14 (HL.out.next hHeld.2)).mono ?_
    rintro e w15 ⟨rfl, g15⟩
    refine hK.out _ _ (HKS.out _ (below_step hHeld.2 g15)) (fun hHeld => ?_)
    clear hK K
    try simp only [Act.put, List.setIfInBounds_toArray, List.set_cons_zero, List.set_cons_succ]
    refine region_take 16 ?_ rfl (by kernel_rfl) (by rfl) hHeld ?_ ?_
    rotate_left
    · intro w hSw
      (try dsimp only at hSw)
      go_simp
      try with_reducible rfl
    try simp only [Act.put, List.setIfInBounds_toArray, List.set_cons_zero, List.set_cons_succ]
    refine region_take 17 ?_ rfl (by kernel_rfl) (by rfl) hHeld ?_ ?_
    rotate_left
    · intro w hSw
      (try dsimp only at hSw)
      go_simp
      try with_reducible rfl
    try simp only [Act.put, List.setIfInBounds_toArray, List.set_cons_zero, List.set_cons_succ]
    refine region_take 18 ?_ rfl (by kernel_rfl) (by rfl) hHeld ?_ ?_
    rotate_left
    · intro w hSw
      (try dsimp only at hSw)
      go_simp
      try with_reducible rfl
    try simp only [Act.put, List.setIfInBounds_toArray, List.set_cons_zero]
    refine region_done (by kernel_rfl) ?_
    obtain ⟨-, hb15⟩ := hHeld
    have HB15 := Lib.hid hb15
    clear hb15 g5 g7 g8 g10 g15 k5 k7 k8 k9 h9 h14
    go_wp2_with fail
    go_ret
    exact ⟨rfl, below_step HB0.out HB15.out⟩
  · go_simp
    go_at_call 41
    refine (v_any 5 _).mono ?_
    rintro e w6 ⟨rfl, g6⟩
    refine hK.out _ _ (HKS.out _ (below_step hHeld.2 g6)) (fun hHeld => ?_)
    clear hK K
    try simp only [Act.put, List.setIfInBounds_toArray, List.set_cons_zero, List.set_cons_succ]
    refine region_two 5 7 rfl rfl (by kernel_rfl) (by rfl) (by rfl) (fun K hK => ?_) (fun K hK => ?_)
    · go_simp
      refine hK.out _ _ (HKS.out _ (below_alloc hHeld.2 _)) (fun hHeld => ?_)
      clear hK K
      have g5 : Below w6.heap.size w6 (w6.alloc (.cells #[.int .i64 5, .int .i64 0, .int .i64 0, .int .i64 1, .int .i64 0, .int .i64 0, .int .i64 6, .int .i64 0, .int .i64 0, .int .i64 1, .int .i64 0, .int .i64 0, .int .i64 1, .int .i64 1, .int .i64 0] 53)) := (Below.refl _ _).alloc (Nat.le_refl _) _
      have h5 : Holds (w6.alloc (.cells #[.int .i64 5, .int .i64 0, .int .i64 0, .int .i64 1, .int .i64 0, .int .i64 0, .int .i64 6, .int .i64 0, .int .i64 0, .int .i64 1, .int .i64 0, .int .i64 0, .int .i64 1, .int .i64 1, .int .i64 0] 53)) (some ⟨w6.heap.size, 0, none⟩) (nodesV rowA) := holds_lit w6 [.int .i64 5, .int .i64 0, .int .i64 0, .int .i64 1, .int .i64 0, .int .i64 0, .int .i64 6, .int .i64 0, .int .i64 0, .int .i64 1, .int .i64 0, .int .i64 0, .int .i64 1, .int .i64 1, .int .i64 0] _
      generalize w6.alloc (.cells #[.int .i64 5, .int .i64 0, .int .i64 0, .int .i64 1, .int .i64 0, .int .i64 0, .int .i64 6, .int .i64 0, .int .i64 0, .int .i64 1, .int .i64 0, .int .i64 0, .int .i64 1, .int .i64 1, .int .i64 0] 53) = w5 at *
      try simp only [Act.put, List.setIfInBounds_toArray, List.set_cons_zero, List.set_cons_succ]
      refine region_call 7 rfl (by kernel_rfl) (by rfl) (fun K hK => ?_)
      go_simp
      refine hK.out _ _ (HKS.out _ (below_alloc hHeld.2 _)) (fun hHeld => ?_)
      clear hK K
      have g7 : Below w5.heap.size w5 (w5.alloc (.cells #[.int .i64 1, .int .i64 5, .int .i64 0] 53)) := (Below.refl _ _).alloc (Nat.le_refl _) _
      have h7 : Holds (w5.alloc (.cells #[.int .i64 1, .int .i64 5, .int .i64 0] 53)) (some ⟨w5.heap.size, 0, none⟩) (nodesV rowB) := holds_lit w5 [.int .i64 1, .int .i64 5, .int .i64 0] _
      generalize w5.alloc (.cells #[.int .i64 1, .int .i64 5, .int .i64 0] 53) = w7 at *
      have h5_7 := h5.below g7
      clear h5
      try simp only [Act.put, List.setIfInBounds_toArray, List.set_cons_zero, List.set_cons_succ]
      refine region_call 8 rfl (by kernel_rfl) (by rfl) (fun K hK => ?_)
      go_simp
      go_at_call 32
      refine (subst_known _ _ _ h5_7 h7 (HL.out.next hHeld.2)).mono ?_
      rintro e w8 ⟨A8, c8, rfl, ho8, g8⟩
      refine hK.out _ _ (HKS.out _ (below_step hHeld.2 g8)) (fun hHeld => ?_)
      clear hK K
      try simp only [Act.put, List.setIfInBounds_toArray, List.set_cons_zero, List.set_cons_succ]
      refine region_take 9 ?_ rfl (by kernel_rfl) (by rfl) hHeld ?_ ?_
      rotate_left
      · intro w hSw
        (try dsimp only at hSw)
        go_simp
        try with_reducible rfl
      try simp only [Act.put, List.setIfInBounds_toArray, List.set_cons_zero, List.set_cons_succ]
      refine region_take 10 ?_ rfl (by kernel_rfl) (by rfl) hHeld ?_ ?_
      rotate_left
      · intro w hSw
        (try dsimp only at hSw)
        go_simp
        try with_reducible rfl
      try simp only [Act.put, List.setIfInBounds_toArray, List.set_cons_zero, List.set_cons_succ]
      refine region_take 11 ?_ rfl (by kernel_rfl) (by rfl) hHeld ?_ ?_
      rotate_left
      · intro w hSw
        (try dsimp only at hSw)
        go_simp
        try with_reducible rfl
      try simp only [Act.put, List.setIfInBounds_toArray, List.set_cons_zero, List.set_cons_succ]
      refine region_take 12 ?_ rfl (by kernel_rfl) (by rfl) hHeld ?_ ?_
      rotate_left
      · intro w hSw
        (try dsimp only at hSw)
        go_simp
        try with_reducible rfl
      try simp only [Act.put, List.setIfInBounds_toArray, List.set_cons_zero, List.set_cons_succ]
      refine region_take 13 ?_ rfl (by kernel_rfl) (by rfl) hHeld ?_ ?_
      rotate_left
      · intro w hSw
        (try dsimp only at hSw)
        go_simp
        try with_reducible rfl
      try simp only [Act.put, List.setIfInBounds_toArray, List.set_cons_zero, List.set_cons_succ]
      refine region_done (by kernel_rfl) ?_
      obtain ⟨-, hb8⟩ := hHeld
      have HB8 := Lib.hid hb8
      have HO8 := Lib.hid (own_holds ho8)
      clear hb8 ho8 g1 g3 g4 g6 g5 g7 g8 h5_7 h7
      go_wp2_with fail
      have k0 : Holds w8.drew A8 (nodesV rowC) := HO8.out
      refine region_begin_any (S := fun w' => (w'.cell? ⟨w.heap.size, 0, none⟩ = some (.int .i64 5) ∧ w'.cell? ⟨w.heap.size, 1, none⟩ = some (.int .i64 0) ∧ w'.cell? ⟨w.heap.size, 2, none⟩ = some (.int .i64 0) ∧ w'.cell? ⟨w.heap.size + 1, 0, none⟩ = some (.int .i64 6) ∧ w'.cell? ⟨w.heap.size + 1, 1, none⟩ = some (.int .i64 0) ∧ w'.cell? ⟨w.heap.size + 1, 2, none⟩ = some (.int .i64 0)) ∧ Below ((w.alloc (.cells #[.int .i64 5, .int .i64 0, .int .i64 0] 53)).alloc (.cells #[.int .i64 6, .int .i64 0, .int .i64 0] 53)).heap.size ((w.alloc (.cells #[.int .i64 5, .int .i64 0, .int .i64 0] 53)).alloc (.cells #[.int .i64 6, .int .i64 0, .int .i64 0] 53)) w') (by kernel_rfl) (HKS.out _ (below_drewN HB8.out 1)) (fun W hW hHeld => ?_)
      subst hW
      refine region_take 0 ?_ rfl (by kernel_rfl) (by rfl) hHeld ?_ ?_
      rotate_left
      · intro w hSw
        (try dsimp only at hSw)
        go_simp
        try with_reducible rfl
      try simp only [Act.put, List.setIfInBounds_toArray, List.set_cons_zero, List.set_cons_succ]
      refine region_take 1 ?_ rfl (by kernel_rfl) (by rfl) hHeld ?_ ?_
      rotate_left
      · intro w hSw
        (try dsimp only at hSw)
        go_simp
        try with_reducible rfl
      try simp only [Act.put, List.setIfInBounds_toArray, List.set_cons_zero, List.set_cons_succ]
      refine region_take 2 ?_ rfl (by kernel_rfl) (by rfl) hHeld ?_ ?_
      rotate_left
      · intro w hSw
        (try dsimp only at hSw)
        go_simp
        try with_reducible rfl
      try simp only [Act.put, List.setIfInBounds_toArray, List.set_cons_zero, List.set_cons_succ]
      refine region_take 3 ?_ rfl (by kernel_rfl) (by rfl) hHeld ?_ ?_
      rotate_left
      · intro w hSw
        (try dsimp only at hSw)
        go_simp
        try with_reducible rfl
      try simp only [Act.put, List.setIfInBounds_toArray, List.set_cons_zero, List.set_cons_succ]
      refine region_take 4 ?_ rfl (by kernel_rfl) (by rfl) hHeld ?_ ?_
      rotate_left
      · intro w hSw
        (try dsimp only at hSw)
        go_simp
        try with_reducible rfl
      try simp only [Act.put, List.setIfInBounds_toArray, List.set_cons_zero, List.set_cons_succ]
      refine region_take 6 ?_ rfl (by kernel_rfl) (by rfl) hHeld ?_ ?_
      rotate_left
      · intro w hSw
        (try dsimp only at hSw)
        go_simp
        try with_reducible rfl
      try simp only [Act.put, List.setIfInBounds_toArray, List.set_cons_zero, List.set_cons_succ]
      refine region_call 5 rfl (by kernel_rfl) (by rfl) (fun K hK => ?_)
      go_simp
      go_at_call 41
      refine (v_any 5 _).mono ?_
      rintro e w5' ⟨rfl, g5⟩
      refine hK.out _ _ (HKS.out _ (below_step hHeld.2 g5)) (fun hHeld => ?_)
      clear hK K
      have k5 := k0.below g5
      try simp only [Act.put, List.setIfInBounds_toArray, List.set_cons_zero, List.set_cons_succ]
      refine region_call 7 rfl (by kernel_rfl) (by rfl) (fun K hK => ?_)
      go_simp
      go_at_call 41
      refine (v_any 0 _).mono ?_
      rintro e w7' ⟨rfl, g7⟩
      refine hK.out _ _ (HKS.out _ (below_step hHeld.2 g7)) (fun hHeld => ?_)
      clear hK K
      have k7 := k5.below g7
      try simp only [Act.put, List.setIfInBounds_toArray, List.set_cons_zero, List.set_cons_succ]
      refine region_call 8 rfl (by kernel_rfl) (by rfl) (fun K hK => ?_)
      go_simp
      go_at_call 41
      refine (v_any 6 _).mono ?_
      rintro e w8' ⟨rfl, g8⟩
      refine hK.out _ _ (HKS.out _ (below_step hHeld.2 g8)) (fun hHeld => ?_)
      clear hK K
      have k8 := k7.below g8
      try simp only [Act.put, List.setIfInBounds_toArray, List.set_cons_zero, List.set_cons_succ]
      refine region_call 9 rfl (by kernel_rfl) (by rfl) (fun K hK => ?_)
      go_simp
      refine hK.out _ _ (HKS.out _ (below_alloc hHeld.2 _)) (fun hHeld => ?_)
      clear hK K
      have k9 := k8.alloc (.cells #[.int .i64 5, .int .i64 0, .int .i64 0, .int .i64 1, .int .i64 5, .int .i64 0, .int .i64 6, .int .i64 0, .int .i64 0, .int .i64 1, .int .i64 0, .int .i64 0, .int .i64 1, .int .i64 6, .int .i64 0] 53)
      have h9 : Holds (w8'.alloc (.cells #[.int .i64 5, .int .i64 0, .int .i64 0, .int .i64 1, .int .i64 5, .int .i64 0, .int .i64 6, .int .i64 0, .int .i64 0, .int .i64 1, .int .i64 0, .int .i64 0, .int .i64 1, .int .i64 6, .int .i64 0] 53)) (some ⟨w8'.heap.size, 0, none⟩) (nodesV rowC) := holds_lit w8' [.int .i64 5, .int .i64 0, .int .i64 0, .int .i64 1, .int .i64 5, .int .i64 0, .int .i64 6, .int .i64 0, .int .i64 0, .int .i64 1, .int .i64 0, .int .i64 0, .int .i64 1, .int .i64 6, .int .i64 0] _
      generalize w8'.alloc (.cells #[.int .i64 5, .int .i64 0, .int .i64 0, .int .i64 1, .int .i64 5, .int .i64 0, .int .i64 6, .int .i64 0, .int .i64 0, .int .i64 1, .int .i64 0, .int .i64 0, .int .i64 1, .int .i64 6, .int .i64 0] 53) = w9 at *
      try simp only [Act.put, List.setIfInBounds_toArray, List.set_cons_zero, List.set_cons_succ]
      refine region_call 10 rfl (by kernel_rfl) (by rfl) (fun K hK => ?_)
      go_simp
      go_at_call 27
      refine (tsame_n _ _ 5 5 _ _ rowC rowC _ rfl rfl k9 h9 (by omega) true (by decide)).mono ?_
      rintro e w10 ⟨rfl, g10⟩
      refine hK.out _ _ (HKS.out _ (below_step hHeld.2 g10)) (fun hHeld => ?_)
      clear hK K
      try simp only [Act.put, List.setIfInBounds_toArray, List.set_cons_zero, List.set_cons_succ]
      refine region_take 11 ?_ rfl (by kernel_rfl) (by rfl) hHeld ?_ ?_
      rotate_left
      · intro w hSw
        (try dsimp only at hSw)
        go_simp
        try with_reducible rfl
      try simp only [Act.put, List.setIfInBounds_toArray, List.set_cons_zero, List.set_cons_succ]
      refine region_take 12 ?_ rfl (by kernel_rfl) (by rfl) hHeld ?_ ?_
      rotate_left
      · intro w hSw
        (try dsimp only at hSw)
        go_simp
        try with_reducible rfl
      try simp only [Act.put, List.setIfInBounds_toArray, List.set_cons_zero, List.set_cons_succ]
      refine region_take 13 ?_ rfl (by kernel_rfl) (by rfl) hHeld ?_ ?_
      rotate_left
      · intro w hSw
        (try dsimp only at hSw)
        go_simp
        try with_reducible rfl
      try simp only [Act.put, List.setIfInBounds_toArray, List.set_cons_zero, List.set_cons_succ]
      refine region_call 14 rfl (by kernel_rfl) (by rfl) (fun K hK => ?_)
      go_simp
      refine hK.out _ _ (HKS.out _ (below_alloc hHeld.2 _)) (fun hHeld => ?_)
      clear hK K
      have h14 : Holds (w10.alloc (.cells #[.int .i64 3, .int .i64 0, .int .i64 0] 53)) (some ⟨w10.heap.size, 0, none⟩) (nodesV rowD) := holds_lit w10 [.int .i64 3, .int .i64 0, .int .i64 0] _
      generalize w10.alloc (.cells #[.int .i64 3, .int .i64 0, .int .i64 0] 53) = w14 at *
      try simp only [Act.put, List.setIfInBounds_toArray, List.set_cons_zero, List.set_cons_succ]
      refine region_call 15 rfl (by kernel_rfl) (by rfl) (fun K hK => ?_)
      go_simp
      go_at_call 15
      refine (shape_known _ _ h14 (HL.out.next hHeld.2)).mono ?_
      rintro e w15 ⟨rfl, g15⟩
      refine hK.out _ _ (HKS.out _ (below_step hHeld.2 g15)) (fun hHeld => ?_)
      clear hK K
      try simp only [Act.put, List.setIfInBounds_toArray, List.set_cons_zero, List.set_cons_succ]
      refine region_take 16 ?_ rfl (by kernel_rfl) (by rfl) hHeld ?_ ?_
      rotate_left
      · intro w hSw
        (try dsimp only at hSw)
        go_simp
        try with_reducible rfl
      try simp only [Act.put, List.setIfInBounds_toArray, List.set_cons_zero, List.set_cons_succ]
      refine region_take 17 ?_ rfl (by kernel_rfl) (by rfl) hHeld ?_ ?_
      rotate_left
      · intro w hSw
        (try dsimp only at hSw)
        go_simp
        try with_reducible rfl
      try simp only [Act.put, List.setIfInBounds_toArray, List.set_cons_zero, List.set_cons_succ]
      refine region_take 18 ?_ rfl (by kernel_rfl) (by rfl) hHeld ?_ ?_
      rotate_left
      · intro w hSw
        (try dsimp only at hSw)
        go_simp
        try with_reducible rfl
      try simp only [Act.put, List.setIfInBounds_toArray, List.set_cons_zero]
      refine region_done (by kernel_rfl) ?_
      obtain ⟨-, hb15⟩ := hHeld
      have HB15 := Lib.hid hb15
      clear hb15 g5 g7 g8 g10 g15 k5 k7 k8 k9 h9 h14
      go_wp2_with fail
      go_ret
      exact ⟨rfl, below_step HB0.out HB15.out⟩
    · go_simp
      refine hK.out _ _ (HKS.out _ (below_alloc hHeld.2 _)) (fun hHeld => ?_)
      clear hK K
      have g7 : Below w6.heap.size w6 (w6.alloc (.cells #[.int .i64 1, .int .i64 5, .int .i64 0] 53)) := (Below.refl _ _).alloc (Nat.le_refl _) _
      have h7 : Holds (w6.alloc (.cells #[.int .i64 1, .int .i64 5, .int .i64 0] 53)) (some ⟨w6.heap.size, 0, none⟩) (nodesV rowB) := holds_lit w6 [.int .i64 1, .int .i64 5, .int .i64 0] _
      generalize w6.alloc (.cells #[.int .i64 1, .int .i64 5, .int .i64 0] 53) = w7 at *
      try simp only [Act.put, List.setIfInBounds_toArray, List.set_cons_zero, List.set_cons_succ]
      refine region_call 5 rfl (by kernel_rfl) (by rfl) (fun K hK => ?_)
      go_simp
      refine hK.out _ _ (HKS.out _ (below_alloc hHeld.2 _)) (fun hHeld => ?_)
      clear hK K
      have g5 : Below w7.heap.size w7 (w7.alloc (.cells #[.int .i64 5, .int .i64 0, .int .i64 0, .int .i64 1, .int .i64 0, .int .i64 0, .int .i64 6, .int .i64 0, .int .i64 0, .int .i64 1, .int .i64 0, .int .i64 0, .int .i64 1, .int .i64 1, .int .i64 0] 53)) := (Below.refl _ _).alloc (Nat.le_refl _) _
      have h5 : Holds (w7.alloc (.cells #[.int .i64 5, .int .i64 0, .int .i64 0, .int .i64 1, .int .i64 0, .int .i64 0, .int .i64 6, .int .i64 0, .int .i64 0, .int .i64 1, .int .i64 0, .int .i64 0, .int .i64 1, .int .i64 1, .int .i64 0] 53)) (some ⟨w7.heap.size, 0, none⟩) (nodesV rowA) := holds_lit w7 [.int .i64 5, .int .i64 0, .int .i64 0, .int .i64 1, .int .i64 0, .int .i64 0, .int .i64 6, .int .i64 0, .int .i64 0, .int .i64 1, .int .i64 0, .int .i64 0, .int .i64 1, .int .i64 1, .int .i64 0] _
      generalize w7.alloc (.cells #[.int .i64 5, .int .i64 0, .int .i64 0, .int .i64 1, .int .i64 0, .int .i64 0, .int .i64 6, .int .i64 0, .int .i64 0, .int .i64 1, .int .i64 0, .int .i64 0, .int .i64 1, .int .i64 1, .int .i64 0] 53) = w5 at *
      have h7_5 := h7.below g5
      clear h7
      try simp only [Act.put, List.setIfInBounds_toArray, List.set_cons_zero, List.set_cons_succ]
      refine region_call 8 rfl (by kernel_rfl) (by rfl) (fun K hK => ?_)
      go_simp
      go_at_call 32
      refine (subst_known _ _ _ h5 h7_5 (HL.out.next hHeld.2)).mono ?_
      rintro e w8 ⟨A8, c8, rfl, ho8, g8⟩
      refine hK.out _ _ (HKS.out _ (below_step hHeld.2 g8)) (fun hHeld => ?_)
      clear hK K
      try simp only [Act.put, List.setIfInBounds_toArray, List.set_cons_zero, List.set_cons_succ]
      refine region_take 9 ?_ rfl (by kernel_rfl) (by rfl) hHeld ?_ ?_
      rotate_left
      · intro w hSw
        (try dsimp only at hSw)
        go_simp
        try with_reducible rfl
      try simp only [Act.put, List.setIfInBounds_toArray, List.set_cons_zero, List.set_cons_succ]
      refine region_take 10 ?_ rfl (by kernel_rfl) (by rfl) hHeld ?_ ?_
      rotate_left
      · intro w hSw
        (try dsimp only at hSw)
        go_simp
        try with_reducible rfl
      try simp only [Act.put, List.setIfInBounds_toArray, List.set_cons_zero, List.set_cons_succ]
      refine region_take 11 ?_ rfl (by kernel_rfl) (by rfl) hHeld ?_ ?_
      rotate_left
      · intro w hSw
        (try dsimp only at hSw)
        go_simp
        try with_reducible rfl
      try simp only [Act.put, List.setIfInBounds_toArray, List.set_cons_zero, List.set_cons_succ]
      refine region_take 12 ?_ rfl (by kernel_rfl) (by rfl) hHeld ?_ ?_
      rotate_left
      · intro w hSw
        (try dsimp only at hSw)
        go_simp
        try with_reducible rfl
      try simp only [Act.put, List.setIfInBounds_toArray, List.set_cons_zero, List.set_cons_succ]
      refine region_take 13 ?_ rfl (by kernel_rfl) (by rfl) hHeld ?_ ?_
      rotate_left
      · intro w hSw
        (try dsimp only at hSw)
        go_simp
        try with_reducible rfl
      try simp only [Act.put, List.setIfInBounds_toArray, List.set_cons_zero, List.set_cons_succ]
      refine region_done (by kernel_rfl) ?_
      obtain ⟨-, hb8⟩ := hHeld
      have HB8 := Lib.hid hb8
      have HO8 := Lib.hid (own_holds ho8)
      clear hb8 ho8 g1 g3 g4 g6 g7 g5 g8 h7_5 h5
      go_wp2_with fail
      have k0 : Holds w8.drew A8 (nodesV rowC) := HO8.out
      refine region_begin_any (S := fun w' => (w'.cell? ⟨w.heap.size, 0, none⟩ = some (.int .i64 5) ∧ w'.cell? ⟨w.heap.size, 1, none⟩ = some (.int .i64 0) ∧ w'.cell? ⟨w.heap.size, 2, none⟩ = some (.int .i64 0) ∧ w'.cell? ⟨w.heap.size + 1, 0, none⟩ = some (.int .i64 6) ∧ w'.cell? ⟨w.heap.size + 1, 1, none⟩ = some (.int .i64 0) ∧ w'.cell? ⟨w.heap.size + 1, 2, none⟩ = some (.int .i64 0)) ∧ Below ((w.alloc (.cells #[.int .i64 5, .int .i64 0, .int .i64 0] 53)).alloc (.cells #[.int .i64 6, .int .i64 0, .int .i64 0] 53)).heap.size ((w.alloc (.cells #[.int .i64 5, .int .i64 0, .int .i64 0] 53)).alloc (.cells #[.int .i64 6, .int .i64 0, .int .i64 0] 53)) w') (by kernel_rfl) (HKS.out _ (below_drewN HB8.out 1)) (fun W hW hHeld => ?_)
      subst hW
      refine region_take 0 ?_ rfl (by kernel_rfl) (by rfl) hHeld ?_ ?_
      rotate_left
      · intro w hSw
        (try dsimp only at hSw)
        go_simp
        try with_reducible rfl
      try simp only [Act.put, List.setIfInBounds_toArray, List.set_cons_zero, List.set_cons_succ]
      refine region_take 1 ?_ rfl (by kernel_rfl) (by rfl) hHeld ?_ ?_
      rotate_left
      · intro w hSw
        (try dsimp only at hSw)
        go_simp
        try with_reducible rfl
      try simp only [Act.put, List.setIfInBounds_toArray, List.set_cons_zero, List.set_cons_succ]
      refine region_take 2 ?_ rfl (by kernel_rfl) (by rfl) hHeld ?_ ?_
      rotate_left
      · intro w hSw
        (try dsimp only at hSw)
        go_simp
        try with_reducible rfl
      try simp only [Act.put, List.setIfInBounds_toArray, List.set_cons_zero, List.set_cons_succ]
      refine region_take 3 ?_ rfl (by kernel_rfl) (by rfl) hHeld ?_ ?_
      rotate_left
      · intro w hSw
        (try dsimp only at hSw)
        go_simp
        try with_reducible rfl
      try simp only [Act.put, List.setIfInBounds_toArray, List.set_cons_zero, List.set_cons_succ]
      refine region_take 4 ?_ rfl (by kernel_rfl) (by rfl) hHeld ?_ ?_
      rotate_left
      · intro w hSw
        (try dsimp only at hSw)
        go_simp
        try with_reducible rfl
      try simp only [Act.put, List.setIfInBounds_toArray, List.set_cons_zero, List.set_cons_succ]
      refine region_take 6 ?_ rfl (by kernel_rfl) (by rfl) hHeld ?_ ?_
      rotate_left
      · intro w hSw
        (try dsimp only at hSw)
        go_simp
        try with_reducible rfl
      try simp only [Act.put, List.setIfInBounds_toArray, List.set_cons_zero, List.set_cons_succ]
      refine region_call 5 rfl (by kernel_rfl) (by rfl) (fun K hK => ?_)
      go_simp
      go_at_call 41
      refine (v_any 5 _).mono ?_
      rintro e w5' ⟨rfl, g5⟩
      refine hK.out _ _ (HKS.out _ (below_step hHeld.2 g5)) (fun hHeld => ?_)
      clear hK K
      have k5 := k0.below g5
      try simp only [Act.put, List.setIfInBounds_toArray, List.set_cons_zero, List.set_cons_succ]
      refine region_call 7 rfl (by kernel_rfl) (by rfl) (fun K hK => ?_)
      go_simp
      go_at_call 41
      refine (v_any 0 _).mono ?_
      rintro e w7' ⟨rfl, g7⟩
      refine hK.out _ _ (HKS.out _ (below_step hHeld.2 g7)) (fun hHeld => ?_)
      clear hK K
      have k7 := k5.below g7
      try simp only [Act.put, List.setIfInBounds_toArray, List.set_cons_zero, List.set_cons_succ]
      refine region_call 8 rfl (by kernel_rfl) (by rfl) (fun K hK => ?_)
      go_simp
      go_at_call 41
      refine (v_any 6 _).mono ?_
      rintro e w8' ⟨rfl, g8⟩
      refine hK.out _ _ (HKS.out _ (below_step hHeld.2 g8)) (fun hHeld => ?_)
      clear hK K
      have k8 := k7.below g8
      try simp only [Act.put, List.setIfInBounds_toArray, List.set_cons_zero, List.set_cons_succ]
      refine region_call 9 rfl (by kernel_rfl) (by rfl) (fun K hK => ?_)
      go_simp
      refine hK.out _ _ (HKS.out _ (below_alloc hHeld.2 _)) (fun hHeld => ?_)
      clear hK K
      have k9 := k8.alloc (.cells #[.int .i64 5, .int .i64 0, .int .i64 0, .int .i64 1, .int .i64 5, .int .i64 0, .int .i64 6, .int .i64 0, .int .i64 0, .int .i64 1, .int .i64 0, .int .i64 0, .int .i64 1, .int .i64 6, .int .i64 0] 53)
      have h9 : Holds (w8'.alloc (.cells #[.int .i64 5, .int .i64 0, .int .i64 0, .int .i64 1, .int .i64 5, .int .i64 0, .int .i64 6, .int .i64 0, .int .i64 0, .int .i64 1, .int .i64 0, .int .i64 0, .int .i64 1, .int .i64 6, .int .i64 0] 53)) (some ⟨w8'.heap.size, 0, none⟩) (nodesV rowC) := holds_lit w8' [.int .i64 5, .int .i64 0, .int .i64 0, .int .i64 1, .int .i64 5, .int .i64 0, .int .i64 6, .int .i64 0, .int .i64 0, .int .i64 1, .int .i64 0, .int .i64 0, .int .i64 1, .int .i64 6, .int .i64 0] _
      generalize w8'.alloc (.cells #[.int .i64 5, .int .i64 0, .int .i64 0, .int .i64 1, .int .i64 5, .int .i64 0, .int .i64 6, .int .i64 0, .int .i64 0, .int .i64 1, .int .i64 0, .int .i64 0, .int .i64 1, .int .i64 6, .int .i64 0] 53) = w9 at *
      try simp only [Act.put, List.setIfInBounds_toArray, List.set_cons_zero, List.set_cons_succ]
      refine region_call 10 rfl (by kernel_rfl) (by rfl) (fun K hK => ?_)
      go_simp
      go_at_call 27
      refine (tsame_n _ _ 5 5 _ _ rowC rowC _ rfl rfl k9 h9 (by omega) true (by decide)).mono ?_
      rintro e w10 ⟨rfl, g10⟩
      refine hK.out _ _ (HKS.out _ (below_step hHeld.2 g10)) (fun hHeld => ?_)
      clear hK K
      try simp only [Act.put, List.setIfInBounds_toArray, List.set_cons_zero, List.set_cons_succ]
      refine region_take 11 ?_ rfl (by kernel_rfl) (by rfl) hHeld ?_ ?_
      rotate_left
      · intro w hSw
        (try dsimp only at hSw)
        go_simp
        try with_reducible rfl
      try simp only [Act.put, List.setIfInBounds_toArray, List.set_cons_zero, List.set_cons_succ]
      refine region_take 12 ?_ rfl (by kernel_rfl) (by rfl) hHeld ?_ ?_
      rotate_left
      · intro w hSw
        (try dsimp only at hSw)
        go_simp
        try with_reducible rfl
      try simp only [Act.put, List.setIfInBounds_toArray, List.set_cons_zero, List.set_cons_succ]
      refine region_take 13 ?_ rfl (by kernel_rfl) (by rfl) hHeld ?_ ?_
      rotate_left
      · intro w hSw
        (try dsimp only at hSw)
        go_simp
        try with_reducible rfl
      try simp only [Act.put, List.setIfInBounds_toArray, List.set_cons_zero, List.set_cons_succ]
      refine region_call 14 rfl (by kernel_rfl) (by rfl) (fun K hK => ?_)
      go_simp
      refine hK.out _ _ (HKS.out _ (below_alloc hHeld.2 _)) (fun hHeld => ?_)
      clear hK K
      have h14 : Holds (w10.alloc (.cells #[.int .i64 3, .int .i64 0, .int .i64 0] 53)) (some ⟨w10.heap.size, 0, none⟩) (nodesV rowD) := holds_lit w10 [.int .i64 3, .int .i64 0, .int .i64 0] _
      generalize w10.alloc (.cells #[.int .i64 3, .int .i64 0, .int .i64 0] 53) = w14 at *
      try simp only [Act.put, List.setIfInBounds_toArray, List.set_cons_zero, List.set_cons_succ]
      refine region_call 15 rfl (by kernel_rfl) (by rfl) (fun K hK => ?_)
      go_simp
      go_at_call 15
      refine (shape_known _ _ h14 (HL.out.next hHeld.2)).mono ?_
      rintro e w15 ⟨rfl, g15⟩
      refine hK.out _ _ (HKS.out _ (below_step hHeld.2 g15)) (fun hHeld => ?_)
      clear hK K
      try simp only [Act.put, List.setIfInBounds_toArray, List.set_cons_zero, List.set_cons_succ]
      refine region_take 16 ?_ rfl (by kernel_rfl) (by rfl) hHeld ?_ ?_
      rotate_left
      · intro w hSw
        (try dsimp only at hSw)
        go_simp
        try with_reducible rfl
      try simp only [Act.put, List.setIfInBounds_toArray, List.set_cons_zero, List.set_cons_succ]
      refine region_take 17 ?_ rfl (by kernel_rfl) (by rfl) hHeld ?_ ?_
      rotate_left
      · intro w hSw
        (try dsimp only at hSw)
        go_simp
        try with_reducible rfl
      try simp only [Act.put, List.setIfInBounds_toArray, List.set_cons_zero, List.set_cons_succ]
      refine region_take 18 ?_ rfl (by kernel_rfl) (by rfl) hHeld ?_ ?_
      rotate_left
      · intro w hSw
        (try dsimp only at hSw)
        go_simp
        try with_reducible rfl
      try simp only [Act.put, List.setIfInBounds_toArray, List.set_cons_zero]
      refine region_done (by kernel_rfl) ?_
      obtain ⟨-, hb15⟩ := hHeld
      have HB15 := Lib.hid hb15
      clear hb15 g5 g7 g8 g10 g15 k5 k7 k8 k9 h9 h14
      go_wp2_with fail
      go_ret
      exact ⟨rfl, below_step HB0.out HB15.out⟩
end Go.Proofs.YtkkkblghihheeaaDoor
