/- term.holds, (part).begins. -/
import Derived.Test.YtkkkblghihheeaaDoorTMem
namespace Go.Proofs.YtkkkblghihheeaaDoor
open Go.RowKit

abbrev nodeA (n : Node3) : Value := .agg #[.int .i64 n.1, .int .i64 n.2.1, .int .i64 n.2.2]
def Wide3 (n : Node3) : Prop := I64 n.1 ∧ I64 n.2.1 ∧ I64 n.2.2
theorem lim_holds (k : Nat) (hk : k < 14) (h1 : 1 ≤ k) (A B : Int) :
    holdsN ((k : Int), A, B) ↔ (0 ≤ A ∧ A ≤ (limTable[k]'hk).1 ∧ (limTable[k]'hk).2.1 ≤ B ∧ B ≤ (limTable[k]'hk).2.2 ∧ (k ≠ 12 ∨ A < B)) := by
  rcases (by omega : k = 1 ∨ k = 2 ∨ k = 3 ∨ k = 4 ∨ k = 5 ∨ k = 6 ∨ k = 7 ∨ k = 8 ∨ k = 9 ∨ k = 10 ∨ k = 11 ∨ k = 12 ∨ k = 13) with rfl | rfl | rfl | rfl | rfl | rfl | rfl | rfl | rfl | rfl | rfl | rfl | rfl <;>
    simp [holdsN, limTable] <;> omega

set_option maxHeartbeats 2000000 in
theorem holds_out (n : Node3) (w : World) (h : n.1 < 1 ∨ 14 ≤ n.1) : Calls Tryd.prog 82 #[nodeA n] w fun e w' => e = .returned (.bool false) ∧ Below w.heap.size w w' := by
  obtain ⟨o, A, B⟩ := n
  simp only at h
  by_cases h1 : o < 1
  · go_enter Tryd.func82, Tryd.ntmps82
    go_wp2_with fail
    go_ret
    exact ⟨rfl, (Below.refl _ _).alloc (Nat.le_refl _) _⟩
  · have h2 : 14 ≤ o := by omega
    go_enter Tryd.func82, Tryd.ntmps82
    go_wp2_with fail
    go_ret
    exact ⟨rfl, (Below.refl _ _).alloc (Nat.le_refl _) _⟩
set_option maxHeartbeats 4000000 in
theorem holds_in (k : Nat) (A B x y z : Int) (w : World) (h1 : 1 ≤ k) (h2 : k < 14) (c0 : w.cell? ⟨0, k * 3, none⟩ = some (.int .i64 x)) (c1 : w.cell? ⟨0, k * 3 + 1, none⟩ = some (.int .i64 y)) (c2 : w.cell? ⟨0, k * 3 + 2, none⟩ = some (.int .i64 z))
    (r : Bool) (hr : r = decide (0 ≤ A ∧ A ≤ x ∧ y ≤ B ∧ B ≤ z ∧ (k ≠ 12 ∨ A < B))) :
    Calls Tryd.prog 82 #[nodeA ((k : Int), A, B)] w fun e w' => e = .returned (.bool r) ∧ Below w.heap.size w w' := by
  have h3 : ¬ (k : Int) < 1 := by omega
  have h4 : ¬ 14 ≤ (k : Int) := by omega
  have h0 : 0 < w.heap.size := World.block_lt_of_cell? _ _ c0
  have d0 : (w.alloc (.cells #[.int .i64 (k : Int), .int .i64 A, .int .i64 B] 53)).cell? ⟨0, k * 3, none⟩ = some (.int .i64 x) := (World.cell?_alloc_lt w _ ⟨0, k * 3, none⟩ h0).trans c0
  have d1 : (w.alloc (.cells #[.int .i64 (k : Int), .int .i64 A, .int .i64 B] 53)).cell? ⟨0, k * 3 + 1, none⟩ = some (.int .i64 y) := (World.cell?_alloc_lt w _ ⟨0, k * 3 + 1, none⟩ h0).trans c1
  have d2 : (w.alloc (.cells #[.int .i64 (k : Int), .int .i64 A, .int .i64 B] 53)).cell? ⟨0, k * 3 + 2, none⟩ = some (.int .i64 z) := (World.cell?_alloc_lt w _ ⟨0, k * 3 + 2, none⟩ h0).trans c2
  have HR := Lib.hid hr
  clear hr c0 c1 c2
  go_enter Tryd.func82, Tryd.ntmps82
  go_wp2_with fail
  all_goals
    go_ret
    refine ⟨ret_bool ?_, ((Below.refl _ _).alloc (Nat.le_refl _) _).alloc (by simp) _⟩
    rw [HR.out]
    first
      | exact (decide_eq_true (by omega)).symm
      | exact (decide_eq_false (by omega)).symm
      | exact decide_eq_decide.2 (by omega)
theorem holds_any (n : Node3) (w : World) (hL : Lim w) : Calls Tryd.prog 82 #[nodeA n] w fun e w' => e = .returned (.bool (decide (holdsN n))) ∧ Below w.heap.size w w' := by
  by_cases h : n.1 < 1 ∨ 14 ≤ n.1
  · rw [decide_eq_false fun hh => by have := holds_op hh; omega]
    exact holds_out n w h
  · obtain ⟨o, A, B⟩ := n
    simp only at h
    obtain ⟨k, rfl⟩ : ∃ k : Nat, o = k := ⟨o.toNat, by omega⟩
    have hk : k < 14 := by omega
    have hl : k < limTable.length := hk
    have c0 := hL.cell (nodesV_get0 hl)
    have c1 := hL.cell (nodesV_get1 hl)
    have c2 := hL.cell (nodesV_get2 hl)
    rw [Nat.zero_add] at c0 c1 c2
    exact holds_in k A B _ _ _ w (by omega) hk c0 c1 c2 _ (decide_eq_decide.2 (lim_holds k hk (by omega) A B))

abbrev partA (p : Part) : Value := .agg #[.int .i64 p.op, .int .i64 (p.k : Int)]
set_option maxHeartbeats 2000000 in
theorem begins_any (p : Part) (n h : Node3) (w : World) (hL : Lim w) :
    Calls Tryd.prog 75 #[partA p, nodeA n, nodeA h] w fun e w' => e = .returned (.bool (begB p.op n h)) ∧ Below w.heap.size w w' := by
  obtain ⟨o, A, B⟩ := n
  obtain ⟨ho, hA, hB⟩ := h
  obtain ⟨po, k⟩ := p
  obtain ⟨r, hr⟩ : ∃ r, r = begB po (o, A, B) (ho, hA, hB) := ⟨_, rfl⟩
  have HH := Lib.hid fun w hL => holds_any (o, A, B) w hL
  rw [show begB (Part.mk po k).op (o, A, B) (ho, hA, hB) = r from hr.symm]
  unfold begB at hr
  simp only at hr
  have l1 : Lim (((w.alloc (.cells #[.int .i64 po, .int .i64 (k : Int)] 93)).alloc (.cells #[.int .i64 o, .int .i64 A, .int .i64 B] 53)).alloc (.cells #[.int .i64 ho, .int .i64 hA, .int .i64 hB] 53)) :=
    hL.next ((((Below.refl _ _).alloc (Nat.le_refl _) _).alloc (by simp) _).alloc (by simp; omega) _)
  have hb0 : Below w.heap.size w (((w.alloc (.cells #[.int .i64 po, .int .i64 (k : Int)] 93)).alloc (.cells #[.int .i64 o, .int .i64 A, .int .i64 B] 53)).alloc (.cells #[.int .i64 ho, .int .i64 hA, .int .i64 hB] 53)) :=
    (((Below.refl _ _).alloc (Nat.le_refl _) _).alloc (by simp) _).alloc (by simp; omega) _
  have g0 := (holds_at w #[.int .i64 po, .int .i64 (k : Int)] 93 _ rfl).below ((((Below.refl _ _).alloc (Nat.le_refl _) (.cells #[.int .i64 o, .int .i64 A, .int .i64 B] 53))).alloc (by simp) (.cells #[.int .i64 ho, .int .i64 hA, .int .i64 hB] 53))
  have g1 := (holds_at (w.alloc (.cells #[.int .i64 po, .int .i64 (k : Int)] 93)) #[.int .i64 o, .int .i64 A, .int .i64 B] 53 _ rfl).below ((Below.refl _ _).alloc (Nat.le_refl _) (.cells #[.int .i64 ho, .int .i64 hA, .int .i64 hB] 53))
  have g2 := holds_at ((w.alloc (.cells #[.int .i64 po, .int .i64 (k : Int)] 93)).alloc (.cells #[.int .i64 o, .int .i64 A, .int .i64 B] 53)) #[.int .i64 ho, .int .i64 hA, .int .i64 hB] 53 _ rfl
  simp only [World.size_alloc] at g0 g1 g2
  generalize decide (holdsN (o, A, B)) = v at *
  have HR := Lib.hid hr
  have HL := Lib.hid l1
  have HB := Lib.hid hb0
  have H0 := Lib.hid g0
  have H1 := Lib.hid g1
  have H2 := Lib.hid g2
  clear hr l1 hb0 g0 g1 g2 hL
  by_cases h3 : o = 3
  · subst h3
    cases v with
    | false =>
      go_enter Tryd.func75, Tryd.ntmps75
      go_wp2_with fail
      refine (HH.out _ HL.out).mono ?_
      rintro e w1 ⟨rfl, hb1⟩
      go_wp2_with fail
      go_ret
      exact ⟨ret_bool (by rw [HR.out]; rfl), below_step HB.out hb1⟩
    | true =>
      go_enter Tryd.func75, Tryd.ntmps75
      go_wp2_with fail
      refine (HH.out _ HL.out).mono ?_
      rintro e w1 ⟨rfl, hb1⟩
      have c0 := (H0.out.below hb1).cell (j := 0) rfl
      have c1 := (H1.out.below hb1).cell (j := 0) rfl
      have c2 := (H1.out.below hb1).cell (j := 1) rfl
      have c3 := (H2.out.below hb1).cell (j := 0) rfl
      have c4 := (H2.out.below hb1).cell (j := 1) rfl
      simp only [Nat.zero_add] at c0 c1 c2 c3 c4
      go_wp2_with fail
      all_goals
        go_ret
        refine ⟨ret_bool ?_, below_step HB.out hb1⟩
        rw [HR.out]
        simp_all <;> rfl
  · have e3 : (o == 3) = false := by simpa using h3
    by_cases h13 : o = 13
    · subst h13
      cases v with
      | false =>
        go_enter Tryd.func75, Tryd.ntmps75
        go_wp2_with fail
        refine (HH.out _ HL.out).mono ?_
        rintro e w1 ⟨rfl, hb1⟩
        go_wp2_with fail
        go_ret
        exact ⟨ret_bool (by rw [HR.out]; rfl), below_step HB.out hb1⟩
      | true =>
        go_enter Tryd.func75, Tryd.ntmps75
        go_wp2_with fail
        refine (HH.out _ HL.out).mono ?_
        rintro e w1 ⟨rfl, hb1⟩
        have c0 := (H0.out.below hb1).cell (j := 0) rfl
        have c1 := (H1.out.below hb1).cell (j := 0) rfl
        simp only [Nat.zero_add] at c0 c1
        go_wp2_with fail
        all_goals
          go_ret
          refine ⟨ret_bool ?_, below_step HB.out hb1⟩
          rw [HR.out]
          simp_all <;> rfl
    · have e13 : (o == 13) = false := by simpa using h13
      cases v with
      | false =>
        go_enter Tryd.func75, Tryd.ntmps75
        go_wp2_with fail
        refine (HH.out _ HL.out).mono ?_
        rintro e w1 ⟨rfl, hb1⟩
        go_wp2_with fail
        go_ret
        exact ⟨ret_bool (by rw [HR.out]; rfl), below_step HB.out hb1⟩
      | true =>
        go_enter Tryd.func75, Tryd.ntmps75
        go_wp2_with fail
        refine (HH.out _ HL.out).mono ?_
        rintro e w1 ⟨rfl, hb1⟩
        have c0 := (H0.out.below hb1).cell (j := 0) rfl
        have c1 := (H1.out.below hb1).cell (j := 0) rfl
        simp only [Nat.zero_add] at c0 c1
        go_wp2_with fail
        all_goals
          go_ret
          refine ⟨ret_bool ?_, below_step HB.out hb1⟩
          rw [HR.out]
          simp_all <;> rfl
end Go.Proofs.YtkkkblghihheeaaDoor
