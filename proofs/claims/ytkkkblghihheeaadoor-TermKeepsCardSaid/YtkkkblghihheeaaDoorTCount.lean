/- The document's answer: within, Around, count. -/
import Derived.Test.YtkkkblghihheeaaDoorTTree0
namespace Go.Proofs.YtkkkblghihheeaaDoor
open Go.RowKit

theorem within_any (n low high : Int) (w : World) : Calls Tryd.prog 73 #[.int .i64 n, .int .i64 low, .int .i64 high] w fun e w' => e = .returned (.bool (decide (low ≤ n ∧ n ≤ high))) ∧ w = w' := by
  by_cases h1 : low ≤ n
  all_goals
    go_enter Tryd.func73, Tryd.ntmps73
    go_wp2_with fail
    all_goals
      go_ret
      refine ⟨ret_bool ?_, rfl⟩
      first
        | exact (decide_eq_decide.2 (by omega))
        | (simp; omega)
set_option maxHeartbeats 4000000 in
theorem around_any (n : Node3) (i : Nat) (w : World) (hi : i ≤ 1000000) (hb : n.1 = 12 → 0 ≤ n.2.2) : Calls Tryd.prog 53 #[nodeA n, .int .i64 (i : Int)] w fun e w' => e = .returned (.int .i64 (aroundN n i : Nat)) ∧ Below w.heap.size w w' := by
  obtain ⟨o, A, B⟩ := n
  obtain ⟨r, hr⟩ : ∃ r : Int, r = ((aroundN (o, A, B) i : Nat) : Int) := ⟨_, rfl⟩
  rw [← hr]
  have HR := Lib.hid hr
  unfold aroundN at hr
  simp only at hr hb
  by_cases h4 : o = 4
  · subst h4
    by_cases hi1 : i = 1
    · subst hi1
      simp at hr
      subst hr
      clear HR
      go_enter Tryd.func53, Tryd.ntmps53
      go_wp2_with fail
      go_ret
      exact ⟨rfl, (Below.refl _ _).alloc (Nat.le_refl _) _⟩
    · have e1 : ((i : Int) == 1) = false := by simpa using (by omega : ¬ (i : Int) = 1)
      simp [hi1] at hr
      subst hr
      clear HR
      go_enter Tryd.func53, Tryd.ntmps53
      go_wp2_with fail
      go_ret
      exact ⟨rfl, (Below.refl _ _).alloc (Nat.le_refl _) _⟩
  by_cases h5 : o = 5
  · subst h5
    by_cases hi1 : i = 1
    · subst hi1
      simp at hr
      subst hr
      clear HR
      go_enter Tryd.func53, Tryd.ntmps53
      go_wp2_with fail
      go_ret
      exact ⟨rfl, (Below.refl _ _).alloc (Nat.le_refl _) _⟩
    · have e1 : ((i : Int) == 1) = false := by simpa using (by omega : ¬ (i : Int) = 1)
      simp [hi1] at hr
      subst hr
      clear HR
      go_enter Tryd.func53, Tryd.ntmps53
      go_wp2_with fail
      go_ret
      exact ⟨rfl, (Below.refl _ _).alloc (Nat.le_refl _) _⟩
  by_cases h7 : o = 7
  · subst h7
    by_cases hi1 : i = 2
    · subst hi1
      simp at hr
      subst hr
      clear HR
      go_enter Tryd.func53, Tryd.ntmps53
      go_wp2_with fail
      go_ret
      exact ⟨rfl, (Below.refl _ _).alloc (Nat.le_refl _) _⟩
    · have e1 : ((i : Int) == 2) = false := by simpa using (by omega : ¬ (i : Int) = 2)
      simp [hi1] at hr
      subst hr
      clear HR
      go_enter Tryd.func53, Tryd.ntmps53
      go_wp2_with fail
      go_ret
      exact ⟨rfl, (Below.refl _ _).alloc (Nat.le_refl _) _⟩
  by_cases h12 : o = 12
  · subst h12
    have hB := hb rfl
    by_cases hi1 : i % 2 = 1
    · have e1 : ((i : Int).tmod 2) = 1 := by rw [Int.tmod_eq_emod_of_nonneg (Int.natCast_nonneg i)]; omega
      have hr' : r = B := by rw [hr, if_neg (by omega), if_pos ⟨rfl, hi1⟩]; omega
      subst hr'
      clear hr
      clear HR
      go_enter Tryd.func53, Tryd.ntmps53
      go_wp2_with fail
      go_ret
      exact ⟨rfl, (Below.refl _ _).alloc (Nat.le_refl _) _⟩
    · have e1 : ((i : Int).tmod 2) = 0 := by rw [Int.tmod_eq_emod_of_nonneg (Int.natCast_nonneg i)]; omega
      have hr' : r = 0 := by rw [hr, if_neg (by omega), if_neg (by omega)]; rfl
      subst hr'
      clear hr
      clear HR
      go_enter Tryd.func53, Tryd.ntmps53
      go_wp2_with fail
      go_ret
      exact ⟨rfl, (Below.refl _ _).alloc (Nat.le_refl _) _⟩
  · have e4 : (o == 4) = false := by simpa using h4
    have e5 : (o == 5) = false := by simpa using h5
    have e7 : (o == 7) = false := by simpa using h7
    have e12 : (o == 12) = false := by simpa using h12
    have hr' : r = 0 := by rw [hr, if_neg (by omega), if_neg (by omega)]; rfl
    subst hr'
    clear hr
    clear HR
    go_enter Tryd.func53, Tryd.ntmps53
    go_wp2_with fail
    go_ret
    exact ⟨rfl, (Below.refl _ _).alloc (Nat.le_refl _) _⟩
end Go.Proofs.YtkkkblghihheeaaDoor
