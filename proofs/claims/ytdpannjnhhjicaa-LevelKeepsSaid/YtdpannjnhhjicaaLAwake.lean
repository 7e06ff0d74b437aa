/- retortlaw03.awake: true. -/
import Derived.Test.YtdpannjnhhjicaaLRef10
namespace Go.Proofs.Ytdpannjnhhjicaa
open Go.RowKit

def E0 : List Ord3 := [(1, 1, 2)]
theorem gap12 : gapS 2 E0 1 2 = some 1 := by decide +kernel
theorem gap21 : gapS 2 E0 2 1 = none := by decide +kernel
theorem under1 : underS 2 E0 [(1, 3)] [(2, 2)] = true := by decide +kernel
theorem under2 : underS 2 E0 [(2, 0)] [(1, 5)] = false := by decide +kernel
theorem gap_n (v : Int) (A : Option Addr) (c n : Nat) (E : List Ord3) (lo hi : Int) (w : World) (hn : E.length = n) (hA : Holds w A (ordsV E)) (hm : n ≤ 9223372036854775807) (h1 : I64 lo) (h2 : I64 hi) (k : Int) (is : Bool) (hk : (gapS v E lo hi).getD 0 = k) (his : (gapS v E lo hi).isSome = is) :
    Calls Try.prog 24 #[.int .i64 v, .slice A n c, .int .i64 lo, .int .i64 hi] w fun e w' => e = .returned (.tuple #[.int .i64 k, .bool is]) ∧ Below w.heap.size w w' := by
  subst hn hk his
  exact gap_any v A c E lo hi w hA hm h1 h2
theorem under_n (v : Int) (A B C : Option Addr) (c n nb b' nc c' : Nat) (E : List Ord3) (a b : List Atom2) (w : World) (hn : E.length = n) (hnb : a.length = nb) (hnc : b.length = nc) (hA : Holds w A (ordsV E)) (hm : n ≤ 9223372036854775807) (hB : Holds w B (atomsV a)) (hC : Holds w C (atomsV b)) (hWa : WideA a) (hWb : WideA b)
    (hla : nb ≤ 9223372036854775807) (hlb : nc ≤ 9223372036854775807) (r : Bool) (hr : underS v E a b = r) :
    Calls Try.prog 30 #[.int .i64 v, .slice A n c, .slice B nb b', .slice C nc c'] w fun e w' => e = .returned (.bool r) ∧ Below w.heap.size w w' := by
  subst hn hnb hnc hr
  exact pUnder_any v A B C c b' c' E a b w hA hm hB hC hWa hWb hla hlb
set_option maxHeartbeats 2000000 in
theorem awake_any (w : World) : Calls Try.prog 11 #[] w fun e w' => e = .returned (.bool true) ∧ Below w.heap.size w w' := by
  go_enter Try.func11, Try.ntmps11
  go_wp2_with fail
  have h1 := holds_at w #[.int .i64 1, .int .i64 1, .int .i64 2] 53 (ordsV E0) rfl
  have hb0 := (Below.refl w.heap.size w).alloc (Nat.le_refl _) (.cells #[.int .i64 1, .int .i64 1, .int .i64 2] 53)
  refine (gap_n 2 _ _ 1 E0 1 2 _ rfl h1 (by omega) ⟨by omega, by omega⟩ ⟨by omega, by omega⟩ 1 true (by rw [gap12]; rfl) (by rw [gap12]; rfl)).mono ?_
  rintro e w1 ⟨rfl, hb1⟩
  have h2 := h1.below hb1
  have hb1' := below_step hb0 hb1
  clear hb0 hb1
  go_wp2_with fail
  refine (gap_n 2 _ _ 1 E0 2 1 _ rfl h2 (by omega) ⟨by omega, by omega⟩ ⟨by omega, by omega⟩ 0 false (by rw [gap21]; rfl) (by rw [gap21]; rfl)).mono ?_
  rintro e w2 ⟨rfl, hb2⟩
  have h3 := h2.below hb2
  have hb2' := below_step hb1' hb2
  clear hb1' hb2 h1 h2
  go_wp2_with fail
  have h4 := (h3.alloc (.cells #[.int .i64 1, .int .i64 3] 57)).alloc (.cells #[.int .i64 2, .int .i64 2] 57)
  have ha := (holds_at w2 #[.int .i64 1, .int .i64 3] 57 (atomsV [(1, 3)]) rfl).alloc (.cells #[.int .i64 2, .int .i64 2] 57)
  have hb := holds_at (w2.alloc (.cells #[.int .i64 1, .int .i64 3] 57)) #[.int .i64 2, .int .i64 2] 57 (atomsV [(2, 2)]) rfl
  rw [show (w2.alloc (.cells #[.int .i64 1, .int .i64 3] 57)).heap.size = w2.heap.size + 1 by simp] at hb
  have hb3 := (hb2'.alloc hb2'.size (.cells #[.int .i64 1, .int .i64 3] 57)).alloc (by have := hb2'.size; simp; omega) (.cells #[.int .i64 2, .int .i64 2] 57)
  refine (under_n 2 _ _ _ _ 1 1 _ 1 _ E0 [(1, 3)] [(2, 2)] _ rfl rfl rfl h4 (by omega) ha hb (by simp [WideA, I64]) (by simp [WideA, I64]) (by omega) (by omega) true under1).mono ?_
  rintro e w3 ⟨rfl, hb4⟩
  have h5 := h4.below hb4
  have hb4' := below_step hb3 hb4
  clear h3 h4 ha hb hb2' hb3 hb4
  go_wp2_with fail
  have h6 := (h5.alloc (.cells #[.int .i64 2, .int .i64 0] 57)).alloc (.cells #[.int .i64 1, .int .i64 5] 57)
  have ha := (holds_at w3 #[.int .i64 2, .int .i64 0] 57 (atomsV [(2, 0)]) rfl).alloc (.cells #[.int .i64 1, .int .i64 5] 57)
  have hb := holds_at (w3.alloc (.cells #[.int .i64 2, .int .i64 0] 57)) #[.int .i64 1, .int .i64 5] 57 (atomsV [(1, 5)]) rfl
  rw [show (w3.alloc (.cells #[.int .i64 2, .int .i64 0] 57)).heap.size = w3.heap.size + 1 by simp] at hb
  have hb5 := (hb4'.alloc hb4'.size (.cells #[.int .i64 2, .int .i64 0] 57)).alloc (by have := hb4'.size; simp; omega) (.cells #[.int .i64 1, .int .i64 5] 57)
  refine (under_n 2 _ _ _ _ 1 1 _ 1 _ E0 [(2, 0)] [(1, 5)] _ rfl rfl rfl h6 (by omega) ha hb (by simp [WideA, I64]) (by simp [WideA, I64]) (by omega) (by omega) false under2).mono ?_
  rintro e w4 ⟨rfl, hb6⟩
  have hb7 := below_step hb5 hb6
  clear h5 h6 ha hb hb4' hb5 hb6
  go_wp2_with fail
  go_ret
  exact ⟨rfl, hb7⟩
end Go.Proofs.Ytdpannjnhhjicaa
