/- The document's Fold and Signed. -/
import Derived.Test.YtbpbokdomdmclaaOPut
namespace Go.Proofs.Ytbpbokdomdmclaa
open Go.RowKit

theorem fold_bound {n : Int} (h1 : -9223372036854775808 ≤ n) (h2 : n ≤ 9223372036854775807) : fold n < 18446744073709551616 := by
  unfold fold
  split <;> omega
theorem fold_any (n : Int) (w : World) (h1 : -9223372036854775808 ≤ n) (h2 : n ≤ 9223372036854775807) :
    Calls Try.prog 32 #[.int .i64 n] w fun e w' => e = .returned (.int .u64 (fold n : Nat)) ∧ w = w' := by
  by_cases h : 0 ≤ n
  · have e : ((fold n : Nat) : Int) = 2 * n := by unfold fold; rw [if_pos h]; omega
    rw [e]
    go_enter Try.func32, Try.ntmps32
    go_wp2_with fail
    go_ret
    exact ⟨rfl, rfl⟩
  · have e : ((fold n : Nat) : Int) = 2 * (-(n + 1)) + 1 := by unfold fold; rw [if_neg h]; omega
    rw [e]
    go_enter Try.func32, Try.ntmps32
    go_wp2_with fail
    go_ret
    exact ⟨rfl, rfl⟩

set_option maxHeartbeats 1000000 in
theorem rsigned_any (A : Option Addr) (c : Nat) (b : List Nat) (n : Int) (w : World) (hs : Slice A b.length c) (hA : Holds w A (bytesV b)) (h1 : -9223372036854775808 ≤ n) (h2 : n ≤ 9223372036854775807) (hb1 : b.length ≤ 1000000) :
    Calls Try.prog 17 #[.slice A b.length c, .int .i64 n] w (NewB (b ++ leb (fold n)) w) := by
  have hf := fold_bound h1 h2
  have HF := Lib.hid fun w => fold_any n w h1 h2
  have HFM := Lib.hid fun w => form_any (fold n) w hf
  have hll := leb_ten hf
  generalize fold n = m at *
  go_enter Try.func17, Try.ntmps17
  have hlit := World.ownsRow_lit (base := w.heap.size) (e := 5) (size := 1) w #[] 0 (Nat.le_refl _) (by unfold maxLen; omega) rfl
  have hb0 : Below w.heap.size w (w.alloc (.cells #[] 5)) := (Below.refl _ _).alloc (Nat.le_refl _) _
  go_wp2_with (at_builtin; refine wpList_append_bytes rfl (.tmp 5) (.tmp 6) _ rfl Try.underlying22 w.heap.size _ [] b rfl hlit A c rfl hs (hA.alloc _) (by simp; omega) w hb0 (by simp) ?_; intro A1 c1 w1 hown1 hs1 hb1 hz1)
  rw [List.nil_append] at hown1 hs1
  refine (HF.out _).mono ?_
  rintro e w' ⟨rfl, rfl⟩
  go_wp2_with fail
  refine (HFM.out _).mono ?_
  rintro e w2 ⟨A2, c2, rfl, hown2, hb2⟩
  have hownr := own_below hown1 hb2
  have hbr := below_step hb1 hb2
  obtain ⟨A2', c2', e2, hs2, _⟩ := own_slice hown2
  cases e2
  go_wp2_with (at_builtin; go_must (refine wpList_append_bytes rfl (.tmp 7) (.tmp 10) _ rfl Try.underlying22 w.heap.size _ _ (leb m) rfl hownr A2 c2 rfl hs2 (own_holds hown2) (by omega) w hbr hbr.size ?_); intro A3 c3 w3 hown3 hs3 hb3 hz3)
  go_ret
  exact ⟨A3, c3, by simp, hown3, hb3⟩
end Go.Proofs.Ytbpbokdomdmclaa
