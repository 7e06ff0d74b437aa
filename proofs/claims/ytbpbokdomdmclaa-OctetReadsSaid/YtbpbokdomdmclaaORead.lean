/- The program's Num, Signed, Err, Left, New. -/
import Derived.Test.YtbpbokdomdmclaaORd
namespace Go.Proofs.Ytbpbokdomdmclaa
open Go.RowKit

theorem nextS_lt (most : Nat) (s : St) (h : most < 9223372036854775808) : (nextS most s).1 < 9223372036854775808 := Nat.lt_of_le_of_lt (nextS_le most s) h

set_option maxHeartbeats 1000000 in
theorem onum_any (t : TypeId × Nat) (g : Nat) (most : Int) (s : St) (w : World) (h : Rd t w g s) (h1 : -9223372036854775808 ≤ most) (h2 : most ≤ 9223372036854775807) :
    Calls Try.prog 24 #[.pointer (some ⟨g, 0, none⟩), .int .i64 most] w (ReadPost t g w (.int .i64 (numS most s).1) (numS most s).2) := by
  by_cases hn : most < 0
  · have hN : numS most s = (0, (s.1, if s.2 = 0 then 3 else s.2)) := by unfold numS; rw [if_pos hn]
    have HN := Lib.hid hN
    have H := Lib.hid h
    by_cases h0 : s.2 = 0
    · have HF := Lib.hid (ofail_set t g 3 s w h h0)
      have HE : Hid (numS most s = (0, (s.1, 3))) := by rw [hN, if_pos h0]; exact rfl
      clear h0 hN
      go_enter Try.func24, Try.ntmps24
      go_wp2_with fail
      refine (HF.out).mono ?_
      rintro e w' ⟨rfl, rfl⟩
      go_wp2_with fail
      go_ret
      rw [HE.out]
      exact ⟨rfl, H.out.fault 3, (Touch.refl g w).set_ 1 _⟩
    · have HF := Lib.hid (ofail_keep t g 3 s w h h0)
      have HE : Hid (numS most s = (0, s)) := numS_stays h0
      clear h0 hN
      go_enter Try.func24, Try.ntmps24
      go_wp2_with fail
      refine (HF.out).mono ?_
      rintro e w' ⟨rfl, rfl⟩
      go_wp2_with fail
      go_ret
      rw [HE.out]
      exact ⟨rfl, H.out, Touch.refl g w⟩
  · obtain ⟨m, rfl⟩ : ∃ m : Nat, most = m := ⟨most.toNat, by omega⟩
    have HE : Hid (numS m s = nextS m s) := by unfold numS; rw [if_neg hn]; exact rfl
    have HC := Lib.hid (onext_any t g m s w h (by omega))
    have hlt := nextS_lt m s (by omega)
    rw [HE.out]
    generalize nextS m s = r at *
    obtain ⟨v, s'⟩ := r
    simp only at hlt HC
    clear hn
    go_enter Try.func24, Try.ntmps24
    go_wp2_with fail
    refine (HC.out).mono ?_
    rintro e w' ⟨rfl, hR, hT⟩
    go_wp2_with fail
    go_ret
    exact ⟨rfl, hR, hT⟩

set_option maxHeartbeats 1000000 in
theorem osignedR_any (t : TypeId × Nat) (g : Nat) (s : St) (w : World) (h : Rd t w g s) :
    Calls Try.prog 19 #[.pointer (some ⟨g, 0, none⟩)] w (ReadPost t g w (.int .i64 (signedS s).1) (signedS s).2) := by
  have HC := Lib.hid (onext_any t g 18446744073709551615 s w h (by omega))
  have hlt := nextS_le 18446744073709551615 s
  have HS : Hid (signedS s = (unfoldN (nextS 18446744073709551615 s).1, (nextS 18446744073709551615 s).2)) := rfl
  rw [HS.out]
  clear HS
  generalize nextS 18446744073709551615 s = r at *
  obtain ⟨v, s'⟩ := r
  simp only at hlt HC
  have HU := Lib.hid fun w => unfold_any v w (by omega)
  clear hlt
  go_enter Try.func19, Try.ntmps19
  go_wp2_with fail
  refine (HC.out).mono ?_
  rintro e w' ⟨rfl, hR, hT⟩
  go_wp2_with fail
  refine (HU.out _).mono ?_
  rintro e w' ⟨rfl, rfl⟩
  go_wp2_with fail
  go_ret
  exact ⟨rfl, hR, hT⟩

theorem oerr_any (t : TypeId × Nat) (g : Nat) (s : St) (w : World) (h : Rd t w g s) : Calls Try.prog 26 #[.pointer (some ⟨g, 0, none⟩)] w fun e w' => e = .returned (.int .i64 (s.2 : Int)) ∧ w = w' := by
  obtain ⟨A, c, h1, _⟩ := h
  have c1 : w.cell? ⟨g, 1, none⟩ = some (.int .i64 (s.2 : Int)) := by rw [h1.cell]; rfl
  clear h1
  go_enter Try.func26, Try.ntmps26
  go_wp2_with fail
  go_ret
  exact ⟨rfl, rfl⟩
theorem oleft_any (t : TypeId × Nat) (g : Nat) (s : St) (w : World) (h : Rd t w g s) : Calls Try.prog 27 #[.pointer (some ⟨g, 0, none⟩)] w fun e w' => e = .returned (.int .i64 (s.1.length : Int)) ∧ w = w' := by
  obtain ⟨A, c, h1, _⟩ := h
  have c1 : w.cell? ⟨g, 0, none⟩ = some (.slice A s.1.length c) := by rw [h1.cell]; rfl
  clear h1
  go_enter Try.func27, Try.ntmps27
  go_wp2_with fail
  go_ret
  exact ⟨rfl, rfl⟩
/-- A new reader. -/
def NewR (b : List Nat) (w : World) (e : Ending) (w' : World) : Prop := ∃ g, e = .returned (.pointer (some ⟨g, 0, none⟩)) ∧ w.heap.size ≤ g ∧ Rd (47, w.heap.size) w' g (b, 0) ∧ Below w.heap.size w w'
theorem onew_any (A : Option Addr) (c : Nat) (b : List Nat) (w : World) (hs : Slice A b.length c) (hA : Holds w A (bytesV b)) (hb1 : b.length ≤ 1000000) (hb : Bytes b) :
    Calls Try.prog 18 #[.slice A b.length c] w (NewR b w) := by
  have HC := Lib.hid (clone_any A c b w hs hA hb1)
  have HB := Lib.hid hb
  clear hb hs hA
  go_enter Try.func18, Try.ntmps18
  go_wp2_with fail
  refine (HC.out).mono ?_
  rintro e w1 ⟨A1, c1, rfl, hown, hbel⟩
  go_wp2_with fail
  go_ret
  obtain ⟨A2, c2, e2, hs2, hA2⟩ := own_slice hown
  cases e2
  refine ⟨w1.heap.size, rfl, hbel.size, ⟨A1, c1, Whole.new _ _ _, hs2, (own_holds hown).alloc _, fun b' o' e => ?_, HB.out, hb1⟩, hbel.alloc hbel.size _⟩
  have := hA2 b' o' e
  exact ⟨this.1, this.2.1⟩
end Go.Proofs.Ytbpbokdomdmclaa
