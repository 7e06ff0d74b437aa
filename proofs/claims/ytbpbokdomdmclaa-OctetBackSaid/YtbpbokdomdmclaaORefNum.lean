/- The document's reader: Next, Num, Signed. -/
import Derived.Test.YtbpbokdomdmclaaORefRead
namespace Go.Proofs.Ytbpbokdomdmclaa
open Go.RowKit

theorem rnext_any (t : TypeId × Nat) (g most : Nat) (s : St) (w : World) (h : Rd t w g s) (hm : most < 18446744073709551616) :
    Calls Try.prog 35 #[.pointer (some ⟨g, 0, none⟩), .int .u64 most] w (ReadPost t g w (.int .u64 (nextS most s).1) (nextS most s).2) := by
  have H := Lib.hid h
  obtain ⟨b, f⟩ := s
  obtain ⟨A, c, h1⟩ := h
  by_cases hf : f = 0
  · subst hf
    exact rnext_ok t g most b w A c h1 hm
  · have c1 : w.cell? ⟨g, 1, none⟩ = some (.int .i64 (f : Int)) := RdAt.cell1 h1
    have hfz : ((f : Int) != 0) = true := by simp; omega
    have HN := Lib.hid (nextS_stays (most := most) (s := (b, f)) hf)
    clear hf hm h1
    go_enter Try.func35, Try.ntmps35
    go_wp2_with fail
    go_ret
    rw [HN.out]
    exact ⟨rfl, H.out, Touch.refl _ _⟩

set_option maxHeartbeats 1000000 in
theorem rnum_any (t : TypeId × Nat) (g : Nat) (most : Int) (s : St) (w : World) (h : Rd t w g s) (h1 : -9223372036854775808 ≤ most) (h2 : most ≤ 9223372036854775807) :
    Calls Try.prog 25 #[.pointer (some ⟨g, 0, none⟩), .int .i64 most] w (ReadPost t g w (.int .i64 (numS most s).1) (numS most s).2) := by
  by_cases hn : most < 0
  · have hN : numS most s = (0, (s.1, if s.2 = 0 then 3 else s.2)) := by unfold numS; rw [if_pos hn]
    have H := Lib.hid h
    obtain ⟨A, c, hw, _⟩ := h
    have c1 : w.cell? ⟨g, 1, none⟩ = some (.int .i64 (s.2 : Int)) := by rw [hw.cell]; rfl
    have f1 : w.frozen? ⟨g, 1, none⟩ = false := hw.frozen 1
    clear hw
    by_cases h0 : s.2 = 0
    · have HE : Hid (numS most s = (0, (s.1, 3))) := by rw [hN, if_pos h0]; exact rfl
      rw [h0] at c1
      clear h0 hN
      go_enter Try.func25, Try.ntmps25
      go_wp2_with fail
      go_ret
      rw [HE.out]
      exact ⟨rfl, H.out.fault 3, (Touch.refl g w).set_ 1 _⟩
    · have HE : Hid (numS most s = (0, s)) := numS_stays h0
      have h0i : ((s.2 : Int) == 0) = false := by simp; omega
      clear h0 hN
      generalize s.2 = f at *
      go_enter Try.func25, Try.ntmps25
      go_wp2_with fail
      go_ret
      rw [HE.out]
      exact ⟨rfl, H.out, Touch.refl g w⟩
  · obtain ⟨m, rfl⟩ : ∃ m : Nat, most = m := ⟨most.toNat, by omega⟩
    have HE : Hid (numS m s = nextS m s) := by unfold numS; rw [if_neg hn]; exact rfl
    have HC := Lib.hid (rnext_any t g m s w h (by omega))
    have hlt := nextS_lt m s (by omega)
    rw [HE.out]
    generalize nextS m s = r at *
    obtain ⟨v, s'⟩ := r
    simp only at hlt HC
    clear hn
    go_enter Try.func25, Try.ntmps25
    go_wp2_with fail
    refine (HC.out).mono ?_
    rintro e w' ⟨rfl, hR, hT⟩
    go_wp2_with fail
    go_ret
    exact ⟨rfl, hR, hT⟩

set_option maxHeartbeats 1000000 in
theorem rsignedR_any (t : TypeId × Nat) (g : Nat) (s : St) (w : World) (h : Rd t w g s) :
    Calls Try.prog 20 #[.pointer (some ⟨g, 0, none⟩)] w (ReadPost t g w (.int .i64 (signedS s).1) (signedS s).2) := by
  have HC := Lib.hid (rnext_any t g 18446744073709551615 s w h (by omega))
  have hlt := nextS_le 18446744073709551615 s
  have HS : Hid (signedS s = (unfoldN (nextS 18446744073709551615 s).1, (nextS 18446744073709551615 s).2)) := rfl
  rw [HS.out]
  clear HS
  generalize nextS 18446744073709551615 s = r at *
  obtain ⟨v, s'⟩ := r
  simp only at hlt HC
  obtain ⟨q, hq⟩ : ∃ q, q = v / 2 := ⟨_, rfl⟩
  have hqi : (v : Int) / 2 = (q : Int) := by omega
  have hqb : q < 9223372036854775808 := by omega
  by_cases h0 : v % 2 = 0
  · have HE : Hid (unfoldN v = q) := by unfold unfoldN; rw [if_pos h0, ← hq]; exact rfl
    have hr : ((v : Int) % 2 == 0) = true := by simp; omega
    clear hq h0 hlt
    go_enter Try.func20, Try.ntmps20
    go_wp2_with fail
    refine (HC.out).mono ?_
    rintro e w' ⟨rfl, hR, hT⟩
    go_wp2_with fail
    go_ret
    rw [HE.out]
    exact ⟨rfl, hR, hT⟩
  · have HE : Hid (unfoldN v = -(q : Int) - 1) := by unfold unfoldN; rw [if_neg h0, ← hq]; exact rfl
    have hr : ((v : Int) % 2 == 0) = false := by simp; omega
    clear hq h0 hlt
    go_enter Try.func20, Try.ntmps20
    go_wp2_with fail
    refine (HC.out).mono ?_
    rintro e w' ⟨rfl, hR, hT⟩
    go_wp2_with fail
    go_ret
    rw [HE.out]
    exact ⟨rfl, hR, hT⟩
end Go.Proofs.Ytbpbokdomdmclaa
