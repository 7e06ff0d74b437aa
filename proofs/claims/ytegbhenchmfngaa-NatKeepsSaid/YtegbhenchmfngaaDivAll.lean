/- nat.DivMod by any number but 0. -/
import Derived.Test.YtegbhenchmfngaaDivLong
namespace Go.Proofs.Ytegbhenchmfngaa
open Go.RowKit

set_option maxHeartbeats 400000 in
theorem divmod_long (A B : Option Addr) (n c m d M N : Nat) (w : World) (hM : IsNat w A n M) (hN : IsNat w B m N) (hc : n ≤ c) (hd : m ≤ d) (hcm : c ≤ 9223372036854775807) (hdm : d ≤ 9223372036854775807) (hn : n ≤ 1099511627775) (hle : N ≤ M) (h2 : 2 ≤ Nt.wlen N) :
    Calls Try.prog 23 #[.slice A n c, .slice B m d] w (DivPost M N w) := by
  have HM := fun w (h : IsNat w A n M) => trim_any A n c M w h hc hcm
  have HN := fun w (h : IsNat w B m N) => trim_any B m d N w h hd hdm
  have hMl := hM.wl
  have hNl := hN.wl
  have HC := fun w (hM : IsNat w A n M) (hN : IsNat w B m N) => compare_any A B (Nt.wlen M) c (Nt.wlen N) d M N w hM.trim hN.trim (by omega) (by omega) hcm hdm
  have HD := fun w (hM : IsNat w A n M) (hN : IsNat w B m N) => divLong_any A B c d M N w hM.trim hN.trim (by omega) (by omega) hcm hdm (by omega) h2 hle
  have hcmp : 0 ≤ Nt.cmp M N := by
    rcases Nat.lt_or_ge N M with h | h
    · rw [Nt.cmp_gt (by omega)]; decide
    · rw [Nt.cmp_eq (by omega)]; decide
  generalize Nt.cmp M N = z at *
  have h20 : ¬ (Nt.wlen N : Int) = 0 := by omega
  go_enter Try.func23, Try.ntmps23
  go_wp2_with fail
  refine (HM _ hM).mono ?_; rintro e w' ⟨rfl, rfl⟩
  go_wp2_with fail
  refine (HN _ hN).mono ?_; rintro e w' ⟨rfl, rfl⟩
  go_wp2_with fail
  refine (HC _ hM hN).mono ?_; rintro e w' ⟨rfl, q, rfl⟩
  go_wp2_with fail
  refine (HD _ (hM.drewN q) (hN.drewN q)).mono ?_; rintro e w1 ⟨A1, c1, A2, c2, rfl, o1, o2, ap, hb⟩
  clear HM HN HC HD
  go_wp2_with fail
  go_ret3
  exact ⟨A1, c1, A2, c2, rfl, o1, o2, ap, ⟨hb.os, hb.tape, hb.output, hb.size, hb.block⟩⟩

/-- The quotient and the rest, of any numbers, by any but 0. -/
theorem divmod_any (A B : Option Addr) (n c m d M N : Nat) (w : World) (hM : IsNat w A n M) (hN : IsNat w B m N) (hc : n ≤ c) (hd : m ≤ d) (hcm : c ≤ 9223372036854775807) (hdm : d ≤ 9223372036854775807) (hn : n ≤ 1099511627775) (h0 : 0 < N) :
    Calls Try.prog 23 #[.slice A n c, .slice B m d] w (DivPost M N w) := by
  rcases Nat.lt_or_ge M N with h | h
  · exact divmod_less A B n c m d M N w hM hN hc hd hcm hdm (by omega) h
  · have h1 : Nt.wlen N ≠ 0 := fun h => by have := Nt.wlen_eq_zero.1 h; omega
    rcases (by omega : Nt.wlen N = 1 ∨ 2 ≤ Nt.wlen N) with h2 | h2
    · exact divmod_word A B n c m d M N w hM hN hc hd hcm hdm (by omega) h h2
    · exact divmod_long A B n c m d M N w hM hN hc hd hcm hdm hn h h2
end Go.Proofs.Ytegbhenchmfngaa
