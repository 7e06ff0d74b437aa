/- NatShifts: shifts, bits, and numbers of 64 bits are those of the numbers. -/
import Derived.Test.YtegbhenchmfngaaLawKit
import Derived.Test.YtegbhenchmfngaaShift
import Derived.Test.YtegbhenchmfngaaRef9
namespace Go.Proofs.Ytegbhenchmfngaa
open Go.RowKit

/-- What both shifts answer. -/
theorem shift_both (z : Int) (M : Nat) : ∃ (T : Nat) (E : Int),
    (∀ (A : Option Addr) (n c : Nat) (w : World), IsNat w A n M → n ≤ c → c ≤ 9223372036854775807 → n ≤ 80 → Calls Try.prog 27 #[.slice A n c, .int .i64 z] w fun e w' =>
      ∃ A' c', e = .returned (.tuple #[.slice A' (Nt.wlen T) c', .int .i64 E]) ∧ IsNat w' A' (Nt.wlen T) T ∧ Nt.wlen T ≤ 9223372036854775807 ∧ Below w.heap.size w w') ∧
    (∀ (A : Option Addr) (n c : Nat) (w : World), IsNat w A n M → n ≤ 80 → Calls Try.prog 28 #[.slice A n c, .int .i64 z] w fun e w' =>
      ∃ A' c', e = .returned (.tuple #[.slice A' (Nt.wlen T) c', .int .i64 E]) ∧ IsNat w' A' (Nt.wlen T) T ∧ True ∧ Below w.heap.size w w') := by
  by_cases h : 65536 < z ∨ z < -65536
  · refine ⟨0, 6, fun A n c w hM _ _ _ => (shift_large A n c z w h).mono fun e w' he => ?_, fun A n c w hM _ => (rshift_large A n c z w h).mono fun e w' he => ?_⟩
    · obtain ⟨rfl, rfl⟩ := he
      exact ⟨none, 0, rfl, IsNat.nil _ _, Nat.zero_le _, Below.refl _ _⟩
    · obtain ⟨rfl, rfl⟩ := he
      exact ⟨none, 0, rfl, IsNat.nil _ _, trivial, Below.refl _ _⟩
  · by_cases h0 : 0 ≤ z
    · obtain ⟨b, rfl⟩ : ∃ b : Nat, z = b := ⟨z.toNat, by omega⟩
      refine ⟨M * 2 ^ b, 0, fun A n c w hM hnc hcm hn => (shift_up A n c M b w hM hnc hcm (by omega) (by omega)).mono fun e w' he => ?_, fun A n c w hM hn => (rshift_up A n c M b w hM (by omega) (by omega)).mono fun e w' he => ?_⟩
      · obtain ⟨A', c', he, ho, hb⟩ := he
        exact ⟨A', c', he, ho.nat, by have := ho.le; have := ho.small; omega, hb⟩
      · obtain ⟨A', c', he, ho, hb⟩ := he
        exact ⟨A', c', he, ho, trivial, hb⟩
    · obtain ⟨b, rfl⟩ : ∃ b : Nat, z = -(b : Int) := ⟨(-z).toNat, by omega⟩
      refine ⟨M / 2 ^ b, 0, fun A n c w hM hnc hcm hn => (shift_down A n c M b w hM hnc hcm (by omega) (by omega) (by omega)).mono fun e w' he => ?_, fun A n c w hM hn => (rshift_down A n c M b w hM (by omega) (by omega) (by omega)).mono fun e w' he => ?_⟩
      · obtain ⟨A', c', he, ho, hb⟩ := he
        exact ⟨A', c', he, ho.nat, by have := ho.le; have := ho.small; omega, hb⟩
      · obtain ⟨A', c', he, ho, hb⟩ := he
        exact ⟨A', c', he, ho, trivial, hb⟩
/-- What both answer of a number below 2^64. -/
theorem small_both (M : Nat) : ∃ (v : Int) (t : Bool),
    (∀ (A : Option Addr) (n c : Nat) (w : World), IsNat w A n M → n ≤ c → c ≤ 9223372036854775807 → n ≤ 80 → Calls Try.prog 29 #[.slice A n c] w fun e w' => e = .returned (.tuple #[.int .u64 v, .bool t]) ∧ Below w.heap.size w w') ∧
    (∀ (A : Option Addr) (n c : Nat) (w : World), IsNat w A n M → n ≤ 80 → Calls Try.prog 30 #[.slice A n c] w fun e w' => e = .returned (.tuple #[.int .u64 v, .bool t]) ∧ Below w.heap.size w w') := by
  by_cases h : M < 18446744073709551616
  · exact ⟨M, true, fun A n c w hM hnc hcm _ => (small_yes A n c M w hM hnc hcm h).mono fun e w' he => ⟨he.1, by rw [← he.2]; exact Below.refl _ _⟩, fun A n c w hM hn => rsmall_yes A n c M w hM (by omega) h⟩
  · exact ⟨0, false, fun A n c w hM hnc hcm _ => (small_big A n c M w hM hnc hcm (by omega)).mono fun e w' he => ⟨he.1, by rw [← he.2]; exact Below.refl _ _⟩, fun A n c w hM hn => rsmall_big A n c M w hM (by omega) (by omega)⟩

theorem shifts_long (A : Option Addr) (n c k : Nat) (z : Int) (w : World) (h : 80 < n) :
    Calls Try.prog 5 #[.slice A n c, .int .i64 z, .int .u64 k] w fun e w' => e = .returned (.bool true) ∧ Below w.heap.size w w' := by
  have HL := fun w => long1 A n c w true ⟨fun _ => h, fun _ => rfl⟩
  clear h
  go_enter Try.func5, Try.ntmps5
  go_wp2_with fail
  refine (awake_any _).mono ?_
  rintro e w0 ⟨rfl, hb0⟩
  go_wp2_with fail
  refine (HL w0).mono ?_
  rintro e w1 ⟨rfl, rfl⟩
  clear HL
  go_wp2_with fail
  go_ret
  exact ⟨rfl, below_alloc hb0 _⟩

set_option maxHeartbeats 2000000 in
theorem shifts_some (A : Option Addr) (n c M k : Nat) (z : Int) (w : World) (hM : IsNat w A n M) (hnc : n ≤ c) (hcm : c ≤ 9223372036854775807) (hk : k < 18446744073709551616) (hn : n ≤ 80) :
    Calls Try.prog 5 #[.slice A n c, .int .i64 z, .int .u64 k] w fun e w' => e = .returned (.bool true) ∧ Below w.heap.size w w' := by
  have SM := Stays.of hM
  have hkl : Nt.wlen k ≤ 2 := Nt.wlen_le (by rw [show Nt.pw 2 = 18446744073709551616 by decide]; exact hk)
  have hlong : false = true ↔ 80 < n := ⟨(fun h => by cases h), (fun h => by omega)⟩
  have HL := fun w => long1 A n c w false hlong
  obtain ⟨T, E, h1, h2⟩ := shift_both z M
  have HS1 := Lib.hid h1
  have HS2 := Lib.hid h2
  obtain ⟨v, t, h3, h4⟩ := small_both M
  have HM1 := Lib.hid h3
  have HM2 := Lib.hid h4
  have HBI := Lib.hid fun w (h : IsNat w A n M) => bits_any A n c M w h hnc hcm (by omega)
  have HRB := Lib.hid fun w (h : IsNat w A n M) => rbits_any A n c M w h (by omega)
  clear hM hlong h1 h2 h3 h4
  go_enter Try.func5, Try.ntmps5
  go_wp2_with fail
  refine (awake_any _).mono ?_
  rintro e w0 ⟨rfl, hb0⟩
  go_wp2_with fail
  refine (HL w0).mono ?_
  rintro e w1 ⟨rfl, rfl⟩
  clear HL
  have hb1 := below_alloc hb0 (.cells #[.slice A n c] 23)
  go_wp2_with fail
  refine (HS1.out A n c _ (SM _ hb1) hnc hcm hn).mono ?_
  rintro e wr1 ⟨Ar1, cr1, rfl, nr1, hT, g⟩
  have hb2 := below_step hb1 g
  clear g
  have br1 := Below.refl wr1.heap.size wr1
  go_wp2_with fail
  refine (HS2.out A n c _ (SM _ hb2) hn).mono ?_
  rintro e wr2 ⟨Ar2, cr2, rfl, nr2, hT, g⟩
  have hb3 := below_step hb2 g
  have br1 := below_step br1 g
  clear g
  have br2 := Below.refl wr2.heap.size wr2
  clear hT
  go_wp2_with fail
  refine (HM1.out A n c _ (SM _ hb3) hnc hcm hn).mono ?_
  rintro e v1 ⟨rfl, g⟩
  have hb4 := below_step hb3 g
  have br1 := below_step br1 g
  have br2 := below_step br2 g
  clear g
  go_wp2_with fail
  refine (HM2.out A n c _ (SM _ hb4) hn).mono ?_
  rintro e v2 ⟨rfl, g⟩
  have hb5 := below_step hb4 g
  have br1 := below_step br1 g
  have br2 := below_step br2 g
  clear g
  go_wp2_with fail
  refine (same_one _ _ _ _ _ _ (T) (T) _ rfl rfl rfl (nr1.below br1) (nr2.below br2) (by omega)).mono ?_
  rintro e v3 ⟨rfl, g⟩
  have hb6 := below_step hb5 g
  have br1 := below_step br1 g
  have br2 := below_step br2 g
  clear g
  clear br1 nr1
  clear br2 nr2
  go_wp2_with fail
  refine (HBI.out _ (SM _ hb6)).mono ?_
  rintro e v9 ⟨rfl, rfl⟩
  go_wp2_with fail
  refine (HRB.out _ (SM _ hb6)).mono ?_
  rintro e v4 ⟨rfl, g⟩
  have hb7 := below_step hb6 g
  clear g
  go_wp2_with fail
  refine (of_any k _ hk).mono ?_
  rintro e wx1 ⟨Ax1, cx1, rfl, ox1, g⟩
  have hb8 := below_step hb7 g
  clear g
  have bx1 := Below.refl wx1.heap.size wx1
  have lx1 := ox1.le
  have mx1 := ox1.small
  go_wp2_with fail
  refine (rof_any k _ hk).mono ?_
  rintro e wr1 ⟨Ar1, cr1, rfl, nr1, lr1, mr1, g⟩
  have hb9 := below_step hb8 g
  have bx1 := below_step bx1 g
  clear g
  have br1 := Below.refl wr1.heap.size wr1
  go_wp2_with fail
  refine (same_one _ _ _ _ _ _ (k) (k) _ rfl rfl rfl (ox1.nat.below bx1) (nr1.below br1) (by omega)).mono ?_
  rintro e v5 ⟨rfl, g⟩
  have hb10 := below_step hb9 g
  have bx1 := below_step bx1 g
  have br1 := below_step br1 g
  clear g
  clear bx1 ox1
  clear br1 nr1
  go_wp2_with fail
  go_ret
  exact ⟨rfl, hb10⟩

theorem shifts_any (A : Option Addr) (n c M k : Nat) (z : Int) (w : World) (hM : IsNat w A n M) (hnc : n ≤ c) (hcm : c ≤ 9223372036854775807) (hk : k < 18446744073709551616) :
    Calls Try.prog 5 #[.slice A n c, .int .i64 z, .int .u64 k] w fun e w' => e = .returned (.bool true) ∧ Below w.heap.size w w' := by
  by_cases h : 80 < n
  · exact shifts_long A n c k z w h
  · exact shifts_some A n c M k z w hM hnc hcm hk (by omega)
end Go.Proofs.Ytegbhenchmfngaa
