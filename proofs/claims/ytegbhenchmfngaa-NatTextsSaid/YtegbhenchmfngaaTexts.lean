/- NatTexts: digits of numbers, and numbers of digits, are as the document says. -/
import Derived.Test.YtegbhenchmfngaaLawKit
import Derived.Test.YtegbhenchmfngaaRef12
import Derived.Test.YtegbhenchmfngaaBackKit
namespace Go.Proofs.Ytegbhenchmfngaa
open Go.RowKit

/-- What both say of a text. -/
theorem parse_both (s : ByteArray) (hs : s.size ≤ 800) : ∃ (T : Nat) (E : Int),
    (∀ w : World, Calls Try.prog 35 #[.string s] w fun e w' => ∃ A c, e = .returned (.tuple #[.slice A (Nt.wlen T) c, .int .i64 E]) ∧ IsNat w' A (Nt.wlen T) T ∧ Nt.wlen T ≤ 9223372036854775807 ∧ Below w.heap.size w w') ∧
    (∀ w : World, Calls Try.prog 36 #[.string s] w fun e w' => ∃ A c, e = .returned (.tuple #[.slice A (Nt.wlen T) c, .int .i64 E]) ∧ IsNat w' A (Nt.wlen T) T ∧ True ∧ Below w.heap.size w w') := by
  by_cases h : DecS s
  · refine ⟨Nt.numL s.data.toList, 0, fun w => (parse_yes s w (by omega) h _ rfl).mono fun e w' he => ?_, fun w => (rparse_yes s w (by omega) h _ rfl).mono fun e w' he => ?_⟩
    · obtain ⟨A, c, h1, h2, h3, h4, h5⟩ := he
      exact ⟨A, c, h1, h2, Nat.le_trans h3 h4, h5⟩
    · obtain ⟨A, c, h1, h2, h3⟩ := he
      exact ⟨A, c, h1, h2, trivial, h3⟩
  · refine ⟨0, 3, fun w => (parse_no s w (by omega) h).mono fun e w' he => ?_, fun w => (rparse_no s w (by omega) h).mono fun e w' he => ?_⟩
    · obtain ⟨rfl, rfl⟩ := he
      exact ⟨none, 0, rfl, IsNat.nil _ _, Nat.zero_le _, Below.refl _ _⟩
    · obtain ⟨rfl, rfl⟩ := he
      exact ⟨none, 0, rfl, IsNat.nil _ _, trivial, Below.refl _ _⟩
/-- What both tell of a number. -/
theorem decimal_both (M : Nat) : ∃ t : ByteArray,
    (∀ (A : Option Addr) (n c : Nat) (w : World), IsNat w A n M → n ≤ c → c ≤ 9223372036854775807 → n ≤ 80 → Calls Try.prog 37 #[.slice A n c] w fun e w' => e = .returned (.string t) ∧ Below w.heap.size w w') ∧
    (∀ (A : Option Addr) (n c : Nat) (w : World), IsNat w A n M → n ≤ 80 → Calls Try.prog 38 #[.slice A n c] w fun e w' => e = .returned (.string t) ∧ Below w.heap.size w w') := by
  obtain ⟨L, hL⟩ : ∃ L, Nt.IsDec M L := Nt.dec_some M
  refine ⟨strOfNums (Nt.decL M L), fun A n c w hM hnc hcm hn => (decimal_any A n c M w hM hnc hcm (by omega)).mono fun e w' he => ?_, fun A n c w hM hn => (rdecimal_any A n c M w hM (by omega)).mono fun e w' he => ?_⟩
  all_goals
    obtain ⟨L', hL', h1, h2⟩ := he
    rw [Nt.IsDec.unique hL' hL] at h1
    exact ⟨h1, h2⟩

theorem texts_long (A : Option Addr) (n c : Nat) (s : ByteArray) (w : World) (h : 80 < n) :
    Calls Try.prog 6 #[.slice A n c, .string s] w fun e w' => e = .returned (.bool true) ∧ Below w.heap.size w w' := by
  have HL := fun w => long1 A n c w true ⟨fun _ => h, fun _ => rfl⟩
  clear h
  go_enter Try.func6, Try.ntmps6
  go_wp2_with fail
  refine (awake_any _).mono ?_
  rintro e w0 ⟨rfl, hb0⟩
  go_wp2_with fail
  refine (HL w0).mono ?_
  rintro e w1 ⟨rfl, rfl⟩
  clear HL
  go_wp2_with fail
  go_ret
  exact ⟨rfl, below_alloc hb0 _⟩

theorem texts_wide (A : Option Addr) (n c : Nat) (s : ByteArray) (w : World) (hn : n ≤ 80) (h : 800 < s.size) :
    Calls Try.prog 6 #[.slice A n c, .string s] w fun e w' => e = .returned (.bool true) ∧ Below w.heap.size w w' := by
  have hlong : false = true ↔ 80 < n := ⟨(fun h => by cases h), (fun h => by omega)⟩
  have HL := fun w => long1 A n c w false hlong
  have hs : (800 : Int) < (s.size : Int) := by omega
  clear hlong
  go_enter Try.func6, Try.ntmps6
  go_wp2_with fail
  refine (awake_any _).mono ?_
  rintro e w0 ⟨rfl, hb0⟩
  go_wp2_with fail
  refine (HL w0).mono ?_
  rintro e w1 ⟨rfl, rfl⟩
  clear HL
  go_wp2_with fail
  go_ret
  exact ⟨rfl, below_alloc hb0 _⟩

set_option maxHeartbeats 2000000 in
theorem texts_some (A : Option Addr) (n c M : Nat) (s : ByteArray) (w : World) (hM : IsNat w A n M) (hnc : n ≤ c) (hcm : c ≤ 9223372036854775807) (hn : n ≤ 80) (hs : s.size ≤ 800) :
    Calls Try.prog 6 #[.slice A n c, .string s] w fun e w' => e = .returned (.bool true) ∧ Below w.heap.size w w' := by
  have SM := Stays.of hM
  have hlong : false = true ↔ 80 < n := ⟨(fun h => by cases h), (fun h => by omega)⟩
  have HL := fun w => long1 A n c w false hlong
  have hsz : ¬ (800 : Int) < (s.size : Int) := by omega
  obtain ⟨T, E, h1, h2⟩ := parse_both s hs
  have HP1 := Lib.hid h1
  have HP2 := Lib.hid h2
  obtain ⟨t, h3, h4⟩ := decimal_both M
  have HD1 := Lib.hid fun w h => h3 A n c w h hnc hcm hn
  have HD2 := Lib.hid fun w h => h4 A n c w h hn
  clear hM hlong h1 h2 h3 h4
  go_enter Try.func6, Try.ntmps6
  go_wp2_with fail
  refine (awake_any _).mono ?_
  rintro e w0 ⟨rfl, hb0⟩
  go_wp2_with fail
  refine (HL w0).mono ?_
  rintro e w1 ⟨rfl, rfl⟩
  clear HL
  have hb1 := below_alloc hb0 (.cells #[.slice A n c] 23)
  go_wp2_with fail
  refine (HP1.out _).mono ?_
  rintro e wr1 ⟨Ar1, cr1, rfl, nr1, hT, g⟩
  have hb2 := below_step hb1 g
  clear g
  have br1 := Below.refl wr1.heap.size wr1
  go_wp2_with fail
  refine (HP2.out _).mono ?_
  rintro e wr2 ⟨Ar2, cr2, rfl, nr2, hT, g⟩
  have hb3 := below_step hb2 g
  have br1 := below_step br1 g
  clear g
  have br2 := Below.refl wr2.heap.size wr2
  clear hT
  go_wp2_with fail
  refine (HD1.out _ (SM _ hb3)).mono ?_
  rintro e v1 ⟨rfl, g⟩
  have hb4 := below_step hb3 g
  have br1 := below_step br1 g
  have br2 := below_step br2 g
  clear g
  go_wp2_with fail
  refine (HD2.out _ (SM _ hb4)).mono ?_
  rintro e v2 ⟨rfl, g⟩
  have hb5 := below_step hb4 g
  have br1 := below_step br1 g
  have br2 := below_step br2 g
  clear g
  go_wp2_with fail
  refine (same_one _ _ _ _ _ _ (T) (T) _ rfl rfl rfl (nr1.below br1) (nr2.below br2) (by omega)).mono ?_
  rintro e v3 ⟨rfl, g⟩
  have hb6 := below_step hb5 g
  have br1 := below_step br1 g
  have br2 := below_step br2 g
  clear g
  go_wp2_with fail
  go_ret
  exact ⟨rfl, hb6⟩

theorem texts_any (A : Option Addr) (n c M : Nat) (s : ByteArray) (w : World) (hM : IsNat w A n M) (hnc : n ≤ c) (hcm : c ≤ 9223372036854775807) :
    Calls Try.prog 6 #[.slice A n c, .string s] w fun e w' => e = .returned (.bool true) ∧ Below w.heap.size w w' := by
  by_cases h : 80 < n
  · exact texts_long A n c s w h
  · by_cases h2 : 800 < s.size
    · exact texts_wide A n c s w (by omega) h2
    · exact texts_some A n c M s w hM hnc hcm (by omega) (by omega)
end Go.Proofs.Ytegbhenchmfngaa
