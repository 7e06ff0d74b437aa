/- NatSums: sums, differences and what is less are those of the numbers. -/
import Derived.Test.YtegbhenchmfngaaLawKit
import Derived.Test.YtegbhenchmfngaaRef5
namespace Go.Proofs.Ytegbhenchmfngaa
open Go.RowKit

theorem sums_long (A B : Option Addr) (n c m d : Nat) (w : World) (h : 80 < n ∨ 80 < m) :
    Calls Try.prog 3 #[.slice A n c, .slice B m d] w fun e w' => e = .returned (.bool true) ∧ Below w.heap.size w w' := by
  have HL := fun w => long2 A B n c m d w true ⟨fun _ => h, fun _ => rfl⟩
  clear h
  go_enter Try.func3, Try.ntmps3
  go_wp2_with fail
  refine (awake_any _).mono ?_
  rintro e w0 ⟨rfl, hb0⟩
  go_wp2_with fail
  refine (HL w0).mono ?_
  rintro e w1 ⟨rfl, rfl⟩
  clear HL
  go_wp2_with fail
  go_ret
  exact ⟨rfl, below_alloc hb0 _⟩

set_option maxHeartbeats 2000000 in
theorem sums_some (A B : Option Addr) (n c m d M N : Nat) (w : World) (hM : IsNat w A n M) (hN : IsNat w B m N) (hnc : n ≤ c) (hmd : m ≤ d)
    (hc : c ≤ 9223372036854775807) (hd : d ≤ 9223372036854775807) (hn : n ≤ 80) (hm : m ≤ 80) :
    Calls Try.prog 3 #[.slice A n c, .slice B m d] w fun e w' => e = .returned (.bool true) ∧ Below w.heap.size w w' := by
  have SM := Stays.of hM
  have SN := Stays.of hN
  have a1 : Nt.wlen (M + N) ≤ 400 := Nat.le_trans (Nt.wlen_add hM.1 hN.1 hn hm) (by decide)
  have aM : Nt.wlen M ≤ 80 := Nat.le_trans hM.wl hn
  have aD : Nt.wlen (M - N) ≤ 80 := Nat.le_trans (Nt.wlen_mono (Nat.sub_le M N)) aM
  have hlong : false = true ↔ 80 < n ∨ 80 < m := ⟨(fun h => by cases h), (fun h => by omega)⟩
  have HL := fun w => long2 A B n c m d w false hlong
  obtain ⟨z, hz⟩ : ∃ z : Int, Nt.cmp M N = z := ⟨_, rfl⟩
  have HZ := Lib.hid hz
  clear hM hN hlong hz
  go_enter Try.func3, Try.ntmps3
  go_wp2_with fail
  refine (awake_any _).mono ?_
  rintro e w0 ⟨rfl, hb0⟩
  go_wp2_with fail
  refine (HL w0).mono ?_
  rintro e w1 ⟨rfl, rfl⟩
  clear HL
  have hb1 := below_alloc hb0 (.cells #[.slice A n c, .slice B m d] 23)
  go_wp2_with fail
  refine (norm_any _ _ _ M _ (SM _ hb1) hnc (by omega) (by omega)).mono ?_
  rintro e wx1 ⟨Ax1, cx1, rfl, ox1, g⟩
  have hb2 := below_step hb1 g
  clear g
  have bx1 := Below.refl wx1.heap.size wx1
  have lx1 := ox1.le
  have mx1 := ox1.small
  go_wp2_with fail
  refine (rnorm_any _ _ _ M _ (SM _ hb2) (by omega)).mono ?_
  rintro e wr1 ⟨Ar1, cr1, rfl, nr1, lr1, mr1, g⟩
  have hb3 := below_step hb2 g
  have bx1 := below_step bx1 g
  clear g
  have br1 := Below.refl wr1.heap.size wr1
  go_wp2_with fail
  refine (same_one _ _ _ _ _ _ (M) (M) _ rfl rfl rfl (ox1.nat.below bx1) (nr1.below br1) (by omega)).mono ?_
  rintro e v1 ⟨rfl, g⟩
  have hb4 := below_step hb3 g
  have bx1 := below_step bx1 g
  have br1 := below_step br1 g
  clear g
  clear bx1 ox1
  clear br1 nr1
  go_wp2_with fail
  refine (add_any _ _ _ _ _ _ M N _ (SM _ hb4) (SN _ hb4) (by omega) (by omega)).mono ?_
  rintro e wx2 ⟨Ax2, cx2, rfl, ox2, g⟩
  have hb5 := below_step hb4 g
  clear g
  have bx2 := Below.refl wx2.heap.size wx2
  have lx2 := ox2.le
  have mx2 := ox2.small
  go_wp2_with fail
  refine (radd_any _ _ _ _ _ _ M N _ (SM _ hb5) (SN _ hb5) (by omega) (by omega)).mono ?_
  rintro e wr2 ⟨Ar2, cr2, rfl, nr2, lr2, mr2, g⟩
  have hb6 := below_step hb5 g
  have bx2 := below_step bx2 g
  clear g
  have br2 := Below.refl wr2.heap.size wr2
  go_wp2_with fail
  refine (same_one _ _ _ _ _ _ (M + N) (M + N) _ rfl rfl rfl (ox2.nat.below bx2) (nr2.below br2) (by omega)).mono ?_
  rintro e v2 ⟨rfl, g⟩
  have hb7 := below_step hb6 g
  have bx2 := below_step bx2 g
  have br2 := below_step br2 g
  clear g
  clear bx2 ox2
  clear br2 nr2
  go_wp2_with fail
  refine (monus_any _ _ _ _ _ _ M N _ (SM _ hb7) (SN _ hb7) hnc hmd hc hd (by omega)).mono ?_
  rintro e wx3 ⟨Ax3, cx3, rfl, ox3, g⟩
  have hb8 := below_step hb7 g
  clear g
  have bx3 := Below.refl wx3.heap.size wx3
  have lx3 := ox3.le
  have mx3 := ox3.small
  go_wp2_with fail
  refine (rmonus_any _ _ _ _ _ _ M N _ (SM _ hb8) (SN _ hb8) (by omega) (by omega)).mono ?_
  rintro e wr3 ⟨Ar3, cr3, rfl, nr3, lr3, mr3, g⟩
  have hb9 := below_step hb8 g
  have bx3 := below_step bx3 g
  clear g
  have br3 := Below.refl wr3.heap.size wr3
  go_wp2_with fail
  refine (same_one _ _ _ _ _ _ (M - N) (M - N) _ rfl rfl rfl (ox3.nat.below bx3) (nr3.below br3) (by omega)).mono ?_
  rintro e v3 ⟨rfl, g⟩
  have hb10 := below_step hb9 g
  have bx3 := below_step bx3 g
  have br3 := below_step br3 g
  clear g
  clear bx3 ox3
  clear br3 nr3
  go_wp2_with fail
  refine (compare_b _ _ _ _ _ _ M N _ z HZ.out (SM _ hb10) (SN _ hb10) hnc hmd hc hd).mono ?_
  rintro e v4 ⟨rfl, g⟩
  have hb11 := below_step hb10 g
  clear g
  go_wp2_with fail
  refine (rcompare_b _ _ _ _ _ _ M N _ z HZ.out (SM _ hb11) (SN _ hb11) (by omega) (by omega)).mono ?_
  rintro e v5 ⟨rfl, g⟩
  have hb12 := below_step hb11 g
  clear g
  go_wp2_with fail
  go_ret
  exact ⟨by simp, hb12⟩

theorem sums_any (A B : Option Addr) (n c m d M N : Nat) (w : World) (hM : IsNat w A n M) (hN : IsNat w B m N) (hnc : n ≤ c) (hmd : m ≤ d)
    (hc : c ≤ 9223372036854775807) (hd : d ≤ 9223372036854775807) :
    Calls Try.prog 3 #[.slice A n c, .slice B m d] w fun e w' => e = .returned (.bool true) ∧ Below w.heap.size w w' := by
  by_cases h : 80 < n ∨ 80 < m
  · exact sums_long A B n c m d w h
  · exact sums_some A B n c m d M N w hM hN hnc hmd hc hd (by omega) (by omega)
end Go.Proofs.Ytegbhenchmfngaa
