/- NatRing: sums and products go in any order, and a product goes over a sum. -/
import Derived.Test.YtegbhenchmfngaaLawKit
namespace Go.Proofs.Ytegbhenchmfngaa
open Go.RowKit

set_option maxHeartbeats 2000000 in
theorem ring_short (A B C : Option Addr) (n c m d k e M N P : Nat) (w : World) (hM : IsNat w A n M) (hN : IsNat w B m N) (hP : IsNat w C k P) (hnc : n ≤ c) (hmd : m ≤ d) (hke : k ≤ e)
    (hc : c ≤ 9223372036854775807) (hd : d ≤ 9223372036854775807) (he : e ≤ 9223372036854775807) (hn : n ≤ 80) (hm : m ≤ 80) (hk : k ≤ 80) :
    Calls Try.prog 7 #[.slice A n c, .slice B m d, .slice C k e] w fun e w' => e = .returned (.bool true) ∧ Below w.heap.size w w' := by
  have SM := Stays.of hM
  have SN := Stays.of hN
  have SP := Stays.of hP
  have a1 : Nt.wlen (M + N) ≤ 400 := Nat.le_trans (Nt.wlen_add hM.1 hN.1 hn hm) (by decide)
  have a2 : Nt.wlen (N + M) ≤ 400 := Nat.le_trans (Nt.wlen_add hN.1 hM.1 hm hn) (by decide)
  have a3 : Nt.wlen (N + P) ≤ 400 := Nat.le_trans (Nt.wlen_add hN.1 hP.1 hm hk) (by decide)
  have a4 : Nt.wlen (M * N) ≤ 400 := Nt.wlen_mul hM.1 hN.1 (by omega)
  have a5 : Nt.wlen (N * M) ≤ 400 := Nt.wlen_mul hN.1 hM.1 (by omega)
  have a6 : Nt.wlen (N * P) ≤ 400 := Nt.wlen_mul hN.1 hP.1 (by omega)
  have a7 : Nt.wlen (M * P) ≤ 400 := Nt.wlen_mul hM.1 hP.1 (by omega)
  have a8 : Nt.wlen (M + N + P) ≤ 400 := Nat.le_trans (Nt.wlen_add (Nt.lt_pw_wlen (M + N)) hP.1 (k := 300) (Nat.le_trans (Nt.wlen_add hM.1 hN.1 hn hm) (by decide)) (by omega)) (by decide)
  have a9 : Nt.wlen (M * N * P) ≤ 400 := Nt.wlen_mul (Nt.lt_pw_wlen (M * N)) hP.1 (by have := Nt.wlen_mul (k := 160) hM.1 hN.1 (by omega); omega)
  have a10 : Nt.wlen (M * (N + P)) ≤ 400 := Nt.wlen_mul hM.1 (Nt.lt_pw_wlen (N + P)) (by have := Nt.wlen_add hN.1 hP.1 hm hk; omega)
  have aM : Nt.wlen M ≤ 80 := Nat.le_trans hM.wl hn
  have hlong : false = true ↔ 80 < n ∨ 80 < m ∨ 80 < k := ⟨(fun h => by cases h), (fun h => by omega)⟩
  have HL := fun w => long3 A B C n c m d k e w false hlong
  clear hM hN hP hlong
  go_enter Try.func7, Try.ntmps7
  go_wp2_with fail
  refine (awake_any _).mono ?_
  rintro e w0 ⟨rfl, hb0⟩
  go_wp2_with fail
  refine (HL w0).mono ?_
  rintro e w1 ⟨rfl, rfl⟩
  clear HL
  have hb1 := below_alloc hb0 (.cells #[.slice A n c, .slice B m d, .slice C k e] 23)
  go_wp2_with fail
  refine (add_any _ _ _ _ _ _ (M) (N) _ (SM _ hb1) (SN _ hb1) (by omega) (by omega)).mono ?_
  rintro e wx1 ⟨Ax1, cx1, rfl, ox1, g⟩
  have hb2 := below_step hb1 g
  clear g
  have bx1 := Below.refl wx1.heap.size wx1
  have lx1 := ox1.le
  have mx1 := ox1.small
  go_wp2_with fail
  refine (add_any _ _ _ _ _ _ (N) (M) _ (SN _ hb2) (SM _ hb2) (by omega) (by omega)).mono ?_
  rintro e wx2 ⟨Ax2, cx2, rfl, ox2, g⟩
  have hb3 := below_step hb2 g
  have bx1 := below_step bx1 g
  clear g
  have bx2 := Below.refl wx2.heap.size wx2
  have lx2 := ox2.le
  have mx2 := ox2.small
  go_wp2_with fail
  refine (same_one _ _ _ _ _ _ (M + N) (N + M) _ (Nat.add_comm _ _) rfl rfl (ox1.nat.below bx1) (ox2.nat.below bx2) (by omega)).mono ?_
  rintro e v1 ⟨rfl, g⟩
  have hb4 := below_step hb3 g
  have bx1 := below_step bx1 g
  have bx2 := below_step bx2 g
  clear g
  clear bx1 ox1
  clear bx2 ox2
  go_wp2_with fail
  refine (mul_any _ _ _ _ _ _ (M) (N) _ (SM _ hb4) (SN _ hb4) hnc hmd (by omega) (by omega) (by omega) (by omega)).mono ?_
  rintro e wx3 ⟨Ax3, cx3, rfl, ox3, g⟩
  have hb5 := below_step hb4 g
  clear g
  have bx3 := Below.refl wx3.heap.size wx3
  have lx3 := ox3.le
  have mx3 := ox3.small
  go_wp2_with fail
  refine (mul_any _ _ _ _ _ _ (N) (M) _ (SN _ hb5) (SM _ hb5) hmd hnc (by omega) (by omega) (by omega) (by omega)).mono ?_
  rintro e wx4 ⟨Ax4, cx4, rfl, ox4, g⟩
  have hb6 := below_step hb5 g
  have bx3 := below_step bx3 g
  clear g
  have bx4 := Below.refl wx4.heap.size wx4
  have lx4 := ox4.le
  have mx4 := ox4.small
  go_wp2_with fail
  refine (same_one _ _ _ _ _ _ (M * N) (N * M) _ (Nat.mul_comm _ _) rfl rfl (ox3.nat.below bx3) (ox4.nat.below bx4) (by omega)).mono ?_
  rintro e v2 ⟨rfl, g⟩
  have hb7 := below_step hb6 g
  have bx3 := below_step bx3 g
  have bx4 := below_step bx4 g
  clear g
  clear bx3 ox3
  clear bx4 ox4
  go_wp2_with fail
  refine (add_any _ _ _ _ _ _ (M) (N) _ (SM _ hb7) (SN _ hb7) (by omega) (by omega)).mono ?_
  rintro e wx5 ⟨Ax5, cx5, rfl, ox5, g⟩
  have hb8 := below_step hb7 g
  clear g
  have bx5 := Below.refl wx5.heap.size wx5
  have lx5 := ox5.le
  have mx5 := ox5.small
  go_wp2_with fail
  refine (add_any _ _ _ _ _ _ (M + N) (P) _ (ox5.nat.below bx5) (SP _ hb8) (by omega) (by omega)).mono ?_
  rintro e wx6 ⟨Ax6, cx6, rfl, ox6, g⟩
  have hb9 := below_step hb8 g
  have bx5 := below_step bx5 g
  clear g
  have bx6 := Below.refl wx6.heap.size wx6
  have lx6 := ox6.le
  have mx6 := ox6.small
  go_wp2_with fail
  refine (add_any _ _ _ _ _ _ (N) (P) _ (SN _ hb9) (SP _ hb9) (by omega) (by omega)).mono ?_
  rintro e wx7 ⟨Ax7, cx7, rfl, ox7, g⟩
  have hb10 := below_step hb9 g
  have bx5 := below_step bx5 g
  have bx6 := below_step bx6 g
  clear g
  have bx7 := Below.refl wx7.heap.size wx7
  have lx7 := ox7.le
  have mx7 := ox7.small
  go_wp2_with fail
  refine (add_any _ _ _ _ _ _ (M) (N + P) _ (SM _ hb10) (ox7.nat.below bx7) (by omega) (by omega)).mono ?_
  rintro e wx8 ⟨Ax8, cx8, rfl, ox8, g⟩
  have hb11 := below_step hb10 g
  have bx5 := below_step bx5 g
  have bx6 := below_step bx6 g
  have bx7 := below_step bx7 g
  clear g
  have bx8 := Below.refl wx8.heap.size wx8
  have lx8 := ox8.le
  have mx8 := ox8.small
  clear bx5 ox5
  clear bx7 ox7
  go_wp2_with fail
  refine (same_one _ _ _ _ _ _ ((M + N) + P) (M + (N + P)) _ (Nat.add_assoc _ _ _) rfl rfl (ox6.nat.below bx6) (ox8.nat.below bx8) (by omega)).mono ?_
  rintro e v3 ⟨rfl, g⟩
  have hb12 := below_step hb11 g
  have bx6 := below_step bx6 g
  have bx8 := below_step bx8 g
  clear g
  clear bx6 ox6
  clear bx8 ox8
  go_wp2_with fail
  refine (mul_any _ _ _ _ _ _ (M) (N) _ (SM _ hb12) (SN _ hb12) hnc hmd (by omega) (by omega) (by omega) (by omega)).mono ?_
  rintro e wy5 ⟨Ay5, cy5, rfl, oy5, g⟩
  have hb13 := below_step hb12 g
  clear g
  have by5 := Below.refl wy5.heap.size wy5
  have ly5 := oy5.le
  have my5 := oy5.small
  go_wp2_with fail
  refine (mul_any _ _ _ _ _ _ (M * N) (P) _ (oy5.nat.below by5) (SP _ hb13) ly5 hke (by omega) (by omega) (by omega) (by omega)).mono ?_
  rintro e wy6 ⟨Ay6, cy6, rfl, oy6, g⟩
  have hb14 := below_step hb13 g
  have by5 := below_step by5 g
  clear g
  have by6 := Below.refl wy6.heap.size wy6
  have ly6 := oy6.le
  have my6 := oy6.small
  go_wp2_with fail
  refine (mul_any _ _ _ _ _ _ (N) (P) _ (SN _ hb14) (SP _ hb14) hmd hke (by omega) (by omega) (by omega) (by omega)).mono ?_
  rintro e wy7 ⟨Ay7, cy7, rfl, oy7, g⟩
  have hb15 := below_step hb14 g
  have by5 := below_step by5 g
  have by6 := below_step by6 g
  clear g
  have by7 := Below.refl wy7.heap.size wy7
  have ly7 := oy7.le
  have my7 := oy7.small
  go_wp2_with fail
  refine (mul_any _ _ _ _ _ _ (M) (N * P) _ (SM _ hb15) (oy7.nat.below by7) hnc ly7 (by omega) (by omega) (by omega) (by omega)).mono ?_
  rintro e wy8 ⟨Ay8, cy8, rfl, oy8, g⟩
  have hb16 := below_step hb15 g
  have by5 := below_step by5 g
  have by6 := below_step by6 g
  have by7 := below_step by7 g
  clear g
  have by8 := Below.refl wy8.heap.size wy8
  have ly8 := oy8.le
  have my8 := oy8.small
  clear by5 oy5
  clear by7 oy7
  go_wp2_with fail
  refine (same_one _ _ _ _ _ _ ((M * N) * P) (M * (N * P)) _ (Nat.mul_assoc _ _ _) rfl rfl (oy6.nat.below by6) (oy8.nat.below by8) (by omega)).mono ?_
  rintro e v4 ⟨rfl, g⟩
  have hb17 := below_step hb16 g
  have by6 := below_step by6 g
  have by8 := below_step by8 g
  clear g
  clear by6 oy6
  clear by8 oy8
  go_wp2_with fail
  refine (add_any _ _ _ _ _ _ (N) (P) _ (SN _ hb17) (SP _ hb17) (by omega) (by omega)).mono ?_
  rintro e wz1 ⟨Az1, cz1, rfl, oz1, g⟩
  have hb18 := below_step hb17 g
  clear g
  have bz1 := Below.refl wz1.heap.size wz1
  have lz1 := oz1.le
  have mz1 := oz1.small
  go_wp2_with fail
  refine (mul_any _ _ _ _ _ _ (M) (N + P) _ (SM _ hb18) (oz1.nat.below bz1) hnc lz1 (by omega) (by omega) (by omega) (by omega)).mono ?_
  rintro e wz2 ⟨Az2, cz2, rfl, oz2, g⟩
  have hb19 := below_step hb18 g
  have bz1 := below_step bz1 g
  clear g
  have bz2 := Below.refl wz2.heap.size wz2
  have lz2 := oz2.le
  have mz2 := oz2.small
  go_wp2_with fail
  refine (mul_any _ _ _ _ _ _ (M) (N) _ (SM _ hb19) (SN _ hb19) hnc hmd (by omega) (by omega) (by omega) (by omega)).mono ?_
  rintro e wz3 ⟨Az3, cz3, rfl, oz3, g⟩
  have hb20 := below_step hb19 g
  have bz1 := below_step bz1 g
  have bz2 := below_step bz2 g
  clear g
  have bz3 := Below.refl wz3.heap.size wz3
  have lz3 := oz3.le
  have mz3 := oz3.small
  go_wp2_with fail
  refine (mul_any _ _ _ _ _ _ (M) (P) _ (SM _ hb20) (SP _ hb20) hnc hke (by omega) (by omega) (by omega) (by omega)).mono ?_
  rintro e wz4 ⟨Az4, cz4, rfl, oz4, g⟩
  have hb21 := below_step hb20 g
  have bz1 := below_step bz1 g
  have bz2 := below_step bz2 g
  have bz3 := below_step bz3 g
  clear g
  have bz4 := Below.refl wz4.heap.size wz4
  have lz4 := oz4.le
  have mz4 := oz4.small
  go_wp2_with fail
  refine (add_any _ _ _ _ _ _ (M * N) (M * P) _ (oz3.nat.below bz3) (oz4.nat.below bz4) (by omega) (by omega)).mono ?_
  rintro e wz5 ⟨Az5, cz5, rfl, oz5, g⟩
  have hb22 := below_step hb21 g
  have bz1 := below_step bz1 g
  have bz2 := below_step bz2 g
  have bz3 := below_step bz3 g
  have bz4 := below_step bz4 g
  clear g
  have bz5 := Below.refl wz5.heap.size wz5
  have lz5 := oz5.le
  have mz5 := oz5.small
  clear bz1 oz1
  clear bz3 oz3
  clear bz4 oz4
  go_wp2_with fail
  refine (same_one _ _ _ _ _ _ (M * (N + P)) ((M * N) + (M * P)) _ (Nat.mul_add _ _ _) rfl rfl (oz2.nat.below bz2) (oz5.nat.below bz5) (by omega)).mono ?_
  rintro e v5 ⟨rfl, g⟩
  have hb23 := below_step hb22 g
  have bz2 := below_step bz2 g
  have bz5 := below_step bz5 g
  clear g
  clear bz2 oz2
  clear bz5 oz5
  go_wp2_with fail
  have hT := add_any A none n c 0 0 M 0 _ (SM _ hb23) (IsNat.nil _ _) (by omega) (by omega)
  rw [Nat.add_zero] at hT
  refine hT.mono ?_
  rintro e wu1 ⟨Au1, cu1, rfl, ou1, g⟩
  clear hT
  have hb24 := below_step hb23 g
  clear g
  have bu1 := Below.refl wu1.heap.size wu1
  have lu1 := ou1.le
  have mu1 := ou1.small
  go_wp2_with fail
  refine (norm_any _ _ _ (M) _ (SM _ hb24) hnc (by omega) (by omega)).mono ?_
  rintro e wu2 ⟨Au2, cu2, rfl, ou2, g⟩
  have hb25 := below_step hb24 g
  have bu1 := below_step bu1 g
  clear g
  have bu2 := Below.refl wu2.heap.size wu2
  have lu2 := ou2.le
  have mu2 := ou2.small
  go_wp2_with fail
  refine (same_one _ _ _ _ _ _ (M) (M) _ (rfl) rfl rfl (ou1.nat.below bu1) (ou2.nat.below bu2) (by omega)).mono ?_
  rintro e v6 ⟨rfl, g⟩
  have hb26 := below_step hb25 g
  have bu1 := below_step bu1 g
  have bu2 := below_step bu2 g
  clear g
  clear bu1 ou1
  clear bu2 ou2
  go_wp2_with fail
  have I1 := nat_one v6 1 (by decide)
  have hb27 := below_alloc hb26 (.cells #[.int .u32 1] 44)
  go_wp2_with fail
  have hT := mul_any A _ n c 1 1 M 1 _ (SM _ hb27) I1 hnc (by omega) (by omega) (by omega) (by omega) (by omega)
  rw [Nat.mul_one] at hT
  refine hT.mono ?_
  rintro e wr1 ⟨Ar1, cr1, rfl, or1, g⟩
  clear hT
  have hb28 := below_step hb27 g
  clear g
  have br1 := Below.refl wr1.heap.size wr1
  have lr1 := or1.le
  have mr1 := or1.small
  clear I1
  go_wp2_with fail
  refine (norm_any _ _ _ (M) _ (SM _ hb28) hnc (by omega) (by omega)).mono ?_
  rintro e wr2 ⟨Ar2, cr2, rfl, or2, g⟩
  have hb29 := below_step hb28 g
  have br1 := below_step br1 g
  clear g
  have br2 := Below.refl wr2.heap.size wr2
  have lr2 := or2.le
  have mr2 := or2.small
  go_wp2_with fail
  refine (same_one _ _ _ _ _ _ (M) (M) _ (rfl) rfl rfl (or1.nat.below br1) (or2.nat.below br2) (by omega)).mono ?_
  rintro e v7 ⟨rfl, g⟩
  have hb30 := below_step hb29 g
  have br1 := below_step br1 g
  have br2 := below_step br2 g
  clear g
  clear br1 or1
  clear br2 or2
  go_wp2_with fail
  have hT := mul_any A none n c 0 0 M 0 _ (SM _ hb30) (IsNat.nil _ _) hnc (by omega) (by omega) (by omega) (by omega) (by omega)
  rw [Nat.mul_zero, show Nt.wlen 0 = 0 from rfl] at hT
  refine hT.mono ?_
  rintro e ws1 ⟨As1, cs1, rfl, os1, g⟩
  clear hT
  have hb31 := below_step hb30 g
  clear g
  have bs1 := Below.refl ws1.heap.size ws1
  have ls1 := os1.le
  have ms1 := os1.small
  go_wp2_with fail
  go_ret
  exact ⟨rfl, hb31⟩

theorem ring_long (A B C : Option Addr) (n c m d k e : Nat) (w : World) (h : 80 < n ∨ 80 < m ∨ 80 < k) :
    Calls Try.prog 7 #[.slice A n c, .slice B m d, .slice C k e] w fun e w' => e = .returned (.bool true) ∧ Below w.heap.size w w' := by
  have HL := fun w => long3 A B C n c m d k e w true ⟨fun _ => h, fun _ => rfl⟩
  clear h
  go_enter Try.func7, Try.ntmps7
  go_wp2_with fail
  refine (awake_any _).mono ?_
  rintro e w0 ⟨rfl, hb0⟩
  go_wp2_with fail
  refine (HL w0).mono ?_
  rintro e w1 ⟨rfl, rfl⟩
  clear HL
  go_wp2_with fail
  go_ret
  exact ⟨rfl, below_alloc hb0 _⟩

theorem ring_any (A B C : Option Addr) (n c m d k e M N P : Nat) (w : World) (hM : IsNat w A n M) (hN : IsNat w B m N) (hP : IsNat w C k P) (hnc : n ≤ c) (hmd : m ≤ d) (hke : k ≤ e)
    (hc : c ≤ 9223372036854775807) (hd : d ≤ 9223372036854775807) (he : e ≤ 9223372036854775807) :
    Calls Try.prog 7 #[.slice A n c, .slice B m d, .slice C k e] w fun e w' => e = .returned (.bool true) ∧ Below w.heap.size w w' := by
  by_cases h : 80 < n ∨ 80 < m ∨ 80 < k
  · exact ring_long A B C n c m d k e w h
  · exact ring_short A B C n c m d k e M N P w hM hN hP hnc hmd hke hc hd he (by omega) (by omega) (by omega)
end Go.Proofs.Ytegbhenchmfngaa
