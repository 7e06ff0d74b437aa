/- NatOrder: numbers stand in one order, which sums keep; a difference is what lacks. -/
import Derived.Test.YtegbhenchmfngaaLawKit
namespace Go.Proofs.Ytegbhenchmfngaa
open Go.RowKit

set_option maxHeartbeats 2000000 in
theorem order_lt_le (A B C : Option Addr) (n c m d k e M N P : Nat) (w : World) (hM : IsNat w A n M) (hN : IsNat w B m N) (hP : IsNat w C k P) (hnc : n ≤ c) (hmd : m ≤ d) (hke : k ≤ e)
    (hc : c ≤ 9223372036854775807) (hd : d ≤ 9223372036854775807) (he : e ≤ 9223372036854775807) (hn : n ≤ 80) (hm : m ≤ 80) (hk : k ≤ 80) (hrel0 : M < N) (hNP : N ≤ P) :
    Calls Try.prog 9 #[.slice A n c, .slice B m d, .slice C k e] w fun e w' => e = .returned (.bool true) ∧ Below w.heap.size w w' := by
  have SM := Stays.of hM
  have SN := Stays.of hN
  have SP := Stays.of hP
  have a1 : Nt.wlen (M + P) ≤ 400 := Nat.le_trans (Nt.wlen_add hM.1 hP.1 hn hk) (by decide)
  have a2 : Nt.wlen (N + P) ≤ 400 := Nat.le_trans (Nt.wlen_add hN.1 hP.1 hm hk) (by decide)
  have aM : Nt.wlen M ≤ 80 := Nat.le_trans hM.wl hn
  have aN : Nt.wlen N ≤ 80 := Nat.le_trans hN.wl hm
  have aD : Nt.wlen (M - N) ≤ 80 := Nat.le_trans (Nt.wlen_mono (Nat.sub_le M N)) aM
  have HR := Lib.hid hrel0
  have hlong : false = true ↔ 80 < n ∨ 80 < m ∨ 80 < k := ⟨(fun h => by cases h), (fun h => by omega)⟩
  have HL := fun w => long3 A B C n c m d k e w false hlong
  clear hM hN hP hlong hrel0
  go_enter Try.func9, Try.ntmps9
  go_wp2_with fail
  refine (awake_any _).mono ?_
  rintro e w0 ⟨rfl, hb0⟩
  go_wp2_with fail
  refine (HL w0).mono ?_
  rintro e w1 ⟨rfl, rfl⟩
  clear HL
  have hb1 := below_alloc hb0 (.cells #[.slice A n c, .slice B m d, .slice C k e] 23)
  go_wp2_with fail
  refine (compare_b _ _ _ _ _ _ (M) (N) _ (-1) (by have hr := HR.out; exact Nt.cmp_lt (by omega)) (SM _ hb1) (SN _ hb1) hnc hmd (by omega) (by omega)).mono ?_
  rintro e v1 ⟨rfl, g⟩
  have hb2 := below_step hb1 g
  clear g
  go_wp2_with fail
  refine (compare_b _ _ _ _ _ _ (N) (M) _ (1) (by have hr := HR.out; exact Nt.cmp_gt (by omega)) (SN _ hb2) (SM _ hb2) hmd hnc (by omega) (by omega)).mono ?_
  rintro e v2 ⟨rfl, g⟩
  have hb3 := below_step hb2 g
  clear g
  go_wp2_with fail
  refine (norm_any _ _ _ (M) _ (SM _ hb3) hnc (by omega) (by omega)).mono ?_
  rintro e wx1 ⟨Ax1, cx1, rfl, ox1, g⟩
  have hb4 := below_step hb3 g
  clear g
  have bx1 := Below.refl wx1.heap.size wx1
  have lx1 := ox1.le
  have mx1 := ox1.small
  go_wp2_with fail
  refine (norm_any _ _ _ (N) _ (SN _ hb4) hmd (by omega) (by omega)).mono ?_
  rintro e wx2 ⟨Ax2, cx2, rfl, ox2, g⟩
  have hb5 := below_step hb4 g
  have bx1 := below_step bx1 g
  clear g
  have bx2 := Below.refl wx2.heap.size wx2
  have lx2 := ox2.le
  have mx2 := ox2.small
  go_wp2_with fail
  refine (same_b _ _ _ _ (M) (N) _ false (decide_eq_false_iff_not.2 (by have hr := HR.out; omega)) (ox1.nat.below bx1) (ox2.nat.below bx2) (by omega)).mono ?_
  rintro e v3 ⟨rfl, g⟩
  have hb6 := below_step hb5 g
  have bx1 := below_step bx1 g
  have bx2 := below_step bx2 g
  clear g
  clear bx1 ox1
  clear bx2 ox2
  go_wp2_with fail
  refine (add_any _ _ _ _ _ _ (M) (P) _ (SM _ hb6) (SP _ hb6) (by omega) (by omega)).mono ?_
  rintro e wx3 ⟨Ax3, cx3, rfl, ox3, g⟩
  have hb7 := below_step hb6 g
  clear g
  have bx3 := Below.refl wx3.heap.size wx3
  have lx3 := ox3.le
  have mx3 := ox3.small
  go_wp2_with fail
  refine (add_any _ _ _ _ _ _ (N) (P) _ (SN _ hb7) (SP _ hb7) (by omega) (by omega)).mono ?_
  rintro e wx4 ⟨Ax4, cx4, rfl, ox4, g⟩
  have hb8 := below_step hb7 g
  have bx3 := below_step bx3 g
  clear g
  have bx4 := Below.refl wx4.heap.size wx4
  have lx4 := ox4.le
  have mx4 := ox4.small
  go_wp2_with fail
  refine (compare_b _ _ _ _ _ _ (M + P) (N + P) _ (-1) (by have hr := HR.out; exact Nt.cmp_lt (by omega)) (ox3.nat.below bx3) (ox4.nat.below bx4) lx3 lx4 (by omega) (by omega)).mono ?_
  rintro e v4 ⟨rfl, g⟩
  have hb9 := below_step hb8 g
  have bx3 := below_step bx3 g
  have bx4 := below_step bx4 g
  clear g
  clear bx3 ox3
  clear bx4 ox4
  obtain ⟨y1, hy1, hy1'⟩ : ∃ y : Int, Nt.cmp N P = y ∧ y ≤ 0 := ⟨_, rfl, cmp_le (by omega)⟩
  have HY1 := Lib.hid hy1
  clear hy1
  go_wp2_with fail
  refine (compare_b _ _ _ _ _ _ (N) (P) _ (y1) (HY1.out) (SN _ hb9) (SP _ hb9) hmd hke (by omega) (by omega)).mono ?_
  rintro e v5 ⟨rfl, g⟩
  have hb10 := below_step hb9 g
  clear g
  obtain ⟨y2, hy2, hy2'⟩ : ∃ y : Int, Nt.cmp M P = y ∧ y ≤ 0 := ⟨_, rfl, cmp_le (by have hr := HR.out; omega)⟩
  have HY2 := Lib.hid hy2
  clear hy2
  go_wp2_with fail
  refine (compare_b _ _ _ _ _ _ (M) (P) _ (y2) (HY2.out) (SM _ hb10) (SP _ hb10) hnc hke (by omega) (by omega)).mono ?_
  rintro e v6 ⟨rfl, g⟩
  have hb11 := below_step hb10 g
  clear g
  go_wp2_with fail
  have hT := monus_any A B n c m d M N _ (SM _ hb11) (SN _ hb11) hnc hmd hc hd (by omega)
  rw [Nat.sub_eq_zero_of_le (by have hr := HR.out; omega), show Nt.wlen 0 = 0 from rfl] at hT
  refine hT.mono ?_
  rintro e wd1 ⟨Ad1, cd1, rfl, od1, g⟩
  clear hT
  have hb12 := below_step hb11 g
  clear g
  have bd1 := Below.refl wd1.heap.size wd1
  have ld1 := od1.le
  have md1 := od1.small
  go_wp2_with fail
  go_ret
  exact ⟨rfl, hb12⟩

set_option maxHeartbeats 2000000 in
theorem order_lt_gt (A B C : Option Addr) (n c m d k e M N P : Nat) (w : World) (hM : IsNat w A n M) (hN : IsNat w B m N) (hP : IsNat w C k P) (hnc : n ≤ c) (hmd : m ≤ d) (hke : k ≤ e)
    (hc : c ≤ 9223372036854775807) (hd : d ≤ 9223372036854775807) (he : e ≤ 9223372036854775807) (hn : n ≤ 80) (hm : m ≤ 80) (hk : k ≤ 80) (hrel0 : M < N) (hNP : P < N) :
    Calls Try.prog 9 #[.slice A n c, .slice B m d, .slice C k e] w fun e w' => e = .returned (.bool true) ∧ Below w.heap.size w w' := by
  have SM := Stays.of hM
  have SN := Stays.of hN
  have SP := Stays.of hP
  have a1 : Nt.wlen (M + P) ≤ 400 := Nat.le_trans (Nt.wlen_add hM.1 hP.1 hn hk) (by decide)
  have a2 : Nt.wlen (N + P) ≤ 400 := Nat.le_trans (Nt.wlen_add hN.1 hP.1 hm hk) (by decide)
  have aM : Nt.wlen M ≤ 80 := Nat.le_trans hM.wl hn
  have aN : Nt.wlen N ≤ 80 := Nat.le_trans hN.wl hm
  have aD : Nt.wlen (M - N) ≤ 80 := Nat.le_trans (Nt.wlen_mono (Nat.sub_le M N)) aM
  have HR := Lib.hid hrel0
  have hlong : false = true ↔ 80 < n ∨ 80 < m ∨ 80 < k := ⟨(fun h => by cases h), (fun h => by omega)⟩
  have HL := fun w => long3 A B C n c m d k e w false hlong
  clear hM hN hP hlong hrel0
  go_enter Try.func9, Try.ntmps9
  go_wp2_with fail
  refine (awake_any _).mono ?_
  rintro e w0 ⟨rfl, hb0⟩
  go_wp2_with fail
  refine (HL w0).mono ?_
  rintro e w1 ⟨rfl, rfl⟩
  clear HL
  have hb1 := below_alloc hb0 (.cells #[.slice A n c, .slice B m d, .slice C k e] 23)
  go_wp2_with fail
  refine (compare_b _ _ _ _ _ _ (M) (N) _ (-1) (by have hr := HR.out; exact Nt.cmp_lt (by omega)) (SM _ hb1) (SN _ hb1) hnc hmd (by omega) (by omega)).mono ?_
  rintro e v1 ⟨rfl, g⟩
  have hb2 := below_step hb1 g
  clear g
  go_wp2_with fail
  refine (compare_b _ _ _ _ _ _ (N) (M) _ (1) (by have hr := HR.out; exact Nt.cmp_gt (by omega)) (SN _ hb2) (SM _ hb2) hmd hnc (by omega) (by omega)).mono ?_
  rintro e v2 ⟨rfl, g⟩
  have hb3 := below_step hb2 g
  clear g
  go_wp2_with fail
  refine (norm_any _ _ _ (M) _ (SM _ hb3) hnc (by omega) (by omega)).mono ?_
  rintro e wx1 ⟨Ax1, cx1, rfl, ox1, g⟩
  have hb4 := below_step hb3 g
  clear g
  have bx1 := Below.refl wx1.heap.size wx1
  have lx1 := ox1.le
  have mx1 := ox1.small
  go_wp2_with fail
  refine (norm_any _ _ _ (N) _ (SN _ hb4) hmd (by omega) (by omega)).mono ?_
  rintro e wx2 ⟨Ax2, cx2, rfl, ox2, g⟩
  have hb5 := below_step hb4 g
  have bx1 := below_step bx1 g
  clear g
  have bx2 := Below.refl wx2.heap.size wx2
  have lx2 := ox2.le
  have mx2 := ox2.small
  go_wp2_with fail
  refine (same_b _ _ _ _ (M) (N) _ false (decide_eq_false_iff_not.2 (by have hr := HR.out; omega)) (ox1.nat.below bx1) (ox2.nat.below bx2) (by omega)).mono ?_
  rintro e v3 ⟨rfl, g⟩
  have hb6 := below_step hb5 g
  have bx1 := below_step bx1 g
  have bx2 := below_step bx2 g
  clear g
  clear bx1 ox1
  clear bx2 ox2
  go_wp2_with fail
  refine (add_any _ _ _ _ _ _ (M) (P) _ (SM _ hb6) (SP _ hb6) (by omega) (by omega)).mono ?_
  rintro e wx3 ⟨Ax3, cx3, rfl, ox3, g⟩
  have hb7 := below_step hb6 g
  clear g
  have bx3 := Below.refl wx3.heap.size wx3
  have lx3 := ox3.le
  have mx3 := ox3.small
  go_wp2_with fail
  refine (add_any _ _ _ _ _ _ (N) (P) _ (SN _ hb7) (SP _ hb7) (by omega) (by omega)).mono ?_
  rintro e wx4 ⟨Ax4, cx4, rfl, ox4, g⟩
  have hb8 := below_step hb7 g
  have bx3 := below_step bx3 g
  clear g
  have bx4 := Below.refl wx4.heap.size wx4
  have lx4 := ox4.le
  have mx4 := ox4.small
  go_wp2_with fail
  refine (compare_b _ _ _ _ _ _ (M + P) (N + P) _ (-1) (by have hr := HR.out; exact Nt.cmp_lt (by omega)) (ox3.nat.below bx3) (ox4.nat.below bx4) lx3 lx4 (by omega) (by omega)).mono ?_
  rintro e v4 ⟨rfl, g⟩
  have hb9 := below_step hb8 g
  have bx3 := below_step bx3 g
  have bx4 := below_step bx4 g
  clear g
  clear bx3 ox3
  clear bx4 ox4
  go_wp2_with fail
  refine (compare_b _ _ _ _ _ _ (N) (P) _ (1) (Nt.cmp_gt (by omega)) (SN _ hb9) (SP _ hb9) hmd hke (by omega) (by omega)).mono ?_
  rintro e v5 ⟨rfl, g⟩
  have hb10 := below_step hb9 g
  clear g
  go_wp2_with fail
  have hT := monus_any A B n c m d M N _ (SM _ hb10) (SN _ hb10) hnc hmd hc hd (by omega)
  rw [Nat.sub_eq_zero_of_le (by have hr := HR.out; omega), show Nt.wlen 0 = 0 from rfl] at hT
  refine hT.mono ?_
  rintro e wd1 ⟨Ad1, cd1, rfl, od1, g⟩
  clear hT
  have hb11 := below_step hb10 g
  clear g
  have bd1 := Below.refl wd1.heap.size wd1
  have ld1 := od1.le
  have md1 := od1.small
  go_wp2_with fail
  go_ret
  exact ⟨rfl, hb11⟩

set_option maxHeartbeats 2000000 in
theorem order_eq_le (A B C : Option Addr) (n c m d k e M N P : Nat) (w : World) (hM : IsNat w A n M) (hN : IsNat w B m N) (hP : IsNat w C k P) (hnc : n ≤ c) (hmd : m ≤ d) (hke : k ≤ e)
    (hc : c ≤ 9223372036854775807) (hd : d ≤ 9223372036854775807) (he : e ≤ 9223372036854775807) (hn : n ≤ 80) (hm : m ≤ 80) (hk : k ≤ 80) (hrel0 : M = N) (hNP : N ≤ P) :
    Calls Try.prog 9 #[.slice A n c, .slice B m d, .slice C k e] w fun e w' => e = .returned (.bool true) ∧ Below w.heap.size w w' := by
  have SM := Stays.of hM
  have SN := Stays.of hN
  have SP := Stays.of hP
  have a1 : Nt.wlen (M + P) ≤ 400 := Nat.le_trans (Nt.wlen_add hM.1 hP.1 hn hk) (by decide)
  have a2 : Nt.wlen (N + P) ≤ 400 := Nat.le_trans (Nt.wlen_add hN.1 hP.1 hm hk) (by decide)
  have aM : Nt.wlen M ≤ 80 := Nat.le_trans hM.wl hn
  have aN : Nt.wlen N ≤ 80 := Nat.le_trans hN.wl hm
  have aD : Nt.wlen (M - N) ≤ 80 := Nat.le_trans (Nt.wlen_mono (Nat.sub_le M N)) aM
  have HR := Lib.hid hrel0
  have hlong : false = true ↔ 80 < n ∨ 80 < m ∨ 80 < k := ⟨(fun h => by cases h), (fun h => by omega)⟩
  have HL := fun w => long3 A B C n c m d k e w false hlong
  clear hM hN hP hlong hrel0
  go_enter Try.func9, Try.ntmps9
  go_wp2_with fail
  refine (awake_any _).mono ?_
  rintro e w0 ⟨rfl, hb0⟩
  go_wp2_with fail
  refine (HL w0).mono ?_
  rintro e w1 ⟨rfl, rfl⟩
  clear HL
  have hb1 := below_alloc hb0 (.cells #[.slice A n c, .slice B m d, .slice C k e] 23)
  go_wp2_with fail
  refine (compare_b _ _ _ _ _ _ (M) (N) _ (0) (by have hr := HR.out; exact Nt.cmp_eq (by omega)) (SM _ hb1) (SN _ hb1) hnc hmd (by omega) (by omega)).mono ?_
  rintro e v1 ⟨rfl, g⟩
  have hb2 := below_step hb1 g
  clear g
  go_wp2_with fail
  refine (compare_b _ _ _ _ _ _ (N) (M) _ (0) (by have hr := HR.out; exact Nt.cmp_eq (by omega)) (SN _ hb2) (SM _ hb2) hmd hnc (by omega) (by omega)).mono ?_
  rintro e v2 ⟨rfl, g⟩
  have hb3 := below_step hb2 g
  clear g
  go_wp2_with fail
  refine (norm_any _ _ _ (M) _ (SM _ hb3) hnc (by omega) (by omega)).mono ?_
  rintro e wx1 ⟨Ax1, cx1, rfl, ox1, g⟩
  have hb4 := below_step hb3 g
  clear g
  have bx1 := Below.refl wx1.heap.size wx1
  have lx1 := ox1.le
  have mx1 := ox1.small
  go_wp2_with fail
  refine (norm_any _ _ _ (N) _ (SN _ hb4) hmd (by omega) (by omega)).mono ?_
  rintro e wx2 ⟨Ax2, cx2, rfl, ox2, g⟩
  have hb5 := below_step hb4 g
  have bx1 := below_step bx1 g
  clear g
  have bx2 := Below.refl wx2.heap.size wx2
  have lx2 := ox2.le
  have mx2 := ox2.small
  go_wp2_with fail
  refine (same_one _ _ _ _ _ _ (M) (N) _ (HR.out) rfl rfl (ox1.nat.below bx1) (ox2.nat.below bx2) (by omega)).mono ?_
  rintro e v3 ⟨rfl, g⟩
  have hb6 := below_step hb5 g
  have bx1 := below_step bx1 g
  have bx2 := below_step bx2 g
  clear g
  clear bx1 ox1
  clear bx2 ox2
  go_wp2_with fail
  refine (add_any _ _ _ _ _ _ (M) (P) _ (SM _ hb6) (SP _ hb6) (by omega) (by omega)).mono ?_
  rintro e wx3 ⟨Ax3, cx3, rfl, ox3, g⟩
  have hb7 := below_step hb6 g
  clear g
  have bx3 := Below.refl wx3.heap.size wx3
  have lx3 := ox3.le
  have mx3 := ox3.small
  go_wp2_with fail
  refine (add_any _ _ _ _ _ _ (N) (P) _ (SN _ hb7) (SP _ hb7) (by omega) (by omega)).mono ?_
  rintro e wx4 ⟨Ax4, cx4, rfl, ox4, g⟩
  have hb8 := below_step hb7 g
  have bx3 := below_step bx3 g
  clear g
  have bx4 := Below.refl wx4.heap.size wx4
  have lx4 := ox4.le
  have mx4 := ox4.small
  go_wp2_with fail
  refine (compare_b _ _ _ _ _ _ (M + P) (N + P) _ (0) (by have hr := HR.out; exact Nt.cmp_eq (by omega)) (ox3.nat.below bx3) (ox4.nat.below bx4) lx3 lx4 (by omega) (by omega)).mono ?_
  rintro e v4 ⟨rfl, g⟩
  have hb9 := below_step hb8 g
  have bx3 := below_step bx3 g
  have bx4 := below_step bx4 g
  clear g
  clear bx3 ox3
  clear bx4 ox4
  obtain ⟨y1, hy1, hy1'⟩ : ∃ y : Int, Nt.cmp N P = y ∧ y ≤ 0 := ⟨_, rfl, cmp_le (by omega)⟩
  have HY1 := Lib.hid hy1
  clear hy1
  go_wp2_with fail
  refine (compare_b _ _ _ _ _ _ (N) (P) _ (y1) (HY1.out) (SN _ hb9) (SP _ hb9) hmd hke (by omega) (by omega)).mono ?_
  rintro e v5 ⟨rfl, g⟩
  have hb10 := below_step hb9 g
  clear g
  obtain ⟨y2, hy2, hy2'⟩ : ∃ y : Int, Nt.cmp M P = y ∧ y ≤ 0 := ⟨_, rfl, cmp_le (by have hr := HR.out; omega)⟩
  have HY2 := Lib.hid hy2
  clear hy2
  go_wp2_with fail
  refine (compare_b _ _ _ _ _ _ (M) (P) _ (y2) (HY2.out) (SM _ hb10) (SP _ hb10) hnc hke (by omega) (by omega)).mono ?_
  rintro e v6 ⟨rfl, g⟩
  have hb11 := below_step hb10 g
  clear g
  go_wp2_with fail
  have hT := monus_any A B n c m d M N _ (SM _ hb11) (SN _ hb11) hnc hmd hc hd (by omega)
  rw [Nat.sub_eq_zero_of_le (by have hr := HR.out; omega), show Nt.wlen 0 = 0 from rfl] at hT
  refine hT.mono ?_
  rintro e wd1 ⟨Ad1, cd1, rfl, od1, g⟩
  clear hT
  have hb12 := below_step hb11 g
  clear g
  have bd1 := Below.refl wd1.heap.size wd1
  have ld1 := od1.le
  have md1 := od1.small
  go_wp2_with fail
  go_ret
  exact ⟨rfl, hb12⟩

set_option maxHeartbeats 2000000 in
theorem order_eq_gt (A B C : Option Addr) (n c m d k e M N P : Nat) (w : World) (hM : IsNat w A n M) (hN : IsNat w B m N) (hP : IsNat w C k P) (hnc : n ≤ c) (hmd : m ≤ d) (hke : k ≤ e)
    (hc : c ≤ 9223372036854775807) (hd : d ≤ 9223372036854775807) (he : e ≤ 9223372036854775807) (hn : n ≤ 80) (hm : m ≤ 80) (hk : k ≤ 80) (hrel0 : M = N) (hNP : P < N) :
    Calls Try.prog 9 #[.slice A n c, .slice B m d, .slice C k e] w fun e w' => e = .returned (.bool true) ∧ Below w.heap.size w w' := by
  have SM := Stays.of hM
  have SN := Stays.of hN
  have SP := Stays.of hP
  have a1 : Nt.wlen (M + P) ≤ 400 := Nat.le_trans (Nt.wlen_add hM.1 hP.1 hn hk) (by decide)
  have a2 : Nt.wlen (N + P) ≤ 400 := Nat.le_trans (Nt.wlen_add hN.1 hP.1 hm hk) (by decide)
  have aM : Nt.wlen M ≤ 80 := Nat.le_trans hM.wl hn
  have aN : Nt.wlen N ≤ 80 := Nat.le_trans hN.wl hm
  have aD : Nt.wlen (M - N) ≤ 80 := Nat.le_trans (Nt.wlen_mono (Nat.sub_le M N)) aM
  have HR := Lib.hid hrel0
  have hlong : false = true ↔ 80 < n ∨ 80 < m ∨ 80 < k := ⟨(fun h => by cases h), (fun h => by omega)⟩
  have HL := fun w => long3 A B C n c m d k e w false hlong
  clear hM hN hP hlong hrel0
  go_enter Try.func9, Try.ntmps9
  go_wp2_with fail
  refine (awake_any _).mono ?_
  rintro e w0 ⟨rfl, hb0⟩
  go_wp2_with fail
  refine (HL w0).mono ?_
  rintro e w1 ⟨rfl, rfl⟩
  clear HL
  have hb1 := below_alloc hb0 (.cells #[.slice A n c, .slice B m d, .slice C k e] 23)
  go_wp2_with fail
  refine (compare_b _ _ _ _ _ _ (M) (N) _ (0) (by have hr := HR.out; exact Nt.cmp_eq (by omega)) (SM _ hb1) (SN _ hb1) hnc hmd (by omega) (by omega)).mono ?_
  rintro e v1 ⟨rfl, g⟩
  have hb2 := below_step hb1 g
  clear g
  go_wp2_with fail
  refine (compare_b _ _ _ _ _ _ (N) (M) _ (0) (by have hr := HR.out; exact Nt.cmp_eq (by omega)) (SN _ hb2) (SM _ hb2) hmd hnc (by omega) (by omega)).mono ?_
  rintro e v2 ⟨rfl, g⟩
  have hb3 := below_step hb2 g
  clear g
  go_wp2_with fail
  refine (norm_any _ _ _ (M) _ (SM _ hb3) hnc (by omega) (by omega)).mono ?_
  rintro e wx1 ⟨Ax1, cx1, rfl, ox1, g⟩
  have hb4 := below_step hb3 g
  clear g
  have bx1 := Below.refl wx1.heap.size wx1
  have lx1 := ox1.le
  have mx1 := ox1.small
  go_wp2_with fail
  refine (norm_any _ _ _ (N) _ (SN _ hb4) hmd (by omega) (by omega)).mono ?_
  rintro e wx2 ⟨Ax2, cx2, rfl, ox2, g⟩
  have hb5 := below_step hb4 g
  have bx1 := below_step bx1 g
  clear g
  have bx2 := Below.refl wx2.heap.size wx2
  have lx2 := ox2.le
  have mx2 := ox2.small
  go_wp2_with fail
  refine (same_one _ _ _ _ _ _ (M) (N) _ (HR.out) rfl rfl (ox1.nat.below bx1) (ox2.nat.below bx2) (by omega)).mono ?_
  rintro e v3 ⟨rfl, g⟩
  have hb6 := below_step hb5 g
  have bx1 := below_step bx1 g
  have bx2 := below_step bx2 g
  clear g
  clear bx1 ox1
  clear bx2 ox2
  go_wp2_with fail
  refine (add_any _ _ _ _ _ _ (M) (P) _ (SM _ hb6) (SP _ hb6) (by omega) (by omega)).mono ?_
  rintro e wx3 ⟨Ax3, cx3, rfl, ox3, g⟩
  have hb7 := below_step hb6 g
  clear g
  have bx3 := Below.refl wx3.heap.size wx3
  have lx3 := ox3.le
  have mx3 := ox3.small
  go_wp2_with fail
  refine (add_any _ _ _ _ _ _ (N) (P) _ (SN _ hb7) (SP _ hb7) (by omega) (by omega)).mono ?_
  rintro e wx4 ⟨Ax4, cx4, rfl, ox4, g⟩
  have hb8 := below_step hb7 g
  have bx3 := below_step bx3 g
  clear g
  have bx4 := Below.refl wx4.heap.size wx4
  have lx4 := ox4.le
  have mx4 := ox4.small
  go_wp2_with fail
  refine (compare_b _ _ _ _ _ _ (M + P) (N + P) _ (0) (by have hr := HR.out; exact Nt.cmp_eq (by omega)) (ox3.nat.below bx3) (ox4.nat.below bx4) lx3 lx4 (by omega) (by omega)).mono ?_
  rintro e v4 ⟨rfl, g⟩
  have hb9 := below_step hb8 g
  have bx3 := below_step bx3 g
  have bx4 := below_step bx4 g
  clear g
  clear bx3 ox3
  clear bx4 ox4
  go_wp2_with fail
  refine (compare_b _ _ _ _ _ _ (N) (P) _ (1) (Nt.cmp_gt (by omega)) (SN _ hb9) (SP _ hb9) hmd hke (by omega) (by omega)).mono ?_
  rintro e v5 ⟨rfl, g⟩
  have hb10 := below_step hb9 g
  clear g
  go_wp2_with fail
  have hT := monus_any A B n c m d M N _ (SM _ hb10) (SN _ hb10) hnc hmd hc hd (by omega)
  rw [Nat.sub_eq_zero_of_le (by have hr := HR.out; omega), show Nt.wlen 0 = 0 from rfl] at hT
  refine hT.mono ?_
  rintro e wd1 ⟨Ad1, cd1, rfl, od1, g⟩
  clear hT
  have hb11 := below_step hb10 g
  clear g
  have bd1 := Below.refl wd1.heap.size wd1
  have ld1 := od1.le
  have md1 := od1.small
  go_wp2_with fail
  go_ret
  exact ⟨rfl, hb11⟩

set_option maxHeartbeats 2000000 in
theorem order_gt (A B C : Option Addr) (n c m d k e M N P : Nat) (w : World) (hM : IsNat w A n M) (hN : IsNat w B m N) (hP : IsNat w C k P) (hnc : n ≤ c) (hmd : m ≤ d) (hke : k ≤ e)
    (hc : c ≤ 9223372036854775807) (hd : d ≤ 9223372036854775807) (he : e ≤ 9223372036854775807) (hn : n ≤ 80) (hm : m ≤ 80) (hk : k ≤ 80) (hrel0 : N < M) :
    Calls Try.prog 9 #[.slice A n c, .slice B m d, .slice C k e] w fun e w' => e = .returned (.bool true) ∧ Below w.heap.size w w' := by
  have SM := Stays.of hM
  have SN := Stays.of hN
  have SP := Stays.of hP
  have a1 : Nt.wlen (M + P) ≤ 400 := Nat.le_trans (Nt.wlen_add hM.1 hP.1 hn hk) (by decide)
  have a2 : Nt.wlen (N + P) ≤ 400 := Nat.le_trans (Nt.wlen_add hN.1 hP.1 hm hk) (by decide)
  have aM : Nt.wlen M ≤ 80 := Nat.le_trans hM.wl hn
  have aN : Nt.wlen N ≤ 80 := Nat.le_trans hN.wl hm
  have aD : Nt.wlen (M - N) ≤ 80 := Nat.le_trans (Nt.wlen_mono (Nat.sub_le M N)) aM
  have HR := Lib.hid hrel0
  have hlong : false = true ↔ 80 < n ∨ 80 < m ∨ 80 < k := ⟨(fun h => by cases h), (fun h => by omega)⟩
  have HL := fun w => long3 A B C n c m d k e w false hlong
  clear hM hN hP hlong hrel0
  go_enter Try.func9, Try.ntmps9
  go_wp2_with fail
  refine (awake_any _).mono ?_
  rintro e w0 ⟨rfl, hb0⟩
  go_wp2_with fail
  refine (HL w0).mono ?_
  rintro e w1 ⟨rfl, rfl⟩
  clear HL
  have hb1 := below_alloc hb0 (.cells #[.slice A n c, .slice B m d, .slice C k e] 23)
  go_wp2_with fail
  refine (compare_b _ _ _ _ _ _ (M) (N) _ (1) (by have hr := HR.out; exact Nt.cmp_gt (by omega)) (SM _ hb1) (SN _ hb1) hnc hmd (by omega) (by omega)).mono ?_
  rintro e v1 ⟨rfl, g⟩
  have hb2 := below_step hb1 g
  clear g
  go_wp2_with fail
  refine (compare_b _ _ _ _ _ _ (N) (M) _ (-1) (by have hr := HR.out; exact Nt.cmp_lt (by omega)) (SN _ hb2) (SM _ hb2) hmd hnc (by omega) (by omega)).mono ?_
  rintro e v2 ⟨rfl, g⟩
  have hb3 := below_step hb2 g
  clear g
  go_wp2_with fail
  refine (norm_any _ _ _ (M) _ (SM _ hb3) hnc (by omega) (by omega)).mono ?_
  rintro e wx1 ⟨Ax1, cx1, rfl, ox1, g⟩
  have hb4 := below_step hb3 g
  clear g
  have bx1 := Below.refl wx1.heap.size wx1
  have lx1 := ox1.le
  have mx1 := ox1.small
  go_wp2_with fail
  refine (norm_any _ _ _ (N) _ (SN _ hb4) hmd (by omega) (by omega)).mono ?_
  rintro e wx2 ⟨Ax2, cx2, rfl, ox2, g⟩
  have hb5 := below_step hb4 g
  have bx1 := below_step bx1 g
  clear g
  have bx2 := Below.refl wx2.heap.size wx2
  have lx2 := ox2.le
  have mx2 := ox2.small
  go_wp2_with fail
  refine (same_b _ _ _ _ (M) (N) _ false (decide_eq_false_iff_not.2 (by have hr := HR.out; omega)) (ox1.nat.below bx1) (ox2.nat.below bx2) (by omega)).mono ?_
  rintro e v3 ⟨rfl, g⟩
  have hb6 := below_step hb5 g
  have bx1 := below_step bx1 g
  have bx2 := below_step bx2 g
  clear g
  clear bx1 ox1
  clear bx2 ox2
  go_wp2_with fail
  refine (add_any _ _ _ _ _ _ (M) (P) _ (SM _ hb6) (SP _ hb6) (by omega) (by omega)).mono ?_
  rintro e wx3 ⟨Ax3, cx3, rfl, ox3, g⟩
  have hb7 := below_step hb6 g
  clear g
  have bx3 := Below.refl wx3.heap.size wx3
  have lx3 := ox3.le
  have mx3 := ox3.small
  go_wp2_with fail
  refine (add_any _ _ _ _ _ _ (N) (P) _ (SN _ hb7) (SP _ hb7) (by omega) (by omega)).mono ?_
  rintro e wx4 ⟨Ax4, cx4, rfl, ox4, g⟩
  have hb8 := below_step hb7 g
  have bx3 := below_step bx3 g
  clear g
  have bx4 := Below.refl wx4.heap.size wx4
  have lx4 := ox4.le
  have mx4 := ox4.small
  go_wp2_with fail
  refine (compare_b _ _ _ _ _ _ (M + P) (N + P) _ (1) (by have hr := HR.out; exact Nt.cmp_gt (by omega)) (ox3.nat.below bx3) (ox4.nat.below bx4) lx3 lx4 (by omega) (by omega)).mono ?_
  rintro e v4 ⟨rfl, g⟩
  have hb9 := below_step hb8 g
  have bx3 := below_step bx3 g
  have bx4 := below_step bx4 g
  clear g
  clear bx3 ox3
  clear bx4 ox4
  go_wp2_with fail
  refine (monus_any A B n c m d M N _ (SM _ hb9) (SN _ hb9) hnc hmd hc hd (by omega)).mono ?_
  rintro e wd1 ⟨Ad1, cd1, rfl, od1, g⟩
  have hb10 := below_step hb9 g
  clear g
  have bd1 := Below.refl wd1.heap.size wd1
  have ld1 := od1.le
  have md1 := od1.small
  go_wp2_with fail
  refine (add_any _ _ _ _ _ _ (M - N) (N) _ (od1.nat.below bd1) (SN _ hb10) (by omega) (by omega)).mono ?_
  rintro e wx5 ⟨Ax5, cx5, rfl, ox5, g⟩
  have hb11 := below_step hb10 g
  have bd1 := below_step bd1 g
  clear g
  have bx5 := Below.refl wx5.heap.size wx5
  have lx5 := ox5.le
  have mx5 := ox5.small
  go_wp2_with fail
  refine (norm_any _ _ _ (M) _ (SM _ hb11) hnc (by omega) (by omega)).mono ?_
  rintro e wx6 ⟨Ax6, cx6, rfl, ox6, g⟩
  have hb12 := below_step hb11 g
  have bd1 := below_step bd1 g
  have bx5 := below_step bx5 g
  clear g
  have bx6 := Below.refl wx6.heap.size wx6
  have lx6 := ox6.le
  have mx6 := ox6.small
  go_wp2_with fail
  refine (same_one _ _ _ _ _ _ ((M - N) + N) (M) _ (by have hr := HR.out; omega) rfl rfl (ox5.nat.below bx5) (ox6.nat.below bx6) (by omega)).mono ?_
  rintro e v5 ⟨rfl, g⟩
  have hb13 := below_step hb12 g
  have bd1 := below_step bd1 g
  have bx5 := below_step bx5 g
  have bx6 := below_step bx6 g
  clear g
  clear bx5 ox5
  clear bx6 ox6
  go_wp2_with fail
  refine (add_any _ _ _ _ _ _ (M) (P) _ (SM _ hb13) (SP _ hb13) (by omega) (by omega)).mono ?_
  rintro e wx7 ⟨Ax7, cx7, rfl, ox7, g⟩
  have hb14 := below_step hb13 g
  have bd1 := below_step bd1 g
  clear g
  have bx7 := Below.refl wx7.heap.size wx7
  have lx7 := ox7.le
  have mx7 := ox7.small
  go_wp2_with fail
  refine (add_any _ _ _ _ _ _ (N) (P) _ (SN _ hb14) (SP _ hb14) (by omega) (by omega)).mono ?_
  rintro e wx8 ⟨Ax8, cx8, rfl, ox8, g⟩
  have hb15 := below_step hb14 g
  have bd1 := below_step bd1 g
  have bx7 := below_step bx7 g
  clear g
  have bx8 := Below.refl wx8.heap.size wx8
  have lx8 := ox8.le
  have mx8 := ox8.small
  go_wp2_with fail
  refine (monus_any _ _ _ _ _ _ (M + P) (N + P) _ (ox7.nat.below bx7) (ox8.nat.below bx8) lx7 lx8 (by omega) (by omega) (by omega)).mono ?_
  rintro e wx9 ⟨Ax9, cx9, rfl, ox9, g⟩
  have hb16 := below_step hb15 g
  have bd1 := below_step bd1 g
  have bx7 := below_step bx7 g
  have bx8 := below_step bx8 g
  clear g
  have bx9 := Below.refl wx9.heap.size wx9
  have lx9 := ox9.le
  have mx9 := ox9.small
  clear bx7 ox7
  clear bx8 ox8
  have a9 : Nt.wlen (M + P - (N + P)) ≤ 400 := Nat.le_trans (Nt.wlen_mono (Nat.sub_le _ _)) a1
  go_wp2_with fail
  refine (same_one _ _ _ _ _ _ (M + P - (N + P)) (M - N) _ (by omega) rfl rfl (ox9.nat.below bx9) (od1.nat.below bd1) (by omega)).mono ?_
  rintro e v6 ⟨rfl, g⟩
  have hb17 := below_step hb16 g
  have bd1 := below_step bd1 g
  have bx9 := below_step bx9 g
  clear g
  go_wp2_with fail
  go_ret
  exact ⟨rfl, hb17⟩

theorem order_long (A B C : Option Addr) (n c m d k e : Nat) (w : World) (h : 80 < n ∨ 80 < m ∨ 80 < k) :
    Calls Try.prog 9 #[.slice A n c, .slice B m d, .slice C k e] w fun e w' => e = .returned (.bool true) ∧ Below w.heap.size w w' := by
  have HL := fun w => long3 A B C n c m d k e w true ⟨fun _ => h, fun _ => rfl⟩
  clear h
  go_enter Try.func9, Try.ntmps9
  go_wp2_with fail
  refine (awake_any _).mono ?_
  rintro e w0 ⟨rfl, hb0⟩
  go_wp2_with fail
  refine (HL w0).mono ?_
  rintro e w1 ⟨rfl, rfl⟩
  clear HL
  go_wp2_with fail
  go_ret
  exact ⟨rfl, below_alloc hb0 _⟩

theorem order_any (A B C : Option Addr) (n c m d k e M N P : Nat) (w : World) (hM : IsNat w A n M) (hN : IsNat w B m N) (hP : IsNat w C k P) (hnc : n ≤ c) (hmd : m ≤ d) (hke : k ≤ e)
    (hc : c ≤ 9223372036854775807) (hd : d ≤ 9223372036854775807) (he : e ≤ 9223372036854775807) :
    Calls Try.prog 9 #[.slice A n c, .slice B m d, .slice C k e] w fun e w' => e = .returned (.bool true) ∧ Below w.heap.size w w' := by
  by_cases h : 80 < n ∨ 80 < m ∨ 80 < k
  · exact order_long A B C n c m d k e w h
  · rcases Nat.lt_trichotomy M N with h1 | h1 | h1
    · rcases Nat.lt_or_ge P N with h2 | h2
      · exact order_lt_gt A B C n c m d k e M N P w hM hN hP hnc hmd hke hc hd he (by omega) (by omega) (by omega) h1 h2
      · exact order_lt_le A B C n c m d k e M N P w hM hN hP hnc hmd hke hc hd he (by omega) (by omega) (by omega) h1 h2
    · rcases Nat.lt_or_ge P N with h2 | h2
      · exact order_eq_gt A B C n c m d k e M N P w hM hN hP hnc hmd hke hc hd he (by omega) (by omega) (by omega) h1 h2
      · exact order_eq_le A B C n c m d k e M N P w hM hN hP hnc hmd hke hc hd he (by omega) (by omega) (by omega) h1 h2
    · exact order_gt A B C n c m d k e M N P w hM hN hP hnc hmd hke hc hd he (by omega) (by omega) (by omega) h1
end Go.Proofs.Ytegbhenchmfngaa

