/- NatDivides: a number is its quotient times the divisor and its rest. -/
import Derived.Test.YtegbhenchmfngaaLawKit
import Derived.Test.YtegbhenchmfngaaDivAll
namespace Go.Proofs.Ytegbhenchmfngaa
open Go.RowKit

set_option maxHeartbeats 2000000 in
theorem divides_zero (A B : Option Addr) (n c m d M : Nat) (w : World) (hM : IsNat w A n M) (hN : IsNat w B m 0) (hnc : n ≤ c) (hmd : m ≤ d)
    (hc : c ≤ 9223372036854775807) (hd : d ≤ 9223372036854775807) (hn : n ≤ 80) (hm : m ≤ 80) :
    Calls Try.prog 8 #[.slice A n c, .slice B m d] w fun e w' => e = .returned (.bool true) ∧ Below w.heap.size w w' := by
  have SM := Stays.of hM
  have SN := Stays.of hN
  have hlong : false = true ↔ 80 < n ∨ 80 < m := ⟨(fun h => by cases h), (fun h => by omega)⟩
  have HL := fun w => long2 A B n c m d w false hlong
  have HB := fun w (h : IsNat w B m 0) => bits_any B m d 0 w h hmd hd (by omega)
  rw [Nt.blen_zero] at HB
  clear hM hN hlong
  go_enter Try.func8, Try.ntmps8
  go_wp2_with fail
  refine (awake_any _).mono ?_
  rintro e w0 ⟨rfl, hb0⟩
  go_wp2_with fail
  refine (HL w0).mono ?_
  rintro e w1 ⟨rfl, rfl⟩
  clear HL
  have hb1 := below_alloc hb0 (.cells #[.slice A n c, .slice B m d] 23)
  go_wp2_with fail
  refine (divmod_zero A B n c m d M _ (SM _ hb1) (SN _ hb1) hnc hmd hc hd).mono ?_
  rintro e w2 ⟨rfl, rfl⟩
  go_wp2_with fail
  refine (HB _ (SN _ hb1)).mono ?_
  rintro e w2 ⟨rfl, rfl⟩
  clear HB
  go_wp2_with fail
  go_ret
  exact ⟨rfl, hb1⟩

set_option maxHeartbeats 2000000 in
theorem divides_pos (A B : Option Addr) (n c m d M N : Nat) (w : World) (hM : IsNat w A n M) (hN : IsNat w B m N) (hnc : n ≤ c) (hmd : m ≤ d)
    (hc : c ≤ 9223372036854775807) (hd : d ≤ 9223372036854775807) (hn : n ≤ 80) (hm : m ≤ 80) (h0 : 0 < N) :
    Calls Try.prog 8 #[.slice A n c, .slice B m d] w fun e w' => e = .returned (.bool true) ∧ Below w.heap.size w w' := by
  have SM := Stays.of hM
  have SN := Stays.of hN
  obtain ⟨Q, hQ⟩ : ∃ Q, Q = M / N := ⟨_, rfl⟩
  obtain ⟨R, hR⟩ : ∃ R, R = M % N := ⟨_, rfl⟩
  have hqr : Q * N + R = M := by rw [hQ, hR, Nat.mul_comm]; exact Nat.div_add_mod M N
  have hRN : R < N := by rw [hR]; exact Nat.mod_lt _ h0
  have hd1 : (M * N + R) / N = M := by rw [Nat.mul_comm, Nat.mul_add_div h0, Nat.div_eq_of_lt hRN, Nat.add_zero]
  have hd2 : (M * N + R) % N = R := by rw [Nat.mul_comm, Nat.mul_add_mod, Nat.mod_eq_of_lt hRN]
  have hQM : Q ≤ M := by rw [hQ]; exact Nat.div_le_self _ _
  have aM : Nt.wlen M ≤ 80 := Nat.le_trans hM.wl hn
  have aN : Nt.wlen N ≤ 80 := Nat.le_trans hN.wl hm
  have aQ : Nt.wlen Q ≤ 80 := Nat.le_trans (Nt.wlen_mono hQM) aM
  have aR : Nt.wlen R ≤ 80 := Nat.le_trans (Nt.wlen_mono (Nat.le_of_lt hRN)) aN
  have a4 : Nt.wlen (M * N) ≤ 160 := Nt.wlen_mul hM.1 hN.1 (by omega)
  have a5 : Nt.wlen (Q * N) ≤ 160 := Nt.wlen_mul (Nt.lt_pw_wlen Q) (Nt.lt_pw_wlen N) (by omega)
  have a6 : Nt.wlen (Q * N + R) ≤ 80 := by rw [hqr]; exact aM
  have a7 : Nt.wlen (M * N + R) ≤ 161 := Nt.wlen_add (Nt.lt_pw_wlen (M * N)) (Nt.lt_pw_wlen R) a4 (by omega)
  have hbl : 0 < Nt.blen N := Nt.blen_pos (by omega)
  have hlong : false = true ↔ 80 < n ∨ 80 < m := ⟨(fun h => by cases h), (fun h => by omega)⟩
  have HL := fun w => long2 A B n c m d w false hlong
  have HB := fun w (h : IsNat w B m N) => bits_any B m d N w h hmd hd (by omega)
  generalize Nt.blen N = bl at *
  have HQ := Lib.hid hQ
  have HR := Lib.hid hR
  have HQR := Lib.hid hqr
  have HD1 := Lib.hid hd1
  have HD2 := Lib.hid hd2
  clear hM hN hlong hQ hR hqr hd1 hd2
  go_enter Try.func8, Try.ntmps8
  go_wp2_with fail
  refine (awake_any _).mono ?_
  rintro e w0 ⟨rfl, hb0⟩
  go_wp2_with fail
  refine (HL w0).mono ?_
  rintro e w1 ⟨rfl, rfl⟩
  clear HL
  have hb1 := below_alloc hb0 (.cells #[.slice A n c, .slice B m d] 23)
  go_wp2_with fail
  have hT := divmod_any _ _ _ _ _ _ (M) (N) _ (SM _ hb1) (SN _ hb1) hnc hmd (by omega) (by omega) (by omega) h0
  unfold DivPost at hT
  rw [← HQ.out, ← HR.out] at hT
  refine hT.mono ?_
  rintro e wq ⟨Aq, cq, Ar, cr, rfl, oq, or, apq, g⟩
  clear hT apq
  have hb2 := below_step hb1 g
  clear g
  have bq := Below.refl wq.heap.size wq
  have lq := oq.le
  have mq := oq.small
  have br := Below.refl wq.heap.size wq
  have lr := or.le
  have mr := or.small
  go_wp2_with fail
  refine (HB _ (SN _ hb2)).mono ?_
  rintro e v9 ⟨rfl, rfl⟩
  clear HB
  go_wp2_with fail
  refine (compare_b _ _ _ _ _ _ (R) (N) _ (-1) (Nt.cmp_lt (by omega)) (or.nat.below br) (SN _ hb2) lr hmd (by omega) (by omega)).mono ?_
  rintro e v1 ⟨rfl, g⟩
  have hb3 := below_step hb2 g
  have bq := below_step bq g
  have br := below_step br g
  clear g
  go_wp2_with fail
  refine (mul_any _ _ _ _ _ _ (Q) (N) _ (oq.nat.below bq) (SN _ hb3) lq hmd (by omega) (by omega) (by omega) (by omega)).mono ?_
  rintro e wx1 ⟨Ax1, cx1, rfl, ox1, g⟩
  have hb4 := below_step hb3 g
  have bq := below_step bq g
  have br := below_step br g
  clear g
  have bx1 := Below.refl wx1.heap.size wx1
  have lx1 := ox1.le
  have mx1 := ox1.small
  go_wp2_with fail
  refine (add_any _ _ _ _ _ _ ((Q) * N) (R) _ (ox1.nat.below bx1) (or.nat.below br) (by omega) (by omega)).mono ?_
  rintro e wx2 ⟨Ax2, cx2, rfl, ox2, g⟩
  have hb5 := below_step hb4 g
  have bq := below_step bq g
  have br := below_step br g
  have bx1 := below_step bx1 g
  clear g
  have bx2 := Below.refl wx2.heap.size wx2
  have lx2 := ox2.le
  have mx2 := ox2.small
  clear bx1 ox1
  go_wp2_with fail
  refine (norm_any _ _ _ (M) _ (SM _ hb5) hnc (by omega) (by omega)).mono ?_
  rintro e wx3 ⟨Ax3, cx3, rfl, ox3, g⟩
  have hb6 := below_step hb5 g
  have bq := below_step bq g
  have br := below_step br g
  have bx2 := below_step bx2 g
  clear g
  have bx3 := Below.refl wx3.heap.size wx3
  have lx3 := ox3.le
  have mx3 := ox3.small
  go_wp2_with fail
  refine (same_one _ _ _ _ _ _ (((Q) * N) + (R)) (M) _ (HQR.out) rfl rfl (ox2.nat.below bx2) (ox3.nat.below bx3) (by omega)).mono ?_
  rintro e v2 ⟨rfl, g⟩
  have hb7 := below_step hb6 g
  have bq := below_step bq g
  have br := below_step br g
  have bx2 := below_step bx2 g
  have bx3 := below_step bx3 g
  clear g
  clear bx2 ox2
  clear bx3 ox3
  go_wp2_with fail
  refine (mul_any _ _ _ _ _ _ (M) (N) _ (SM _ hb7) (SN _ hb7) hnc hmd (by omega) (by omega) (by omega) (by omega)).mono ?_
  rintro e wy1 ⟨Ay1, cy1, rfl, oy1, g⟩
  have hb8 := below_step hb7 g
  have bq := below_step bq g
  have br := below_step br g
  clear g
  have by1 := Below.refl wy1.heap.size wy1
  have ly1 := oy1.le
  have my1 := oy1.small
  go_wp2_with fail
  refine (add_any _ _ _ _ _ _ (M * N) (R) _ (oy1.nat.below by1) (or.nat.below br) (by omega) (by omega)).mono ?_
  rintro e wy2 ⟨Ay2, cy2, rfl, oy2, g⟩
  have hb9 := below_step hb8 g
  have bq := below_step bq g
  have br := below_step br g
  have by1 := below_step by1 g
  clear g
  have by2 := Below.refl wy2.heap.size wy2
  have ly2 := oy2.le
  have my2 := oy2.small
  clear by1 oy1
  go_wp2_with fail
  have hT := divmod_any _ _ _ _ _ _ ((M * N) + (R)) (N) _ (oy2.nat.below by2) (SN _ hb9) ly2 hmd (by omega) (by omega) (by omega) h0
  unfold DivPost at hT
  rw [HD1.out, HD2.out] at hT
  refine hT.mono ?_
  rintro e wp ⟨Ap, cp, As, cs, rfl, op, os, app, g⟩
  clear hT app
  have hb10 := below_step hb9 g
  have bq := below_step bq g
  have br := below_step br g
  have by2 := below_step by2 g
  clear g
  have bp := Below.refl wp.heap.size wp
  have lp := op.le
  have mp := op.small
  have bs := Below.refl wp.heap.size wp
  have ls := os.le
  have ms := os.small
  clear by2 oy2
  go_wp2_with fail
  refine (norm_any _ _ _ (M) _ (SM _ hb10) hnc (by omega) (by omega)).mono ?_
  rintro e wz1 ⟨Az1, cz1, rfl, oz1, g⟩
  have hb11 := below_step hb10 g
  have bq := below_step bq g
  have br := below_step br g
  have bp := below_step bp g
  have bs := below_step bs g
  clear g
  have bz1 := Below.refl wz1.heap.size wz1
  have lz1 := oz1.le
  have mz1 := oz1.small
  go_wp2_with fail
  refine (same_one _ _ _ _ _ _ (M) (M) _ (rfl) rfl rfl (op.nat.below bp) (oz1.nat.below bz1) (by omega)).mono ?_
  rintro e v3 ⟨rfl, g⟩
  have hb12 := below_step hb11 g
  have bq := below_step bq g
  have br := below_step br g
  have bp := below_step bp g
  have bs := below_step bs g
  have bz1 := below_step bz1 g
  clear g
  clear bp op
  clear bz1 oz1
  go_wp2_with fail
  refine (same_one _ _ _ _ _ _ (R) (R) _ (rfl) rfl rfl (os.nat.below bs) (or.nat.below br) (by omega)).mono ?_
  rintro e v4 ⟨rfl, g⟩
  have hb13 := below_step hb12 g
  have bq := below_step bq g
  have br := below_step br g
  have bs := below_step bs g
  clear g
  go_wp2_with fail
  go_ret
  exact ⟨rfl, hb13⟩

theorem divides_long (A B : Option Addr) (n c m d : Nat) (w : World) (h : 80 < n ∨ 80 < m) :
    Calls Try.prog 8 #[.slice A n c, .slice B m d] w fun e w' => e = .returned (.bool true) ∧ Below w.heap.size w w' := by
  have HL := fun w => long2 A B n c m d w true ⟨fun _ => h, fun _ => rfl⟩
  clear h
  go_enter Try.func8, Try.ntmps8
  go_wp2_with fail
  refine (awake_any _).mono ?_
  rintro e w0 ⟨rfl, hb0⟩
  go_wp2_with fail
  refine (HL w0).mono ?_
  rintro e w1 ⟨rfl, rfl⟩
  clear HL
  go_wp2_with fail
  go_ret
  exact ⟨rfl, below_alloc hb0 _⟩

theorem divides_any (A B : Option Addr) (n c m d M N : Nat) (w : World) (hM : IsNat w A n M) (hN : IsNat w B m N) (hnc : n ≤ c) (hmd : m ≤ d)
    (hc : c ≤ 9223372036854775807) (hd : d ≤ 9223372036854775807) :
    Calls Try.prog 8 #[.slice A n c, .slice B m d] w fun e w' => e = .returned (.bool true) ∧ Below w.heap.size w w' := by
  by_cases h : 80 < n ∨ 80 < m
  · exact divides_long A B n c m d w h
  · rcases Nat.eq_zero_or_pos N with h0 | h0
    · subst h0
      exact divides_zero A B n c m d M w hM hN hnc hmd hc hd (by omega) (by omega)
    · exact divides_pos A B n c m d M N w hM hN hnc hmd hc hd (by omega) (by omega) h0
end Go.Proofs.Ytegbhenchmfngaa
