/- NatBack: digits, shifts and 64 bits go there and back. -/
import Derived.Test.YtegbhenchmfngaaBackKit
namespace Go.Proofs.Ytegbhenchmfngaa
open Go.RowKit

set_option maxHeartbeats 4000000 in
theorem back_yes_zero (A : Option Addr) (n c M b : Nat) (s : ByteArray) (w : World) (hM : IsNat w A n M) (hnc : n ≤ c) (hc : c ≤ 9223372036854775807) (hn : n ≤ 80) (hsz : s.size ≤ 800) (hb : b ≤ 4000) (hs : DecS s) (hM0 : M = 0) :
    Calls Try.prog 10 #[.slice A n c, .string s, .int .u16 b] w fun e w' => e = .returned (.bool true) ∧ Below w.heap.size w w' := by
  have SM := Stays.of hM
  have hMp := hM.1
  have aM : Nt.wlen M ≤ 80 := Nat.le_trans hM.wl hn
  have aU : Nt.wlen (M * 2 ^ b) ≤ 206 := by have := Nt.wlen_shift (b := b) hMp; omega
  have aT : Nt.wlen (2 ^ b) ≤ 127 := by have := Nt.wlen_shift (M := 1) (n := 1) (b := b) (by decide); rw [Nat.one_mul] at this; omega
  have hback : M * 2 ^ b / 2 ^ b = M := Nat.mul_div_cancel _ (Nat.two_pow_pos b)
  have hlong : false = true ↔ 80 < n := ⟨(fun h => by cases h), (fun h => by omega)⟩
  have HL := fun w => long1 A n c w false hlong
  have hszz : ¬ (800 : Int) < (s.size : Int) := by omega
  have hbz : ¬ (4000 : Int) < (b : Int) := by omega
  have HMP := Lib.hid hMp
  have HBK := Lib.hid hback
  obtain ⟨T, hT⟩ : ∃ T, T = Nt.numL s.data.toList := ⟨_, rfl⟩
  have aN : Nt.wlen T ≤ 800 := dec_wlen (dig_list s hs.2.1) hT (by rw [len_data]; exact hsz)
  have HT := Lib.hid hT
  have HP := fun w => parse_yes s w (by omega) hs T hT
  have HDP := fun A n c w => dec_parse hs A n c T hT w
  clear hT
  have HB1 : ∀ A n c w (h : IsNat w A n M) (h1 : n ≤ c) (h2 : c ≤ 9223372036854775807) (h3 : n ≤ 1099511627776), Calls Try.prog 31 #[.slice A n c] w fun e w' => e = .returned (.int .i64 0) ∧ w = w' :=
    fun A n c w h h1 h2 h3 => (bits_any A n c M w h h1 h2 h3).mono fun e w' h => ⟨by rw [h.1, hM0]; rfl, h.2⟩
  have HSM := fun A n c w (h : IsNat w A n M) h1 h2 => small_yes A n c M w h h1 h2 (by omega)
  have hM64 : M < 18446744073709551616 := by omega
  clear hM0
  clear hM hMp hlong hback
  go_enter Try.func10, Try.ntmps10
  go_wp2_with fail
  refine (awake_any _).mono ?_
  rintro e w0 ⟨rfl, hb0⟩
  go_wp2_with fail
  refine (HL w0).mono ?_
  rintro e w1 ⟨rfl, rfl⟩
  clear HL
  have hb1 := below_alloc hb0 (.cells #[.slice A n c] 23)
  go_wp2_with fail
  refine (decimal_any A n c M _ (SM _ hb1) hnc hc (by omega)).mono ?_
  rintro e wd ⟨L, hL, rfl, g⟩
  have hb2 := below_step hb1 g
  clear g
  go_wp2_with fail
  refine (parse_dec hL HMP.out (by omega) _).mono ?_
  rintro e wx1 ⟨Ax1, cx1, rfl, qx1, lx1, mx1, g⟩
  have ox1 := Stays.of qx1
  have hb3 := below_step hb2 g
  clear g
  have bx1 := Below.refl wx1.heap.size wx1
  clear hL
  go_wp2_with fail
  refine (norm_any _ _ _ (M) _ (SM _ hb3) hnc (by omega) (by omega)).mono ?_
  rintro e wx2 ⟨Ax2, cx2, rfl, ox2, g⟩
  have hb4 := below_step hb3 g
  have bx1 := below_step bx1 g
  clear g
  have bx2 := Below.refl wx2.heap.size wx2
  have lx2 := ox2.le
  have mx2 := ox2.small
  go_wp2_with fail
  refine (same_one _ _ _ _ _ _ M M _ rfl rfl rfl (ox1 _ bx1) (ox2.nat.below bx2) (by omega)).mono ?_
  rintro e v1 ⟨rfl, g⟩
  have hb5 := below_step hb4 g
  have bx1 := below_step bx1 g
  have bx2 := below_step bx2 g
  clear g
  clear bx2 ox2
  clear bx1 ox1 qx1
  go_wp2_with fail
  refine (HP _).mono ?_
  rintro e wy1 ⟨Ay1, cy1, rfl, qy1, ly1, my1, g⟩
  have oy1 := Stays.of qy1
  have hb6 := below_step hb5 g
  clear g
  have by1 := Below.refl wy1.heap.size wy1
  go_wp2_with fail
  refine (HDP _ _ _ _ (oy1 _ by1) ly1 my1 (by omega)).mono ?_
  rintro e wy2 ⟨rfl, g⟩
  have hb7 := below_step hb6 g
  have by1 := below_step by1 g
  clear g
  clear by1 oy1 qy1
  clear HP
  go_wp2_with fail
  refine (shift_up A n c M b _ (SM _ hb7) hnc hc (by omega) (by omega)).mono ?_
  rintro e wu ⟨Au, cu, rfl, ou, g⟩
  have hb8 := below_step hb7 g
  clear g
  have bu := Below.refl wu.heap.size wu
  have lu := ou.le
  have mu := ou.small
  go_wp2_with fail
  have hT9 := shift_neg _ _ _ (M * 2 ^ b) b _ (ou.nat.below bu) lu (by omega) (by omega) (by omega)
  rw [HBK.out] at hT9
  refine hT9.mono ?_
  rintro e wd2 ⟨Ad2, cd2, rfl, od2, g⟩
  clear hT9
  have hb9 := below_step hb8 g
  have bu := below_step bu g
  clear g
  have bd2 := Below.refl wd2.heap.size wd2
  have ld2 := od2.le
  have md2 := od2.small
  go_wp2_with fail
  have I1 := nat_one wd2 1 (by decide)
  have hb10 := below_alloc hb9 (.cells #[.int .u32 1] 44)
  have bu := below_alloc bu (.cells #[.int .u32 1] 44)
  have bd2 := below_alloc bd2 (.cells #[.int .u32 1] 44)
  have hT8 := shift_up _ _ 1 1 b _ I1 (Nat.le_refl _) (by omega) (by omega) (by omega)
  rw [Nat.one_mul] at hT8
  refine hT8.mono ?_
  rintro e wt ⟨At, ct, rfl, ot, g⟩
  clear hT8 I1
  have hb11 := below_step hb10 g
  have bu := below_step bu g
  have bd2 := below_step bd2 g
  clear g
  have bt := Below.refl wt.heap.size wt
  have lt := ot.le
  have mt := ot.small
  go_wp2_with fail
  refine (norm_any _ _ _ (M) _ (SM _ hb11) hnc (by omega) (by omega)).mono ?_
  rintro e wz1 ⟨Az1, cz1, rfl, oz1, g⟩
  have hb12 := below_step hb11 g
  have bu := below_step bu g
  have bd2 := below_step bd2 g
  have bt := below_step bt g
  clear g
  have bz1 := Below.refl wz1.heap.size wz1
  have lz1 := oz1.le
  have mz1 := oz1.small
  go_wp2_with fail
  refine (same_one _ _ _ _ _ _ (M) (M) _ (rfl) rfl rfl (od2.nat.below bd2) (oz1.nat.below bz1) (by omega)).mono ?_
  rintro e v2 ⟨rfl, g⟩
  have hb13 := below_step hb12 g
  have bu := below_step bu g
  have bd2 := below_step bd2 g
  have bt := below_step bt g
  have bz1 := below_step bz1 g
  clear g
  clear bd2 od2
  clear bz1 oz1
  go_wp2_with fail
  refine (mul_any _ _ _ _ _ _ M (2 ^ b) _ (SM _ hb13) (ot.nat.below bt) hnc lt (by omega) (by omega) (by omega) (by omega)).mono ?_
  rintro e wz2 ⟨Az2, cz2, rfl, oz2, g⟩
  have hb14 := below_step hb13 g
  have bu := below_step bu g
  have bt := below_step bt g
  clear g
  have bz2 := Below.refl wz2.heap.size wz2
  have lz2 := oz2.le
  have mz2 := oz2.small
  clear bt ot
  go_wp2_with fail
  refine (same_one _ _ _ _ _ _ (M * 2 ^ b) (M * 2 ^ b) _ (rfl) rfl rfl (ou.nat.below bu) (oz2.nat.below bz2) (by omega)).mono ?_
  rintro e v3 ⟨rfl, g⟩
  have hb15 := below_step hb14 g
  have bu := below_step bu g
  have bz2 := below_step bz2 g
  clear g
  clear bz2 oz2
  go_wp2_with fail
  refine (HB1 _ _ _ _ (SM _ hb15) hnc hc (by omega)).mono ?_
  rintro e v1 ⟨rfl, rfl⟩
  go_wp2_with fail
  refine (HSM _ _ _ _ (SM _ hb15) hnc hc).mono ?_
  rintro e v4 ⟨rfl, rfl⟩
  go_wp2_with fail
  refine (HB1 _ _ _ _ (SM _ hb15) hnc hc (by omega)).mono ?_
  rintro e v5 ⟨rfl, rfl⟩
  go_wp2_with fail
  refine (of_any M _ hM64).mono ?_
  rintro e wk1 ⟨Ak1, ck1, rfl, ok1, g⟩
  have hb16 := below_step hb15 g
  have bu := below_step bu g
  clear g
  have bk1 := Below.refl wk1.heap.size wk1
  have lk1 := ok1.le
  have mk1 := ok1.small
  go_wp2_with fail
  refine (norm_any _ _ _ (M) _ (SM _ hb16) hnc (by omega) (by omega)).mono ?_
  rintro e wk2 ⟨Ak2, ck2, rfl, ok2, g⟩
  have hb17 := below_step hb16 g
  have bu := below_step bu g
  have bk1 := below_step bk1 g
  clear g
  have bk2 := Below.refl wk2.heap.size wk2
  have lk2 := ok2.le
  have mk2 := ok2.small
  go_wp2_with fail
  refine (same_one _ _ _ _ _ _ (M) (M) _ (rfl) rfl rfl (ok1.nat.below bk1) (ok2.nat.below bk2) (by omega)).mono ?_
  rintro e v4 ⟨rfl, g⟩
  have hb18 := below_step hb17 g
  have bu := below_step bu g
  have bk1 := below_step bk1 g
  have bk2 := below_step bk2 g
  clear g
  go_wp2_with fail
  go_ret
  exact ⟨rfl, hb18⟩

set_option maxHeartbeats 4000000 in
theorem back_yes_small (A : Option Addr) (n c M b : Nat) (s : ByteArray) (w : World) (hM : IsNat w A n M) (hnc : n ≤ c) (hc : c ≤ 9223372036854775807) (hn : n ≤ 80) (hsz : s.size ≤ 800) (hb : b ≤ 4000) (hs : DecS s) (hM0 : M ≠ 0) (hM64 : M < 18446744073709551616) :
    Calls Try.prog 10 #[.slice A n c, .string s, .int .u16 b] w fun e w' => e = .returned (.bool true) ∧ Below w.heap.size w w' := by
  have SM := Stays.of hM
  have hMp := hM.1
  have aM : Nt.wlen M ≤ 80 := Nat.le_trans hM.wl hn
  have aU : Nt.wlen (M * 2 ^ b) ≤ 206 := by have := Nt.wlen_shift (b := b) hMp; omega
  have aT : Nt.wlen (2 ^ b) ≤ 127 := by have := Nt.wlen_shift (M := 1) (n := 1) (b := b) (by decide); rw [Nat.one_mul] at this; omega
  have hback : M * 2 ^ b / 2 ^ b = M := Nat.mul_div_cancel _ (Nat.two_pow_pos b)
  have hlong : false = true ↔ 80 < n := ⟨(fun h => by cases h), (fun h => by omega)⟩
  have HL := fun w => long1 A n c w false hlong
  have hszz : ¬ (800 : Int) < (s.size : Int) := by omega
  have hbz : ¬ (4000 : Int) < (b : Int) := by omega
  have HMP := Lib.hid hMp
  have HBK := Lib.hid hback
  obtain ⟨T, hT⟩ : ∃ T, T = Nt.numL s.data.toList := ⟨_, rfl⟩
  have aN : Nt.wlen T ≤ 800 := dec_wlen (dig_list s hs.2.1) hT (by rw [len_data]; exact hsz)
  have HT := Lib.hid hT
  have HP := fun w => parse_yes s w (by omega) hs T hT
  have HDP := fun A n c w => dec_parse hs A n c T hT w
  clear hT
  have HB1 := fun A n c w (h : IsNat w A n M) h1 h2 h3 => bits_any A n c M w h h1 h2 h3
  have HB2 := fun A n c w (h : IsNat w A n (M * 2 ^ b)) h1 h2 h3 => bits_any A n c (M * 2 ^ b) w h h1 h2 h3
  rw [Nt.blen_shift hM0] at HB2
  have hbl : Nt.blen M ≤ 64 := Nt.blen_le_of (by simpa using hM64)
  have hbp := Nt.blen_pos hM0
  generalize Nt.blen M = bl at *
  have HSM := fun A n c w (h : IsNat w A n M) h1 h2 => small_yes A n c M w h h1 h2 hM64
  clear hM hMp hlong hback
  go_enter Try.func10, Try.ntmps10
  go_wp2_with fail
  refine (awake_any _).mono ?_
  rintro e w0 ⟨rfl, hb0⟩
  go_wp2_with fail
  refine (HL w0).mono ?_
  rintro e w1 ⟨rfl, rfl⟩
  clear HL
  have hb1 := below_alloc hb0 (.cells #[.slice A n c] 23)
  go_wp2_with fail
  refine (decimal_any A n c M _ (SM _ hb1) hnc hc (by omega)).mono ?_
  rintro e wd ⟨L, hL, rfl, g⟩
  have hb2 := below_step hb1 g
  clear g
  go_wp2_with fail
  refine (parse_dec hL HMP.out (by omega) _).mono ?_
  rintro e wx1 ⟨Ax1, cx1, rfl, qx1, lx1, mx1, g⟩
  have ox1 := Stays.of qx1
  have hb3 := below_step hb2 g
  clear g
  have bx1 := Below.refl wx1.heap.size wx1
  clear hL
  go_wp2_with fail
  refine (norm_any _ _ _ (M) _ (SM _ hb3) hnc (by omega) (by omega)).mono ?_
  rintro e wx2 ⟨Ax2, cx2, rfl, ox2, g⟩
  have hb4 := below_step hb3 g
  have bx1 := below_step bx1 g
  clear g
  have bx2 := Below.refl wx2.heap.size wx2
  have lx2 := ox2.le
  have mx2 := ox2.small
  go_wp2_with fail
  refine (same_one _ _ _ _ _ _ M M _ rfl rfl rfl (ox1 _ bx1) (ox2.nat.below bx2) (by omega)).mono ?_
  rintro e v1 ⟨rfl, g⟩
  have hb5 := below_step hb4 g
  have bx1 := below_step bx1 g
  have bx2 := below_step bx2 g
  clear g
  clear bx2 ox2
  clear bx1 ox1 qx1
  go_wp2_with fail
  refine (HP _).mono ?_
  rintro e wy1 ⟨Ay1, cy1, rfl, qy1, ly1, my1, g⟩
  have oy1 := Stays.of qy1
  have hb6 := below_step hb5 g
  clear g
  have by1 := Below.refl wy1.heap.size wy1
  go_wp2_with fail
  refine (HDP _ _ _ _ (oy1 _ by1) ly1 my1 (by omega)).mono ?_
  rintro e wy2 ⟨rfl, g⟩
  have hb7 := below_step hb6 g
  have by1 := below_step by1 g
  clear g
  clear by1 oy1 qy1
  clear HP
  go_wp2_with fail
  refine (shift_up A n c M b _ (SM _ hb7) hnc hc (by omega) (by omega)).mono ?_
  rintro e wu ⟨Au, cu, rfl, ou, g⟩
  have hb8 := below_step hb7 g
  clear g
  have bu := Below.refl wu.heap.size wu
  have lu := ou.le
  have mu := ou.small
  go_wp2_with fail
  have hT9 := shift_neg _ _ _ (M * 2 ^ b) b _ (ou.nat.below bu) lu (by omega) (by omega) (by omega)
  rw [HBK.out] at hT9
  refine hT9.mono ?_
  rintro e wd2 ⟨Ad2, cd2, rfl, od2, g⟩
  clear hT9
  have hb9 := below_step hb8 g
  have bu := below_step bu g
  clear g
  have bd2 := Below.refl wd2.heap.size wd2
  have ld2 := od2.le
  have md2 := od2.small
  go_wp2_with fail
  have I1 := nat_one wd2 1 (by decide)
  have hb10 := below_alloc hb9 (.cells #[.int .u32 1] 44)
  have bu := below_alloc bu (.cells #[.int .u32 1] 44)
  have bd2 := below_alloc bd2 (.cells #[.int .u32 1] 44)
  have hT8 := shift_up _ _ 1 1 b _ I1 (Nat.le_refl _) (by omega) (by omega) (by omega)
  rw [Nat.one_mul] at hT8
  refine hT8.mono ?_
  rintro e wt ⟨At, ct, rfl, ot, g⟩
  clear hT8 I1
  have hb11 := below_step hb10 g
  have bu := below_step bu g
  have bd2 := below_step bd2 g
  clear g
  have bt := Below.refl wt.heap.size wt
  have lt := ot.le
  have mt := ot.small
  go_wp2_with fail
  refine (norm_any _ _ _ (M) _ (SM _ hb11) hnc (by omega) (by omega)).mono ?_
  rintro e wz1 ⟨Az1, cz1, rfl, oz1, g⟩
  have hb12 := below_step hb11 g
  have bu := below_step bu g
  have bd2 := below_step bd2 g
  have bt := below_step bt g
  clear g
  have bz1 := Below.refl wz1.heap.size wz1
  have lz1 := oz1.le
  have mz1 := oz1.small
  go_wp2_with fail
  refine (same_one _ _ _ _ _ _ (M) (M) _ (rfl) rfl rfl (od2.nat.below bd2) (oz1.nat.below bz1) (by omega)).mono ?_
  rintro e v2 ⟨rfl, g⟩
  have hb13 := below_step hb12 g
  have bu := below_step bu g
  have bd2 := below_step bd2 g
  have bt := below_step bt g
  have bz1 := below_step bz1 g
  clear g
  clear bd2 od2
  clear bz1 oz1
  go_wp2_with fail
  refine (mul_any _ _ _ _ _ _ M (2 ^ b) _ (SM _ hb13) (ot.nat.below bt) hnc lt (by omega) (by omega) (by omega) (by omega)).mono ?_
  rintro e wz2 ⟨Az2, cz2, rfl, oz2, g⟩
  have hb14 := below_step hb13 g
  have bu := below_step bu g
  have bt := below_step bt g
  clear g
  have bz2 := Below.refl wz2.heap.size wz2
  have lz2 := oz2.le
  have mz2 := oz2.small
  clear bt ot
  go_wp2_with fail
  refine (same_one _ _ _ _ _ _ (M * 2 ^ b) (M * 2 ^ b) _ (rfl) rfl rfl (ou.nat.below bu) (oz2.nat.below bz2) (by omega)).mono ?_
  rintro e v3 ⟨rfl, g⟩
  have hb15 := below_step hb14 g
  have bu := below_step bu g
  have bz2 := below_step bz2 g
  clear g
  clear bz2 oz2
  go_wp2_with fail
  refine (HB1 _ _ _ _ (SM _ hb15) hnc hc (by omega)).mono ?_
  rintro e v1 ⟨rfl, rfl⟩
  go_wp2_with fail
  refine (HB2 _ _ _ _ (ou.nat.below bu) lu (by omega) (by omega)).mono ?_
  rintro e v2 ⟨rfl, rfl⟩
  go_wp2_with fail
  refine (HB1 _ _ _ _ (SM _ hb15) hnc hc (by omega)).mono ?_
  rintro e v3 ⟨rfl, rfl⟩
  go_wp2_with fail
  refine (HSM _ _ _ _ (SM _ hb15) hnc hc).mono ?_
  rintro e v4 ⟨rfl, rfl⟩
  go_wp2_with fail
  refine (HB1 _ _ _ _ (SM _ hb15) hnc hc (by omega)).mono ?_
  rintro e v5 ⟨rfl, rfl⟩
  go_wp2_with fail
  refine (of_any M _ hM64).mono ?_
  rintro e wk1 ⟨Ak1, ck1, rfl, ok1, g⟩
  have hb16 := below_step hb15 g
  have bu := below_step bu g
  clear g
  have bk1 := Below.refl wk1.heap.size wk1
  have lk1 := ok1.le
  have mk1 := ok1.small
  go_wp2_with fail
  refine (norm_any _ _ _ (M) _ (SM _ hb16) hnc (by omega) (by omega)).mono ?_
  rintro e wk2 ⟨Ak2, ck2, rfl, ok2, g⟩
  have hb17 := below_step hb16 g
  have bu := below_step bu g
  have bk1 := below_step bk1 g
  clear g
  have bk2 := Below.refl wk2.heap.size wk2
  have lk2 := ok2.le
  have mk2 := ok2.small
  go_wp2_with fail
  refine (same_one _ _ _ _ _ _ (M) (M) _ (rfl) rfl rfl (ok1.nat.below bk1) (ok2.nat.below bk2) (by omega)).mono ?_
  rintro e v4 ⟨rfl, g⟩
  have hb18 := below_step hb17 g
  have bu := below_step bu g
  have bk1 := below_step bk1 g
  have bk2 := below_step bk2 g
  clear g
  go_wp2_with fail
  go_ret
  exact ⟨rfl, hb18⟩

set_option maxHeartbeats 4000000 in
theorem back_yes_big (A : Option Addr) (n c M b : Nat) (s : ByteArray) (w : World) (hM : IsNat w A n M) (hnc : n ≤ c) (hc : c ≤ 9223372036854775807) (hn : n ≤ 80) (hsz : s.size ≤ 800) (hb : b ≤ 4000) (hs : DecS s) (hM64 : 18446744073709551616 ≤ M) :
    Calls Try.prog 10 #[.slice A n c, .string s, .int .u16 b] w fun e w' => e = .returned (.bool true) ∧ Below w.heap.size w w' := by
  have SM := Stays.of hM
  have hMp := hM.1
  have aM : Nt.wlen M ≤ 80 := Nat.le_trans hM.wl hn
  have aU : Nt.wlen (M * 2 ^ b) ≤ 206 := by have := Nt.wlen_shift (b := b) hMp; omega
  have aT : Nt.wlen (2 ^ b) ≤ 127 := by have := Nt.wlen_shift (M := 1) (n := 1) (b := b) (by decide); rw [Nat.one_mul] at this; omega
  have hback : M * 2 ^ b / 2 ^ b = M := Nat.mul_div_cancel _ (Nat.two_pow_pos b)
  have hlong : false = true ↔ 80 < n := ⟨(fun h => by cases h), (fun h => by omega)⟩
  have HL := fun w => long1 A n c w false hlong
  have hszz : ¬ (800 : Int) < (s.size : Int) := by omega
  have hbz : ¬ (4000 : Int) < (b : Int) := by omega
  have HMP := Lib.hid hMp
  have HBK := Lib.hid hback
  obtain ⟨T, hT⟩ : ∃ T, T = Nt.numL s.data.toList := ⟨_, rfl⟩
  have aN : Nt.wlen T ≤ 800 := dec_wlen (dig_list s hs.2.1) hT (by rw [len_data]; exact hsz)
  have HT := Lib.hid hT
  have HP := fun w => parse_yes s w (by omega) hs T hT
  have HDP := fun A n c w => dec_parse hs A n c T hT w
  clear hT
  have hM0 : M ≠ 0 := by omega
  have HB1 := fun A n c w (h : IsNat w A n M) h1 h2 h3 => bits_any A n c M w h h1 h2 h3
  have HB2 := fun A n c w (h : IsNat w A n (M * 2 ^ b)) h1 h2 h3 => bits_any A n c (M * 2 ^ b) w h h1 h2 h3
  rw [Nt.blen_shift hM0] at HB2
  have hbl : 64 < Nt.blen M := by
    rcases Nat.lt_or_ge 64 (Nt.blen M) with h | h
    · exact h
    · have h1 := Nt.lt_blen M
      have h2 : 2 ^ Nt.blen M ≤ 2 ^ 64 := Nat.pow_le_pow_right (by decide) h
      omega
  have hblm : Nt.blen M ≤ 32 * n := Nt.blen_le_of (by rw [← Nt.pw_two]; exact hMp)
  generalize Nt.blen M = bl at *
  have hblz : ¬ (bl : Int) ≤ 64 := by omega
  have HSM := fun A n c w (h : IsNat w A n M) h1 h2 => small_big A n c M w h h1 h2 hM64
  clear hM64
  clear hM hMp hlong hback
  go_enter Try.func10, Try.ntmps10
  go_wp2_with fail
  refine (awake_any _).mono ?_
  rintro e w0 ⟨rfl, hb0⟩
  go_wp2_with fail
  refine (HL w0).mono ?_
  rintro e w1 ⟨rfl, rfl⟩
  clear HL
  have hb1 := below_alloc hb0 (.cells #[.slice A n c] 23)
  go_wp2_with fail
  refine (decimal_any A n c M _ (SM _ hb1) hnc hc (by omega)).mono ?_
  rintro e wd ⟨L, hL, rfl, g⟩
  have hb2 := below_step hb1 g
  clear g
  go_wp2_with fail
  refine (parse_dec hL HMP.out (by omega) _).mono ?_
  rintro e wx1 ⟨Ax1, cx1, rfl, qx1, lx1, mx1, g⟩
  have ox1 := Stays.of qx1
  have hb3 := below_step hb2 g
  clear g
  have bx1 := Below.refl wx1.heap.size wx1
  clear hL
  go_wp2_with fail
  refine (norm_any _ _ _ (M) _ (SM _ hb3) hnc (by omega) (by omega)).mono ?_
  rintro e wx2 ⟨Ax2, cx2, rfl, ox2, g⟩
  have hb4 := below_step hb3 g
  have bx1 := below_step bx1 g
  clear g
  have bx2 := Below.refl wx2.heap.size wx2
  have lx2 := ox2.le
  have mx2 := ox2.small
  go_wp2_with fail
  refine (same_one _ _ _ _ _ _ M M _ rfl rfl rfl (ox1 _ bx1) (ox2.nat.below bx2) (by omega)).mono ?_
  rintro e v1 ⟨rfl, g⟩
  have hb5 := below_step hb4 g
  have bx1 := below_step bx1 g
  have bx2 := below_step bx2 g
  clear g
  clear bx2 ox2
  clear bx1 ox1 qx1
  go_wp2_with fail
  refine (HP _).mono ?_
  rintro e wy1 ⟨Ay1, cy1, rfl, qy1, ly1, my1, g⟩
  have oy1 := Stays.of qy1
  have hb6 := below_step hb5 g
  clear g
  have by1 := Below.refl wy1.heap.size wy1
  go_wp2_with fail
  refine (HDP _ _ _ _ (oy1 _ by1) ly1 my1 (by omega)).mono ?_
  rintro e wy2 ⟨rfl, g⟩
  have hb7 := below_step hb6 g
  have by1 := below_step by1 g
  clear g
  clear by1 oy1 qy1
  clear HP
  go_wp2_with fail
  refine (shift_up A n c M b _ (SM _ hb7) hnc hc (by omega) (by omega)).mono ?_
  rintro e wu ⟨Au, cu, rfl, ou, g⟩
  have hb8 := below_step hb7 g
  clear g
  have bu := Below.refl wu.heap.size wu
  have lu := ou.le
  have mu := ou.small
  go_wp2_with fail
  have hT9 := shift_neg _ _ _ (M * 2 ^ b) b _ (ou.nat.below bu) lu (by omega) (by omega) (by omega)
  rw [HBK.out] at hT9
  refine hT9.mono ?_
  rintro e wd2 ⟨Ad2, cd2, rfl, od2, g⟩
  clear hT9
  have hb9 := below_step hb8 g
  have bu := below_step bu g
  clear g
  have bd2 := Below.refl wd2.heap.size wd2
  have ld2 := od2.le
  have md2 := od2.small
  go_wp2_with fail
  have I1 := nat_one wd2 1 (by decide)
  have hb10 := below_alloc hb9 (.cells #[.int .u32 1] 44)
  have bu := below_alloc bu (.cells #[.int .u32 1] 44)
  have bd2 := below_alloc bd2 (.cells #[.int .u32 1] 44)
  have hT8 := shift_up _ _ 1 1 b _ I1 (Nat.le_refl _) (by omega) (by omega) (by omega)
  rw [Nat.one_mul] at hT8
  refine hT8.mono ?_
  rintro e wt ⟨At, ct, rfl, ot, g⟩
  clear hT8 I1
  have hb11 := below_step hb10 g
  have bu := below_step bu g
  have bd2 := below_step bd2 g
  clear g
  have bt := Below.refl wt.heap.size wt
  have lt := ot.le
  have mt := ot.small
  go_wp2_with fail
  refine (norm_any _ _ _ (M) _ (SM _ hb11) hnc (by omega) (by omega)).mono ?_
  rintro e wz1 ⟨Az1, cz1, rfl, oz1, g⟩
  have hb12 := below_step hb11 g
  have bu := below_step bu g
  have bd2 := below_step bd2 g
  have bt := below_step bt g
  clear g
  have bz1 := Below.refl wz1.heap.size wz1
  have lz1 := oz1.le
  have mz1 := oz1.small
  go_wp2_with fail
  refine (same_one _ _ _ _ _ _ (M) (M) _ (rfl) rfl rfl (od2.nat.below bd2) (oz1.nat.below bz1) (by omega)).mono ?_
  rintro e v2 ⟨rfl, g⟩
  have hb13 := below_step hb12 g
  have bu := below_step bu g
  have bd2 := below_step bd2 g
  have bt := below_step bt g
  have bz1 := below_step bz1 g
  clear g
  clear bd2 od2
  clear bz1 oz1
  go_wp2_with fail
  refine (mul_any _ _ _ _ _ _ M (2 ^ b) _ (SM _ hb13) (ot.nat.below bt) hnc lt (by omega) (by omega) (by omega) (by omega)).mono ?_
  rintro e wz2 ⟨Az2, cz2, rfl, oz2, g⟩
  have hb14 := below_step hb13 g
  have bu := below_step bu g
  have bt := below_step bt g
  clear g
  have bz2 := Below.refl wz2.heap.size wz2
  have lz2 := oz2.le
  have mz2 := oz2.small
  clear bt ot
  go_wp2_with fail
  refine (same_one _ _ _ _ _ _ (M * 2 ^ b) (M * 2 ^ b) _ (rfl) rfl rfl (ou.nat.below bu) (oz2.nat.below bz2) (by omega)).mono ?_
  rintro e v3 ⟨rfl, g⟩
  have hb15 := below_step hb14 g
  have bu := below_step bu g
  have bz2 := below_step bz2 g
  clear g
  clear bz2 oz2
  go_wp2_with fail
  refine (HB1 _ _ _ _ (SM _ hb15) hnc hc (by omega)).mono ?_
  rintro e v1 ⟨rfl, rfl⟩
  go_wp2_with fail
  refine (HB2 _ _ _ _ (ou.nat.below bu) lu (by omega) (by omega)).mono ?_
  rintro e v2 ⟨rfl, rfl⟩
  go_wp2_with fail
  refine (HB1 _ _ _ _ (SM _ hb15) hnc hc (by omega)).mono ?_
  rintro e v3 ⟨rfl, rfl⟩
  go_wp2_with fail
  refine (HSM _ _ _ _ (SM _ hb15) hnc hc).mono ?_
  rintro e v4 ⟨rfl, rfl⟩
  go_wp2_with fail
  refine (HB1 _ _ _ _ (SM _ hb15) hnc hc (by omega)).mono ?_
  rintro e v5 ⟨rfl, rfl⟩
  go_wp2_with fail
  go_ret
  exact ⟨ret_bool (by simp; omega), hb15⟩

set_option maxHeartbeats 4000000 in
theorem back_no_zero (A : Option Addr) (n c M b : Nat) (s : ByteArray) (w : World) (hM : IsNat w A n M) (hnc : n ≤ c) (hc : c ≤ 9223372036854775807) (hn : n ≤ 80) (hsz : s.size ≤ 800) (hb : b ≤ 4000) (hs : ¬ DecS s) (hM0 : M = 0) :
    Calls Try.prog 10 #[.slice A n c, .string s, .int .u16 b] w fun e w' => e = .returned (.bool true) ∧ Below w.heap.size w w' := by
  have SM := Stays.of hM
  have hMp := hM.1
  have aM : Nt.wlen M ≤ 80 := Nat.le_trans hM.wl hn
  have aU : Nt.wlen (M * 2 ^ b) ≤ 206 := by have := Nt.wlen_shift (b := b) hMp; omega
  have aT : Nt.wlen (2 ^ b) ≤ 127 := by have := Nt.wlen_shift (M := 1) (n := 1) (b := b) (by decide); rw [Nat.one_mul] at this; omega
  have hback : M * 2 ^ b / 2 ^ b = M := Nat.mul_div_cancel _ (Nat.two_pow_pos b)
  have hlong : false = true ↔ 80 < n := ⟨(fun h => by cases h), (fun h => by omega)⟩
  have HL := fun w => long1 A n c w false hlong
  have hszz : ¬ (800 : Int) < (s.size : Int) := by omega
  have hbz : ¬ (4000 : Int) < (b : Int) := by omega
  have HMP := Lib.hid hMp
  have HBK := Lib.hid hback
  have HP := fun w => parse_no s w (by omega) hs
  have HB1 : ∀ A n c w (h : IsNat w A n M) (h1 : n ≤ c) (h2 : c ≤ 9223372036854775807) (h3 : n ≤ 1099511627776), Calls Try.prog 31 #[.slice A n c] w fun e w' => e = .returned (.int .i64 0) ∧ w = w' :=
    fun A n c w h h1 h2 h3 => (bits_any A n c M w h h1 h2 h3).mono fun e w' h => ⟨by rw [h.1, hM0]; rfl, h.2⟩
  have HSM := fun A n c w (h : IsNat w A n M) h1 h2 => small_yes A n c M w h h1 h2 (by omega)
  have hM64 : M < 18446744073709551616 := by omega
  clear hM0
  clear hM hMp hlong hback
  go_enter Try.func10, Try.ntmps10
  go_wp2_with fail
  refine (awake_any _).mono ?_
  rintro e w0 ⟨rfl, hb0⟩
  go_wp2_with fail
  refine (HL w0).mono ?_
  rintro e w1 ⟨rfl, rfl⟩
  clear HL
  have hb1 := below_alloc hb0 (.cells #[.slice A n c] 23)
  go_wp2_with fail
  refine (decimal_any A n c M _ (SM _ hb1) hnc hc (by omega)).mono ?_
  rintro e wd ⟨L, hL, rfl, g⟩
  have hb2 := below_step hb1 g
  clear g
  go_wp2_with fail
  refine (parse_dec hL HMP.out (by omega) _).mono ?_
  rintro e wx1 ⟨Ax1, cx1, rfl, qx1, lx1, mx1, g⟩
  have ox1 := Stays.of qx1
  have hb3 := below_step hb2 g
  clear g
  have bx1 := Below.refl wx1.heap.size wx1
  clear hL
  go_wp2_with fail
  refine (norm_any _ _ _ (M) _ (SM _ hb3) hnc (by omega) (by omega)).mono ?_
  rintro e wx2 ⟨Ax2, cx2, rfl, ox2, g⟩
  have hb4 := below_step hb3 g
  have bx1 := below_step bx1 g
  clear g
  have bx2 := Below.refl wx2.heap.size wx2
  have lx2 := ox2.le
  have mx2 := ox2.small
  go_wp2_with fail
  refine (same_one _ _ _ _ _ _ M M _ rfl rfl rfl (ox1 _ bx1) (ox2.nat.below bx2) (by omega)).mono ?_
  rintro e v1 ⟨rfl, g⟩
  have hb5 := below_step hb4 g
  have bx1 := below_step bx1 g
  have bx2 := below_step bx2 g
  clear g
  clear bx2 ox2
  clear bx1 ox1 qx1
  go_wp2_with fail
  refine (HP _).mono ?_
  rintro e vp ⟨rfl, rfl⟩
  clear HP
  go_wp2_with fail
  refine (shift_up A n c M b _ (SM _ hb5) hnc hc (by omega) (by omega)).mono ?_
  rintro e wu ⟨Au, cu, rfl, ou, g⟩
  have hb6 := below_step hb5 g
  clear g
  have bu := Below.refl wu.heap.size wu
  have lu := ou.le
  have mu := ou.small
  go_wp2_with fail
  have hT9 := shift_neg _ _ _ (M * 2 ^ b) b _ (ou.nat.below bu) lu (by omega) (by omega) (by omega)
  rw [HBK.out] at hT9
  refine hT9.mono ?_
  rintro e wd2 ⟨Ad2, cd2, rfl, od2, g⟩
  clear hT9
  have hb7 := below_step hb6 g
  have bu := below_step bu g
  clear g
  have bd2 := Below.refl wd2.heap.size wd2
  have ld2 := od2.le
  have md2 := od2.small
  go_wp2_with fail
  have I1 := nat_one wd2 1 (by decide)
  have hb8 := below_alloc hb7 (.cells #[.int .u32 1] 44)
  have bu := below_alloc bu (.cells #[.int .u32 1] 44)
  have bd2 := below_alloc bd2 (.cells #[.int .u32 1] 44)
  have hT8 := shift_up _ _ 1 1 b _ I1 (Nat.le_refl _) (by omega) (by omega) (by omega)
  rw [Nat.one_mul] at hT8
  refine hT8.mono ?_
  rintro e wt ⟨At, ct, rfl, ot, g⟩
  clear hT8 I1
  have hb9 := below_step hb8 g
  have bu := below_step bu g
  have bd2 := below_step bd2 g
  clear g
  have bt := Below.refl wt.heap.size wt
  have lt := ot.le
  have mt := ot.small
  go_wp2_with fail
  refine (norm_any _ _ _ (M) _ (SM _ hb9) hnc (by omega) (by omega)).mono ?_
  rintro e wz1 ⟨Az1, cz1, rfl, oz1, g⟩
  have hb10 := below_step hb9 g
  have bu := below_step bu g
  have bd2 := below_step bd2 g
  have bt := below_step bt g
  clear g
  have bz1 := Below.refl wz1.heap.size wz1
  have lz1 := oz1.le
  have mz1 := oz1.small
  go_wp2_with fail
  refine (same_one _ _ _ _ _ _ (M) (M) _ (rfl) rfl rfl (od2.nat.below bd2) (oz1.nat.below bz1) (by omega)).mono ?_
  rintro e v2 ⟨rfl, g⟩
  have hb11 := below_step hb10 g
  have bu := below_step bu g
  have bd2 := below_step bd2 g
  have bt := below_step bt g
  have bz1 := below_step bz1 g
  clear g
  clear bd2 od2
  clear bz1 oz1
  go_wp2_with fail
  refine (mul_any _ _ _ _ _ _ M (2 ^ b) _ (SM _ hb11) (ot.nat.below bt) hnc lt (by omega) (by omega) (by omega) (by omega)).mono ?_
  rintro e wz2 ⟨Az2, cz2, rfl, oz2, g⟩
  have hb12 := below_step hb11 g
  have bu := below_step bu g
  have bt := below_step bt g
  clear g
  have bz2 := Below.refl wz2.heap.size wz2
  have lz2 := oz2.le
  have mz2 := oz2.small
  clear bt ot
  go_wp2_with fail
  refine (same_one _ _ _ _ _ _ (M * 2 ^ b) (M * 2 ^ b) _ (rfl) rfl rfl (ou.nat.below bu) (oz2.nat.below bz2) (by omega)).mono ?_
  rintro e v3 ⟨rfl, g⟩
  have hb13 := below_step hb12 g
  have bu := below_step bu g
  have bz2 := below_step bz2 g
  clear g
  clear bz2 oz2
  go_wp2_with fail
  refine (HB1 _ _ _ _ (SM _ hb13) hnc hc (by omega)).mono ?_
  rintro e v1 ⟨rfl, rfl⟩
  go_wp2_with fail
  refine (HSM _ _ _ _ (SM _ hb13) hnc hc).mono ?_
  rintro e v4 ⟨rfl, rfl⟩
  go_wp2_with fail
  refine (HB1 _ _ _ _ (SM _ hb13) hnc hc (by omega)).mono ?_
  rintro e v5 ⟨rfl, rfl⟩
  go_wp2_with fail
  refine (of_any M _ hM64).mono ?_
  rintro e wk1 ⟨Ak1, ck1, rfl, ok1, g⟩
  have hb14 := below_step hb13 g
  have bu := below_step bu g
  clear g
  have bk1 := Below.refl wk1.heap.size wk1
  have lk1 := ok1.le
  have mk1 := ok1.small
  go_wp2_with fail
  refine (norm_any _ _ _ (M) _ (SM _ hb14) hnc (by omega) (by omega)).mono ?_
  rintro e wk2 ⟨Ak2, ck2, rfl, ok2, g⟩
  have hb15 := below_step hb14 g
  have bu := below_step bu g
  have bk1 := below_step bk1 g
  clear g
  have bk2 := Below.refl wk2.heap.size wk2
  have lk2 := ok2.le
  have mk2 := ok2.small
  go_wp2_with fail
  refine (same_one _ _ _ _ _ _ (M) (M) _ (rfl) rfl rfl (ok1.nat.below bk1) (ok2.nat.below bk2) (by omega)).mono ?_
  rintro e v4 ⟨rfl, g⟩
  have hb16 := below_step hb15 g
  have bu := below_step bu g
  have bk1 := below_step bk1 g
  have bk2 := below_step bk2 g
  clear g
  go_wp2_with fail
  go_ret
  exact ⟨rfl, hb16⟩

set_option maxHeartbeats 4000000 in
theorem back_no_small (A : Option Addr) (n c M b : Nat) (s : ByteArray) (w : World) (hM : IsNat w A n M) (hnc : n ≤ c) (hc : c ≤ 9223372036854775807) (hn : n ≤ 80) (hsz : s.size ≤ 800) (hb : b ≤ 4000) (hs : ¬ DecS s) (hM0 : M ≠ 0) (hM64 : M < 18446744073709551616) :
    Calls Try.prog 10 #[.slice A n c, .string s, .int .u16 b] w fun e w' => e = .returned (.bool true) ∧ Below w.heap.size w w' := by
  have SM := Stays.of hM
  have hMp := hM.1
  have aM : Nt.wlen M ≤ 80 := Nat.le_trans hM.wl hn
  have aU : Nt.wlen (M * 2 ^ b) ≤ 206 := by have := Nt.wlen_shift (b := b) hMp; omega
  have aT : Nt.wlen (2 ^ b) ≤ 127 := by have := Nt.wlen_shift (M := 1) (n := 1) (b := b) (by decide); rw [Nat.one_mul] at this; omega
  have hback : M * 2 ^ b / 2 ^ b = M := Nat.mul_div_cancel _ (Nat.two_pow_pos b)
  have hlong : false = true ↔ 80 < n := ⟨(fun h => by cases h), (fun h => by omega)⟩
  have HL := fun w => long1 A n c w false hlong
  have hszz : ¬ (800 : Int) < (s.size : Int) := by omega
  have hbz : ¬ (4000 : Int) < (b : Int) := by omega
  have HMP := Lib.hid hMp
  have HBK := Lib.hid hback
  have HP := fun w => parse_no s w (by omega) hs
  have HB1 := fun A n c w (h : IsNat w A n M) h1 h2 h3 => bits_any A n c M w h h1 h2 h3
  have HB2 := fun A n c w (h : IsNat w A n (M * 2 ^ b)) h1 h2 h3 => bits_any A n c (M * 2 ^ b) w h h1 h2 h3
  rw [Nt.blen_shift hM0] at HB2
  have hbl : Nt.blen M ≤ 64 := Nt.blen_le_of (by simpa using hM64)
  have hbp := Nt.blen_pos hM0
  generalize Nt.blen M = bl at *
  have HSM := fun A n c w (h : IsNat w A n M) h1 h2 => small_yes A n c M w h h1 h2 hM64
  clear hM hMp hlong hback
  go_enter Try.func10, Try.ntmps10
  go_wp2_with fail
  refine (awake_any _).mono ?_
  rintro e w0 ⟨rfl, hb0⟩
  go_wp2_with fail
  refine (HL w0).mono ?_
  rintro e w1 ⟨rfl, rfl⟩
  clear HL
  have hb1 := below_alloc hb0 (.cells #[.slice A n c] 23)
  go_wp2_with fail
  refine (decimal_any A n c M _ (SM _ hb1) hnc hc (by omega)).mono ?_
  rintro e wd ⟨L, hL, rfl, g⟩
  have hb2 := below_step hb1 g
  clear g
  go_wp2_with fail
  refine (parse_dec hL HMP.out (by omega) _).mono ?_
  rintro e wx1 ⟨Ax1, cx1, rfl, qx1, lx1, mx1, g⟩
  have ox1 := Stays.of qx1
  have hb3 := below_step hb2 g
  clear g
  have bx1 := Below.refl wx1.heap.size wx1
  clear hL
  go_wp2_with fail
  refine (norm_any _ _ _ (M) _ (SM _ hb3) hnc (by omega) (by omega)).mono ?_
  rintro e wx2 ⟨Ax2, cx2, rfl, ox2, g⟩
  have hb4 := below_step hb3 g
  have bx1 := below_step bx1 g
  clear g
  have bx2 := Below.refl wx2.heap.size wx2
  have lx2 := ox2.le
  have mx2 := ox2.small
  go_wp2_with fail
  refine (same_one _ _ _ _ _ _ M M _ rfl rfl rfl (ox1 _ bx1) (ox2.nat.below bx2) (by omega)).mono ?_
  rintro e v1 ⟨rfl, g⟩
  have hb5 := below_step hb4 g
  have bx1 := below_step bx1 g
  have bx2 := below_step bx2 g
  clear g
  clear bx2 ox2
  clear bx1 ox1 qx1
  go_wp2_with fail
  refine (HP _).mono ?_
  rintro e vp ⟨rfl, rfl⟩
  clear HP
  go_wp2_with fail
  refine (shift_up A n c M b _ (SM _ hb5) hnc hc (by omega) (by omega)).mono ?_
  rintro e wu ⟨Au, cu, rfl, ou, g⟩
  have hb6 := below_step hb5 g
  clear g
  have bu := Below.refl wu.heap.size wu
  have lu := ou.le
  have mu := ou.small
  go_wp2_with fail
  have hT9 := shift_neg _ _ _ (M * 2 ^ b) b _ (ou.nat.below bu) lu (by omega) (by omega) (by omega)
  rw [HBK.out] at hT9
  refine hT9.mono ?_
  rintro e wd2 ⟨Ad2, cd2, rfl, od2, g⟩
  clear hT9
  have hb7 := below_step hb6 g
  have bu := below_step bu g
  clear g
  have bd2 := Below.refl wd2.heap.size wd2
  have ld2 := od2.le
  have md2 := od2.small
  go_wp2_with fail
  have I1 := nat_one wd2 1 (by decide)
  have hb8 := below_alloc hb7 (.cells #[.int .u32 1] 44)
  have bu := below_alloc bu (.cells #[.int .u32 1] 44)
  have bd2 := below_alloc bd2 (.cells #[.int .u32 1] 44)
  have hT8 := shift_up _ _ 1 1 b _ I1 (Nat.le_refl _) (by omega) (by omega) (by omega)
  rw [Nat.one_mul] at hT8
  refine hT8.mono ?_
  rintro e wt ⟨At, ct, rfl, ot, g⟩
  clear hT8 I1
  have hb9 := below_step hb8 g
  have bu := below_step bu g
  have bd2 := below_step bd2 g
  clear g
  have bt := Below.refl wt.heap.size wt
  have lt := ot.le
  have mt := ot.small
  go_wp2_with fail
  refine (norm_any _ _ _ (M) _ (SM _ hb9) hnc (by omega) (by omega)).mono ?_
  rintro e wz1 ⟨Az1, cz1, rfl, oz1, g⟩
  have hb10 := below_step hb9 g
  have bu := below_step bu g
  have bd2 := below_step bd2 g
  have bt := below_step bt g
  clear g
  have bz1 := Below.refl wz1.heap.size wz1
  have lz1 := oz1.le
  have mz1 := oz1.small
  go_wp2_with fail
  refine (same_one _ _ _ _ _ _ (M) (M) _ (rfl) rfl rfl (od2.nat.below bd2) (oz1.nat.below bz1) (by omega)).mono ?_
  rintro e v2 ⟨rfl, g⟩
  have hb11 := below_step hb10 g
  have bu := below_step bu g
  have bd2 := below_step bd2 g
  have bt := below_step bt g
  have bz1 := below_step bz1 g
  clear g
  clear bd2 od2
  clear bz1 oz1
  go_wp2_with fail
  refine (mul_any _ _ _ _ _ _ M (2 ^ b) _ (SM _ hb11) (ot.nat.below bt) hnc lt (by omega) (by omega) (by omega) (by omega)).mono ?_
  rintro e wz2 ⟨Az2, cz2, rfl, oz2, g⟩
  have hb12 := below_step hb11 g
  have bu := below_step bu g
  have bt := below_step bt g
  clear g
  have bz2 := Below.refl wz2.heap.size wz2
  have lz2 := oz2.le
  have mz2 := oz2.small
  clear bt ot
  go_wp2_with fail
  refine (same_one _ _ _ _ _ _ (M * 2 ^ b) (M * 2 ^ b) _ (rfl) rfl rfl (ou.nat.below bu) (oz2.nat.below bz2) (by omega)).mono ?_
  rintro e v3 ⟨rfl, g⟩
  have hb13 := below_step hb12 g
  have bu := below_step bu g
  have bz2 := below_step bz2 g
  clear g
  clear bz2 oz2
  go_wp2_with fail
  refine (HB1 _ _ _ _ (SM _ hb13) hnc hc (by omega)).mono ?_
  rintro e v1 ⟨rfl, rfl⟩
  go_wp2_with fail
  refine (HB2 _ _ _ _ (ou.nat.below bu) lu (by omega) (by omega)).mono ?_
  rintro e v2 ⟨rfl, rfl⟩
  go_wp2_with fail
  refine (HB1 _ _ _ _ (SM _ hb13) hnc hc (by omega)).mono ?_
  rintro e v3 ⟨rfl, rfl⟩
  go_wp2_with fail
  refine (HSM _ _ _ _ (SM _ hb13) hnc hc).mono ?_
  rintro e v4 ⟨rfl, rfl⟩
  go_wp2_with fail
  refine (HB1 _ _ _ _ (SM _ hb13) hnc hc (by omega)).mono ?_
  rintro e v5 ⟨rfl, rfl⟩
  go_wp2_with fail
  refine (of_any M _ hM64).mono ?_
  rintro e wk1 ⟨Ak1, ck1, rfl, ok1, g⟩
  have hb14 := below_step hb13 g
  have bu := below_step bu g
  clear g
  have bk1 := Below.refl wk1.heap.size wk1
  have lk1 := ok1.le
  have mk1 := ok1.small
  go_wp2_with fail
  refine (norm_any _ _ _ (M) _ (SM _ hb14) hnc (by omega) (by omega)).mono ?_
  rintro e wk2 ⟨Ak2, ck2, rfl, ok2, g⟩
  have hb15 := below_step hb14 g
  have bu := below_step bu g
  have bk1 := below_step bk1 g
  clear g
  have bk2 := Below.refl wk2.heap.size wk2
  have lk2 := ok2.le
  have mk2 := ok2.small
  go_wp2_with fail
  refine (same_one _ _ _ _ _ _ (M) (M) _ (rfl) rfl rfl (ok1.nat.below bk1) (ok2.nat.below bk2) (by omega)).mono ?_
  rintro e v4 ⟨rfl, g⟩
  have hb16 := below_step hb15 g
  have bu := below_step bu g
  have bk1 := below_step bk1 g
  have bk2 := below_step bk2 g
  clear g
  go_wp2_with fail
  go_ret
  exact ⟨rfl, hb16⟩

set_option maxHeartbeats 4000000 in
theorem back_no_big (A : Option Addr) (n c M b : Nat) (s : ByteArray) (w : World) (hM : IsNat w A n M) (hnc : n ≤ c) (hc : c ≤ 9223372036854775807) (hn : n ≤ 80) (hsz : s.size ≤ 800) (hb : b ≤ 4000) (hs : ¬ DecS s) (hM64 : 18446744073709551616 ≤ M) :
    Calls Try.prog 10 #[.slice A n c, .string s, .int .u16 b] w fun e w' => e = .returned (.bool true) ∧ Below w.heap.size w w' := by
  have SM := Stays.of hM
  have hMp := hM.1
  have aM : Nt.wlen M ≤ 80 := Nat.le_trans hM.wl hn
  have aU : Nt.wlen (M * 2 ^ b) ≤ 206 := by have := Nt.wlen_shift (b := b) hMp; omega
  have aT : Nt.wlen (2 ^ b) ≤ 127 := by have := Nt.wlen_shift (M := 1) (n := 1) (b := b) (by decide); rw [Nat.one_mul] at this; omega
  have hback : M * 2 ^ b / 2 ^ b = M := Nat.mul_div_cancel _ (Nat.two_pow_pos b)
  have hlong : false = true ↔ 80 < n := ⟨(fun h => by cases h), (fun h => by omega)⟩
  have HL := fun w => long1 A n c w false hlong
  have hszz : ¬ (800 : Int) < (s.size : Int) := by omega
  have hbz : ¬ (4000 : Int) < (b : Int) := by omega
  have HMP := Lib.hid hMp
  have HBK := Lib.hid hback
  have HP := fun w => parse_no s w (by omega) hs
  have hM0 : M ≠ 0 := by omega
  have HB1 := fun A n c w (h : IsNat w A n M) h1 h2 h3 => bits_any A n c M w h h1 h2 h3
  have HB2 := fun A n c w (h : IsNat w A n (M * 2 ^ b)) h1 h2 h3 => bits_any A n c (M * 2 ^ b) w h h1 h2 h3
  rw [Nt.blen_shift hM0] at HB2
  have hbl : 64 < Nt.blen M := by
    rcases Nat.lt_or_ge 64 (Nt.blen M) with h | h
    · exact h
    · have h1 := Nt.lt_blen M
      have h2 : 2 ^ Nt.blen M ≤ 2 ^ 64 := Nat.pow_le_pow_right (by decide) h
      omega
  have hblm : Nt.blen M ≤ 32 * n := Nt.blen_le_of (by rw [← Nt.pw_two]; exact hMp)
  generalize Nt.blen M = bl at *
  have hblz : ¬ (bl : Int) ≤ 64 := by omega
  have HSM := fun A n c w (h : IsNat w A n M) h1 h2 => small_big A n c M w h h1 h2 hM64
  clear hM64
  clear hM hMp hlong hback
  go_enter Try.func10, Try.ntmps10
  go_wp2_with fail
  refine (awake_any _).mono ?_
  rintro e w0 ⟨rfl, hb0⟩
  go_wp2_with fail
  refine (HL w0).mono ?_
  rintro e w1 ⟨rfl, rfl⟩
  clear HL
  have hb1 := below_alloc hb0 (.cells #[.slice A n c] 23)
  go_wp2_with fail
  refine (decimal_any A n c M _ (SM _ hb1) hnc hc (by omega)).mono ?_
  rintro e wd ⟨L, hL, rfl, g⟩
  have hb2 := below_step hb1 g
  clear g
  go_wp2_with fail
  refine (parse_dec hL HMP.out (by omega) _).mono ?_
  rintro e wx1 ⟨Ax1, cx1, rfl, qx1, lx1, mx1, g⟩
  have ox1 := Stays.of qx1
  have hb3 := below_step hb2 g
  clear g
  have bx1 := Below.refl wx1.heap.size wx1
  clear hL
  go_wp2_with fail
  refine (norm_any _ _ _ (M) _ (SM _ hb3) hnc (by omega) (by omega)).mono ?_
  rintro e wx2 ⟨Ax2, cx2, rfl, ox2, g⟩
  have hb4 := below_step hb3 g
  have bx1 := below_step bx1 g
  clear g
  have bx2 := Below.refl wx2.heap.size wx2
  have lx2 := ox2.le
  have mx2 := ox2.small
  go_wp2_with fail
  refine (same_one _ _ _ _ _ _ M M _ rfl rfl rfl (ox1 _ bx1) (ox2.nat.below bx2) (by omega)).mono ?_
  rintro e v1 ⟨rfl, g⟩
  have hb5 := below_step hb4 g
  have bx1 := below_step bx1 g
  have bx2 := below_step bx2 g
  clear g
  clear bx2 ox2
  clear bx1 ox1 qx1
  go_wp2_with fail
  refine (HP _).mono ?_
  rintro e vp ⟨rfl, rfl⟩
  clear HP
  go_wp2_with fail
  refine (shift_up A n c M b _ (SM _ hb5) hnc hc (by omega) (by omega)).mono ?_
  rintro e wu ⟨Au, cu, rfl, ou, g⟩
  have hb6 := below_step hb5 g
  clear g
  have bu := Below.refl wu.heap.size wu
  have lu := ou.le
  have mu := ou.small
  go_wp2_with fail
  have hT9 := shift_neg _ _ _ (M * 2 ^ b) b _ (ou.nat.below bu) lu (by omega) (by omega) (by omega)
  rw [HBK.out] at hT9
  refine hT9.mono ?_
  rintro e wd2 ⟨Ad2, cd2, rfl, od2, g⟩
  clear hT9
  have hb7 := below_step hb6 g
  have bu := below_step bu g
  clear g
  have bd2 := Below.refl wd2.heap.size wd2
  have ld2 := od2.le
  have md2 := od2.small
  go_wp2_with fail
  have I1 := nat_one wd2 1 (by decide)
  have hb8 := below_alloc hb7 (.cells #[.int .u32 1] 44)
  have bu := below_alloc bu (.cells #[.int .u32 1] 44)
  have bd2 := below_alloc bd2 (.cells #[.int .u32 1] 44)
  have hT8 := shift_up _ _ 1 1 b _ I1 (Nat.le_refl _) (by omega) (by omega) (by omega)
  rw [Nat.one_mul] at hT8
  refine hT8.mono ?_
  rintro e wt ⟨At, ct, rfl, ot, g⟩
  clear hT8 I1
  have hb9 := below_step hb8 g
  have bu := below_step bu g
  have bd2 := below_step bd2 g
  clear g
  have bt := Below.refl wt.heap.size wt
  have lt := ot.le
  have mt := ot.small
  go_wp2_with fail
  refine (norm_any _ _ _ (M) _ (SM _ hb9) hnc (by omega) (by omega)).mono ?_
  rintro e wz1 ⟨Az1, cz1, rfl, oz1, g⟩
  have hb10 := below_step hb9 g
  have bu := below_step bu g
  have bd2 := below_step bd2 g
  have bt := below_step bt g
  clear g
  have bz1 := Below.refl wz1.heap.size wz1
  have lz1 := oz1.le
  have mz1 := oz1.small
  go_wp2_with fail
  refine (same_one _ _ _ _ _ _ (M) (M) _ (rfl) rfl rfl (od2.nat.below bd2) (oz1.nat.below bz1) (by omega)).mono ?_
  rintro e v2 ⟨rfl, g⟩
  have hb11 := below_step hb10 g
  have bu := below_step bu g
  have bd2 := below_step bd2 g
  have bt := below_step bt g
  have bz1 := below_step bz1 g
  clear g
  clear bd2 od2
  clear bz1 oz1
  go_wp2_with fail
  refine (mul_any _ _ _ _ _ _ M (2 ^ b) _ (SM _ hb11) (ot.nat.below bt) hnc lt (by omega) (by omega) (by omega) (by omega)).mono ?_
  rintro e wz2 ⟨Az2, cz2, rfl, oz2, g⟩
  have hb12 := below_step hb11 g
  have bu := below_step bu g
  have bt := below_step bt g
  clear g
  have bz2 := Below.refl wz2.heap.size wz2
  have lz2 := oz2.le
  have mz2 := oz2.small
  clear bt ot
  go_wp2_with fail
  refine (same_one _ _ _ _ _ _ (M * 2 ^ b) (M * 2 ^ b) _ (rfl) rfl rfl (ou.nat.below bu) (oz2.nat.below bz2) (by omega)).mono ?_
  rintro e v3 ⟨rfl, g⟩
  have hb13 := below_step hb12 g
  have bu := below_step bu g
  have bz2 := below_step bz2 g
  clear g
  clear bz2 oz2
  go_wp2_with fail
  refine (HB1 _ _ _ _ (SM _ hb13) hnc hc (by omega)).mono ?_
  rintro e v1 ⟨rfl, rfl⟩
  go_wp2_with fail
  refine (HB2 _ _ _ _ (ou.nat.below bu) lu (by omega) (by omega)).mono ?_
  rintro e v2 ⟨rfl, rfl⟩
  go_wp2_with fail
  refine (HB1 _ _ _ _ (SM _ hb13) hnc hc (by omega)).mono ?_
  rintro e v3 ⟨rfl, rfl⟩
  go_wp2_with fail
  refine (HSM _ _ _ _ (SM _ hb13) hnc hc).mono ?_
  rintro e v4 ⟨rfl, rfl⟩
  go_wp2_with fail
  refine (HB1 _ _ _ _ (SM _ hb13) hnc hc (by omega)).mono ?_
  rintro e v5 ⟨rfl, rfl⟩
  go_wp2_with fail
  go_ret
  exact ⟨ret_bool (by simp; omega), hb13⟩

theorem back_long (A : Option Addr) (n c b : Nat) (s : ByteArray) (w : World) (h : 80 < n) :
    Calls Try.prog 10 #[.slice A n c, .string s, .int .u16 b] w fun e w' => e = .returned (.bool true) ∧ Below w.heap.size w w' := by
  have HL := fun w => long1 A n c w true ⟨fun _ => h, fun _ => rfl⟩
  clear h
  go_enter Try.func10, Try.ntmps10
  go_wp2_with fail
  refine (awake_any _).mono ?_
  rintro e w0 ⟨rfl, hb0⟩
  go_wp2_with fail
  refine (HL w0).mono ?_
  rintro e w1 ⟨rfl, rfl⟩
  clear HL
  go_wp2_with fail
  go_ret
  exact ⟨rfl, below_alloc hb0 _⟩
theorem back_text (A : Option Addr) (n c b : Nat) (s : ByteArray) (w : World) (h : n ≤ 80) (hs : 800 < s.size) :
    Calls Try.prog 10 #[.slice A n c, .string s, .int .u16 b] w fun e w' => e = .returned (.bool true) ∧ Below w.heap.size w w' := by
  have HL := fun w => long1 A n c w false ⟨(fun h => by cases h), (fun h => by omega)⟩
  have hsz : (800 : Int) < (s.size : Int) := by omega
  clear h
  go_enter Try.func10, Try.ntmps10
  go_wp2_with fail
  refine (awake_any _).mono ?_
  rintro e w0 ⟨rfl, hb0⟩
  go_wp2_with fail
  refine (HL w0).mono ?_
  rintro e w1 ⟨rfl, rfl⟩
  clear HL
  go_wp2_with fail
  go_ret
  exact ⟨rfl, below_alloc hb0 _⟩
theorem back_far (A : Option Addr) (n c b : Nat) (s : ByteArray) (w : World) (h : n ≤ 80) (hs : s.size ≤ 800) (hb : 4000 < b) :
    Calls Try.prog 10 #[.slice A n c, .string s, .int .u16 b] w fun e w' => e = .returned (.bool true) ∧ Below w.heap.size w w' := by
  have HL := fun w => long1 A n c w false ⟨(fun h => by cases h), (fun h => by omega)⟩
  have hsz : ¬ (800 : Int) < (s.size : Int) := by omega
  have hbz : (4000 : Int) < (b : Int) := by omega
  clear h
  go_enter Try.func10, Try.ntmps10
  go_wp2_with fail
  refine (awake_any _).mono ?_
  rintro e w0 ⟨rfl, hb0⟩
  go_wp2_with fail
  refine (HL w0).mono ?_
  rintro e w1 ⟨rfl, rfl⟩
  clear HL
  go_wp2_with fail
  go_ret
  exact ⟨rfl, below_alloc hb0 _⟩

theorem back_any (A : Option Addr) (n c M b : Nat) (s : ByteArray) (w : World) (hM : IsNat w A n M) (hnc : n ≤ c) (hc : c ≤ 9223372036854775807) :
    Calls Try.prog 10 #[.slice A n c, .string s, .int .u16 b] w fun e w' => e = .returned (.bool true) ∧ Below w.heap.size w w' := by
  by_cases h1 : 80 < n
  · exact back_long A n c b s w h1
  · by_cases h2 : 800 < s.size
    · exact back_text A n c b s w (by omega) h2
    · by_cases h3 : 4000 < b
      · exact back_far A n c b s w (by omega) (by omega) h3
      · by_cases hs : DecS s
        · rcases Nat.lt_or_ge M 18446744073709551616 with h | h
          · by_cases h0 : M = 0
            · exact back_yes_zero A n c M b s w hM hnc hc (by omega) (by omega) (by omega) hs h0
            · exact back_yes_small A n c M b s w hM hnc hc (by omega) (by omega) (by omega) hs h0 h
          · exact back_yes_big A n c M b s w hM hnc hc (by omega) (by omega) (by omega) hs h
        · rcases Nat.lt_or_ge M 18446744073709551616 with h | h
          · by_cases h0 : M = 0
            · exact back_no_zero A n c M b s w hM hnc hc (by omega) (by omega) (by omega) hs h0
            · exact back_no_small A n c M b s w hM hnc hc (by omega) (by omega) (by omega) hs h0 h
          · exact back_no_big A n c M b s w hM hnc hc (by omega) (by omega) (by omega) hs h
end Go.Proofs.Ytegbhenchmfngaa

