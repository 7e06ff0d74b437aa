/- nat.Monus: the difference, or 0. -/
import Derived.Test.YtegbhenchmfngaaNorm
import Derived.Test.YtegbhenchmfngaaCompare
import Derived.Test.YtegbhenchmfngaaTakeTimes
namespace Go.Proofs.Ytegbhenchmfngaa
open Go.RowKit

set_option maxHeartbeats 400000 in
theorem monus_none (A B : Option Addr) (n c m d M N : Nat) (w : World) (hM : IsNat w A n M) (hN : IsNat w B m N) (hc : n ≤ c) (hd : m ≤ d) (hcm : c ≤ 9223372036854775807) (hdm : d ≤ 9223372036854775807) (hle : M ≤ N) :
    Calls Try.prog 19 #[.slice A n c, .slice B m d] w fun e w' => e = .returned (.slice none 0 0) ∧ ∃ q, w' = w.drewN q := by
  have hcmp : Nt.cmp M N = 0 ∨ Nt.cmp M N = -1 := by
    rcases Nat.lt_or_ge M N with h | h
    · exact .inr (Nt.cmp_lt (by omega))
    · exact .inl (Nt.cmp_eq (by omega))
  have hcmp' : Nt.cmp M N ≤ 0 := by omega
  clear hcmp
  have HC := fun w hM hN => compare_any A B n c m d M N w hM hN hc hd hcm hdm
  generalize Nt.cmp M N = z at *
  go_enter Try.func19, Try.ntmps19
  go_wp2_with (go_at_call 21; refine (HC _ hM hN).mono ?_; rintro e w' ⟨rfl, q, rfl⟩)
  go_ret
  exact ⟨rfl, q, rfl⟩

set_option maxHeartbeats 800000 in
theorem monus_some (A B : Option Addr) (n c m d M N : Nat) (w : World) (hM : IsNat w A n M) (hN : IsNat w B m N) (hc : n ≤ c) (hd : m ≤ d) (hcm : c ≤ 9223372036854775807) (hdm : d ≤ 9223372036854775807) (hn : n ≤ 1099511627776) (hlt : N < M) :
    Calls Try.prog 19 #[.slice A n c, .slice B m d] w fun e w' => ∃ A' c', e = .returned (.slice A' (Nt.wlen (M - N)) c') ∧ Own w.heap.size w' A' (Nt.wlen (M - N)) c' (M - N) ∧ Below w.heap.size w w' := by
  have hcmp : Nt.cmp M N = 1 := Nt.cmp_gt (by omega)
  have hMl := hM.wl
  have hM0 : Nt.wlen M ≠ 0 := fun h => by have := Nt.wlen_eq_zero.1 h; omega
  go_enter Try.func19, Try.ntmps19
  go_wp2_with fail
  refine (compare_any A B n c m d M N w hM hN hc hd hcm hdm).mono ?_; rintro e w' ⟨rfl, q, rfl⟩
  rw [hcmp]
  clear hcmp
  go_wp2_with fail
  refine (norm_any A n c M _ (hM.drewN q) hc hcm hn).mono ?_; rintro e w1 ⟨A', c', rfl, hown, hb⟩
  obtain ⟨g, F, rfl, hg, hrow, hF⟩ := hown.row (by omega)
  have hN1 : IsNat w1 B m N := (hN.drewN q).below hb
  have hbw : Below w.heap.size w w1 := ⟨hb.os, hb.tape, hb.output, hb.size, hb.block⟩
  have hfar := far_of hN.trim hg
  have hle := hown.le
  have hsm := hown.small
  have hMw := Nt.lt_pw_wlen M
  have hNw := Nt.lt_pw_wlen N
  have hmn := Nt.wlen_mono (Nat.le_of_lt hlt)
  have hg' : w.heap.size ≤ g := hg
  have HLT := Lib.hid hlt
  have HF := Lib.hid hF
  have HB := Lib.hid hbw
  clear hb hown hF hbw hg hlt
  go_wp2_with fail
  refine (trim_any _ _ _ N _ hN1 hd hdm).mono ?_; rintro e w' ⟨rfl, rfl⟩
  go_wp2_with fail
  refine (takeTimes_any g 0 (Nt.wlen M) c' c' F B (Nt.wlen N) d (M % Nt.pw (Nt.wlen N)) N 1 _ hrow (by omega) hmn hN1.trim hfar (Nt.mod_lt_pw _ _) (fun j hj => by rw [Nat.zero_add, HF.out j (by omega), Nt.dig_mod_pw hj]) (by decide) hsm).mono ?_
  rintro e w2 ⟨R, br, hR, hE, hbr, rfl, hrow2, hok⟩
  have hbr1 := Nt.borrow_le hR hNw hE
  rw [Nat.mul_one] at hE
  have HE := Lib.hid hE
  clear hE hbr
  go_wp2_with fail
  go_loopw [6, 7] (fun br i wr => ∃ k b R : Nat, i = .int .i64 k ∧ br = .int .u32 b ∧ b ≤ 1 ∧ Nt.wlen N ≤ k ∧ k ≤ Nt.wlen M ∧ R < Nt.pw k ∧ Hid (R + N = M % Nt.pw k + b * Nt.pw k) ∧
    RowN wr g c' (fun j => if 0 ≤ j ∧ j < 0 + k then Nt.dig R (j - 0) else F j) ∧ Only g w1 wr) (fun _ i _ => Nt.wlen M - (intOf i).toNat)
  case atStart => exact ⟨_, br, R, rfl, rfl, hbr1, Nat.le_refl _, hmn, hR, HE, hrow2, hok⟩
  case round =>
    clear hR hbr1 HE hrow2 hok
    obtain ⟨k, b, R, rfl, rfl, hb1, hNk, hkM, hR, HE, hrk, hok⟩ := hrel
    rcases (by omega : b = 0 ∨ b = 1) with rfl | rfl
    · have hE := HE.out
      rw [Nat.zero_mul, Nat.add_zero] at hE
      obtain ⟨hlo, hhi⟩ := Nt.monus_end hR hE
      have hDM : M - N < Nt.pw (Nt.wlen M) := Nat.lt_of_le_of_lt (Nat.sub_le _ _) hMw
      have hown := Own.of_row (n := Nt.wlen M) (N := M - N) hrk hg' (by omega) hle hDM (fun j hj => by
        by_cases e : j < k
        · rw [if_pos (by omega), Nat.sub_zero, hlo j e]
        · rw [if_neg (by omega), hhi j (by omega), HF.out j hj])
      have HO := Lib.hid hown
      have HB2 := Lib.hid (hok.below HB.out hg')
      have hnat := hown.nat
      clear hown hlo hhi hE hDM
      go_wp2_with (go_at_call 42; refine (trim_any _ _ _ (M - N) _ hnat hle (by omega)).mono ?_; rintro e w' ⟨rfl, rfl⟩)
      go_ret
      exact ⟨_, _, rfl, HO.out.trim, HB2.out⟩
    · have hkM' := Nt.borrow_none hR HLT.out HE.out
      have h2 := hrk.cell (i := k) (by omega)
      rw [if_neg (by omega), HF.out k hkM'] at h2
      have h3 := hrk.frozen k
      have hd := Nt.dig_lt M k
      by_cases hx : Nt.dig M k = 0
      · have hst := Nt.monus_step1 hR HE.out hx
        rw [hx] at h2
        have HS := Lib.hid hst
        clear hst hx hd
        have e1 : IntKind.u32.wrap (0 - 1) = 4294967295 := by decide
        go_wp2_with fail
        clear e1
        go_roundw
        case rel =>
          have hrow := hrk.step (o := 0) (k := k) (D' := Nt.dig (R + (Nt.K - 1) * Nt.pw k)) (v := 4294967295) (by rw [Nt.dig_add_pw, Nt.div_pw_of_lt hR]; rfl) (fun j hj => Nt.dig_add_pw_lt _ _ hj)
          rw [Nat.zero_add] at hrow
          exact ⟨k + 1, 1, _, by go_num, rfl, by omega, by omega, hkM', HS.out.1, HS.out.2, hrow, hok.set_ _ _⟩
        case measure => simp [intOf] <;> omega
      · obtain ⟨x, hxx⟩ : ∃ x, Nt.dig M k = x + 1 := ⟨Nt.dig M k - 1, by omega⟩
        have hxK : x < Nt.K := by rw [Nt.K_eq]; omega
        have hst := Nt.monus_step0 hR HE.out hxx hxK
        rw [hxx] at h2 hd
        have HS := Lib.hid hst
        clear hst hx hxx
        go_wp2_with fail
        go_roundw
        case rel =>
          have hrow := hrk.step (o := 0) (k := k) (D' := Nt.dig (R + x * Nt.pw k)) (v := x) (by rw [Nt.dig_add_pw, Nt.div_pw_of_lt hR, Nat.zero_add]; exact Nat.mod_eq_of_lt hxK) (fun j hj => Nt.dig_add_pw_lt _ _ hj)
          rw [Nat.zero_add] at hrow
          exact ⟨k + 1, 0, _, by go_num, rfl, by omega, by omega, hkM', HS.out.1, HS.out.2, hrow, hok.set_ _ _⟩
        case measure => simp [intOf] <;> omega
end Go.Proofs.Ytegbhenchmfngaa
