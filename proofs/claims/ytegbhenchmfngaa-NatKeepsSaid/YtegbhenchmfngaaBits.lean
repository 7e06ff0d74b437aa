/- math/bits.Len32 and nat.Bits: how many bits a number has. -/
import Derived.Test.YtegbhenchmfngaaMem
import Derived.Test.YtegbhenchmfngaaTrim
import Derived.Test.YtegbhenchmfngaaShelf
namespace Go.Proofs.Ytegbhenchmfngaa
open Go.RowKit

theorem bitLen_blen : ∀ (k x : Nat), x < 2 ^ k → k ≤ 64 → Lib.bitLen x = Nt.blen x := by
  intro k
  induction k with
  | zero =>
    intro x hx _
    have : x = 0 := by simpa using hx
    subst this
    rfl
  | succ k ih =>
    intro x hx hk
    by_cases h0 : x = 0
    · subst h0; rfl
    · have hx64 : x < 2 ^ 64 := Nat.lt_of_lt_of_le hx (Nat.pow_le_pow_right (by decide) hk)
      rw [Lib.bitLen_half x h0 hx64, ih (x / 2) (by rw [Nat.pow_succ] at hx; omega) (by omega)]
      by_cases h1 : x / 2 = 0
      · have : x = 1 := by omega
        subst this
        rfl
      · have := Nt.blen_div (N := x) (k := 1) (by simpa using Nat.pos_of_ne_zero h1)
        rw [Nat.pow_one] at this
        exact this.symm

theorem len32_any (x : Nat) (w : World) (hx : x < 4294967296) :
    Calls Try.prog 59 #[.int .u32 x] w fun e w' => e = .returned (.int .i64 (Nt.blen x)) ∧ w = w' :=
  (Try.bits_Len32 x w (by omega) (by omega)).mono fun _ _ h => ⟨by rw [h.1, Int.toNat_natCast, bitLen_blen 32 x (by simpa using hx) (by decide)], h.2.symm⟩

set_option maxHeartbeats 400000 in
theorem bits_any (A : Option Addr) (n c N : Nat) (w : World) (h : IsNat w A n N) (hc : n ≤ c) (hm : c ≤ 9223372036854775807) (hn : n ≤ 1099511627776) :
    Calls Try.prog 31 #[.slice A n c] w fun e w' => e = .returned (.int .i64 (Nt.blen N)) ∧ w = w' := by
  have ht := h.trim
  have hl := h.wl
  rcases Nat.eq_zero_or_pos (Nt.wlen N) with h0 | h0
  · have hN := Nt.wlen_eq_zero.1 h0
    subst hN
    have hz : ((Nt.wlen 0 : Int) == 0) = true := by rw [h0]; rfl
    clear h0
    go_enter Try.func31, Try.ntmps31
    go_wp2_with (go_at_call 42; refine (trim_any _ _ _ 0 _ h hc hm).mono ?_; rintro e w' ⟨rfl, rfl⟩)
    go_ret
    exact ⟨rfl, rfl⟩
  · obtain ⟨k, hk⟩ : ∃ k, Nt.wlen N = k + 1 := ⟨Nt.wlen N - 1, by omega⟩
    have htop := Nt.blen_top hk
    have hd := Nt.dig_lt N k
    have hb := Nt.blen_le_of (N := Nt.dig N k) (n := 32) (by simpa using hd)
    rw [hk] at ht hl
    obtain ⟨b, o, rfl, hcell⟩ := ht.2 (by omega)
    have hce := hcell k (by omega)
    clear hcell h0
    have HT := Lib.hid htop
    have HK := Lib.hid hk
    clear htop hk
    go_enter Try.func31, Try.ntmps31
    go_wp2_with fail
    refine (trim_any _ _ _ N _ h hc hm).mono ?_; rintro e w' ⟨rfl, rfl⟩
    rw [HK.out]
    go_wp2_with (go_at_call 59; refine (len32_any _ _ hd).mono ?_; rintro e w' ⟨rfl, rfl⟩)
    go_ret
    exact ⟨ret_int (by rw [HT.out]; omega), rfl⟩
end Go.Proofs.Ytegbhenchmfngaa
