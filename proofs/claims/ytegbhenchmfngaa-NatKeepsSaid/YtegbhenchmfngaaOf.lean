/- nat.Of and nat.Small: numbers of 64 bits. -/
import Derived.Test.YtegbhenchmfngaaMem
import Derived.Test.YtegbhenchmfngaaTrim
namespace Go.Proofs.Ytegbhenchmfngaa
open Go.RowKit

theorem of_cells (w : World) (N : Nat) (hN : N < 18446744073709551616) (q : Nat) (hq : q = N / 4294967296) (r : Nat) (hr : r = N % 4294967296) :
    RowN (w.alloc (.cells #[.int .u32 r, .int .u32 q] 44)) w.heap.size 2 (fun j => Nt.dig N j) := by
  refine World.rowIs_alloc w #[.int .u32 r, .int .u32 q] _ _ fun i hi => ?_
  have h0 : Nt.dig N 0 = r := by unfold Nt.dig; rw [Nt.pw_zero, Nat.div_one, Nt.K_eq, hr]
  have h1 : Nt.dig N 1 = q := by
    unfold Nt.dig
    rw [show Nt.pw 1 = 4294967296 from Nat.pow_one _, Nt.K_eq, hq]
    omega
  match i, hi with
  | 0, _ => show some (Value.int .u32 (r : Int)) = some (Value.int .u32 (Nt.dig N 0 : Int)); rw [h0]
  | 1, _ => show some (Value.int .u32 (q : Int)) = some (Value.int .u32 (Nt.dig N 1 : Int)); rw [h1]

set_option maxHeartbeats 400000 in
theorem of_any (N : Nat) (w : World) (hN : N < 18446744073709551616) :
    Calls Try.prog 33 #[.int .u64 N] w fun e w' => ∃ A c, e = .returned (.slice A (Nt.wlen N) c) ∧ Own w.heap.size w' A (Nt.wlen N) c N ∧ Below w.heap.size w w' := by
  have hp2 : N < Nt.pw 2 := hN
  obtain ⟨q, hq⟩ : ∃ q : Nat, q = N / 4294967296 := ⟨_, rfl⟩
  obtain ⟨r, hr⟩ : ∃ r : Nat, r = N % 4294967296 := ⟨_, rfl⟩
  have hrow := of_cells w N hN q hq r hr
  have e1 : (N : Int) / 4294967296 = (q : Int) := by omega
  have e2 : (N : Int) % 4294967296 = (r : Int) := by omega
  have hqb : q < 4294967296 := by omega
  have hNb : N ≤ 18446744073709551615 := by omega
  clear hq hr hN
  have hown := Own.of_row hrow (Nat.le_refl _) (by omega) (Nat.le_refl _) hp2 (fun j _ => rfl)
  have HO := Lib.hid hown
  have hnat := hown.nat
  clear hown hrow hp2
  go_enter Try.func33, Try.ntmps33
  go_wp2_with (go_at_call 42; refine (trim_any _ _ _ N _ hnat (by omega) (by omega)).mono ?_; rintro e w' ⟨rfl, rfl⟩)
  go_ret
  exact ⟨_, _, rfl, HO.out.trim, (Below.refl _ _).alloc (Nat.le_refl _) _⟩

set_option maxHeartbeats 400000 in
theorem small_big (A : Option Addr) (n c N : Nat) (w : World) (h : IsNat w A n N) (hc : n ≤ c) (hm : c ≤ 9223372036854775807) (hN : 18446744073709551616 ≤ N) :
    Calls Try.prog 29 #[.slice A n c] w fun e w' => e = .returned (.tuple #[.int .u64 0, .bool false]) ∧ w = w' := by
  have hl := h.wl
  have h3 : 2 < Nt.wlen N := by
    rcases Nat.lt_or_ge 2 (Nt.wlen N) with h | h
    · exact h
    · have h1 := Nt.lt_pw_wlen N
      have h2 := Nt.pw_mono h
      have h4 : Nt.pw 2 = 18446744073709551616 := rfl
      omega
  clear hN
  go_enter Try.func29, Try.ntmps29
  go_wp2_with (go_at_call 42; refine (trim_any _ _ _ N _ h hc hm).mono ?_; rintro e w' ⟨rfl, rfl⟩)
  go_ret2
  exact ⟨rfl, rfl⟩

set_option maxHeartbeats 400000 in
theorem small_yes (A : Option Addr) (n c N : Nat) (w : World) (h : IsNat w A n N) (hc : n ≤ c) (hm : c ≤ 9223372036854775807) (hN : N < 18446744073709551616) :
    Calls Try.prog 29 #[.slice A n c] w fun e w' => e = .returned (.tuple #[.int .u64 N, .bool true]) ∧ w = w' := by
  have hl := h.wl
  have h3 : Nt.wlen N ≤ 2 := Nt.wlen_le (show N < Nt.pw 2 from hN)
  have ht := h.trim
  have hlt := Nt.lt_pw_wlen N
  go_enter Try.func29, Try.ntmps29
  go_wp2_with (go_at_call 42; refine (trim_any _ _ _ N _ h hc hm).mono ?_; rintro e w' ⟨rfl, rfl⟩)
  generalize Nt.wlen N = L at *
  go_loop [4, 13] (fun s i => ∃ k v : Nat, k ≤ L ∧ i = .int .i64 k ∧ s = .int .u64 v ∧ v = N % Nt.pw k) (fun _ i => L - (intOf i).toNat)
  case atStart => exact ⟨0, 0, Nat.zero_le _, rfl, rfl, (Nt.mod_pw_zero N).symm⟩
  case round =>
    obtain ⟨k, v, hk, rfl, rfl, hv⟩ := hrel
    by_cases hk0 : k < L
    · obtain ⟨b, o, rfl, hcell⟩ := ht.2 (by omega)
      have h0 := hcell k hk0
      have hd := Nt.dig_lt N k
      have hs := Nt.mod_pw_succ N k
      clear hcell
      rcases (by omega : k = 0 ∨ k = 1) with rfl | rfl
      · rw [Nt.mod_pw_zero] at hv
        subst hv
        rw [Nat.add_zero] at h0
        generalize Nt.dig N 0 = x at *
        have e1 := or_u64_zero hd
        rw [Nt.mod_pw_zero, Nt.pw_zero] at hs
        have HS := Lib.hid hs
        clear hs
        go_wp2_with fail
        clear e1
        go_round
        case rel => exact ⟨1, x, by omega, rfl, rfl, by rw [HS.out]; omega⟩
        case measure => simp [intOf] <;> omega
      · generalize Nt.dig N 1 = x at *
        have hvb : v < 4294967296 := by rw [hv]; exact Nt.mod_lt_pw N 1
        have e1 := or_u64_word' hd hvb
        obtain ⟨s, hss⟩ : ∃ s : Nat, s = x * 4294967296 + v := ⟨_, rfl⟩
        rw [← hss] at e1
        have HS := Lib.hid hs
        have HV := Lib.hid hv
        have HSS := Lib.hid hss
        clear hs hv hss
        go_wp2_with fail
        clear e1
        go_round
        case rel => exact ⟨2, s, by omega, rfl, rfl, by rw [HSS.out, HS.out, ← HV.out, show Nt.pw 1 = 4294967296 from Nat.pow_one _]; omega⟩
        case measure => simp [intOf] <;> omega
    · have hk' : k = L := by omega
      subst hk'
      rw [Nt.mod_pw_of_lt hlt] at hv
      subst hv
      go_wp2_with fail
      go_ret2
      exact ⟨rfl, rfl⟩
end Go.Proofs.Ytegbhenchmfngaa
