/- Contracts of the small functions of package nat that only read. -/
import Derived.Test.YtegbhenchmfngaaRows
import Derived.Test.YtegbhenchmfngaaBase
import Derived.WalkSpells
import Derived.WalkLawsBesides
namespace Go.Proofs.Ytegbhenchmfngaa
open Go.RowKit

set_option maxHeartbeats 400000 in
theorem trim_any (A : Option Addr) (n c N : Nat) (w : World) (h : IsNat w A n N) (hc : n ≤ c) (hm : c ≤ 9223372036854775807) :
    Calls Try.prog 42 #[.slice A n c] w fun e w' => e = .returned (.slice A (Nt.wlen N) c) ∧ w = w' := by
  go_enter Try.func42, Try.ntmps42
  go_wp2
  go_loop [3] (fun i => ∃ k : Nat, k ≤ n ∧ i = .int .i64 k ∧ N < Nt.pw k) (fun i => (intOf i).toNat)
  case atStart => exact ⟨n, Nat.le_refl _, rfl, h.1⟩
  case round =>
    obtain ⟨k, hk, rfl, hN⟩ := hrel
    cases k with
    | zero =>
      have e : Nt.wlen N = 0 := Nat.le_zero.1 (Nt.wlen_le hN)
      have E := Lib.hid e
      clear e
      go_wp2
      go_ret
      exact ⟨ret_slice E.out.symm, rfl⟩
    | succ k =>
      obtain ⟨b, o, rfl, hcell⟩ := h.2 (by omega)
      have h0 := hcell k (by omega)
      clear hcell
      by_cases hd : Nt.dig N k = 0
      · rw [hd] at h0
        have hN' := Nt.lt_pw_of_dig hN hd
        clear hd
        go_wp2
        go_round
        case rel => exact ⟨k, by omega, by go_num, hN'⟩
        case measure => simp [intOf] <;> omega
      · have hz : ((Nt.dig N k : Int) == 0) = false := by simp; omega
        have e := Nt.wlen_eq hN (Nt.le_of_dig hd)
        have E := Lib.hid e
        clear e hd
        go_wp2
        go_ret
        exact ⟨ret_slice E.out.symm, rfl⟩

end Go.Proofs.Ytegbhenchmfngaa
