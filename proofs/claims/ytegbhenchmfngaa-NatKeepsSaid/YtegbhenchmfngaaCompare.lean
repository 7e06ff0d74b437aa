/- nat.Compare: which of two numbers is less. -/
import Derived.Test.YtegbhenchmfngaaTrim
import Derived.Test.YtegbhenchmfngaaCmp
import Derived.Deep.QuietTactic
import Derived.BigQuiet
namespace Go.Proofs.Ytegbhenchmfngaa
open Go.RowKit

set_option maxHeartbeats 400000 in
theorem compare_any (A B : Option Addr) (n c m d M N : Nat) (w : World) (hM : IsNat w A n M) (hN : IsNat w B m N) (hc : n ≤ c) (hd : m ≤ d) (hcm : c ≤ 9223372036854775807) (hdm : d ≤ 9223372036854775807) :
    Calls Try.prog 21 #[.slice A n c, .slice B m d] w fun e w' => e = .returned (.int .i64 (Nt.cmp M N)) ∧ ∃ q, w' = w.drewN q := by
  have hlm := hM.wl
  have hln := hN.wl
  have htM := hM.trim
  have htN := hN.trim
  by_cases hne : Nt.wlen M = Nt.wlen N
  · have hz : ((Nt.wlen M : Int) != (Nt.wlen N : Int)) = false := by rw [hne]; simp
    have hMl := Nt.lt_pw_wlen M
    have hNl := Nt.lt_pw_wlen N
    rw [hne] at htM hMl hlm
    have HE := Lib.hid hne
    clear hne
    go_enter Try.func21, Try.ntmps21
    go_wp2_with fail
    refine (trim_any _ _ _ M _ hM hc hcm).mono ?_; rintro e w' ⟨rfl, rfl⟩
    go_wp2_with fail
    refine (trim_any _ _ _ N _ hN hd hdm).mono ?_; rintro e w' ⟨rfl, rfl⟩
    rw [HE.out]
    go_wp2_with fail
    have hL : Nt.wlen N ≤ 9223372036854775807 := by omega
    clear HE hlm hln hM hN hc hd
    generalize Nt.wlen N = L at *
    go_loopw [23] (fun i wr => (∃ q, wr = w.drewN q) ∧ ∃ k : Nat, k ≤ L ∧ i = .int .i64 k ∧ M / Nt.pw (L - k) = N / Nt.pw (L - k)) (fun i _ => L - (intOf i).toNat)
    case atStart => exact ⟨⟨0, rfl⟩, 0, Nat.zero_le _, rfl, by rw [Nat.sub_zero, Nt.div_pw_of_lt hMl, Nt.div_pw_of_lt hNl]⟩
    case round =>
      obtain ⟨⟨q, hq⟩, k, hk, rfl, hdiv⟩ := hrel
      have HQ : Hid (∃ q, wr = w.drewN q) := ⟨q, hq⟩
      have htM : IsNat wr A L M := by rw [hq]; exact htM
      have htN : IsNat wr B L N := by rw [hq]; exact htN
      clear hq
      by_cases hlt : k < L
      · obtain ⟨b, o, rfl, hcM⟩ := htM.2 (by omega)
        obtain ⟨b', o', rfl, hcN⟩ := htN.2 (by omega)
        have h1 := hcM (L - 1 - k) (by omega)
        have h2 := hcN (L - 1 - k) (by omega)
        rw [show L - k = L - 1 - k + 1 from by omega] at hdiv
        have HD := Lib.hid hdiv
        clear hcM hcN hdiv
        by_cases hdg : Nt.dig M (L - 1 - k) = Nt.dig N (L - 1 - k)
        · have hz1 : ((Nt.dig M (L - 1 - k) : Int) != (Nt.dig N (L - 1 - k) : Int)) = false := by rw [hdg]; simp
          have HG := Lib.hid hdg
          clear hdg
          go_wp2_with fail
          go_quiet (fail)
          go_wp2_with fail
          go_roundw
          case rel => exact ⟨by obtain ⟨q, hq⟩ := HQ.out; exact ⟨q + nq, by rw [hq, World.drewN_drewN]⟩, k + 1, by omega, by go_num, by rw [show L - (k + 1) = L - 1 - k from by omega]; exact Nt.div_of_dig HD.out HG.out⟩
          case measure => simp [intOf] <;> omega
        · have hz1 : ((Nt.dig M (L - 1 - k) : Int) != (Nt.dig N (L - 1 - k) : Int)) = true := by simp; omega
          have hcc : Nt.cmp (Nt.dig M (L - 1 - k) : Int) (Nt.dig N (L - 1 - k) : Int) = Nt.cmp M N := by
            rcases Nat.lt_or_ge (Nt.dig M (L - 1 - k)) (Nt.dig N (L - 1 - k)) with h | h
            · rw [Nt.cmp_lt (by omega), Nt.cmp_lt (by have := Nt.lt_of_dig HD.out h; omega)]
            · have h' : Nt.dig N (L - 1 - k) < Nt.dig M (L - 1 - k) := by omega
              rw [Nt.cmp_gt (by omega), Nt.cmp_gt (by have := Nt.lt_of_dig HD.out.symm h'; omega)]
          have HC := Lib.hid hcc
          clear hcc hdg
          go_wp2_with fail
          go_quiet (fail)
          go_wp2_with fail
          go_quiet ((go_at_call 51; exact quiet_add_left (cmp_u32 _ _ _)))
          go_wp2_with fail
          go_ret
          refine ⟨ret_int HC.out, ?_⟩
          obtain ⟨q, hq⟩ := HQ.out
          rw [hq, World.drewN_drewN, World.drewN_drewN]
          exact ⟨_, rfl⟩
      · have hk' : k = L := by omega
        subst hk'
        rw [Nat.sub_self, Nt.pw_zero, Nat.div_one, Nat.div_one] at hdiv
        have HD := Lib.hid hdiv
        clear hdiv
        go_wp2_with fail
        go_ret
        exact ⟨ret_int (by rw [Nt.cmp_eq (by rw [HD.out])]), HQ.out⟩
  · have hz : ((Nt.wlen M : Int) != (Nt.wlen N : Int)) = true := by simp; omega
    have hcc : Nt.cmp (Nt.wlen M : Int) (Nt.wlen N : Int) = Nt.cmp M N := by
      rcases Nat.lt_or_ge (Nt.wlen M) (Nt.wlen N) with h | h
      · rw [Nt.cmp_lt (by omega), Nt.cmp_lt (by have := Nt.cmp_wlen h; omega)]
      · have h' : Nt.wlen N < Nt.wlen M := by omega
        rw [Nt.cmp_gt (by omega), Nt.cmp_gt (by have := Nt.cmp_wlen h'; omega)]
    have HC := Lib.hid hcc
    clear hcc hne
    go_enter Try.func21, Try.ntmps21
    go_wp2_with fail
    refine (trim_any _ _ _ M _ hM hc hcm).mono ?_; rintro e w' ⟨rfl, rfl⟩
    go_wp2_with fail
    refine (trim_any _ _ _ N _ hN hd hdm).mono ?_; rintro e w' ⟨rfl, rfl⟩
    go_wp2_with fail
    refine (cmp_int _ _ _).mono ?_; rintro e w' ⟨rfl, rfl⟩
    go_wp2
    go_ret
    exact ⟨ret_int HC.out, 0, rfl⟩

end Go.Proofs.Ytegbhenchmfngaa
