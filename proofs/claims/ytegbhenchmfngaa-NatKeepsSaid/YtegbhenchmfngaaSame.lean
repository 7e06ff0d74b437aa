/- retortref01.Same and retortlaw01.long. -/
import Derived.Test.YtegbhenchmfngaaMem
namespace Go.Proofs.Ytegbhenchmfngaa
open Go.RowKit

set_option maxHeartbeats 400000 in
theorem same_len (A B : Option Addr) (n c m d : Nat) (w : World) (hne : n ≠ m) :
    Calls Try.prog 14 #[.slice A n c, .slice B m d] w fun e w' => e = .returned (.bool false) ∧ w = w' := by
  have hz : ((n : Int) != (m : Int)) = true := by simp; omega
  clear hne
  go_enter Try.func14, Try.ntmps14
  go_wp2_with fail
  go_ret
  exact ⟨rfl, rfl⟩

set_option maxHeartbeats 400000 in
theorem same_num (A B : Option Addr) (n c d M N : Nat) (w : World) (hM : IsNat w A n M) (hN : IsNat w B n N) (hn : n ≤ 9223372036854775807) :
    Calls Try.prog 14 #[.slice A n c, .slice B n d] w fun e w' => e = .returned (.bool (decide (M = N))) ∧ ∃ q, w' = w.drewN q := by
  have hMl := hM.1
  have hNl := hN.1
  go_enter Try.func14, Try.ntmps14
  go_wp2_with fail
  go_loopw [5] (fun i wr => (∃ q, wr = w.drewN q) ∧ ∃ k : Nat, k ≤ n ∧ i = .int .i64 k ∧ ∀ j, j < k → Nt.dig M j = Nt.dig N j) (fun i _ => n - (intOf i).toNat)
  case atStart => exact ⟨⟨0, rfl⟩, 0, Nat.zero_le _, rfl, fun j hj => absurd hj (by omega)⟩
  case round =>
    obtain ⟨⟨q, hq⟩, k, hk, rfl, hall⟩ := hrel
    have HQ : Hid (∃ q, wr = w.drewN q) := ⟨q, hq⟩
    have hM' : IsNat wr A n M := by rw [hq]; exact hM
    have hN' : IsNat wr B n N := by rw [hq]; exact hN
    have HA := Lib.hid hall
    clear hq hM hN hall
    by_cases hlt : k < n
    · obtain ⟨b, o, rfl, hcM⟩ := hM'.2 (by omega)
      obtain ⟨b', o', rfl, hcN⟩ := hN'.2 (by omega)
      have h1 := hcM k hlt
      have h2 := hcN k hlt
      clear hcM hcN
      by_cases hdg : Nt.dig M k = Nt.dig N k
      · have hz1 : ((Nt.dig M k : Int) != (Nt.dig N k : Int)) = false := by rw [hdg]; simp
        have HG := Lib.hid hdg
        clear hdg
        go_wp2_with fail
        go_quiet (fail)
        go_wp2_with fail
        go_roundw
        case rel => exact ⟨by obtain ⟨q, hq⟩ := HQ.out; exact ⟨q + nq, by rw [hq, World.drewN_drewN]⟩, k + 1, by omega, by go_num, fun j hj => by
          by_cases e : j = k
          · subst e; exact HG.out
          · exact HA.out j (by omega)⟩
        case measure => simp [intOf] <;> omega
      · have hz1 : ((Nt.dig M k : Int) != (Nt.dig N k : Int)) = true := by simp; omega
        have hne : decide (M = N) = false := by
          rw [decide_eq_false_iff_not]
          rintro rfl
          exact hdg rfl
        have HN := Lib.hid hne
        clear hdg hne
        go_wp2_with fail
        go_quiet (fail)
        go_wp2_with fail
        go_ret
        exact ⟨ret_bool HN.out.symm, by obtain ⟨q, hq⟩ := HQ.out; exact ⟨q + nq, by rw [hq, World.drewN_drewN]⟩⟩
    · have hk' : k = n := by omega
      subst hk'
      have he := Nt.eq_of_dig hMl hNl HA.out
      have hde : decide (M = N) = true := by rw [he]; simp
      have HD := Lib.hid hde
      clear he hde
      go_wp2_with fail
      go_ret
      exact ⟨ret_bool HD.out.symm, HQ.out⟩

/-- Canonical numbers are the same just if they are one. -/
theorem same_any (A B : Option Addr) (c d M N : Nat) (w : World) (hM : IsNat w A (Nt.wlen M) M) (hN : IsNat w B (Nt.wlen N) N) (hn : Nt.wlen M ≤ 9223372036854775807) :
    Calls Try.prog 14 #[.slice A (Nt.wlen M) c, .slice B (Nt.wlen N) d] w fun e w' => e = .returned (.bool (decide (M = N))) ∧ ∃ q, w' = w.drewN q := by
  by_cases h : Nt.wlen M = Nt.wlen N
  · rw [h] at hM ⊢
    rw [h] at hn
    exact same_num A B _ c d M N w hM hN hn
  · refine (same_len A B _ c _ d w h).mono fun e w' h' => ⟨?_, 0, h'.2.symm⟩
    rw [h'.1]
    exact ret_bool (by rw [eq_comm, decide_eq_false_iff_not]; rintro rfl; exact h rfl)

set_option maxHeartbeats 400000 in
theorem long_any (gl t ct : Nat) (Av : Nat → Option Addr) (Nv Cv : Nat → Nat) (w : World) (hc : ∀ i, i < t → w.cell? ⟨gl, i, none⟩ = some (.slice (Av i) (Nv i) (Cv i))) (ht : t ≤ 1000) (r : Bool) (hr : r = true ↔ ∃ i, i < t ∧ 80 < Nv i) :
    Calls Try.prog 13 #[.slice (some ⟨gl, 0, none⟩) t ct] w fun e w' => e = .returned (.bool r) ∧ w = w' := by
  go_enter Try.func13, Try.ntmps13
  go_wp2_with fail
  go_loop [3] (fun i => ∃ k : Nat, k ≤ t ∧ i = .int .i64 k ∧ ∀ j, j < k → Nv j ≤ 80) (fun i => t - (intOf i).toNat)
  case atStart => exact ⟨0, Nat.zero_le _, rfl, fun j hj => absurd hj (by omega)⟩
  case round =>
    obtain ⟨k, hk, rfl, hall⟩ := hrel
    have HA := Lib.hid hall
    have HR := Lib.hid hr
    clear hall hr
    by_cases hlt : k < t
    · have h1 := hc k hlt
      have HC := Lib.hid hc
      clear hc
      by_cases hb : 80 < Nv k
      · have hbi : (80 : Int) < (Nv k : Int) := by omega
        go_wp2_with fail
        go_ret
        exact ⟨ret_bool (HR.out.2 ⟨k, hlt, hb⟩).symm, rfl⟩
      · have hbi : ¬ (80 : Int) < (Nv k : Int) := by omega
        go_wp2_with fail
        go_round
        case rel => exact ⟨k + 1, by omega, by go_num, fun j hj => by
          by_cases e : j = k
          · subst e; omega
          · exact HA.out j (by omega)⟩
        case measure => simp [intOf] <;> omega
    · have hk' : k = t := by omega
      subst hk'
      go_wp2_with fail
      go_ret
      refine ⟨ret_bool ?_, rfl⟩
      cases r with
      | false => rfl
      | true =>
        obtain ⟨i, hi, h80⟩ := HR.out.1 rfl
        have := HA.out i hi
        omega
end Go.Proofs.Ytegbhenchmfngaa
