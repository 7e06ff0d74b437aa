/- nat.Mul: the product. -/
import Derived.Test.YtegbhenchmfngaaAddTimes
import Derived.Test.YtegbhenchmfngaaTrim
import Derived.Deep.RegionWith
namespace Go.Proofs.Ytegbhenchmfngaa
open Go.RowKit

set_option maxHeartbeats 800000 in
theorem mul_any (A B : Option Addr) (n c m d M N : Nat) (w : World) (hM : IsNat w A n M) (hN : IsNat w B m N) (hc : n ≤ c) (hd : m ≤ d) (hcm : c ≤ 9223372036854775807) (hdm : d ≤ 9223372036854775807) (hn : n ≤ 1099511627775) (hm : m ≤ 1099511627775) :
    Calls Try.prog 25 #[.slice A n c, .slice B m d] w fun e w' => ∃ A' c', e = .returned (.slice A' (Nt.wlen (M * N)) c') ∧ Own w.heap.size w' A' (Nt.wlen (M * N)) c' (M * N) ∧ Below w.heap.size w w' := by
  have hMl := hM.wl
  have hNl := hN.wl
  have htM := hM.trim
  have htN := hN.trim
  have hMw := Nt.lt_pw_wlen M
  have hNw := Nt.lt_pw_wlen N
  have HM := fun w (h : IsNat w A n M) => trim_any A n c M w h hc hcm
  have HN := fun w (h : IsNat w B m N) => trim_any B m d N w h hd hdm
  generalize Nt.wlen M = x at *
  generalize Nt.wlen N = y at *
  have hmk := make_words (x + y) (by omega) ((x : Int) + (y : Int)) (by omega) (by omega)
  go_enter Try.func25, Try.ntmps25
  go_wp2_with fail
  refine (HM _ hM).mono ?_; rintro e w' ⟨rfl, rfl⟩
  go_wp2_with fail
  refine (HN _ hN).mono ?_; rintro e w' ⟨rfl, rfl⟩
  go_wp2_with fail
  clear hmk HM HN
  have hfM := far_of htM (Nat.le_refl _)
  have hfN := far_of htN (Nat.le_refl _)
  have htM1 := htM.alloc (.cells (madeCells #[.int .u32 0] (x + y)) 44)
  have htN1 := htN.alloc (.cells (madeCells #[.int .u32 0] (x + y)) 44)
  have hrow := RowN.made w (x + y)
  have hbw : Below w.heap.size w (w.alloc (.cells (madeCells #[.int .u32 0] (x + y)) 44)) := (Below.refl _ _).alloc (Nat.le_refl _) _
  generalize w.alloc (.cells (madeCells #[.int .u32 0] (x + y)) 44) = w1 at *
  have hg' : w.heap.size ≤ w.heap.size := Nat.le_refl _
  obtain ⟨g, hg⟩ : ∃ g, g = w.heap.size := ⟨_, rfl⟩
  have HB := Lib.hid hbw
  clear hbw hM hN hc hd
  go_loopw [19] (fun i wr => ∃ k : Nat, i = .int .i64 k ∧ k ≤ x ∧ RowN wr w.heap.size (x + y) (Nt.dig (Nt.mulP M N k)) ∧ Only w.heap.size w1 wr) (fun i _ => x - (intOf i).toNat)
  case atStart => exact ⟨0, rfl, Nat.zero_le _, hrow.congr fun j _ => by rw [Nt.mulP_zero, Nt.dig_of_lt (Nt.pw_pos j)], Only.refl _ _⟩
  case round =>
    obtain ⟨k, rfl, hk, hrk, hok⟩ := hrel
    by_cases hlt : k < x
    · have hMk := hok.nat htM1 hfM
      have hNk := hok.nat htN1 hfN
      obtain ⟨b, o, rfl, hcell⟩ := hMk.2 (by omega)
      have h1 := hcell k hlt
      have hP := Nt.mulP_lt (M := M) hNw k
      have hP' : Nt.mulP M N k / Nt.pw k < Nt.pw y := Nat.div_lt_of_lt_mul (by rw [← Nt.pw_add]; exact hP)
      have HA := Lib.hid (addTimes_any w.heap.size k (x + y - k) (x + y - k) (x + y) _ B y d (Nt.mulP M N k / Nt.pw k) N (Nt.dig M k) wr.drew hrk.drew (by omega) (by omega) hNk.drew hfN hP' (fun j _ => (Nt.dig_div_pw _ _ _).symm) (Nt.dig_lt _ _) (by omega))
      clear hcell
      go_wp2_with fail
      go_region_with (go_at_call 56; refine (HA.out).mono ?_; rintro e w2 ⟨rfl, hrow2, hok2⟩; have s1 := hrow2.cell (i := k + y) (by omega); rw [if_neg (by omega)] at s1; have s2 := hrow2.frozen (k + y))
      all_goals
        go_wp2_with fail
        go_roundw
        case rel =>
          obtain ⟨q1, q2, q3, q4, q5⟩ := Nt.mul_next (M := M) (k := k) hNw rfl
          have hst := hrow2.set_ (k + y) ((Nt.mulP M N k / Nt.pw k + N * Nt.dig M k) / Nt.pw y)
          refine ⟨k + 1, by go_num, by omega, hst.congr fun j hj => ?_, ((hok.drew.trans hok2).set_ _ _)⟩
          by_cases e1 : j = k + y
          · subst e1
            rw [if_pos rfl, q3]
          · rw [if_neg e1]
            by_cases e2 : j < k
            · rw [if_neg (by omega), q1 j e2]
            · by_cases e3 : j < k + y
              · rw [if_pos (by omega), ← q2 (j - k) (by omega), show k + (j - k) = j from by omega]
              · rw [if_neg (by omega), q5 j (by omega)]
                exact Nt.dig_of_lt (Nat.lt_of_lt_of_le hP (Nt.pw_mono (by omega)))
        case measure => simp [intOf] <;> omega
    · have hk' : k = x := by omega
      subst hk'
      rw [Nt.mulP_full hMw] at hrk
      have hlt2 : M * N < Nt.pw (k + y) := by rw [← Nt.mulP_full (N := N) hMw]; exact Nt.mulP_lt hNw k
      have hown := Own.of_row (n := k + y) (N := M * N) hrk hg' (by omega) (Nat.le_refl _) hlt2 (fun j _ => rfl)
      have HO := Lib.hid hown
      have HB2 := Lib.hid (hok.below HB.out hg')
      have hnat := hown.nat
      clear hown hlt2
      go_wp2_with (go_at_call 42; refine (trim_any _ _ _ (M * N) _ hnat (by omega) (by omega)).mono ?_; rintro e w' ⟨rfl, rfl⟩)
      go_ret
      exact ⟨_, _, rfl, HO.out.trim, HB2.out⟩
end Go.Proofs.Ytegbhenchmfngaa
