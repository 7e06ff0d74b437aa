/- nat.takeTimes: so many times a number is taken from a row's words. -/
import Derived.Test.YtegbhenchmfngaaMem
namespace Go.Proofs.Ytegbhenchmfngaa
open Go.RowKit

set_option maxHeartbeats 400000 in
theorem takeTimes_any (g o n c L : Nat) (F : Nat → Nat) (B : Option Addr) (m d M N W : Nat) (w : World) (hr : RowN w g L F) (hl : o + n ≤ L) (hmn : m ≤ n) (hB : IsNat w B m N) (hne : 0 < m → ∀ b' o', B = some ⟨b', o', none⟩ → b' ≠ g)
    (hM : M < Nt.pw m) (hF : ∀ j, j < m → F (o + j) = Nt.dig M j) (hW : W < 4294967296) (hL : L ≤ 1152921504606846976) :
    Calls Try.prog 47 #[.slice (some ⟨g, o, none⟩) n c, .slice B m d, .int .u32 W] w fun e w' => ∃ R br : Nat, R < Nt.pw m ∧ R + N * W = M + br * Nt.pw m ∧ br < Nt.K ∧ e = .returned (.int .u32 br) ∧
      RowN w' g L (fun j => if o ≤ j ∧ j < o + m then Nt.dig R (j - o) else F j) ∧ Only g w w' := by
  go_enter Try.func47, Try.ntmps47
  go_wp2
  go_loopw [7, 12] (fun cy i wr => ∃ k R br : Nat, k ≤ m ∧ i = .int .i64 k ∧ cy = .int .u64 br ∧ R < Nt.pw k ∧ R + (N % Nt.pw k) * W = M % Nt.pw k + br * Nt.pw k ∧ br < Nt.K ∧
    RowN wr g L (fun j => if o ≤ j ∧ j < o + k then Nt.dig R (j - o) else F j) ∧ Only g w wr) (fun _ i _ => m - (intOf i).toNat)
  case atStart =>
    refine ⟨0, 0, 0, Nat.zero_le _, rfl, rfl, Nt.pw_pos 0, by simp [Nt.mod_pw_zero], Nt.K_pos, hr.congr fun j _ => ?_, Only.refl _ _⟩
    rw [if_neg (by omega)]
  case round =>
    obtain ⟨k, R, br, hk, rfl, rfl, hR, hE, hbr, hrk, hok⟩ := hrel
    by_cases hlt : k < m
    · have hBk := hok.nat hB hne
      obtain ⟨b', o', rfl, hcB⟩ := hBk.2 (by omega)
      have h1 := hcB k hlt
      have h2 := hrk.cell (i := o + k) (by omega)
      rw [if_neg (by omega), hF k hlt] at h2
      have h3 := hrk.frozen (o + k)
      have hb := Nt.mul_word_le (Nt.dig_lt N k) hW
      have hd := Nt.dig_lt M k
      have hd' := Nt.dig_lt N k
      have HE := Lib.hid hE
      clear hcB hE
      generalize hxx : Nt.dig N k = x at *
      generalize hyy : Nt.dig M k = y at *
      rw [Nt.K_eq] at hbr
      obtain ⟨p, hp⟩ : ∃ p : Nat, p = x * W := ⟨_, rfl⟩
      obtain ⟨s, hs⟩ : ∃ s : Nat, s = br + p := ⟨_, rfl⟩
      rw [← hp] at hb
      have hpz : (x : Int) * (W : Int) = (p : Int) := by rw [hp]; simp
      obtain ⟨low, hlow⟩ : ∃ low : Nat, low = s % 4294967296 := ⟨_, rfl⟩
      obtain ⟨hi, hhi⟩ : ∃ hi : Nat, hi = s / 4294967296 := ⟨_, rfl⟩
      have e3 : IntKind.u64.wrap ((x : Int) * (W : Int)) = (p : Int) := by rw [hpz]; exact IntWalk.u64_in _ (by omega)
      have e6 : IntKind.u64.wrap ((br : Int) + (p : Int)) = (s : Int) := by rw [hs]; exact IntWalk.u64_in _ (by omega)
      have e6' : (br : Int) + (p : Int) = (s : Int) := by omega
      have e7 : (s : Int) % 4294967296 = (low : Int) := by omega
      have e8 : (s : Int) / 4294967296 = (hi : Int) := by omega
      have hsb : s ≤ 18446744073709551615 := by omega
      have hlowb : low < 4294967296 := by omega
      have hhib : hi < 4294967296 := by omega
      have HX := Lib.hid hxx
      have HY := Lib.hid hyy
      have HP := Lib.hid hp
      have HS := Lib.hid hs
      have HL := Lib.hid hlow
      have HH := Lib.hid hhi
      clear hxx hyy hp hs hb hlow hhi
      by_cases hc : y < low
      · obtain ⟨y', hy'⟩ : ∃ y' : Nat, y' = y + 4294967296 - low := ⟨_, rfl⟩
        have e9 : ((y : Int) - (low : Int)) % 4294967296 = (y' : Int) := by omega
        have e10 : IntKind.u32.wrap ((y : Int) - (low : Int)) = (y' : Int) := by rw [IntKind.wrap_u32]; omega
        have HY' := Lib.hid hy'
        clear hy'
        go_wp2_with fail
        clear e3 e6 e6' e7 e8 e9 e10 hpz
        go_roundw
        case rel =>
          obtain ⟨q1, q2, q3⟩ := Nt.take_step (c := 1) (low := low) (hi := hi) (y' := y') hR hW HE.out (by rw [HX.out, ← HP.out, ← HS.out, Nt.K_eq, HL.out, HH.out]; omega) (by rw [HY.out, Nt.K_eq]; have := HY'.out; omega) (by rw [Nt.K_eq]; have := HY'.out; omega)
          exact ⟨k + 1, R + y' * Nt.pw k, hi + 1, by omega, by go_num, rfl, q1, q2, q3, hrk.step (D' := Nt.dig (R + y' * Nt.pw k)) (by rw [Nt.dig_add_pw, Nt.div_pw_of_lt hR, Nat.zero_add]; exact Nat.mod_eq_of_lt (by rw [Nt.K_eq]; have := HY'.out; omega)) (fun j hj => Nt.dig_add_pw_lt _ _ hj), hok.set_ _ _⟩
        case measure => simp [intOf] <;> omega
      · obtain ⟨y', hy'⟩ : ∃ y' : Nat, y' = y - low := ⟨_, rfl⟩
        have e9 : (y : Int) - (low : Int) = (y' : Int) := by omega
        have e10 : IntKind.u32.wrap ((y : Int) - (low : Int)) = (y' : Int) := by rw [IntKind.wrap_u32]; omega
        have HY' := Lib.hid hy'
        clear hy'
        go_wp2_with fail
        clear e3 e6 e6' e7 e8 e9 e10 hpz
        go_roundw
        case rel =>
          obtain ⟨q1, q2, q3⟩ := Nt.take_step (c := 0) (low := low) (hi := hi) (y' := y') hR hW HE.out (by rw [HX.out, ← HP.out, ← HS.out, Nt.K_eq, HL.out, HH.out]; omega) (by rw [HY.out, Nt.K_eq]; have := HY'.out; omega) (by rw [Nt.K_eq]; have := HY'.out; omega)
          exact ⟨k + 1, R + y' * Nt.pw k, hi, by omega, by go_num, rfl, q1, q2, q3, hrk.step (D' := Nt.dig (R + y' * Nt.pw k)) (by rw [Nt.dig_add_pw, Nt.div_pw_of_lt hR, Nat.zero_add]; exact Nat.mod_eq_of_lt (by rw [Nt.K_eq]; have := HY'.out; omega)) (fun j hj => Nt.dig_add_pw_lt _ _ hj), hok.set_ _ _⟩
        case measure => simp [intOf] <;> omega
    · have hk' : k = m := by omega
      subst hk'
      have hbr' := hbr
      rw [Nt.K_eq] at hbr'
      rw [Nt.mod_pw_of_lt hM, Nt.mod_pw_of_lt hB.1] at hE
      have HE := Lib.hid hE
      clear hE
      go_wp2_with fail
      go_ret
      exact ⟨R, br, hR, HE.out, hbr, rfl, hrk, hok⟩

end Go.Proofs.Ytegbhenchmfngaa
