/- Long division by the topmost words: plain arithmetic. -/
import Derived.Test.YtegbhenchmfngaaBase
namespace Go.Proofs.Ytegbhenchmfngaa
namespace Nt

/-! ### Shifts -/
theorem addT0_lt {N W k : Nat} (hW : 0 < W) : addT 0 N W k / pw k < W := by
  refine Nat.div_lt_of_lt_mul ?_
  unfold addT
  rw [Nat.zero_mod, Nat.zero_add]
  exact Nat.mul_lt_mul_of_pos_right (mod_lt_pw _ _) hW
theorem dig_zero (j : Nat) : dig 0 j = 0 := dig_of_lt (pw_pos j)
theorem or_bits {a y b : Nat} (hy : y < 2 ^ b) : y ||| a * 2 ^ b = a * 2 ^ b + y := by
  have h := Nat.shiftLeft_add_eq_or_of_lt (a := a) (b := y) (i := b) hy
  rw [Nat.shiftLeft_eq] at h
  rw [Nat.or_comm, ← h]
theorem two_le {b : Nat} (h : b ≤ 31) : 2 ^ b ≤ 2147483648 := Nat.le_trans (Nat.pow_le_pow_right (by decide) h) (by decide)
theorem shr_digit {X i b : Nat} (h : b ≤ 31) : dig (X / 2 ^ b) i = (dig X (i + 1) * K + dig X i) / 2 ^ b % K := by
  have e : X / pw i = X / pw (i + 2) * K * K + (dig X (i + 1) * K + dig X i) := by
    have e1 : X / pw (i + 1) = X / pw (i + 2) * K + dig X (i + 1) := div_pw_split X (i + 1)
    rw [div_pw_split X i, e1, Nat.add_mul, Nat.add_assoc]
  have hK : K = 2 ^ (32 - b) * 2 ^ b := by rw [← Nat.pow_add, show 32 - b + b = 32 by omega]; rfl
  have h1 : X / pw (i + 2) * K * K + (dig X (i + 1) * K + dig X i) = (dig X (i + 1) * K + dig X i) + (X / pw (i + 2) * K * 2 ^ (32 - b)) * 2 ^ b := by
    conv => lhs; arg 1; rw [hK]
    rw [Nat.add_comm]
    congr 1
    rw [← Nat.mul_assoc]
    congr 2
    rw [← hK]
  have h0 : dig (X / 2 ^ b) i = X / pw i / 2 ^ b % K := by unfold dig; rw [Nat.div_div_eq_div_mul, Nat.mul_comm (2 ^ b), ← Nat.div_div_eq_div_mul]
  rw [h0, e, h1, Nat.add_mul_div_right _ _ (Nat.two_pow_pos b)]
  rw [show X / pw (i + 2) * K * 2 ^ (32 - b) = X / pw (i + 2) * 2 ^ (32 - b) * K from Nat.mul_right_comm _ _ _, Nat.add_mul_mod_self_right]
theorem div_shift (M a b : Nat) : M / pw a / 2 ^ b = M / 2 ^ (32 * a + b) := by rw [pw_two, Nat.div_div_eq_div_mul, ← Nat.pow_add]
theorem mul_shift (M a b : Nat) : M * 2 ^ b * pw a = M * 2 ^ (32 * a + b) := by rw [pw_two, Nat.mul_assoc, ← Nat.pow_add, Nat.add_comm]

/-! ### The guess -/
theorem K_sq_half : K * K / 2 = 9223372036854775808 := by decide
theorem guess_ok {V D m : Nat} (hm : 2 ≤ m) (hn : pw m ≤ 2 * D) (hV : V < D * K) {t : Nat} (ht : t = min (V / pw (m - 2) / (D / pw (m - 2))) (K - 1)) : t = V / D ∨ t = V / D + 1 := by
  have hp := pw_pos (m - 2)
  have hpm : pw m = K * K * pw (m - 2) := by
    have : m = (m - 2) + 1 + 1 := by omega
    conv => lhs; rw [this]
    rw [pw_succ, pw_succ, Nat.mul_assoc, Nat.mul_comm]
  generalize pw (m - 2) = p at *
  have hD2 : K * K / 2 ≤ D / p := by
    refine (Nat.le_div_iff_mul_le hp).2 ?_
    have : K * K / 2 * 2 = K * K := by decide
    have : K * K / 2 * p * 2 = K * K * p := by rw [Nat.mul_right_comm, this]
    omega
  rw [K_sq_half] at hD2
  have hD0 : 0 < D := Nat.pos_of_ne_zero fun h => by rw [h, Nat.zero_div] at hD2; omega
  have hq : V / D < K := Nat.div_lt_of_lt_mul hV
  have hqV := Nat.div_mul_le_self V D
  have hDp := Nat.div_mul_le_self D p
  have hDp' : D < (D / p + 1) * p := by
    have := Nat.lt_div_mul_add (a := D) hp
    rw [Nat.add_mul, Nat.one_mul]; exact this
  have hVq : V < (V / D + 1) * D := by
    have := Nat.lt_div_mul_add (a := V) hD0
    rw [Nat.add_mul, Nat.one_mul]; exact this
  have h1 : V / D ≤ V / p / (D / p) := by
    refine (Nat.le_div_iff_mul_le (by omega)).2 ((Nat.le_div_iff_mul_le hp).2 ?_)
    rw [Nat.mul_assoc]
    exact Nat.le_trans (Nat.mul_le_mul_left _ hDp) hqV
  have h2 : t ≤ V / D + 1 := by
    rcases Nat.lt_or_ge (V / D + 1) t with h | h
    · exfalso
      have hQ : V / D + 2 ≤ V / p / (D / p) := by omega
      have h3 := (Nat.le_div_iff_mul_le hp).1 ((Nat.le_div_iff_mul_le (show 0 < D / p by omega)).1 hQ)
      have h4 : (V / D + 1) * D < (V / D + 1) * ((D / p + 1) * p) := (Nat.mul_lt_mul_left (Nat.succ_pos _)).2 hDp'
      rw [← Nat.mul_assoc] at h4
      have h5 : (V / D + 2) * (D / p) * p < (V / D + 1) * (D / p + 1) * p := Nat.lt_of_le_of_lt h3 (Nat.lt_trans hVq h4)
      have h6 := Nat.lt_of_mul_lt_mul_right h5
      have e1 : (V / D + 2) * (D / p) = (V / D + 1) * (D / p) + D / p := by
        show (V / D + 1 + 1) * (D / p) = _
        rw [Nat.add_mul (V / D + 1) 1, Nat.one_mul]
      have e2 : (V / D + 1) * (D / p + 1) = (V / D + 1) * (D / p) + (V / D + 1) := by rw [Nat.mul_add, Nat.mul_one]
      rw [K_eq] at hq
      omega
    · exact h
  omega
/-- What the loop of the guess keeps. -/
theorem guess_test {V D m times left : Nat} (hm : 2 ≤ m) (hn : pw m ≤ 2 * D) (hinv : times * (D / pw (m - 1)) + left = V / pw (m - 1)) :
    (times * dig D (m - 2) ≤ left * K + dig V (m - 2) ↔ times ≤ V / pw (m - 2) / (D / pw (m - 2))) := by
  have e1 := div_pw_split D (m - 2)
  have e2 := div_pw_split V (m - 2)
  rw [show m - 2 + 1 = m - 1 by omega] at e1 e2
  have hp := pw_pos (m - 2)
  have hD2 : 0 < D / pw (m - 2) := by
    refine Nat.div_pos ?_ hp
    have : pw m = K * K * pw (m - 2) := by
      have : m = (m - 2) + 1 + 1 := by omega
      conv => lhs; rw [this]
      rw [pw_succ, pw_succ, Nat.mul_assoc, Nat.mul_comm]
    have h3 : 2 * pw (m - 2) ≤ K * K * pw (m - 2) := Nat.mul_le_mul_right _ (by decide)
    omega
  rw [Nat.le_div_iff_mul_le hD2, e2, e1, ← hinv, Nat.mul_add, Nat.add_mul, ← Nat.mul_assoc]
  omega
theorem guess_top {V D m : Nat} (hV : V < D * K) : V / pw (m - 1) < (D / pw (m - 1) + 1) * K := by
  have hp := pw_pos (m - 1)
  refine Nat.div_lt_of_lt_mul (Nat.lt_of_lt_of_le hV ?_)
  rw [← Nat.mul_assoc, Nat.mul_comm (pw (m - 1))]
  refine Nat.mul_le_mul_right _ (Nat.le_of_lt ?_)
  have := Nat.lt_div_mul_add (a := D) hp
  rw [Nat.add_mul, Nat.one_mul]; exact this
theorem guess_first {D m : Nat} (hm : 1 ≤ m) (hn : pw m ≤ 2 * D) (hD : D < pw m) : 2147483648 ≤ D / pw (m - 1) ∧ D / pw (m - 1) < 4294967296 := by
  have e : pw m = pw (m - 1) * K := by rw [← pw_succ]; congr 1; omega
  constructor
  · refine (Nat.le_div_iff_mul_le (pw_pos _)).2 ?_
    rw [e, K_eq] at hn
    omega
  · exact Nat.div_lt_of_lt_mul (by rw [← K_eq, ← e]; exact hD)
theorem guess_init {V D m : Nat} (hm : 2 ≤ m) (hn : pw m ≤ 2 * D) (hD : D < pw m) : V / pw (m - 2) / (D / pw (m - 2)) ≤ V / pw (m - 1) / (D / pw (m - 1)) := by
  have h1 := (guess_first (by omega) hn hD).1
  have e1 := div_pw_split D (m - 2)
  have e2 := div_pw_split V (m - 2)
  rw [show m - 2 + 1 = m - 1 by omega] at e1 e2
  have hv := dig_lt V (m - 2)
  generalize D / pw (m - 1) = d1 at *
  generalize V / pw (m - 1) = top at *
  have hd : d1 * K ≤ D / pw (m - 2) := by omega
  refine Nat.le_trans (Nat.div_le_div_left hd (Nat.mul_pos (by omega) K_pos)) ?_
  have h3 : (top * K + dig V (m - 2)) / K = top := by
    rw [Nat.mul_comm top, Nat.mul_add_div K_pos, Nat.div_eq_of_lt (show dig V (m - 2) < K from hv), Nat.add_zero]
  rw [Nat.mul_comm d1, ← Nat.div_div_eq_div_mul, e2, h3]
  exact Nat.le_refl _

/-! ### One step -/
theorem step_low {V D t P R br : Nat} (hR : R < P) (hD : D ≤ P) (hD0 : 0 < D) (ht : t = V / D) (h : R + D * t = V % P + br * P) : R = V % D ∧ br = V / P := by
  have hP : 0 < P := by omega
  have hr := Nat.mod_lt V hD0
  have h1 := Nat.div_add_mod V D
  have h2 := Nat.div_add_mod V P
  rw [Nat.mul_comm P] at h2
  rw [← ht] at h1
  have e : R + V / P * P = V % D + br * P := by omega
  have e1 : (R + V / P * P) / P = V / P := by rw [Nat.add_mul_div_right _ _ hP, Nat.div_eq_of_lt hR, Nat.zero_add]
  have e2 : (V % D + br * P) / P = br := by rw [Nat.add_mul_div_right _ _ hP, Nat.div_eq_of_lt (by omega), Nat.zero_add]
  have e3 : br = V / P := by rw [← e1, e, e2]
  rw [e3] at e
  exact ⟨by omega, e3⟩
theorem step_high {V D t P R br : Nat} (hR : R < P) (hD : D ≤ P) (hD0 : 0 < D) (ht : t = V / D + 1) (h : R + D * t = V % P + br * P) : R + D = V % D + 1 * P ∧ br = V / P + 1 := by
  have hP : 0 < P := by omega
  have hr := Nat.mod_lt V hD0
  have h1 := Nat.div_add_mod V D
  have h2 := Nat.div_add_mod V P
  rw [Nat.mul_comm P] at h2
  rw [ht, Nat.mul_add, Nat.mul_one] at h
  have e : R + D + V / P * P = V % D + br * P := by omega
  have hbr : br = V / P + 1 := by
    rcases Nat.lt_trichotomy br (V / P + 1) with h3 | h3 | h3
    · have : br * P ≤ V / P * P := Nat.mul_le_mul_right _ (by omega)
      omega
    · exact h3
    · have : (V / P + 2) * P ≤ br * P := Nat.mul_le_mul_right _ (by omega)
      rw [Nat.add_mul] at this
      omega
  rw [hbr, Nat.add_mul] at e
  exact ⟨by omega, hbr⟩
theorem long_step (M D i : Nat) : M / pw i % (D * K) = dig M i + K * (M / pw (i + 1) % D) ∧ M / pw i % (D * K) / D = dig (M / D) i ∧ M / pw i % (D * K) % D = M / pw i % D := by
  refine ⟨?_, ?_, ?_⟩
  · rw [Nat.mul_comm D, Nat.mod_mul, Nat.div_div_eq_div_mul, ← pw_succ]; rfl
  · rw [Nat.mod_mul_right_div_self]
    unfold dig
    rw [Nat.div_div_eq_div_mul, Nat.div_div_eq_div_mul, Nat.mul_comm]
  · exact Nat.mod_mul_right_mod _ _ _
theorem dig_cons_zero {a X : Nat} (ha : a < K) : dig (a + K * X) 0 = a := by
  unfold dig; rw [pw_zero, Nat.div_one, Nat.add_mul_mod_self_left, Nat.mod_eq_of_lt ha]
theorem dig_cons_succ {a X : Nat} (ha : a < K) (j : Nat) : dig (a + K * X) (j + 1) = dig X j := by
  unfold dig
  rw [pw_succ, Nat.mul_comm (pw j) K, ← Nat.div_div_eq_div_mul, Nat.add_mul_div_left _ _ K_pos, Nat.div_eq_of_lt ha, Nat.zero_add]
theorem quot_lt {M N n m : Nat} (hM : M < pw n) (hm : wlen N = m) (hm1 : 1 ≤ m) (hmn : m ≤ n) : M / N < pw (n - m + 1) := by
  have h1 := pw_le_of_lt_wlen (N := N) (n := m - 1) (by omega)
  refine Nat.div_lt_of_lt_mul (Nat.lt_of_lt_of_le hM ?_)
  have e : pw n = pw (m - 1) * pw (n - m + 1) := by rw [← pw_add]; congr 1; omega
  rw [e]
  exact Nat.mul_le_mul_right _ h1
/-- What is above the last word is less than a shifted divisor. -/
theorem long_start {M N n m b : Nat} (hM : M < pw n) (hm : 1 ≤ m) (hmn : m ≤ n) (hb : b ≤ 31) (hn : pw m ≤ 2 * (N * 2 ^ b)) : M * 2 ^ b / pw (n - m + 1) < N * 2 ^ b := by
  have h2 := two_le hb
  have e : pw n = pw (n - m + 1) * pw (m - 1) := by rw [← pw_add]; congr 1; omega
  have e2 : pw m = pw (m - 1) * K := by rw [← pw_succ]; congr 1; omega
  refine Nat.div_lt_of_lt_mul ?_
  have h3 : M * 2 ^ b < pw n * 2 ^ b := Nat.mul_lt_mul_of_pos_right hM (Nat.two_pow_pos b)
  refine Nat.lt_of_lt_of_le h3 ?_
  rw [e, Nat.mul_assoc]
  refine Nat.mul_le_mul_left _ ?_
  have h4 : pw (m - 1) * 2 ^ b ≤ pw (m - 1) * 2147483648 := Nat.mul_le_mul_left _ h2
  rw [e2, K_eq] at hn
  omega
/-- A number shifted till its topmost bit is that of its topmost word. -/
theorem top_shift {N m : Nat} (hm : wlen N = m + 1) : N * 2 ^ (32 - blen (dig N m)) < pw (m + 1) ∧ pw (m + 1) ≤ 2 * (N * 2 ^ (32 - blen (dig N m))) ∧ 32 - blen (dig N m) ≤ 31 := by
  have ht := dig_top hm
  have hd := dig_lt N m
  have hb := blen_top hm
  have hp := blen_pos ht
  have hle := blen_le_of (N := dig N m) (n := 32) (by simpa using hd)
  have hN0 : N ≠ 0 := fun h => by rw [h] at hm; cases hm
  have h1 := lt_blen N
  have h2 := le_blen hN0
  generalize blen (dig N m) = x at *
  rw [hb] at h1 h2
  have e : pw (m + 1) = 2 ^ (m * 32 + x) * 2 ^ (32 - x) := by rw [pw_two, ← Nat.pow_add]; congr 1; omega
  refine ⟨?_, ?_, by omega⟩
  · rw [e]
    exact Nat.mul_lt_mul_of_pos_right h1 (Nat.two_pow_pos _)
  · rw [e, ← Nat.mul_assoc]
    refine Nat.mul_le_mul_right _ ?_
    have : 2 ^ (m * 32 + x) = 2 ^ (m * 32 + x - 1) * 2 := by rw [← Nat.pow_succ]; congr 1; omega
    omega
theorem div_scale {M N : Nat} (b : Nat) : M * 2 ^ b / (N * 2 ^ b) = M / N := Nat.mul_div_mul_right _ _ (Nat.two_pow_pos b)
theorem mod_scale {M N : Nat} (b : Nat) : M * 2 ^ b % (N * 2 ^ b) / 2 ^ b = M % N := by rw [Nat.mul_mod_mul_right, Nat.mul_div_cancel _ (Nat.two_pow_pos b)]
end Nt
end Go.Proofs.Ytegbhenchmfngaa
