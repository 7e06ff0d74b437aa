/- Arithmetic of the document's products, quotients and shifts: digit by digit and bit by bit. -/
import Derived.Test.YtegbhenchmfngaaBase8
namespace Go.Proofs.Ytegbhenchmfngaa
namespace N8
theorem ofDigs_zero : ∀ n, ofDigs (fun _ => 0) n = 0
  | 0 => rfl
  | n + 1 => by rw [ofDigs, ofDigs_zero n, Nat.zero_mul]
theorem ofDigs_upd (f : Nat → Nat) (t v : Nat) : ∀ n, t < n → ofDigs (fun j => if j = t then f t + v else f j) n = ofDigs f n + v * pw t
  | 0, h => absurd h (by omega)
  | n + 1, h => by
    simp only [ofDigs]
    by_cases e : t = n
    · subst e
      rw [if_pos rfl, ofDigs_congr (g := f) (fun j hj => if_neg (by omega)), Nat.add_mul]; omega
    · rw [if_neg (fun h => e h.symm), ofDigs_upd f t v n (by omega)]; omega
theorem mulT_step (M N i j : Nat) : (M % pw i) * N + dig M i * (N % pw j) * pw i + dig M i * dig N j * pw (i + j) = (M % pw i) * N + dig M i * (N % pw (j + 1)) * pw i := by
  rw [mod_pw_succ N, pw_add, Nat.mul_add, Nat.add_mul]
  have : dig M i * dig N j * (pw i * pw j) = dig M i * (dig N j * pw j) * pw i := by ac_rfl
  omega
theorem mulT_done {M N i y : Nat} (h : N < pw y) : (M % pw i) * N + dig M i * (N % pw y) * pw i = (M % pw (i + 1)) * N := by
  rw [mod_pw_of_lt h, mod_pw_succ, Nat.add_mul]
  congr 1
  ac_rfl
theorem bit_dig (M q r : Nat) (hr : r < 8) : dig M q / 2 ^ r % 2 = M / 2 ^ (8 * q + r) % 2 := by
  unfold dig
  have e : K = 2 ^ r * (2 * 2 ^ (7 - r)) := by
    rw [← Nat.pow_succ', ← Nat.pow_add, show r + (7 - r).succ = 8 by omega]; rfl
  rw [e, Nat.mod_mul_right_div_self, Nat.mod_mul_right_mod, Nat.div_div_eq_div_mul, pw_two, ← Nat.pow_add]
/-- A digit more, at a place where it fits. -/
theorem dig_upd {Q q v : Nat} (h : dig Q q + v < 256) (j : Nat) : dig (Q + v * pw q) j = if j = q then dig Q q + v else dig Q j := by
  have hx := Nat.div_add_mod (Q / pw q) K
  have hd : dig Q q = Q / pw q % K := rfl
  by_cases e : j = q
  · subst e
    rw [if_pos rfl, dig_add_pw, hd]
    rw [hd] at h
    rw [← hx, Nat.add_assoc, Nat.mul_add_mod, Nat.mul_add_mod, Nat.mod_mod]
    exact Nat.mod_eq_of_lt h
  · rw [if_neg e]
    rcases Nat.lt_or_ge j q with hj | hj
    · rw [dig_add_pw_lt _ _ hj]
    · obtain ⟨t, rfl⟩ : ∃ t, j = q + (1 + t) := ⟨j - q - 1, by omega⟩
      unfold dig
      rw [pw_add, ← Nat.div_div_eq_div_mul, ← Nat.div_div_eq_div_mul, div_add_pw, pw_add, show pw 1 = K from Nat.pow_one K, ← Nat.div_div_eq_div_mul, ← Nat.div_div_eq_div_mul]
      rw [hd] at h
      have h1 : (Q / pw q + v) / K = Q / pw q / K := by
        conv => lhs; rw [← hx, Nat.add_assoc, Nat.mul_add_div K_pos]
        rw [Nat.div_eq_of_lt (show _ < K from h), Nat.add_zero]
      rw [h1]
theorem pw_bit (i : Nat) : 2 ^ (i % 8) * pw (i / 8) = 2 ^ i := by
  rw [pw_two, ← Nat.pow_add, Nat.mod_add_div]
theorem two_mod8 (i : Nat) : 2 ^ (i % 8) ≤ 128 := Nat.pow_le_pow_right (n := 2) (by decide) (show i % 8 ≤ 7 by omega)
/-- A number of bits above i leaves room for bit i. -/
theorem dig_room_hi (c i : Nat) : dig (c * 2 ^ (i + 1)) (i / 8) + 2 ^ (i % 8) < 256 := by
  unfold dig
  have e1 : c * 2 ^ (i + 1) = c * 2 ^ (i % 8 + 1) * pw (i / 8) := by
    rw [Nat.pow_succ, Nat.pow_succ, ← pw_bit]; ac_rfl
  rw [e1, Nat.mul_div_cancel _ (pw_pos _)]
  have e2 : K = 2 ^ (i % 8 + 1) * 2 ^ (7 - i % 8) := by
    rw [← Nat.pow_add, show i % 8 + 1 + (7 - i % 8) = 8 by omega]; rfl
  rw [Nat.mul_comm c, e2, Nat.mul_mod_mul_left]
  have h1 : c % 2 ^ (7 - i % 8) < 2 ^ (7 - i % 8) := Nat.mod_lt _ (Nat.two_pow_pos _)
  have h2 : 2 ^ (i % 8 + 1) * (c % 2 ^ (7 - i % 8) + 1) ≤ 2 ^ (i % 8 + 1) * 2 ^ (7 - i % 8) := Nat.mul_le_mul_left _ h1
  rw [← e2, K_eq, Nat.mul_add, Nat.pow_succ] at h2
  rw [Nat.pow_succ]
  have h3 := Nat.two_pow_pos (i % 8)
  omega
/-- A number below 2^p leaves room for bit p. -/
theorem dig_room_lo {O p b : Nat} (h : O < 2 ^ p) (hb : b ≤ 1) : dig O (p / 8) + b * 2 ^ (p % 8) < 256 := by
  have h1 : O / pw (p / 8) < 2 ^ (p % 8) := Nat.div_lt_of_lt_mul (by rw [Nat.mul_comm, pw_bit]; exact h)
  have h2 := two_mod8 p
  have h3 : b * 2 ^ (p % 8) ≤ 1 * 2 ^ (p % 8) := Nat.mul_le_mul_right _ hb
  have h4 : dig O (p / 8) ≤ O / pw (p / 8) := Nat.mod_le _ _
  omega
theorem shr_bit (M i : Nat) : M / 2 ^ i = 2 * (M / 2 ^ (i + 1)) + M / 2 ^ i % 2 := by
  rw [Nat.pow_succ, ← Nat.div_div_eq_div_mul]; omega
theorem mod_bit (M i : Nat) : M % 2 ^ (i + 1) = M % 2 ^ i + (M / 2 ^ i % 2) * 2 ^ i := by
  rw [Nat.pow_succ, Nat.mod_mul, Nat.mul_comm (2 ^ i)]
/-- Of a number with a bit more: quotient and rest. -/
theorem quot_bit {D N b : Nat} (hb : b ≤ 1) (hN : 0 < N) :
    (2 * (D % N) + b < N → (2 * D + b) % N = 2 * (D % N) + b ∧ (2 * D + b) / N = 2 * (D / N)) ∧
    (N ≤ 2 * (D % N) + b → (2 * D + b) % N = 2 * (D % N) + b - N ∧ (2 * D + b) / N = 2 * (D / N) + 1) := by
  have h0 := Nat.div_add_mod D N
  have h1 := Nat.mod_lt D hN
  have e : 2 * D + b = N * (2 * (D / N)) + (2 * (D % N) + b) := by
    have : N * (2 * (D / N)) = 2 * (N * (D / N)) := by ac_rfl
    rw [this]
    omega
  refine ⟨fun h => ?_, fun h => ?_⟩
  · rw [e, Nat.mul_add_mod, Nat.mul_add_div hN, Nat.mod_eq_of_lt h, Nat.div_eq_of_lt h]
    exact ⟨rfl, rfl⟩
  · have e2 : 2 * (D % N) + b = N * 1 + (2 * (D % N) + b - N) := by omega
    have h2 : 2 * (D % N) + b - N < N := by omega
    rw [e]
    conv => lhs; lhs; rw [e2]
    conv => rhs; lhs; rw [e2]
    rw [Nat.mul_add_mod, Nat.mul_add_mod, Nat.mul_add_div hN, Nat.mul_add_div hN, Nat.mod_eq_of_lt h2, Nat.div_eq_of_lt h2]
    exact ⟨rfl, rfl⟩
end N8
theorem i64_and1 (i : Nat) (hi : i < 9223372036854775808) : bits .and .i64 (i : Int) 1 = ((i % 2 : Nat) : Int) := by
  have p : (2 : Int) ^ 63 = 9223372036854775808 := by decide
  have h := bits_mask .i64 63 (by decide) (fun n h0 h1 => by rw [p] at h1; rw [IntKind.wrap_i64]; omega) 1 (by decide) (i : Int) (by omega) (by rw [p]; omega)
  rw [show ((2 : Int) ^ 1 - 1) = 1 by decide] at h
  rw [h]
  omega
end Go.Proofs.Ytegbhenchmfngaa
