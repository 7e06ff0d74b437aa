/- Decimal digits, doubled bit by bit. -/
import Derived.Test.YtegbhenchmfngaaBase9
import Derived.Test.YtegbhenchmfngaaBase3
namespace Go.Proofs.Ytegbhenchmfngaa
namespace Nt
def d10 (N j : Nat) : Nat := N / 10 ^ j % 10
theorem d10_lt (N j : Nat) : d10 N j < 10 := Nat.mod_lt _ (by decide)
def dblC (D b k : Nat) : Nat := (2 * (D % 10 ^ k) + b) / 10 ^ k
theorem ten_pos (k : Nat) : 0 < 10 ^ k := Nat.pow_pos (by decide)
theorem dblC_zero (D b : Nat) : dblC D b 0 = b := by unfold dblC; rw [Nat.pow_zero, Nat.mod_one, Nat.div_one]; omega
theorem dblC_le {D b k : Nat} (hb : b ≤ 1) : dblC D b k ≤ 1 := by
  unfold dblC
  have h1 := Nat.mod_lt D (ten_pos k)
  have h2 : (2 * (D % 10 ^ k) + b) / 10 ^ k < 2 := Nat.div_lt_of_lt_mul (by omega)
  omega
theorem dbl_step (D b k : Nat) : (2 * d10 D k + dblC D b k) % 10 = d10 (2 * D + b) k ∧ (2 * d10 D k + dblC D b k) / 10 = dblC D b (k + 1) := by
  unfold d10 dblC
  have h0 := Nat.div_add_mod D (10 ^ k)
  have hp := ten_pos k
  rw [Nat.pow_succ, Nat.mod_mul]
  have e1 : 2 * D + b = 2 * (D % 10 ^ k) + b + 10 ^ k * (2 * (D / 10 ^ k)) := by
    have : 10 ^ k * (2 * (D / 10 ^ k)) = 2 * (10 ^ k * (D / 10 ^ k)) := by ac_rfl
    omega
  have e2 : 2 * (D % 10 ^ k + 10 ^ k * (D / 10 ^ k % 10)) + b = 2 * (D % 10 ^ k) + b + 10 ^ k * (2 * (D / 10 ^ k % 10)) := by
    have : 10 ^ k * (2 * (D / 10 ^ k % 10)) = 2 * (10 ^ k * (D / 10 ^ k % 10)) := by ac_rfl
    omega
  rw [e1, e2, Nat.add_mul_div_left _ _ hp, ← Nat.div_div_eq_div_mul, Nat.add_mul_div_left _ _ hp]
  generalize (2 * (D % 10 ^ k) + b) / 10 ^ k = c
  generalize D / 10 ^ k = q
  omega
theorem dblC_end {D b L : Nat} (h : D < 10 ^ L) : dblC D b L = (2 * D + b) / 10 ^ L := by unfold dblC; rw [Nat.mod_eq_of_lt h]
theorem isDec_same {D b L : Nat} (h : IsDec D L) (hc : (2 * D + b) / 10 ^ L = 0) : IsDec (2 * D + b) L := by
  obtain ⟨h1, h2, h3⟩ := h
  refine ⟨h1, ?_, h3.imp id (fun h => by omega)⟩
  rcases Nat.div_eq_zero_iff.1 hc with h | h
  · have := ten_pos L; omega
  · exact h
theorem isDec_more {D b L : Nat} (h : IsDec D L) (hb : b ≤ 1) (hc : (2 * D + b) / 10 ^ L ≠ 0) : IsDec (2 * D + b) (L + 1) ∧ d10 (2 * D + b) L = 1 := by
  obtain ⟨h1, h2, h3⟩ := h
  have hle : 10 ^ L ≤ 2 * D + b := by
    rcases Nat.lt_or_ge (2 * D + b) (10 ^ L) with h | h
    · exact absurd (Nat.div_eq_of_lt h) hc
    · exact h
  refine ⟨⟨by omega, by rw [Nat.pow_succ]; omega, .inr (by rw [Nat.add_sub_cancel]; exact hle)⟩, ?_⟩
  unfold d10
  have h4 : (2 * D + b) / 10 ^ L = 1 := by
    have h5 : (2 * D + b) / 10 ^ L < 2 := Nat.div_lt_of_lt_mul (by omega)
    generalize (2 * D + b) / 10 ^ L = q at *
    omega
  rw [h4]
theorem dec_len {N L m : Nat} (h : IsDec N L) (hm : N < 10 ^ m) : L ≤ m + 1 := by
  rcases h.2.2 with h1 | h1
  · omega
  · rcases Nat.lt_or_ge m (L - 1) with h2 | h2
    · have := Nat.pow_le_pow_right (n := 10) (by decide) (Nat.le_of_lt h2)
      omega
    · omega
theorem dec_zero : IsDec 0 1 := ⟨by decide, by decide, .inl rfl⟩
theorem dec_some (N : Nat) : ∃ L, IsDec N L := by
  have key : ∀ m, ∀ N, N < 10 ^ m → ∃ L, IsDec N L := by
    intro m
    induction m with
    | zero => intro N hN; exact ⟨1, Nat.le_refl _, by rw [Nat.pow_zero] at hN; rw [Nat.pow_one]; omega, .inl rfl⟩
    | succ m ih =>
      intro N hN
      rcases Nat.lt_or_ge N (10 ^ m) with h | h
      · exact ih N h
      · exact ⟨m + 1, by omega, hN, .inr (by rw [Nat.add_sub_cancel]; exact h)⟩
  exact key N N (Nat.lt_pow_self (by decide))
theorem pw8_le_ten (x : Nat) : N8.pw x ≤ 10 ^ (8 * x) := by rw [N8.pw_two]; exact Nat.pow_le_pow_left (by decide) _
end Nt
end Go.Proofs.Ytegbhenchmfngaa
