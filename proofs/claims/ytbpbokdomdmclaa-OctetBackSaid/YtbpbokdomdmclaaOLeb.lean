/- The forms of numbers: seven bits a byte, the lowest first. -/
import Derived.Lib.Hide
namespace Go.Proofs.Ytbpbokdomdmclaa
def leb (n : Nat) : List Nat := if h : n < 128 then [n] else (n % 128 + 128) :: leb (n / 128)
termination_by n
decreasing_by omega
theorem leb_small {n : Nat} (h : n < 128) : leb n = [n] := by rw [leb, dif_pos h]
theorem leb_big {n : Nat} (h : ¬ n < 128) : leb n = (n % 128 + 128) :: leb (n / 128) := by rw [leb, dif_neg h]
theorem leb_pos (n : Nat) : 0 < (leb n).length := by
  by_cases h : n < 128
  · rw [leb_small h]; exact Nat.one_pos
  · rw [leb_big h]; simp
theorem leb_len : ∀ (k n : Nat), n < 128 ^ (k + 1) → (leb n).length ≤ k + 1
  | 0, n, h => by rw [leb_small (by simpa using h)]; exact Nat.le_refl _
  | k + 1, n, h => by
    by_cases h1 : n < 128
    · rw [leb_small h1]; simp
    · rw [leb_big h1, List.length_cons]
      have := leb_len k (n / 128) (Nat.div_lt_of_lt_mul (by rw [Nat.mul_comm, ← Nat.pow_succ]; exact h))
      omega
theorem leb_ten {n : Nat} (h : n < 18446744073709551616) : (leb n).length ≤ 10 := leb_len 9 n (Nat.lt_of_lt_of_le h (by decide))
theorem leb_byte : ∀ (n : Nat), ∀ x ∈ leb n, x < 256 := by
  intro n
  induction n using Nat.strongRecOn with
  | ind n ih =>
    intro x hx
    by_cases h : n < 128
    · rw [leb_small h] at hx
      simp at hx
      omega
    · rw [leb_big h] at hx
      rcases List.mem_cons.1 hx with h1 | h1
      · omega
      · exact ih (n / 128) (by omega) x h1
/-- The number whose form a signed number's form is. -/
def fold (n : Int) : Nat := if 0 ≤ n then 2 * n.toNat else 2 * (-(n + 1)).toNat + 1
end Go.Proofs.Ytbpbokdomdmclaa
