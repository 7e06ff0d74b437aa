/- The same arithmetic over digits of base 256. -/
import Derived.Test.YtegbhenchmfngaaBase2
namespace Go.Proofs.Ytegbhenchmfngaa
namespace N8
def K : Nat := 256
theorem K_eq : K = 256 := rfl
theorem K_pow : K = 2 ^ 8 := rfl
theorem K_pos : 0 < K := by decide
def pw (j : Nat) : Nat := K ^ j
def dig (N j : Nat) : Nat := N / pw j % K
def wlen (N : Nat) : Nat := if N = 0 then 0 else N.log2 / 8 + 1

theorem pw_zero : pw 0 = 1 := rfl
theorem pw_succ (j : Nat) : pw (j + 1) = pw j * K := Nat.pow_succ ..
theorem pw_add (i j : Nat) : pw (i + j) = pw i * pw j := Nat.pow_add ..
theorem pw_pos (j : Nat) : 0 < pw j := Nat.pow_pos K_pos
theorem pw_two (j : Nat) : pw j = 2 ^ (8 * j) := by unfold pw; rw [K_pow, Nat.pow_mul]
theorem pw_mono {i j : Nat} (h : i ≤ j) : pw i ≤ pw j := Nat.pow_le_pow_right K_pos h
theorem dig_lt (N j : Nat) : dig N j < 256 := Nat.mod_lt _ K_pos
theorem dig_of_lt {N j : Nat} (h : N < pw j) : dig N j = 0 := by
  unfold dig; rw [Nat.div_eq_of_lt h]; rfl
theorem lt_pw_of_dig {N j : Nat} (h : N < pw (j + 1)) (hd : dig N j = 0) : N < pw j := by
  unfold dig at hd
  rw [pw_succ] at h
  have h1 : N / pw j < K := Nat.div_lt_of_lt_mul h
  rw [Nat.mod_eq_of_lt h1] at hd
  rcases Nat.div_eq_zero_iff.1 hd with h0 | h0
  · have := pw_pos j; omega
  · exact h0
theorem le_of_dig {N j : Nat} (hd : dig N j ≠ 0) : pw j ≤ N := by
  rcases Nat.lt_or_ge N (pw j) with h | h
  · exact absurd (dig_of_lt h) hd
  · exact h
theorem wlen_zero : wlen 0 = 0 := rfl
theorem lt_pw_wlen (N : Nat) : N < pw (wlen N) := by
  unfold wlen
  split
  · rename_i h; subst h; exact pw_pos 0
  · rename_i h
    rw [pw_two]
    have h1 := Nat.lt_log2_self (n := N)
    refine Nat.lt_of_lt_of_le h1 (Nat.pow_le_pow_right (by decide) ?_)
    omega
theorem wlen_le {N n : Nat} (h : N < pw n) : wlen N ≤ n := by
  unfold wlen
  split
  · exact Nat.zero_le _
  · rename_i h0
    rw [pw_two] at h
    have := (Nat.log2_lt h0).2 h
    omega
theorem pw_le_of_lt_wlen {N n : Nat} (h : n < wlen N) : pw n ≤ N := by
  rcases Nat.lt_or_ge N (pw n) with h1 | h1
  · have := wlen_le h1; omega
  · exact h1
theorem wlen_eq {N n : Nat} (h : N < pw (n + 1)) (hd : pw n ≤ N) : wlen N = n + 1 := by
  have h1 := wlen_le h
  rcases Nat.lt_or_ge n (wlen N) with h2 | h2
  · omega
  · have h3 := lt_pw_wlen N
    have := pw_mono h2
    omega
theorem wlen_mono {M N : Nat} (h : M ≤ N) : wlen M ≤ wlen N := wlen_le (Nat.lt_of_le_of_lt h (lt_pw_wlen N))
theorem wlen_eq_zero {N : Nat} : wlen N = 0 ↔ N = 0 := by
  constructor
  · intro h
    have := lt_pw_wlen N
    rw [h, pw_zero] at this; omega
  · rintro rfl; rfl
theorem dig_top {N n : Nat} (h : wlen N = n + 1) : dig N n ≠ 0 := by
  intro h0
  have h1 := lt_pw_wlen N
  rw [h] at h1
  have := wlen_le (lt_pw_of_dig h1 h0)
  omega
/-- The number of a row of words. -/
def ofDigs (f : Nat → Nat) : Nat → Nat
  | 0 => 0
  | n + 1 => ofDigs f n + f n * pw n
theorem ofDigs_lt {f : Nat → Nat} : ∀ {n : Nat}, (∀ j, j < n → f j < K) → ofDigs f n < pw n
  | 0, _ => pw_pos 0
  | n + 1, h => by
    have h1 := ofDigs_lt (n := n) fun j hj => h j (by omega)
    have h2 := h n (by omega)
    rw [ofDigs, pw_succ]
    have h3 : (f n + 1) * pw n ≤ K * pw n := Nat.mul_le_mul_right _ h2
    rw [Nat.add_mul, Nat.one_mul] at h3
    rw [Nat.mul_comm (pw n) K]
    omega
theorem ofDigs_dig_le {f : Nat → Nat} {n : Nat} (h : ∀ j, j < n → f j < K) : ∀ j, j < n → dig (ofDigs f n) j = f j := by
  induction n with
  | zero => intro j hj; omega
  | succ n ih =>
    intro j hj
    have h1 := ofDigs_lt (n := n) fun j hj => h j (by omega)
    rw [ofDigs]
    by_cases e : j = n
    · subst e
      unfold dig
      rw [Nat.add_mul_div_right _ _ (pw_pos j), Nat.div_eq_of_lt h1, Nat.zero_add, Nat.mod_eq_of_lt (h j hj)]
    · have hjn : j < n := by omega
      rw [← ih (fun j hj => h j (by omega)) j hjn]
      have hp : pw n = K * pw (n - 1 - j) * pw j := by
        have : n = (n - 1 - j) + 1 + j := by omega
        rw [this, pw_add, pw_succ]
        have : n - 1 - j + 1 + j - 1 - j = n - 1 - j := by omega
        rw [this, Nat.mul_comm (pw _) K]
      unfold dig
      rw [hp, ← Nat.mul_assoc, Nat.add_mul_div_right _ _ (pw_pos j)]
      rw [show f n * (K * pw (n - 1 - j)) = f n * pw (n - 1 - j) * K by rw [Nat.mul_comm K, ← Nat.mul_assoc], Nat.add_mul_mod_self_right]
/-- Two numbers of one length with the same words are one. -/
theorem eq_of_dig {M N n : Nat} (hM : M < pw n) (hN : N < pw n) (h : ∀ j, j < n → dig M j = dig N j) : M = N := by
  induction n generalizing M N with
  | zero => rw [pw_zero] at hM hN; omega
  | succ n ih =>
    have e : M % pw n = N % pw n := by
      refine ih (Nat.mod_lt _ (pw_pos n)) (Nat.mod_lt _ (pw_pos n)) fun j hj => ?_
      have hp : pw n = pw j * (K * pw (n - 1 - j)) := by
        have : n = j + (1 + (n - 1 - j)) := by omega
        rw [this, pw_add, pw_add]
        have : j + (1 + (n - 1 - j)) - 1 - j = n - 1 - j := by omega
        rw [this, show pw 1 = K from Nat.pow_one K]
      have hd := h j (by omega)
      unfold dig at hd ⊢
      rw [hp, Nat.mod_mul_right_div_self, Nat.mod_mul_right_div_self, Nat.mod_mul_right_mod, Nat.mod_mul_right_mod]
      exact hd
    have hd := h n (by omega)
    unfold dig at hd
    rw [pw_succ] at hM hN
    rw [Nat.mod_eq_of_lt (Nat.div_lt_of_lt_mul hM), Nat.mod_eq_of_lt (Nat.div_lt_of_lt_mul hN)] at hd
    have h1 := Nat.div_add_mod M (pw n)
    have h2 := Nat.div_add_mod N (pw n)
    rw [hd, e] at h1
    omega
theorem div_pw_split (N i : Nat) : N / pw i = N / pw (i + 1) * K + dig N i := by
  unfold dig
  rw [pw_succ, ← Nat.div_div_eq_div_mul]
  have := Nat.div_add_mod (N / pw i) K
  rw [Nat.mul_comm K] at this
  omega
theorem lt_of_div {M N i : Nat} (h : M / pw i < N / pw i) : M < N := by
  rcases Nat.lt_or_ge M N with h1 | h1
  · exact h1
  · have := Nat.div_le_div_right (c := pw i) h1; omega
theorem lt_of_dig {M N i : Nat} (h : M / pw (i + 1) = N / pw (i + 1)) (hd : dig M i < dig N i) : M < N := by
  refine lt_of_div (i := i) ?_
  rw [div_pw_split M, div_pw_split N, h]; omega
theorem div_of_dig {M N i : Nat} (h : M / pw (i + 1) = N / pw (i + 1)) (hd : dig M i = dig N i) : M / pw i = N / pw i := by
  rw [div_pw_split M, div_pw_split N, h, hd]
theorem mod_pw_succ (N k : Nat) : N % pw (k + 1) = N % pw k + dig N k * pw k := by
  unfold dig
  rw [pw_succ, Nat.mod_mul, Nat.mul_comm (pw k)]
theorem mod_pw_of_lt {N k : Nat} (h : N < pw k) : N % pw k = N := Nat.mod_eq_of_lt h
theorem mod_pw_zero (N : Nat) : N % pw 0 = 0 := Nat.mod_one N
theorem div_add_pw (S d k : Nat) : (S + d * pw k) / pw k = S / pw k + d := Nat.add_mul_div_right _ _ (pw_pos k)
theorem div_add_pw' (S d k : Nat) : (S + d * pw k) / pw (k + 1) = (S / pw k + d) / K := by
  rw [pw_succ, ← Nat.div_div_eq_div_mul, div_add_pw]
theorem dig_add_pw (S d k : Nat) : dig (S + d * pw k) k = (S / pw k + d) % K := by unfold dig; rw [div_add_pw]
theorem dig_add_pw_lt {j k : Nat} (S d : Nat) (h : j < k) : dig (S + d * pw k) j = dig S j := by
  have hp : pw k = pw (k - 1 - j) * K * pw j := by
    have : k = k - 1 - j + 1 + j := by omega
    conv => lhs; rw [this]
    rw [pw_add, pw_succ]
  unfold dig
  rw [hp, ← Nat.mul_assoc, Nat.add_mul_div_right _ _ (pw_pos j), ← Nat.mul_assoc, Nat.add_mul_mod_self_right]
theorem mod_lt_pw (N k : Nat) : N % pw k < pw k := Nat.mod_lt _ (pw_pos k)
theorem div_pw_of_lt {N k : Nat} (h : N < pw k) : N / pw k = 0 := Nat.div_eq_of_lt h
theorem lt_pw_succ {S d k : Nat} (h : S < pw k) (hd : d < K) : S + d * pw k < pw (k + 1) := by
  rw [pw_succ]
  have h3 : (d + 1) * pw k ≤ K * pw k := Nat.mul_le_mul_right _ hd
  rw [Nat.add_mul, Nat.one_mul] at h3
  rw [Nat.mul_comm (pw k) K]
  omega
theorem div_lt_K {S k : Nat} (h : S < pw (k + 1)) : S / pw k < K := Nat.div_lt_of_lt_mul h
theorem dig_mod_pw {N j k : Nat} (h : j < k) : dig (N % pw k) j = dig N j := by
  have := dig_add_pw_lt (N % pw k) (N / pw k) h
  rw [Nat.mul_comm, Nat.mod_add_div] at this
  exact this.symm
theorem cmp_wlen {M N : Nat} (h : wlen M < wlen N) : M < N := by
  rcases Nat.lt_or_ge M N with h1 | h1
  · exact h1
  · have := wlen_mono h1; omega
/-- Which of two numbers is less. -/
def cmp (a b : Int) : Int := if a < b then -1 else if b < a then 1 else 0
theorem cmp_lt {a b : Int} (h : a < b) : cmp a b = -1 := by unfold cmp; rw [if_pos h]
theorem cmp_gt {a b : Int} (h : b < a) : cmp a b = 1 := by unfold cmp; rw [if_neg (by omega), if_pos h]
theorem cmp_eq {a b : Int} (h : a = b) : cmp a b = 0 := by unfold cmp; rw [if_neg (by omega), if_neg (by omega)]
theorem take_lt {R B M br P W : Nat} (hR : R < P) (hB : B < P) (hW : W < K) (h : R + B * W = M + br * P) : br < K := by
  have h3 : B * W ≤ (P - 1) * (K - 1) := Nat.mul_le_mul (by omega) (by omega)
  have h4 : (P - 1) * (K - 1) + (P - 1) < P * K := by
    have hk := K_pos
    obtain ⟨a, ha⟩ : ∃ a, P = a + 1 := ⟨P - 1, by omega⟩
    obtain ⟨b, hb⟩ : ∃ b, K = b + 1 := ⟨K - 1, by omega⟩
    rw [ha, hb, Nat.add_sub_cancel, Nat.add_sub_cancel, Nat.add_mul, Nat.mul_add]
    omega
  have h5 : br * P < K * P := by rw [Nat.mul_comm K P]; omega
  exact Nat.lt_of_mul_lt_mul_right h5
theorem take_step {M N W k R br c low hi y' : Nat} (hR : R < pw k) (hW : W < K) (h : R + (N % pw k) * W = M % pw k + br * pw k)
    (hs : br + dig N k * W = hi * K + low) (hy : y' + low = dig M k + c * K) (hy' : y' < K) :
    R + y' * pw k < pw (k + 1) ∧ (R + y' * pw k) + (N % pw (k + 1)) * W = M % pw (k + 1) + (hi + c) * pw (k + 1) ∧ hi + c < K := by
  have h1 := lt_pw_succ hR hy'
  have h2 : (R + y' * pw k) + (N % pw (k + 1)) * W = M % pw (k + 1) + (hi + c) * pw (k + 1) := by
    rw [mod_pw_succ, mod_pw_succ, pw_succ, Nat.add_mul, Nat.mul_right_comm]
    have e1 : (br + dig N k * W) * pw k = (hi * K + low) * pw k := by rw [hs]
    have e2 : (y' + low) * pw k = (dig M k + c * K) * pw k := by rw [hy]
    rw [Nat.add_mul, Nat.add_mul] at e1 e2
    have e3 : (hi + c) * (pw k * K) = hi * K * pw k + c * K * pw k := by
      rw [Nat.add_mul, Nat.mul_comm (pw k) K, ← Nat.mul_assoc, ← Nat.mul_assoc]
    rw [e3]
    omega
  exact ⟨h1, h2, take_lt h1 (mod_lt_pw _ _) hW h2⟩
theorem pw_split {i j : Nat} (h : i ≤ j) : pw j = pw i * pw (j - i) := by
  rw [← pw_add]; congr 1; omega
theorem dig_add_pw_ge {R d i j : Nat} (hR : R < pw i) (h : i ≤ j) : dig (R + d * pw i) j = d / pw (j - i) % K := by
  unfold dig
  rw [pw_split h, ← Nat.div_div_eq_div_mul, div_add_pw, div_pw_of_lt hR, Nat.zero_add]
theorem monus_end {R M N i : Nat} (hR : R < pw i) (h : R + N = M % pw i) : (∀ j, j < i → dig (M - N) j = dig R j) ∧ ∀ j, i ≤ j → dig (M - N) j = dig M j := by
  have e : M - N = R + M / pw i * pw i := by
    have := Nat.div_add_mod M (pw i)
    rw [Nat.mul_comm] at this
    omega
  have e2 : M = M % pw i + M / pw i * pw i := by
    have := Nat.div_add_mod M (pw i)
    rw [Nat.mul_comm] at this
    omega
  refine ⟨fun j hj => by rw [e, dig_add_pw_lt _ _ hj], fun j hj => ?_⟩
  rw [e, dig_add_pw_ge hR hj]
  conv => rhs; rw [e2]
  rw [dig_add_pw_ge (mod_lt_pw _ _) hj]

theorem pw_words (i : Nat) : pw (4 * i) = Nt.pw i := by rw [pw_two, Nt.pw_two]; congr 1; omega
theorem dig_words (N i k : Nat) (hk : k < 4) : Nt.dig N i / 256 ^ k % 256 = dig N (4 * i + k) := by
  unfold dig Nt.dig
  rw [pw_add, pw_words, ← Nat.div_div_eq_div_mul]
  have e : Nt.K = 256 ^ k * (256 * 256 ^ (3 - k)) := by
    rw [← Nat.pow_succ', ← Nat.pow_add, show k + (3 - k).succ = 4 by omega]; rfl
  rw [e, Nat.mod_mul_right_div_self, Nat.mod_mul_right_mod]
  rfl
theorem ofDigs_add (f g : Nat → Nat) : ∀ n, ofDigs (fun j => f j + g j) n = ofDigs f n + ofDigs g n
  | 0 => rfl
  | n + 1 => by rw [ofDigs, ofDigs, ofDigs, ofDigs_add f g n, Nat.add_mul]; omega
theorem ofDigs_dig (N : Nat) : ∀ n, ofDigs (dig N) n = N % pw n
  | 0 => by rw [ofDigs, mod_pw_zero]
  | n + 1 => by rw [ofDigs, ofDigs_dig N n, mod_pw_succ]
theorem ofDigs_congr {f g : Nat → Nat} : ∀ {n : Nat}, (∀ j, j < n → f j = g j) → ofDigs f n = ofDigs g n
  | 0, _ => rfl
  | n + 1, h => by rw [ofDigs, ofDigs, ofDigs_congr (n := n) (fun j hj => h j (by omega)), h n (by omega)]
theorem minus_step {M N k R br z x y br' : Nat} (hR : R < pw k) (h : R + N % pw k = M % pw k + br * pw k) (hx : x = dig M k) (hy : y = dig N k) (hz : z + y + br = x + 256 * br') (hz2 : z < 256) :
    R + z * pw k < pw (k + 1) ∧ R + z * pw k + N % pw (k + 1) = M % pw (k + 1) + br' * pw (k + 1) := by
  refine ⟨lt_pw_succ hR hz2, ?_⟩
  rw [mod_pw_succ, mod_pw_succ, pw_succ, ← hx, ← hy]
  have e : (z + y + br) * pw k = (x + 256 * br') * pw k := by rw [hz]
  rw [Nat.add_mul, Nat.add_mul, Nat.add_mul] at e
  have e2 : br' * (pw k * K) = 256 * br' * pw k := by rw [K_eq, Nat.mul_comm (pw k), ← Nat.mul_assoc, Nat.mul_comm br']
  rw [e2]
  omega
theorem minus_last {M N n R br : Nat} (hM : M < pw n) (hle : N ≤ M) (hR : R < pw n) (h : R + N % pw n = M % pw n + br * pw n) : R = M - N := by
  rw [mod_pw_of_lt hM, mod_pw_of_lt (Nat.lt_of_le_of_lt hle hM)] at h
  rcases Nat.eq_zero_or_pos br with h0 | h0
  · rw [h0] at h; omega
  · have : 1 * pw n ≤ br * pw n := Nat.mul_le_mul_right _ h0
    omega
theorem words_step {N k q r : Nat} (hk : k = 4 * q + r) (hr : r < 4) :
    Nt.dig (N % pw (k + 1)) q = Nt.dig (N % pw k) q + dig N k * 256 ^ r ∧ Nt.dig (N % pw k) q < 256 ^ r ∧ ∀ j, j < q → Nt.dig (N % pw (k + 1)) j = Nt.dig (N % pw k) j := by
  have hp : pw k = 256 ^ r * Nt.pw q := by rw [hk, pw_add, pw_words, Nat.mul_comm]; rfl
  have hm := mod_lt_pw N k
  have e : N % pw (k + 1) = N % pw k + dig N k * 256 ^ r * Nt.pw q := by rw [mod_pw_succ, hp, Nat.mul_assoc]
  have hd := dig_lt N k
  have h1 : N % pw k / Nt.pw q < 256 ^ r := Nat.div_lt_of_lt_mul (by rw [Nat.mul_comm, ← hp]; exact hm)
  have h2 : 256 ^ r * 256 ≤ Nt.K := by
    rw [← Nat.pow_succ]
    exact Nat.pow_le_pow_right (n := 256) (by decide) (show r + 1 ≤ 4 by omega)
  have h3 : dig N k * 256 ^ r + 256 ^ r ≤ 256 * 256 ^ r := by
    have : (dig N k + 1) * 256 ^ r ≤ 256 * 256 ^ r := Nat.mul_le_mul_right _ hd
    rw [Nat.add_mul, Nat.one_mul] at this
    exact this
  have h4 : N % pw k / Nt.pw q < Nt.K := by
    have := Nat.pow_pos (n := r) (show 0 < 256 by decide)
    rw [Nat.mul_comm] at h2
    omega
  have h5 : N % pw k / Nt.pw q + dig N k * 256 ^ r < Nt.K := by
    rw [Nat.mul_comm] at h2
    generalize N % pw k / Nt.pw q = u at h1
    generalize dig N k * 256 ^ r = v at h3 ⊢
    omega
  have h6 : Nt.dig (N % pw k) q = N % pw k / Nt.pw q := Nat.mod_eq_of_lt h4
  refine ⟨?_, by rw [h6]; exact h1, fun j hj => ?_⟩
  · rw [e, h6]
    unfold Nt.dig
    rw [Nt.div_add_pw, Nat.mod_eq_of_lt h5]
  · rw [e, Nt.dig_add_pw_lt _ _ hj]
end N8
end Go.Proofs.Ytegbhenchmfngaa
