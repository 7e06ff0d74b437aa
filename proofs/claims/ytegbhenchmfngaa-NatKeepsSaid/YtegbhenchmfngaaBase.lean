/- Numbers as words of 32 bits, the least first, and slices that hold them: plain arithmetic and small facts about memory. -/
import Derived.WalkKit
import Derived.Deep.OwnRows
import Derived.Deep.LoopGhost
import Derived.Deep.Draws
import Derived.Lib.Hide
namespace Go.Proofs.Ytegbhenchmfngaa
open Go.RowKit

namespace Nt
def K : Nat := 4294967296
theorem K_eq : K = 4294967296 := rfl
theorem K_pow : K = 2 ^ 32 := rfl
theorem K_pos : 0 < K := by decide
def pw (j : Nat) : Nat := K ^ j
def dig (N j : Nat) : Nat := N / pw j % K
def wlen (N : Nat) : Nat := if N = 0 then 0 else N.log2 / 32 + 1

theorem pw_zero : pw 0 = 1 := rfl
theorem pw_succ (j : Nat) : pw (j + 1) = pw j * K := Nat.pow_succ ..
theorem pw_add (i j : Nat) : pw (i + j) = pw i * pw j := Nat.pow_add ..
theorem pw_pos (j : Nat) : 0 < pw j := Nat.pow_pos K_pos
theorem pw_two (j : Nat) : pw j = 2 ^ (32 * j) := by unfold pw; rw [K_pow, Nat.pow_mul]
theorem pw_mono {i j : Nat} (h : i ≤ j) : pw i ≤ pw j := Nat.pow_le_pow_right K_pos h
theorem dig_lt (N j : Nat) : dig N j < 4294967296 := Nat.mod_lt _ K_pos
theorem dig_of_lt {N j : Nat} (h : N < pw j) : dig N j = 0 := by
  unfold dig; rw [Nat.div_eq_of_lt h]; rfl
theorem lt_pw_of_dig {N j : Nat} (h : N < pw (j + 1)) (hd : dig N j = 0) : N < pw j := by
  unfold dig at hd
  rw [pw_succ] at h
  have h1 : N / pw j < K := Nat.div_lt_of_lt_mul h
  rw [Nat.mod_eq_of_lt h1] at hd
  rcases Nat.div_eq_zero_iff.1 hd with h0 | h0
  · have := pw_pos j; omega
  · exact h0
theorem le_of_dig {N j : Nat} (hd : dig N j ≠ 0) : pw j ≤ N := by
  rcases Nat.lt_or_ge N (pw j) with h | h
  · exact absurd (dig_of_lt h) hd
  · exact h
theorem wlen_zero : wlen 0 = 0 := rfl
theorem lt_pw_wlen (N : Nat) : N < pw (wlen N) := by
  unfold wlen
  split
  · rename_i h; subst h; exact pw_pos 0
  · rename_i h
    rw [pw_two]
    have h1 := Nat.lt_log2_self (n := N)
    refine Nat.lt_of_lt_of_le h1 (Nat.pow_le_pow_right (by decide) ?_)
    omega
theorem wlen_le {N n : Nat} (h : N < pw n) : wlen N ≤ n := by
  unfold wlen
  split
  · exact Nat.zero_le _
  · rename_i h0
    rw [pw_two] at h
    have := (Nat.log2_lt h0).2 h
    omega
theorem pw_le_of_lt_wlen {N n : Nat} (h : n < wlen N) : pw n ≤ N := by
  rcases Nat.lt_or_ge N (pw n) with h1 | h1
  · have := wlen_le h1; omega
  · exact h1
theorem wlen_eq {N n : Nat} (h : N < pw (n + 1)) (hd : pw n ≤ N) : wlen N = n + 1 := by
  have h1 := wlen_le h
  rcases Nat.lt_or_ge n (wlen N) with h2 | h2
  · omega
  · have h3 := lt_pw_wlen N
    have := pw_mono h2
    omega
theorem wlen_mono {M N : Nat} (h : M ≤ N) : wlen M ≤ wlen N := wlen_le (Nat.lt_of_le_of_lt h (lt_pw_wlen N))
theorem wlen_eq_zero {N : Nat} : wlen N = 0 ↔ N = 0 := by
  constructor
  · intro h
    have := lt_pw_wlen N
    rw [h, pw_zero] at this; omega
  · rintro rfl; rfl
theorem dig_top {N n : Nat} (h : wlen N = n + 1) : dig N n ≠ 0 := by
  intro h0
  have h1 := lt_pw_wlen N
  rw [h] at h1
  have := wlen_le (lt_pw_of_dig h1 h0)
  omega
/-- The number of a row of words. -/
def ofDigs (f : Nat → Nat) : Nat → Nat
  | 0 => 0
  | n + 1 => ofDigs f n + f n * pw n
theorem ofDigs_lt {f : Nat → Nat} : ∀ {n : Nat}, (∀ j, j < n → f j < K) → ofDigs f n < pw n
  | 0, _ => pw_pos 0
  | n + 1, h => by
    have h1 := ofDigs_lt (n := n) fun j hj => h j (by omega)
    have h2 := h n (by omega)
    rw [ofDigs, pw_succ]
    have h3 : (f n + 1) * pw n ≤ K * pw n := Nat.mul_le_mul_right _ h2
    rw [Nat.add_mul, Nat.one_mul] at h3
    rw [Nat.mul_comm (pw n) K]
    omega
theorem ofDigs_dig_le {f : Nat → Nat} {n : Nat} (h : ∀ j, j < n → f j < K) : ∀ j, j < n → dig (ofDigs f n) j = f j := by
  induction n with
  | zero => intro j hj; omega
  | succ n ih =>
    intro j hj
    have h1 := ofDigs_lt (n := n) fun j hj => h j (by omega)
    rw [ofDigs]
    by_cases e : j = n
    · subst e
      unfold dig
      rw [Nat.add_mul_div_right _ _ (pw_pos j), Nat.div_eq_of_lt h1, Nat.zero_add, Nat.mod_eq_of_lt (h j hj)]
    · have hjn : j < n := by omega
      rw [← ih (fun j hj => h j (by omega)) j hjn]
      have hp : pw n = K * pw (n - 1 - j) * pw j := by
        have : n = (n - 1 - j) + 1 + j := by omega
        rw [this, pw_add, pw_succ]
        have : n - 1 - j + 1 + j - 1 - j = n - 1 - j := by omega
        rw [this, Nat.mul_comm (pw _) K]
      unfold dig
      rw [hp, ← Nat.mul_assoc, Nat.add_mul_div_right _ _ (pw_pos j)]
      rw [show f n * (K * pw (n - 1 - j)) = f n * pw (n - 1 - j) * K by rw [Nat.mul_comm K, ← Nat.mul_assoc], Nat.add_mul_mod_self_right]
/-- Two numbers of one length with the same words are one. -/
theorem eq_of_dig {M N n : Nat} (hM : M < pw n) (hN : N < pw n) (h : ∀ j, j < n → dig M j = dig N j) : M = N := by
  induction n generalizing M N with
  | zero => rw [pw_zero] at hM hN; omega
  | succ n ih =>
    have e : M % pw n = N % pw n := by
      refine ih (Nat.mod_lt _ (pw_pos n)) (Nat.mod_lt _ (pw_pos n)) fun j hj => ?_
      have hp : pw n = pw j * (K * pw (n - 1 - j)) := by
        have : n = j + (1 + (n - 1 - j)) := by omega
        rw [this, pw_add, pw_add]
        have : j + (1 + (n - 1 - j)) - 1 - j = n - 1 - j := by omega
        rw [this, show pw 1 = K from Nat.pow_one K]
      have hd := h j (by omega)
      unfold dig at hd ⊢
      rw [hp, Nat.mod_mul_right_div_self, Nat.mod_mul_right_div_self, Nat.mod_mul_right_mod, Nat.mod_mul_right_mod]
      exact hd
    have hd := h n (by omega)
    unfold dig at hd
    rw [pw_succ] at hM hN
    rw [Nat.mod_eq_of_lt (Nat.div_lt_of_lt_mul hM), Nat.mod_eq_of_lt (Nat.div_lt_of_lt_mul hN)] at hd
    have h1 := Nat.div_add_mod M (pw n)
    have h2 := Nat.div_add_mod N (pw n)
    rw [hd, e] at h1
    omega
end Nt

/-- The slice value '.slice A n c' holds the words of N. -/
def IsNat (w : World) (A : Option Addr) (n N : Nat) : Prop :=
  N < Nt.pw n ∧ (0 < n → ∃ b o, A = some ⟨b, o, none⟩ ∧ ∀ j, j < n → w.cell? ⟨b, o + j, none⟩ = some (.int .u32 (Nt.dig N j)))

namespace IsNat
variable {w w' : World} {A : Option Addr} {n N : Nat}
theorem nil (w : World) (A : Option Addr) : IsNat w A 0 0 := ⟨Nt.pw_pos 0, fun h => absurd h (by omega)⟩
theorem wl (h : IsNat w A n N) : Nt.wlen N ≤ n := Nt.wlen_le h.1
theorem at_ (h : IsNat w A n N) (hn : 0 < n) : ∃ b o, A = some ⟨b, o, none⟩ ∧ b < w.heap.size ∧ ∀ j, j < n → w.cell? ⟨b, o + j, none⟩ = some (.int .u32 (Nt.dig N j)) := by
  obtain ⟨b, o, e, hc⟩ := h.2 hn
  exact ⟨b, o, e, World.block_lt_of_cell? _ _ (hc 0 hn), hc⟩
theorem keep (h : IsNat w A n N) (hk : ∀ p : Addr, p.block < w.heap.size → w'.cell? p = w.cell? p) : IsNat w' A n N :=
  ⟨h.1, fun hn => by
    obtain ⟨b, o, e, hb, hc⟩ := h.at_ hn
    exact ⟨b, o, e, fun j hj => (hk _ hb).trans (hc j hj)⟩⟩
theorem below (h : IsNat w A n N) (hb : Below w.heap.size w w') : IsNat w' A n N := h.keep fun _ hp => hb.cell hp
theorem drew (h : IsNat w A n N) : IsNat w.drew A n N := h
theorem drewN (h : IsNat w A n N) (k : Nat) : IsNat (w.drewN k) A n N := h
theorem alloc (h : IsNat w A n N) (o : Obj) : IsNat (w.alloc o) A n N := h.keep fun p hp => World.cell?_alloc_lt w o p (by omega)
/-- Fewer words, or the words behind which there are none. -/
theorem cut (h : IsNat w A n N) {m : Nat} (hm : m ≤ n) (hN : N < Nt.pw m) : IsNat w A m N :=
  ⟨hN, fun h0 => by
    obtain ⟨b, o, e, hc⟩ := h.2 (by omega)
    exact ⟨b, o, e, fun j hj => hc j (by omega)⟩⟩
theorem trim (h : IsNat w A n N) : IsNat w A (Nt.wlen N) N := h.cut h.wl (Nt.lt_pw_wlen N)
end IsNat
theorem ret_slice {A : Option Addr} {n m c : Nat} (h : n = m) : Ending.returned (.slice A n c) = .returned (.slice A m c) := by rw [h]
theorem ret_int {k : IntKind} {a b : Int} (h : a = b) : Ending.returned (.int k a) = .returned (.int k b) := by rw [h]
theorem ret_tup2 {k : IntKind} {a b : Int} {v : Value} (h : a = b) : Ending.returned (.tuple #[.int k a, v]) = .returned (.tuple #[.int k b, v]) := by rw [h]
theorem ret_bool {a b : Bool} (h : a = b) : Ending.returned (.bool a) = .returned (.bool b) := by rw [h]

/-! ### Orders, and digits one by one -/
namespace Nt
theorem div_pw_split (N i : Nat) : N / pw i = N / pw (i + 1) * K + dig N i := by
  unfold dig
  rw [pw_succ, ← Nat.div_div_eq_div_mul]
  have := Nat.div_add_mod (N / pw i) K
  rw [Nat.mul_comm K] at this
  omega
theorem lt_of_div {M N i : Nat} (h : M / pw i < N / pw i) : M < N := by
  rcases Nat.lt_or_ge M N with h1 | h1
  · exact h1
  · have := Nat.div_le_div_right (c := pw i) h1; omega
theorem lt_of_dig {M N i : Nat} (h : M / pw (i + 1) = N / pw (i + 1)) (hd : dig M i < dig N i) : M < N := by
  refine lt_of_div (i := i) ?_
  rw [div_pw_split M, div_pw_split N, h]; omega
theorem div_of_dig {M N i : Nat} (h : M / pw (i + 1) = N / pw (i + 1)) (hd : dig M i = dig N i) : M / pw i = N / pw i := by
  rw [div_pw_split M, div_pw_split N, h, hd]
theorem mod_pw_succ (N k : Nat) : N % pw (k + 1) = N % pw k + dig N k * pw k := by
  unfold dig
  rw [pw_succ, Nat.mod_mul, Nat.mul_comm (pw k)]
theorem mod_pw_of_lt {N k : Nat} (h : N < pw k) : N % pw k = N := Nat.mod_eq_of_lt h
theorem mod_pw_zero (N : Nat) : N % pw 0 = 0 := Nat.mod_one N
theorem div_add_pw (S d k : Nat) : (S + d * pw k) / pw k = S / pw k + d := Nat.add_mul_div_right _ _ (pw_pos k)
theorem div_add_pw' (S d k : Nat) : (S + d * pw k) / pw (k + 1) = (S / pw k + d) / K := by
  rw [pw_succ, ← Nat.div_div_eq_div_mul, div_add_pw]
theorem dig_add_pw (S d k : Nat) : dig (S + d * pw k) k = (S / pw k + d) % K := by unfold dig; rw [div_add_pw]
theorem dig_add_pw_lt {j k : Nat} (S d : Nat) (h : j < k) : dig (S + d * pw k) j = dig S j := by
  have hp : pw k = pw (k - 1 - j) * K * pw j := by
    have : k = k - 1 - j + 1 + j := by omega
    conv => lhs; rw [this]
    rw [pw_add, pw_succ]
  unfold dig
  rw [hp, ← Nat.mul_assoc, Nat.add_mul_div_right _ _ (pw_pos j), ← Nat.mul_assoc, Nat.add_mul_mod_self_right]
theorem mod_lt_pw (N k : Nat) : N % pw k < pw k := Nat.mod_lt _ (pw_pos k)
theorem div_pw_of_lt {N k : Nat} (h : N < pw k) : N / pw k = 0 := Nat.div_eq_of_lt h
theorem lt_pw_succ {S d k : Nat} (h : S < pw k) (hd : d < K) : S + d * pw k < pw (k + 1) := by
  rw [pw_succ]
  have h3 : (d + 1) * pw k ≤ K * pw k := Nat.mul_le_mul_right _ hd
  rw [Nat.add_mul, Nat.one_mul] at h3
  rw [Nat.mul_comm (pw k) K]
  omega
theorem div_lt_K {S k : Nat} (h : S < pw (k + 1)) : S / pw k < K := Nat.div_lt_of_lt_mul h
theorem dig_mod_pw {N j k : Nat} (h : j < k) : dig (N % pw k) j = dig N j := by
  have := dig_add_pw_lt (N % pw k) (N / pw k) h
  rw [Nat.mul_comm, Nat.mod_add_div] at this
  exact this.symm
theorem cmp_wlen {M N : Nat} (h : wlen M < wlen N) : M < N := by
  rcases Nat.lt_or_ge M N with h1 | h1
  · exact h1
  · have := wlen_mono h1; omega
/-- Which of two numbers is less. -/
def cmp (a b : Int) : Int := if a < b then -1 else if b < a then 1 else 0
theorem cmp_lt {a b : Int} (h : a < b) : cmp a b = -1 := by unfold cmp; rw [if_pos h]
theorem cmp_gt {a b : Int} (h : b < a) : cmp a b = 1 := by unfold cmp; rw [if_neg (by omega), if_pos h]
theorem cmp_eq {a b : Int} (h : a = b) : cmp a b = 0 := by unfold cmp; rw [if_neg (by omega), if_neg (by omega)]
end Nt

/-! ### A number times a word, added word by word -/
namespace Nt
def addT (M N W k : Nat) : Nat := M % pw k + (N % pw k) * W
theorem addT_zero (M N W : Nat) : addT M N W 0 = 0 := by simp [addT, mod_pw_zero]
theorem addT_succ (M N W k : Nat) : addT M N W (k + 1) = addT M N W k + (dig N k * W + dig M k) * pw k := by
  unfold addT
  rw [mod_pw_succ, mod_pw_succ, Nat.add_mul, Nat.add_mul, Nat.mul_right_comm]
  omega
theorem addT_full {M N W m : Nat} (hM : M < pw m) (hN : N < pw m) : addT M N W m = M + N * W := by unfold addT; rw [mod_pw_of_lt hM, mod_pw_of_lt hN]
theorem addT_lt {M N W k : Nat} (hW : W < K) : addT M N W k / pw k < K := by
  refine Nat.div_lt_of_lt_mul ?_
  unfold addT
  have h1 := mod_lt_pw M k
  have h2 := mod_lt_pw N k
  have h3 : (N % pw k) * W ≤ (pw k - 1) * (K - 1) := Nat.mul_le_mul (by omega) (by omega)
  have h4 : (pw k - 1) * (K - 1) + pw k + (K - 1) = pw k * K := by
    have hp := pw_pos k
    have hk := K_pos
    obtain ⟨a, ha⟩ : ∃ a, pw k = a + 1 := ⟨pw k - 1, by omega⟩
    obtain ⟨b, hb⟩ : ∃ b, K = b + 1 := ⟨K - 1, by omega⟩
    rw [ha, hb, Nat.add_sub_cancel, Nat.add_sub_cancel, Nat.add_mul, Nat.mul_add]
    omega
  have := K_pos
  have : 1 < K := by decide
  omega
theorem addT_next {M N W k cy s : Nat} (hc : addT M N W k / pw k = cy) (hs : s = cy + (dig N k * W + dig M k)) :
    addT M N W (k + 1) / pw (k + 1) = s / K ∧ dig (addT M N W (k + 1)) k = s % K ∧ ∀ j, j < k → dig (addT M N W (k + 1)) j = dig (addT M N W k) j := by
  rw [addT_succ, div_add_pw', dig_add_pw, hc, ← hs]
  exact ⟨rfl, rfl, fun j hj => dig_add_pw_lt _ _ hj⟩
theorem mul_word_le {x W : Nat} (hx : x < 4294967296) (hW : W < 4294967296) : x * W ≤ 18446744065119617025 := by
  have := Nat.mul_le_mul (show x ≤ 4294967295 by omega) (show W ≤ 4294967295 by omega)
  simpa using this
end Nt

/-! ### A number times a word, taken away word by word -/
namespace Nt
theorem take_lt {R B M br P W : Nat} (hR : R < P) (hB : B < P) (hW : W < K) (h : R + B * W = M + br * P) : br < K := by
  have h3 : B * W ≤ (P - 1) * (K - 1) := Nat.mul_le_mul (by omega) (by omega)
  have h4 : (P - 1) * (K - 1) + (P - 1) < P * K := by
    have hk := K_pos
    obtain ⟨a, ha⟩ : ∃ a, P = a + 1 := ⟨P - 1, by omega⟩
    obtain ⟨b, hb⟩ : ∃ b, K = b + 1 := ⟨K - 1, by omega⟩
    rw [ha, hb, Nat.add_sub_cancel, Nat.add_sub_cancel, Nat.add_mul, Nat.mul_add]
    omega
  have h5 : br * P < K * P := by rw [Nat.mul_comm K P]; omega
  exact Nat.lt_of_mul_lt_mul_right h5
theorem take_step {M N W k R br c low hi y' : Nat} (hR : R < pw k) (hW : W < K) (h : R + (N % pw k) * W = M % pw k + br * pw k)
    (hs : br + dig N k * W = hi * K + low) (hy : y' + low = dig M k + c * K) (hy' : y' < K) :
    R + y' * pw k < pw (k + 1) ∧ (R + y' * pw k) + (N % pw (k + 1)) * W = M % pw (k + 1) + (hi + c) * pw (k + 1) ∧ hi + c < K := by
  have h1 := lt_pw_succ hR hy'
  have h2 : (R + y' * pw k) + (N % pw (k + 1)) * W = M % pw (k + 1) + (hi + c) * pw (k + 1) := by
    rw [mod_pw_succ, mod_pw_succ, pw_succ, Nat.add_mul, Nat.mul_right_comm]
    have e1 : (br + dig N k * W) * pw k = (hi * K + low) * pw k := by rw [hs]
    have e2 : (y' + low) * pw k = (dig M k + c * K) * pw k := by rw [hy]
    rw [Nat.add_mul, Nat.add_mul] at e1 e2
    have e3 : (hi + c) * (pw k * K) = hi * K * pw k + c * K * pw k := by
      rw [Nat.add_mul, Nat.mul_comm (pw k) K, ← Nat.mul_assoc, ← Nat.mul_assoc]
    rw [e3]
    omega
  exact ⟨h1, h2, take_lt h1 (mod_lt_pw _ _) hW h2⟩
end Nt

/-! ### A number by a word, from the top -/
namespace Nt
theorem or_word {a y : Nat} (hy : y < 4294967296) : a * 4294967296 ||| y = a * 4294967296 + y := by
  have h := Nat.shiftLeft_add_eq_or_of_lt (a := a) (b := y) (i := 32) (by simpa using hy)
  rw [Nat.shiftLeft_eq] at h
  exact h.symm
theorem dig_div (M W j : Nat) : dig (M / W) j = M / pw j / W % K := by unfold dig; rw [Nat.div_div_eq_div_mul, Nat.div_div_eq_div_mul, Nat.mul_comm]
theorem divWord_step {M W i rs s : Nat} (hW : 0 < W) (hr : M / pw (i + 1) % W = rs) (hs : s = rs * K + dig M i) : M / pw i % W = s % W ∧ dig (M / W) i = s / W ∧ s / W < K := by
  have h1 : M / pw i = M / pw (i + 1) / W * K * W + s := by
    rw [div_pw_split, hs, ← hr]
    have h2 := Nat.div_add_mod (M / pw (i + 1)) W
    have h3 : M / pw (i + 1) / W * K * W + M / pw (i + 1) % W * K = M / pw (i + 1) * K := by
      rw [Nat.mul_right_comm, ← Nat.add_mul]
      congr 1
      rw [Nat.mul_comm]
      exact h2
    omega
  have hrs : rs < W := by rw [← hr]; exact Nat.mod_lt _ hW
  have h4 : s / W < K := by
    refine Nat.div_lt_of_lt_mul ?_
    have h5 : (rs + 1) * K ≤ W * K := Nat.mul_le_mul_right _ hrs
    rw [Nat.add_mul, Nat.one_mul] at h5
    have : dig M i < K := dig_lt M i
    omega
  refine ⟨?_, ?_, h4⟩
  · rw [h1, Nat.mul_comm _ W, Nat.mul_add_mod]
  · rw [dig_div, h1, Nat.mul_comm _ W, Nat.mul_add_div hW, Nat.mul_comm _ K, Nat.mul_add_mod, Nat.mod_eq_of_lt h4]
end Nt

/-! ### How many bits a number has -/
namespace Nt
def blen (N : Nat) : Nat := if N = 0 then 0 else N.log2 + 1
theorem blen_eq {N n : Nat} (h1 : 2 ^ n ≤ N) (h2 : N < 2 ^ (n + 1)) : blen N = n + 1 := by
  have h0 : N ≠ 0 := by have := Nat.two_pow_pos n; omega
  unfold blen
  rw [if_neg h0]
  have := (Nat.log2_lt h0).2 h2
  have := (Nat.le_log2 h0).2 h1
  omega
theorem lt_blen (N : Nat) : N < 2 ^ blen N := by
  unfold blen
  split
  · rename_i h; subst h; decide
  · exact Nat.lt_log2_self
theorem blen_le_of {N n : Nat} (h : N < 2 ^ n) : blen N ≤ n := by
  unfold blen
  split
  · omega
  · rename_i h0; have := (Nat.log2_lt h0).2 h; omega
theorem le_blen {N : Nat} (h0 : N ≠ 0) : 2 ^ (blen N - 1) ≤ N := by
  unfold blen
  rw [if_neg h0, Nat.add_sub_cancel]
  exact Nat.log2_self_le h0
theorem blen_pos {N : Nat} (h0 : N ≠ 0) : 0 < blen N := by unfold blen; rw [if_neg h0]; omega
theorem blen_zero : blen 0 = 0 := rfl
theorem blen_eq_zero {N : Nat} : blen N = 0 ↔ N = 0 := by
  constructor
  · intro h
    have := lt_blen N
    rw [h] at this
    simp at this; exact this
  · rintro rfl; rfl
/-- The top part has all bits but those below. -/
theorem blen_div {N k : Nat} (h : 0 < N / 2 ^ k) : blen N = k + blen (N / 2 ^ k) := by
  have h0 : N / 2 ^ k ≠ 0 := by omega
  have h1 := lt_blen (N / 2 ^ k)
  have h2 := le_blen h0
  have h3 := blen_pos h0
  generalize blen (N / 2 ^ k) = b at *
  obtain ⟨c, rfl⟩ : ∃ c, b = c + 1 := ⟨b - 1, by omega⟩
  rw [Nat.add_sub_cancel] at h2
  have hp := Nat.two_pow_pos k
  refine (blen_eq (n := k + c) ?_ ?_).trans (by omega)
  · rw [Nat.pow_add, Nat.mul_comm]
    exact (Nat.le_div_iff_mul_le hp).1 h2
  · rw [Nat.add_assoc, Nat.pow_add, Nat.mul_comm]
    exact (Nat.div_lt_iff_lt_mul hp).1 h1
theorem blen_top {N n : Nat} (h : wlen N = n + 1) : blen N = n * 32 + blen (dig N n) := by
  have h1 := dig_top h
  have h2 := lt_pw_wlen N
  rw [h] at h2
  have h3 : dig N n = N / pw n := Nat.mod_eq_of_lt (div_lt_K h2)
  rw [h3] at h1 ⊢
  rw [pw_two] at h1 ⊢
  rw [blen_div (Nat.pos_of_ne_zero h1)]
  omega
end Nt

/-! ### The end of a difference -/
namespace Nt
theorem pw_split {i j : Nat} (h : i ≤ j) : pw j = pw i * pw (j - i) := by
  rw [← pw_add]; congr 1; omega
theorem dig_add_pw_ge {R d i j : Nat} (hR : R < pw i) (h : i ≤ j) : dig (R + d * pw i) j = d / pw (j - i) % K := by
  unfold dig
  rw [pw_split h, ← Nat.div_div_eq_div_mul, div_add_pw, div_pw_of_lt hR, Nat.zero_add]
theorem monus_end {R M N i : Nat} (hR : R < pw i) (h : R + N = M % pw i) : (∀ j, j < i → dig (M - N) j = dig R j) ∧ ∀ j, i ≤ j → dig (M - N) j = dig M j := by
  have e : M - N = R + M / pw i * pw i := by
    have := Nat.div_add_mod M (pw i)
    rw [Nat.mul_comm] at this
    omega
  have e2 : M = M % pw i + M / pw i * pw i := by
    have := Nat.div_add_mod M (pw i)
    rw [Nat.mul_comm] at this
    omega
  refine ⟨fun j hj => by rw [e, dig_add_pw_lt _ _ hj], fun j hj => ?_⟩
  rw [e, dig_add_pw_ge hR hj]
  conv => rhs; rw [e2]
  rw [dig_add_pw_ge (mod_lt_pw _ _) hj]
theorem monus_step0 {R M N i x : Nat} (hR : R < pw i) (h : R + N = M % pw i + 1 * pw i) (hx : dig M i = x + 1) (hxK : x < K) : R + x * pw i < pw (i + 1) ∧ R + x * pw i + N = M % pw (i + 1) + 0 * pw (i + 1) := by
  refine ⟨lt_pw_succ hR hxK, ?_⟩
  rw [mod_pw_succ, hx, Nat.add_mul]
  omega
theorem monus_step1 {R M N i : Nat} (hR : R < pw i) (h : R + N = M % pw i + 1 * pw i) (hx : dig M i = 0) : R + (K - 1) * pw i < pw (i + 1) ∧ R + (K - 1) * pw i + N = M % pw (i + 1) + 1 * pw (i + 1) := by
  refine ⟨lt_pw_succ hR (by have := K_pos; omega), ?_⟩
  rw [mod_pw_succ, hx, pw_succ, Nat.mul_comm (pw i) K, Nat.sub_mul]
  have : 1 * pw i ≤ K * pw i := Nat.mul_le_mul_right _ K_pos
  omega
theorem borrow_le {R M N br m : Nat} (hR : R < pw m) (hN : N < pw m) (h : R + N * 1 = M % pw m + br * pw m) : br ≤ 1 := by
  rcases Nat.lt_or_ge 1 br with h1 | h1
  · have : 2 * pw m ≤ br * pw m := Nat.mul_le_mul_right _ h1
    omega
  · exact h1
theorem borrow_none {R M N i : Nat} (hR : R < pw i) (hlt : N < M) (h : R + N = M % pw i + 1 * pw i) : i < wlen M := by
  rcases Nat.lt_or_ge i (wlen M) with h1 | h1
  · exact h1
  · have := Nat.lt_of_lt_of_le (lt_pw_wlen M) (pw_mono h1)
    rw [mod_pw_of_lt this] at h
    omega
end Nt

/-! ### A product, row by row -/
namespace Nt
def mulP (M N k : Nat) : Nat := (M % pw k) * N
theorem mulP_zero (M N : Nat) : mulP M N 0 = 0 := by simp [mulP, mod_pw_zero]
theorem mulP_succ (M N k : Nat) : mulP M N (k + 1) = mulP M N k % pw k + (mulP M N k / pw k + N * dig M k) * pw k := by
  unfold mulP
  rw [mod_pw_succ, Nat.add_mul, Nat.add_mul]
  have := Nat.div_add_mod (M % pw k * N) (pw k)
  rw [Nat.mul_comm (pw k)] at this
  have e : dig M k * pw k * N = N * dig M k * pw k := by rw [Nat.mul_right_comm, Nat.mul_comm (dig M k) N]
  rw [e]
  omega
theorem mulP_lt {M N m : Nat} (hN : N < pw m) (k : Nat) : mulP M N k < pw (k + m) := by
  unfold mulP
  rw [pw_add]
  exact Nat.lt_of_le_of_lt (Nat.mul_le_mul_left _ (Nat.le_of_lt hN)) (Nat.mul_lt_mul_of_pos_right (mod_lt_pw _ _) (pw_pos m))
theorem mulP_full {M N n : Nat} (h : M < pw n) : mulP M N n = M * N := by unfold mulP; rw [mod_pw_of_lt h]
theorem dig_div_pw (P k j : Nat) : dig (P / pw k) j = dig P (k + j) := by unfold dig; rw [Nat.div_div_eq_div_mul, pw_add]
theorem dig_add_pw_add {R d i : Nat} (hR : R < pw i) (j : Nat) : dig (R + d * pw i) (i + j) = dig d j := by
  rw [dig_add_pw_ge hR (Nat.le_add_right _ _), Nat.add_sub_cancel_left]; rfl
theorem mul_next {M N m k T : Nat} (hN : N < pw m) (hT : T = mulP M N k / pw k + N * dig M k) :
    (∀ j, j < k → dig (mulP M N (k + 1)) j = dig (mulP M N k) j) ∧ (∀ j, j < m → dig (mulP M N (k + 1)) (k + j) = dig T j) ∧ dig (mulP M N (k + 1)) (k + m) = T / pw m ∧ T / pw m < K ∧
      ∀ j, k + m < j → dig (mulP M N (k + 1)) j = 0 := by
  have e := mulP_succ M N k
  rw [← hT] at e
  have hR := mod_lt_pw (mulP M N k) k
  have hl := mulP_lt (M := M) hN (k + 1)
  have hTl : T < pw (m + 1) := by
    rw [e] at hl
    rw [show k + 1 + m = (m + 1) + k from by omega, pw_add] at hl
    refine Nat.lt_of_mul_lt_mul_right (a := pw k) ?_
    omega
  have hTK := div_lt_K hTl
  refine ⟨fun j hj => ?_, fun j hj => ?_, ?_, hTK, fun j hj => dig_of_lt (Nat.lt_of_lt_of_le hl (pw_mono (by omega)))⟩
  · rw [e, dig_add_pw_lt _ _ hj, dig_mod_pw hj]
  · rw [e, dig_add_pw_add hR]
  · rw [e, dig_add_pw_add hR]
    exact Nat.mod_eq_of_lt hTK
end Nt

/-! ### Decimal digits -/
namespace Nt
/-- N has L decimal digits (0 has one). -/
def IsDec (N L : Nat) : Prop := 1 ≤ L ∧ N < 10 ^ L ∧ (L = 1 ∨ 10 ^ (L - 1) ≤ N)
theorem IsDec.unique {N L L' : Nat} (h : IsDec N L) (h' : IsDec N L') : L = L' := by
  obtain ⟨a1, a2, a3⟩ := h
  obtain ⟨b1, b2, b3⟩ := h'
  have key : ∀ {L L' : Nat}, N < 10 ^ L → (L' = 1 ∨ 10 ^ (L' - 1) ≤ N) → 1 ≤ L → L' ≤ L := by
    intro L L' h1 h2 h3
    rcases h2 with h2 | h2
    · omega
    · rcases Nat.lt_or_ge L L' with h | h
      · have := Nat.pow_le_pow_right (n := 10) (by decide) (show L ≤ L' - 1 by omega)
        omega
      · exact h
  have := key a2 b3 a1
  have := key b2 a3 b1
  omega
/-- The digits, the greatest first, as bytes. -/
def decL (N L : Nat) : List Int := (List.range L).map fun j => ((48 + N / 10 ^ (L - 1 - j) % 10 : Nat) : Int)
theorem group_digit {X j : Nat} (h : j < 9) : X % 1000000000 / 10 ^ j % 10 = X / 10 ^ j % 10 := by
  have e : 1000000000 = 10 ^ j * (10 * 10 ^ (8 - j)) := by
    rw [← Nat.pow_succ', ← Nat.pow_add]
    have : j + (8 - j + 1) = 9 := by omega
    rw [this]
  rw [e, Nat.mod_mul_right_div_self, Nat.mod_mul_right_mod]
theorem digit_zero {N L : Nat} (h : N < 10 ^ (L + 1)) (hd : N / 10 ^ L % 10 = 0) : N < 10 ^ L := by
  rw [Nat.pow_succ] at h
  have h1 : N / 10 ^ L < 10 := Nat.div_lt_of_lt_mul h
  rw [Nat.mod_eq_of_lt h1] at hd
  have hp : 0 < 10 ^ L := Nat.pow_pos (by decide)
  rcases Nat.div_eq_zero_iff.1 hd with h0 | h0
  · omega
  · exact h0
theorem digit_pos {N L : Nat} (hd : N / 10 ^ L % 10 ≠ 0) : 10 ^ L ≤ N := by
  rcases Nat.lt_or_ge N (10 ^ L) with h | h
  · rw [Nat.div_eq_of_lt h] at hd; exact absurd rfl hd
  · exact h
end Nt

def lenV : Value → Nat
  | .slice _ n _ => n
  | _ => 0
namespace Nt
theorem ten_bound {N m n : Nat} (h : 10 ^ m ≤ N) (hN : N < pw n) : 3 * m < 32 * n := by
  rw [pw_two] at hN
  have h1 : (2 ^ 3) ^ m ≤ 10 ^ m := Nat.pow_le_pow_left (by decide) m
  rw [← Nat.pow_mul] at h1
  exact (Nat.pow_lt_pow_iff_right (a := 2) (by decide)).1 (Nat.lt_of_le_of_lt (Nat.le_trans h1 h) hN)
theorem ten_step (N t : Nat) : N / 10 ^ (9 * t) / 1000000000 = N / 10 ^ (9 * (t + 1)) := by
  rw [Nat.div_div_eq_div_mul, Nat.mul_add, Nat.pow_add]
theorem ten_digit {N t j : Nat} (h : j < 9) : N / 10 ^ (9 * t) % 1000000000 / 10 ^ j % 10 = N / 10 ^ (9 * t + j) % 10 := by
  rw [group_digit h, Nat.div_div_eq_div_mul, Nat.pow_add]
theorem ten_div (x j : Nat) : x / 10 ^ j / 10 = x / 10 ^ (j + 1) := by rw [Nat.div_div_eq_div_mul, Nat.pow_succ]
end Nt
end Go.Proofs.Ytegbhenchmfngaa
