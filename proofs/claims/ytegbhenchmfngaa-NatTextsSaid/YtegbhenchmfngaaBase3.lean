/- Texts of decimal digits: plain arithmetic. -/
import Derived.Test.YtegbhenchmfngaaBase2
import Derived.Laws.BytesArg
namespace Go.Proofs.Ytegbhenchmfngaa
namespace Nt

/-- A byte is a digit. -/
def isDig (c : UInt8) : Prop := 48 ≤ c.toNat ∧ c.toNat ≤ 57
/-- The number of a row of digits. -/
def numL (l : List UInt8) : Nat := l.foldl (fun a c => 10 * a + (c.toNat - 48)) 0
theorem numL_nil : numL [] = 0 := rfl
theorem numL_snoc (l : List UInt8) (c : UInt8) : numL (l ++ [c]) = 10 * numL l + (c.toNat - 48) := by unfold numL; rw [List.foldl_append]; rfl
theorem foldl_num (r : List UInt8) : ∀ a, r.foldl (fun a c => 10 * a + (c.toNat - 48)) a = a * 10 ^ r.length + numL r := by
  induction r with
  | nil => intro a; simp [numL]
  | cons c r ih =>
    intro a
    unfold numL
    rw [List.foldl_cons, List.foldl_cons, ih, ih, List.length_cons, Nat.pow_succ, Nat.add_mul, Nat.mul_zero, Nat.zero_add, Nat.mul_comm 10 a, Nat.mul_assoc, Nat.mul_comm 10, Nat.add_assoc]
theorem numL_append (l r : List UInt8) : numL (l ++ r) = numL l * 10 ^ r.length + numL r := by
  conv => lhs; unfold numL
  rw [List.foldl_append]
  exact foldl_num r (numL l)
theorem numL_lt {l : List UInt8} (h : ∀ c ∈ l, isDig c) : numL l < 10 ^ l.length := by
  induction l with
  | nil => simp [numL]
  | cons c l ih =>
    have h1 := numL_append [c] l
    rw [List.singleton_append] at h1
    have h2 := ih fun c hc => h c (List.mem_cons_of_mem _ hc)
    have h3 := h c (List.mem_cons_self ..)
    have h4 : numL [c] = c.toNat - 48 := by simp [numL]
    rw [h1, h4, List.length_cons, Nat.pow_succ]
    have h5 : (c.toNat - 48 + 1) * 10 ^ l.length ≤ 10 * 10 ^ l.length := Nat.mul_le_mul_right _ (by have := h3.2; omega)
    rw [Nat.add_mul, Nat.one_mul] at h5
    rw [Nat.mul_comm _ 10]
    omega
/-- What Decimal can answer. -/
def valid (l : List UInt8) : Prop := l ≠ [] ∧ (∀ c ∈ l, isDig c) ∧ (1 < l.length → ∀ c r, l = c :: r → c.toNat ≠ 48)
theorem numL_digit {l : List UInt8} (h : ∀ c ∈ l, isDig c) : ∀ (i : Nat) (hi : i < l.length), numL l / 10 ^ (l.length - 1 - i) % 10 = l[i].toNat - 48 := by
  suffices key : ∀ (n : Nat) (l : List UInt8), l.length = n → (∀ c ∈ l, isDig c) → ∀ (i : Nat) (hi : i < l.length), numL l / 10 ^ (l.length - 1 - i) % 10 = l[i].toNat - 48 from key l.length l rfl h
  intro n
  induction n with
  | zero => intro l hl _ i hi; omega
  | succ n ih =>
    intro l hl h i hi
    have hne : l ≠ [] := fun h => by rw [h] at hl; cases hl
    obtain ⟨p, c, rfl⟩ : ∃ p c, l = p ++ [c] := ⟨l.dropLast, l.getLast hne, (List.dropLast_concat_getLast hne).symm⟩
    have hp : p.length = n := by simpa using hl
    have hc := h c (by simp)
    have hl' : (p ++ [c]).length = n + 1 := hl
    simp only [hl']
    rw [numL_snoc]
    by_cases e : i = n
    · subst e
      have : (p ++ [c])[i] = c := by simp [hp]
      rw [this, show i + 1 - 1 - i = 0 by omega, Nat.pow_zero, Nat.div_one, Nat.mul_add_mod]
      exact Nat.mod_eq_of_lt (by have := hc.2; omega)
    · have hi' : i < p.length := by omega
      have h1 := ih p hp (fun c hc => h c (List.mem_append_left _ hc)) i hi'
      rw [List.getElem_append_left hi', ← h1, hp, show n + 1 - 1 - i = n - 1 - i + 1 by omega, Nat.pow_succ, Nat.mul_comm (10 ^ _) 10, ← Nat.div_div_eq_div_mul]
      congr 2
      rw [Nat.mul_add_div (by decide), Nat.div_eq_of_lt (by have := hc.2; omega), Nat.add_zero]
/-- The digits as bytes. -/
def decU (N L : Nat) : List UInt8 := (decL N L).map fun n => UInt8.ofNat n.toNat
theorem decU_str (N L : Nat) : strOfNums (decL N L) = ⟨(decU N L).toArray⟩ := rfl
theorem decU_len (N L : Nat) : (decU N L).length = L := by simp [decU, decL]
theorem decU_get (N L i : Nat) (h : i < (decU N L).length) : (decU N L)[i].toNat = 48 + N / 10 ^ (L - 1 - i) % 10 := by
  have : (decU N L)[i] = UInt8.ofNat (48 + N / 10 ^ (L - 1 - i) % 10) := by
    simp only [decU, decL, List.getElem_map, List.getElem_range, Int.toNat_natCast]
  rw [this, UInt8.toNat_ofNat']
  exact Nat.mod_eq_of_lt (by omega)
theorem decU_dig (N L : Nat) : ∀ c ∈ decU N L, isDig c := by
  intro c hc
  obtain ⟨i, hi, rfl⟩ := List.mem_iff_getElem.1 hc
  rw [isDig, decU_get]
  omega
theorem numL_decU {N L : Nat} (h : N < 10 ^ L) : numL (decU N L) = N := by
  have key : ∀ (n : Nat) (l : List UInt8) (N : Nat), l.length = n → (∀ c ∈ l, isDig c) → N < 10 ^ n → (∀ (i : Nat) (hi : i < l.length), l[i].toNat = 48 + N / 10 ^ (n - 1 - i) % 10) → numL l = N := by
    intro n
    induction n with
    | zero =>
      intro l N hl _ hN _
      have : l = [] := List.eq_nil_of_length_eq_zero hl
      subst this
      simp at hN
      rw [hN]; rfl
    | succ n ih =>
      intro l N hl hd hN hg
      have hne : l ≠ [] := fun h => by rw [h] at hl; cases hl
      obtain ⟨p, c, rfl⟩ : ∃ p c, l = p ++ [c] := ⟨l.dropLast, l.getLast hne, (List.dropLast_concat_getLast hne).symm⟩
      have hp : p.length = n := by simpa using hl
      have h1 := ih p (N / 10) hp (fun c hc => hd c (List.mem_append_left _ hc)) (by rw [Nat.pow_succ] at hN; omega) (fun i hi => by
        have := hg i (by simp; omega)
        rw [List.getElem_append_left hi] at this
        rw [this, Nat.div_div_eq_div_mul, ← Nat.pow_succ', show (n - 1 - i).succ = n + 1 - 1 - i by omega])
      have h2 := hg n (by simp; omega)
      have h3 : (p ++ [c])[n]'(by simp; omega) = c := by simp [hp]
      rw [h3, show n + 1 - 1 - n = 0 by omega, Nat.pow_zero, Nat.div_one] at h2
      rw [numL_snoc, h1, h2]
      omega
  exact key L _ N (decU_len N L) (decU_dig N L) h fun i hi => decU_get N L i hi
theorem valid_decU {N L : Nat} (h : IsDec N L) : valid (decU N L) := by
  obtain ⟨h1, h2, h3⟩ := h
  refine ⟨fun e => ?_, decU_dig N L, fun hl c r e => ?_⟩
  · have := decU_len N L; rw [e] at this; simp at this; omega
  · rw [decU_len] at hl
    have h4 : 10 ^ (L - 1) ≤ N := by rcases h3 with h | h <;> omega
    have h5 := decU_get N L 0 (by rw [decU_len]; omega)
    simp only [e, List.getElem_cons_zero] at h5
    rw [h5, Nat.sub_zero]
    have hp : 0 < 10 ^ (L - 1) := Nat.pow_pos (by decide)
    have h6 : 1 ≤ N / 10 ^ (L - 1) := (Nat.le_div_iff_mul_le hp).2 (by omega)
    have h7 : N / 10 ^ (L - 1) < 10 := Nat.div_lt_of_lt_mul (by rw [← Nat.pow_succ, show (L - 1).succ = L by omega]; exact h2)
    rw [Nat.mod_eq_of_lt h7]
    omega
theorem isDec_valid {l : List UInt8} (h : valid l) : IsDec (numL l) l.length := by
  obtain ⟨h1, h2, h3⟩ := h
  have hl : 1 ≤ l.length := by
    cases l with
    | nil => exact absurd rfl h1
    | cons => simp
  refine ⟨hl, numL_lt h2, ?_⟩
  rcases (by omega : l.length = 1 ∨ 1 < l.length) with e | e
  · exact .inl e
  · right
    cases l with
    | nil => simp at e
    | cons c r =>
      have h4 := h3 e c r rfl
      have h5 := h2 c (List.mem_cons_self ..)
      have h6 := numL_append [c] r
      rw [List.singleton_append] at h6
      have h7 : numL [c] = c.toNat - 48 := by simp [numL]
      have h8 : 1 * 10 ^ r.length ≤ (c.toNat - 48) * 10 ^ r.length := Nat.mul_le_mul_right _ (by have := h5.1; omega)
      rw [h6, h7, List.length_cons, Nat.add_sub_cancel]
      omega
theorem decU_numL {l : List UInt8} (h : ∀ c ∈ l, isDig c) : decU (numL l) l.length = l := by
  refine List.ext_getElem (decU_len _ _) fun i h1 h2 => ?_
  have e := decU_get (numL l) l.length i h1
  rw [numL_digit h i h2] at e
  have := h _ (List.getElem_mem h2)
  refine UInt8.toNat_inj.1 ?_
  rw [e]
  have := this.1
  omega

/-! ### A number times a power of ten, and a group more -/
def grpT (c0 N W k : Nat) : Nat := c0 + (N % pw k) * W
theorem grpT_zero (c0 N W : Nat) : grpT c0 N W 0 = c0 := by simp [grpT, mod_pw_zero]
theorem grpT_succ (c0 N W k : Nat) : grpT c0 N W (k + 1) = grpT c0 N W k + dig N k * W * pw k := by
  unfold grpT
  rw [mod_pw_succ, Nat.add_mul, Nat.mul_right_comm]
  omega
theorem grpT_full {c0 N W n : Nat} (h : N < pw n) : grpT c0 N W n = c0 + N * W := by unfold grpT; rw [mod_pw_of_lt h]
theorem grpT_lt {c0 N W k : Nat} (h : c0 < W) : grpT c0 N W k / pw k < W := by
  refine Nat.div_lt_of_lt_mul ?_
  unfold grpT
  have h1 : (N % pw k + 1) * W ≤ pw k * W := Nat.mul_le_mul_right _ (mod_lt_pw N k)
  rw [Nat.add_mul, Nat.one_mul] at h1
  omega
theorem grpT_next {c0 N W k cy s : Nat} (hc : grpT c0 N W k / pw k = cy) (hs : s = cy + dig N k * W) :
    grpT c0 N W (k + 1) / pw (k + 1) = s / K ∧ dig (grpT c0 N W (k + 1)) k = s % K ∧ ∀ j, j < k → dig (grpT c0 N W (k + 1)) j = dig (grpT c0 N W k) j := by
  rw [grpT_succ, div_add_pw', dig_add_pw, hc, ← hs]
  exact ⟨rfl, rfl, fun j hj => dig_add_pw_lt _ _ hj⟩
end Nt
end Go.Proofs.Ytegbhenchmfngaa
