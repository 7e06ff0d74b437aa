/- Texts there and back; shifts either way. -/
import Derived.Test.YtegbhenchmfngaaLawKit
import Derived.Test.YtegbhenchmfngaaParse
import Derived.Test.YtegbhenchmfngaaShift
namespace Go.Proofs.Ytegbhenchmfngaa
open Go.RowKit

theorem decS_of_valid {l : List UInt8} (h : Nt.valid l) : DecS ⟨l.toArray⟩ := by
  obtain ⟨h1, h2, h3⟩ := h
  have hl : 0 < l.length := List.length_pos_iff.2 h1
  refine ⟨hl, fun k hk => h2 _ (List.getElem_mem hk), fun _ h4 => ?_⟩
  cases l with
  | nil => exact absurd rfl h1
  | cons c r => exact h3 h4 c r rfl
theorem valid_of_decS {s : ByteArray} (h : DecS s) : Nt.valid s.data.toList := by
  obtain ⟨h1, h2, h3⟩ := h
  refine ⟨fun e => ?_, dig_list s h2, fun h4 c r e => ?_⟩
  · have := len_data s
    rw [e] at this
    simp at this
    omega
  · rw [len_data] at h4
    have h5 := h3 h1 h4
    have h6 : s[0] = s.data.toList[0]'(by rw [len_data]; exact h1) := rfl
    rw [h6] at h5
    simp only [e, List.getElem_cons_zero] at h5
    exact h5
theorem decS_dec {M L : Nat} (h : Nt.IsDec M L) : DecS (strOfNums (Nt.decL M L)) := by
  rw [Nt.decU_str]; exact decS_of_valid (Nt.valid_decU h)
theorem num_dec {M L : Nat} (h : Nt.IsDec M L) : M = Nt.numL (strOfNums (Nt.decL M L)).data.toList := by
  rw [Nt.decU_str]
  exact (Nt.numL_decU h.2.1).symm
theorem dec_num {s : ByteArray} (h : DecS s) {L : Nat} (hL : Nt.IsDec (Nt.numL s.data.toList) L) : strOfNums (Nt.decL (Nt.numL s.data.toList) L) = s := by
  have h1 := Nt.isDec_valid (valid_of_decS h)
  have h2 := Nt.IsDec.unique hL h1
  subst h2
  rw [Nt.decU_str, Nt.decU_numL (dig_list s h.2.1)]
theorem dec_size {M L n : Nat} (h : Nt.IsDec M L) (hM : M < Nt.pw n) : (strOfNums (Nt.decL M L)).size ≤ 11 * n + 1 := by
  rw [strOfNums_size]
  have : (Nt.decL M L).length = L := by simp [Nt.decL]
  rw [this]
  rcases h.2.2 with h1 | h1
  · omega
  · have := Nt.ten_bound h1 hM
    omega

/-- A number's digits, read. -/
theorem parse_dec {M L n : Nat} (h : Nt.IsDec M L) (hM : M < Nt.pw n) (hn : n ≤ 1000) (w : World) :
    Calls Try.prog 35 #[.string (strOfNums (Nt.decL M L))] w fun e w' => ∃ A c, e = .returned (.tuple #[.slice A (Nt.wlen M) c, .int .i64 0]) ∧ IsNat w' A (Nt.wlen M) M ∧ Nt.wlen M ≤ c ∧ c ≤ 9223372036854775807 ∧ Below w.heap.size w w' :=
  parse_yes _ w (by have := dec_size h hM; omega) (decS_dec h) M (num_dec h)
/-- The digits of a number that was read. -/
theorem dec_parse {s : ByteArray} (h : DecS s) (A : Option Addr) (n c T : Nat) (hT : T = Nt.numL s.data.toList) (w : World) (hA : IsNat w A n T) (hc : n ≤ c) (hm : c ≤ 9223372036854775807) (hn : n ≤ 1099511627776) :
    Calls Try.prog 37 #[.slice A n c] w fun e w' => e = .returned (.string s) ∧ Below w.heap.size w w' :=
  (decimal_any A n c T w hA hc hm hn).mono fun e w' ⟨L, hL, he, hb⟩ => ⟨by
    subst hT
    rw [he, dec_num h hL], hb⟩

theorem shift_neg (A : Option Addr) (n c M : Nat) (b : Nat) (w : World) (hM : IsNat w A n M) (hc : n ≤ c) (hcm : c ≤ 9223372036854775807) (hn : n ≤ 1099511627776) (hb : b ≤ 65536) :
    Calls Try.prog 27 #[.slice A n c, .int .i64 (-(b : Int))] w fun e w' => ∃ A' c', e = .returned (.tuple #[.slice A' (Nt.wlen (M / 2 ^ b)) c', .int .i64 0]) ∧ Own w.heap.size w' A' (Nt.wlen (M / 2 ^ b)) c' (M / 2 ^ b) ∧ Below w.heap.size w w' := by
  rcases Nat.eq_zero_or_pos b with h | h
  · subst h
    have := shift_up A n c M 0 w hM hc hcm hn (by omega)
    rw [Nat.pow_zero, Nat.mul_one] at this
    rw [Nat.pow_zero, Nat.div_one]
    exact this
  · exact shift_down A n c M b w hM hc hcm hn hb h
namespace Nt
theorem blen_shift {M b : Nat} (h : M ≠ 0) : blen (M * 2 ^ b) = blen M + b := by
  have h1 := lt_blen M
  have h2 := le_blen h
  have h3 := blen_pos h
  generalize blen M = x at *
  obtain ⟨y, rfl⟩ : ∃ y, x = y + 1 := ⟨x - 1, by omega⟩
  rw [Nat.add_sub_cancel] at h2
  refine (blen_eq (n := y + b) ?_ ?_).trans (by omega)
  · rw [Nat.pow_add]; exact Nat.mul_le_mul_right _ h2
  · rw [show y + b + 1 = (y + 1) + b by omega, Nat.pow_add]
    exact Nat.mul_lt_mul_of_pos_right h1 (Nat.two_pow_pos b)
theorem wlen_shift {M n b : Nat} (hM : M < pw n) : wlen (M * 2 ^ b) ≤ n + b / 32 + 1 := by
  refine wlen_le ?_
  rw [Nat.add_assoc, pw_add]
  refine Nat.mul_lt_mul_of_lt_of_le hM ?_ (pw_pos _)
  rw [pw_two]
  exact Nat.pow_le_pow_right (by decide) (by omega)
end Nt
end Go.Proofs.Ytegbhenchmfngaa
