/- The contracts as the laws use them: each leaves what was there as it was. -/
import Derived.Test.YtegbhenchmfngaaAwake
import Derived.Test.YtegbhenchmfngaaSame
import Derived.Test.YtegbhenchmfngaaSum
import Derived.Test.YtegbhenchmfngaaMonus
import Derived.Test.YtegbhenchmfngaaMul
import Derived.Test.YtegbhenchmfngaaBits
namespace Go.Proofs.Ytegbhenchmfngaa
open Go.RowKit


/-- A number that is there in every later world. -/
def Stays (w : World) (A : Option Addr) (n N : Nat) : Prop := ∀ w', Below w.heap.size w w' → IsNat w' A n N
theorem Stays.of {w : World} {A : Option Addr} {n N : Nat} (h : IsNat w A n N) : Stays w A n N := fun _ hb => h.below hb
theorem Stays.later {w w1 : World} {A : Option Addr} {n N : Nat} (h : Stays w A n N) (hb : Below w.heap.size w w1) : Stays w1 A n N := fun w' hb' => h w' (below_step hb hb')
theorem Stays.now {w : World} {A : Option Addr} {n N : Nat} (h : Stays w A n N) : IsNat w A n N := h w (Below.refl _ _)

theorem compare_b (A B : Option Addr) (n c m d M N : Nat) (w : World) (z : Int) (hz : Nt.cmp M N = z) (hM : IsNat w A n M) (hN : IsNat w B m N) (hc : n ≤ c) (hd : m ≤ d) (hcm : c ≤ 9223372036854775807) (hdm : d ≤ 9223372036854775807) :
    Calls Try.prog 21 #[.slice A n c, .slice B m d] w fun e w' => e = .returned (.int .i64 z) ∧ Below w.heap.size w w' :=
  (compare_any A B n c m d M N w hM hN hc hd hcm hdm).mono fun _ _ h => ⟨by rw [h.1, hz], by obtain ⟨q, hq⟩ := h.2; rw [hq]; exact below_drewN (Below.refl _ _) q⟩
theorem same_b (A B : Option Addr) (c d M N : Nat) (w : World) (r : Bool) (hr : decide (M = N) = r) (hM : IsNat w A (Nt.wlen M) M) (hN : IsNat w B (Nt.wlen N) N) (hn : Nt.wlen M ≤ 9223372036854775807) :
    Calls Try.prog 14 #[.slice A (Nt.wlen M) c, .slice B (Nt.wlen N) d] w fun e w' => e = .returned (.bool r) ∧ Below w.heap.size w w' :=
  (same_any A B c d M N w hM hN hn).mono fun _ _ h => ⟨by rw [h.1, hr], by obtain ⟨q, hq⟩ := h.2; rw [hq]; exact below_drewN (Below.refl _ _) q⟩
theorem same_one (A B : Option Addr) (n m c d M N : Nat) (w : World) (he : M = N) (en : n = Nt.wlen M) (em : m = Nt.wlen N) (hM : IsNat w A n M) (hN : IsNat w B m N) (hn : n ≤ 9223372036854775807) :
    Calls Try.prog 14 #[.slice A n c, .slice B m d] w fun e w' => e = .returned (.bool true) ∧ Below w.heap.size w w' := by
  subst en em
  exact same_b A B c d M N w true (by simp [he]) hM hN hn
theorem monus_any (A B : Option Addr) (n c m d M N : Nat) (w : World) (hM : IsNat w A n M) (hN : IsNat w B m N) (hc : n ≤ c) (hd : m ≤ d) (hcm : c ≤ 9223372036854775807) (hdm : d ≤ 9223372036854775807) (hn : n ≤ 1099511627776) :
    Calls Try.prog 19 #[.slice A n c, .slice B m d] w fun e w' => ∃ A' c', e = .returned (.slice A' (Nt.wlen (M - N)) c') ∧ Own w.heap.size w' A' (Nt.wlen (M - N)) c' (M - N) ∧ Below w.heap.size w w' := by
  rcases Nat.lt_or_ge N M with h | h
  · exact monus_some A B n c m d M N w hM hN hc hd hcm hdm hn h
  · refine (monus_none A B n c m d M N w hM hN hc hd hcm hdm h).mono fun e w' h' => ?_
    obtain ⟨rfl, q, rfl⟩ := h'
    rw [Nat.sub_eq_zero_of_le h]
    exact ⟨none, 0, rfl, Own.none_ _ _, below_drewN (Below.refl _ _) q⟩
theorem cmp_le {a b : Int} (h : a ≤ b) : Nt.cmp a b ≤ 0 := by
  unfold Nt.cmp
  split
  · decide
  · split
    · omega
    · decide
theorem cmp_neg (a b : Int) : Nt.cmp b a = - Nt.cmp a b := by unfold Nt.cmp; split <;> split <;> omega
end Go.Proofs.Ytegbhenchmfngaa
namespace Go.Proofs.Ytegbhenchmfngaa
open Go.RowKit
def sel {α : Type} (l : List α) (d : α) (i : Nat) : α := l.getD i d
theorem long3 (A B C : Option Addr) (n c m d k e : Nat) (w : World) (r : Bool) (hr : r = true ↔ 80 < n ∨ 80 < m ∨ 80 < k) :
    Calls Try.prog 13 #[.slice (some ⟨w.heap.size, 0, none⟩) 3 3] (w.alloc (.cells #[.slice A n c, .slice B m d, .slice C k e] 23))
      fun en w' => en = .returned (.bool r) ∧ (w.alloc (.cells #[.slice A n c, .slice B m d, .slice C k e] 23)) = w' := by
  refine long_any w.heap.size 3 3 (sel [A, B, C] none) (sel [n, m, k] 0) (sel [c, d, e] 0) _ (fun i hi => ?_) (by decide) r ?_
  · rw [World.cell?_alloc_at _ _ _ _ rfl]
    match i, hi with
    | 0, _ => rfl
    | 1, _ => rfl
    | 2, _ => rfl
  · rw [hr]
    constructor
    · rintro (h | h | h)
      · exact ⟨0, by decide, h⟩
      · exact ⟨1, by decide, h⟩
      · exact ⟨2, by decide, h⟩
    · rintro ⟨i, hi, h⟩
      match i, hi, h with
      | 0, _, h => exact .inl h
      | 1, _, h => exact .inr (.inl h)
      | 2, _, h => exact .inr (.inr h)
theorem long2 (A B : Option Addr) (n c m d : Nat) (w : World) (r : Bool) (hr : r = true ↔ 80 < n ∨ 80 < m) :
    Calls Try.prog 13 #[.slice (some ⟨w.heap.size, 0, none⟩) 2 2] (w.alloc (.cells #[.slice A n c, .slice B m d] 23))
      fun en w' => en = .returned (.bool r) ∧ (w.alloc (.cells #[.slice A n c, .slice B m d] 23)) = w' := by
  refine long_any w.heap.size 2 2 (sel [A, B] none) (sel [n, m] 0) (sel [c, d] 0) _ (fun i hi => ?_) (by decide) r ?_
  · rw [World.cell?_alloc_at _ _ _ _ rfl]
    match i, hi with
    | 0, _ => rfl
    | 1, _ => rfl
  · rw [hr]
    constructor
    · rintro (h | h)
      · exact ⟨0, by decide, h⟩
      · exact ⟨1, by decide, h⟩
    · rintro ⟨i, hi, h⟩
      match i, hi, h with
      | 0, _, h => exact .inl h
      | 1, _, h => exact .inr h
theorem long1 (A : Option Addr) (n c : Nat) (w : World) (r : Bool) (hr : r = true ↔ 80 < n) :
    Calls Try.prog 13 #[.slice (some ⟨w.heap.size, 0, none⟩) 1 1] (w.alloc (.cells #[.slice A n c] 23))
      fun en w' => en = .returned (.bool r) ∧ (w.alloc (.cells #[.slice A n c] 23)) = w' := by
  refine long_any w.heap.size 1 1 (sel [A] none) (sel [n] 0) (sel [c] 0) _ (fun i hi => ?_) (by decide) r ?_
  · rw [World.cell?_alloc_at _ _ _ _ rfl]
    match i, hi with
    | 0, _ => rfl
  · rw [hr]
    constructor
    · intro h
      exact ⟨0, by decide, h⟩
    · rintro ⟨i, hi, h⟩
      match i, hi, h with
      | 0, _, h => exact h
namespace Nt
theorem wlen_add {M N n m k : Nat} (hM : M < pw n) (hN : N < pw m) (h1 : n ≤ k) (h2 : m ≤ k) : wlen (M + N) ≤ k + 1 := by
  refine wlen_le ?_
  have a := pw_mono h1
  have b := pw_mono h2
  have c : 2 * pw k ≤ K * pw k := Nat.mul_le_mul_right _ (by decide)
  rw [pw_succ, Nat.mul_comm]
  omega
theorem wlen_mul {M N n m k : Nat} (hM : M < pw n) (hN : N < pw m) (h : n + m ≤ k) : wlen (M * N) ≤ k := by
  refine wlen_le (Nat.lt_of_lt_of_le ?_ (pw_mono h))
  rw [pw_add]
  exact Nat.lt_of_le_of_lt (Nat.mul_le_mul_left _ (Nat.le_of_lt hN)) (Nat.mul_lt_mul_of_pos_right hM (pw_pos m))
end Nt
end Go.Proofs.Ytegbhenchmfngaa
