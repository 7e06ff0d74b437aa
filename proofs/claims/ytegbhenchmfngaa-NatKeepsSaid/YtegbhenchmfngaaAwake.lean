/- retortlaw01.awake: true. -/
import Derived.Test.YtegbhenchmfngaaDivMod
import Derived.Test.YtegbhenchmfngaaDecimal
namespace Go.Proofs.Ytegbhenchmfngaa
open Go.RowKit

theorem nat_one (w : World) (a : Nat) (ha : a < 4294967296) : IsNat (w.alloc (.cells #[.int .u32 a] 44)) (some ⟨w.heap.size, 0, none⟩) 1 a :=
  ⟨by simpa [Nt.pw, Nt.K] using ha, fun _ => ⟨_, 0, rfl, fun j hj => by
    have hj0 : j = 0 := by omega
    subst hj0
    rw [World.cell?_alloc_at _ _ _ _ rfl]
    unfold Nt.dig
    rw [Nt.pw_zero, Nat.div_one, Nat.mod_eq_of_lt (by rw [Nt.K_eq]; exact ha)]; rfl⟩⟩
theorem nat_two (w : World) (a b : Nat) (ha : a < 4294967296) (hb : b < 4294967296) : IsNat (w.alloc (.cells #[.int .u32 a, .int .u32 b] 44)) (some ⟨w.heap.size, 0, none⟩) 2 (a + b * 4294967296) :=
  ⟨by show _ < 18446744073709551616; omega, fun _ => ⟨_, 0, rfl, fun j hj => by
    rw [World.cell?_alloc_at _ _ _ _ rfl]
    rcases (by omega : j = 0 ∨ j = 1) with rfl | rfl
    · unfold Nt.dig
      rw [Nt.pw_zero, Nat.div_one, Nt.K_eq, show (a + b * 4294967296) % 4294967296 = a by omega]; rfl
    · unfold Nt.dig
      rw [show Nt.pw 1 = 4294967296 from Nat.pow_one _, Nt.K_eq, show (a + b * 4294967296) / 4294967296 % 4294967296 = b by omega]; rfl⟩⟩

theorem dec_const : Nt.IsDec 4294967296 10 := ⟨by decide, by decide, .inr (by decide)⟩

theorem div_const (A B : Option Addr) (w : World) (h17 : IsNat w A 1 17) (h5 : IsNat w B 2 5) :
    Calls Try.prog 23 #[.slice A 1 1, .slice B 2 2] w fun e w' => ∃ b1 b2 c1 c2, e = .returned (.tuple #[.slice (some ⟨b1, 0, none⟩) 1 c1, .slice (some ⟨b2, 0, none⟩) 1 c2, .int .i64 0]) ∧
      w'.cell? ⟨b1, 0, none⟩ = some (.int .u32 3) ∧ w'.cell? ⟨b2, 0, none⟩ = some (.int .u32 2) ∧ Below w.heap.size w w' := by
  refine (divmod_word A B 1 1 2 2 17 5 w h17 h5 (by decide) (by decide) (by decide) (by decide) (by decide) (by decide) (by decide)).mono ?_
  rintro e w' ⟨A1, c1, A2, c2, rfl, o1, o2, _, hb⟩
  have e1 : Nt.wlen (17 / 5) = 1 := by decide
  have e2 : Nt.wlen (17 % 5) = 1 := by decide
  rw [e1] at o1 ⊢
  rw [e2] at o2 ⊢
  obtain ⟨b1, F1, rfl, _, r1, f1⟩ := o1.row (by decide)
  obtain ⟨b2, F2, rfl, _, r2, f2⟩ := o2.row (by decide)
  have g1 := f1 0 (by decide)
  have g2 := f2 0 (by decide)
  rw [show Nt.dig (17 / 5) 0 = 3 by decide] at g1
  rw [show Nt.dig (17 % 5) 0 = 2 by decide] at g2
  exact ⟨b1, b2, c1, c2, rfl, by rw [r1.cell (Nat.lt_of_lt_of_le (by decide) o1.le), g1]; rfl, by rw [r2.cell (Nat.lt_of_lt_of_le (by decide) o2.le), g2]; rfl, hb⟩

theorem dec_str : strOfNums (Nt.decL 4294967296 10) = ⟨#[52, 50, 57, 52, 57, 54, 55, 50, 57, 54]⟩ := by decide

set_option maxHeartbeats 400000 in
theorem awake_any (w : World) : Calls Try.prog 12 #[] w fun e w' => e = .returned (.bool true) ∧ Below w.heap.size w w' := by
  go_enter Try.func12, Try.ntmps12
  go_wp2_with fail
  have h17 := (nat_one w 17 (by decide)).alloc (.cells #[.int .u32 5, .int .u32 0] 44)
  have h5 := nat_two (w.alloc (.cells #[.int .u32 17] 44)) 5 0 (by decide) (by decide)
  rw [show (w.alloc (.cells #[.int .u32 17] 44)).heap.size = w.heap.size + 1 by simp] at h5
  have hb0 : Below w.heap.size w ((w.alloc (.cells #[.int .u32 17] 44)).alloc (.cells #[.int .u32 5, .int .u32 0] 44)) := ((Below.refl _ _).alloc (Nat.le_refl _) _).alloc (by simp) _
  refine (div_const _ _ _ h17 h5).mono ?_
  rintro e w1 ⟨b1, b2, c1, c2, rfl, g1, g2, hb⟩
  have hb1 := hb0.trans (hb.mono hb0.size)
  clear h17 h5 hb0 hb
  go_wp2_with fail
  have h4 := nat_two w1 0 1 (by decide) (by decide)
  refine (decimal_any _ 2 2 _ _ h4 (by decide) (by decide) (by decide)).mono ?_
  rintro e w2 ⟨L, hL, rfl, hb2⟩
  have hL10 := Nt.IsDec.unique hL dec_const
  subst hL10
  rw [show 0 + 1 * 4294967296 = 4294967296 from rfl, dec_str]
  have hb3 := (hb1.alloc hb1.size (.cells #[.int .u32 0, .int .u32 1] 44)).trans (hb2.mono (by have := hb1.size; simp; omega))
  go_wp2_with fail
  go_ret
  exact ⟨rfl, hb3⟩
end Go.Proofs.Ytegbhenchmfngaa
