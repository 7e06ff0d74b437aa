/- The document's shifts and bits. -/
import Derived.Test.YtegbhenchmfngaaRef7
namespace Go.Proofs.Ytegbhenchmfngaa
open Go.RowKit

theorem rshift_large (A : Option Addr) (n c : Nat) (b : Int) (w : World) (hb : 65536 < b ∨ b < -65536) :
    Calls Try.prog 28 #[.slice A n c, .int .i64 b] w fun e w' => e = .returned (.tuple #[.slice none 0 0, .int .i64 6]) ∧ w = w' := by
  rcases hb with hb | hb
  · go_enter Try.func28, Try.ntmps28
    go_wp2
    go_ret2
    exact ⟨rfl, rfl⟩
  · have h1 : ¬ (65536 : Int) < b := by omega
    go_enter Try.func28, Try.ntmps28
    go_wp2
    go_ret2
    exact ⟨rfl, rfl⟩

/-- What a shift answers. -/
def ShiftPost (T : Nat) (w : World) (e : Ending) (w' : World) : Prop :=
  ∃ A c, e = .returned (.tuple #[.slice A (Nt.wlen T) c, .int .i64 0]) ∧ IsNat w' A (Nt.wlen T) T ∧ Below w.heap.size w w'

set_option maxHeartbeats 2000000 in
theorem rshift_up (A : Option Addr) (n c M b : Nat) (w : World) (hM : IsNat w A n M) (hn : n ≤ 200) (hb : b ≤ 65536) :
    Calls Try.prog 28 #[.slice A n c, .int .i64 (b : Int)] w (ShiftPost (M * 2 ^ b) w) := by
  have h1 : ¬ (65536 : Int) < (b : Int) := by omega
  have h2 : ¬ (b : Int) < -65536 := by omega
  have hl1 := N8wlen_le hM
  go_enter Try.func28, Try.ntmps28
  go_wp2_with fail
  refine (digits_any A n c M _ hM (by omega)).mono ?_
  rintro e w1 ⟨A1, c1, rfl, hD1, hc1, hc2, hb1⟩
  have hMw := N8.lt_pw_wlen M
  generalize N8.wlen M = x at *
  have hmk := fun y hy => make_ints (x + b / 8 + 1) (by omega) y hy (by omega)
  go_wp2_with fail
  all_goals try first | rw [hmk ((x : Int) + 1) (by omega)] | rw [hmk ((x : Int) + (b : Int) / 8 + 1) (by omega)]
  all_goals go_wp2_with fail
  all_goals
    clear hmk
    have hrow := RowI.made w1 (x + b / 8 + 1)
    have hDA := hD1.alloc (.cells (madeCells #[.int .i64 0] (x + b / 8 + 1)) 3)
    have hbw : Below w.heap.size w (w1.alloc (.cells (madeCells #[.int .i64 0] (x + b / 8 + 1)) 3)) := hb1.alloc hb1.size _
    have hfA : 0 < x → ∀ b o, A1 = some ⟨b, o, none⟩ → b ≠ w1.heap.size := fun h => digs_far hD1 h (Nat.le_refl _)
    have hgB := hb1.size
    generalize w1.alloc (.cells (madeCells #[.int .i64 0] (x + b / 8 + 1)) 3) = w3 at *
    generalize w1.heap.size = g at *
    have HB := Lib.hid hbw
    obtain ⟨L, hL⟩ : ∃ L, L = x + b / 8 + 1 := ⟨_, rfl⟩
    rw [← hL] at hrow ⊢
    have HX := Lib.hid hMw
    clear hbw hM hD1 hb1 hMw
    go_loopw [8] (fun i wr => ∃ k : Nat, i = .int .i64 k ∧ k ≤ 8 * x ∧ RowI wr g L (N8.dig (M % 2 ^ k * 2 ^ b)) ∧ Only g w3 wr) (fun i _ => 8 * x - (intOf i).toNat)
    case atStart => exact ⟨0, rfl, Nat.zero_le _, hrow.congr fun j _ => by rw [Nat.pow_zero, Nat.mod_one, Nat.zero_mul, N8.dig_of_lt (N8.pw_pos j)], Only.refl _ _⟩
    case round =>
      clear hrow
      obtain ⟨k, rfl, hk, hrk, hok⟩ := hrel
      by_cases hlt : k < 8 * x
      · have hMk := hok.digs hDA (hfA (by omega))
        obtain ⟨p, hp⟩ : ∃ p, p = k + b := ⟨_, rfl⟩
        have e1 : (k : Int) + (b : Int) = (p : Int) := by omega
        have hpL : p / 8 < L := by omega
        obtain ⟨t, ht⟩ : ∃ t, t = M / 2 ^ k % 2 := ⟨_, rfl⟩
        have ht1 : t ≤ 1 := by omega
        have hO : M % 2 ^ k * 2 ^ b < 2 ^ p := by
          rw [hp, Nat.pow_add]
          exact Nat.mul_lt_mul_of_pos_right (Nat.mod_lt _ (Nat.two_pow_pos _)) (Nat.two_pow_pos _)
        have hroom := N8.dig_room_lo hO ht1
        have hup := N8.dig_upd hroom
        have hO' : M % 2 ^ k * 2 ^ b + t * 2 ^ (p % 8) * N8.pw (p / 8) = M % 2 ^ (k + 1) * 2 ^ b := by
          rw [Nat.mul_assoc, N8.pw_bit, N8.mod_bit, ← ht, hp, Nat.pow_add, Nat.add_mul]
          congr 1
          ac_rfl
        rw [hO'] at hup
        have HUP := Lib.hid hup
        have HBIT := Lib.hid (bit_any A1 x c1 M k wr.drew ⟨hMk.1, hMk.2.drew⟩ (by omega) (by omega) t ht)
        obtain ⟨pq, hpq⟩ : ∃ pq, pq = p / 8 := ⟨_, rfl⟩
        obtain ⟨pr, hpr⟩ : ∃ pr, pr = p % 8 := ⟨_, rfl⟩
        have hpb : p ≤ 100000 := by omega
        have q1 : IntKind.i64.wrap (p : Int) = (p : Int) := by rw [IntKind.wrap_i64]; omega
        have q2 : IntKind.i64.wrap ((p : Int) / 8) = (pq : Int) := by rw [IntKind.wrap_i64]; omega
        have q3 : IntKind.i64.wrap ((p : Int) % 8) = (pr : Int) := by rw [IntKind.wrap_i64]; omega
        have hpr8 : pr < 8 := by omega
        rw [← hpq] at hpL
        have hpL' : (pq : Int) < (L : Int) := by omega
        have hp0 : (0 : Int) ≤ (pq : Int) := by omega
        have s1 := hrk.cell hpL
        have s2 := hrk.frozen pq
        rw [hpq] at s1
        generalize hQ : N8.dig (M % 2 ^ k * 2 ^ b) (p / 8) = u at *
        obtain ⟨s, hs⟩ : ∃ s, s = u + t * 2 ^ (p % 8) := ⟨_, rfl⟩
        have HSS := Lib.hid hs
        have hsb : s < 256 := by omega
        have ew : wrap64 ((u : Int) + wrap64 ((t : Int) * 2 ^ min (p % 8) 64)) = (s : Int) := by
          have e0 : (t : Int) * 2 ^ (p % 8) = ((t * 2 ^ (p % 8) : Nat) : Int) := by simp
          rw [Nat.min_eq_left (by omega), e0]
          exact wrap_sum u (t * 2 ^ (p % 8)) s hs hsb
        rw [← hpq] at s1
        have EW := Lib.hid ew
        have HPQ := Lib.hid hpq
        have HPR := Lib.hid hpr
        have HL := Lib.hid hL
        clear hup hQ hs ew hO hO' ht hroom hp hpq hpr hL hMk
        go_wp2_with fail
        go_region_with (go_at_call 55; refine (HBIT.out).mono ?_; rintro e w2 ⟨rfl, rfl⟩)
        all_goals go_wp2_with fail
        all_goals
          rw [EW.out]
          refine ⟨⟨k + 1, by go_num, by omega, ?_, (hok.set_ _ _).drew⟩, by simp [intOf] <;> omega⟩
          refine ((hrk.set_ pq s).drew).congr fun j _ => ?_
          rw [HUP.out j, HSS.out, HPQ.out]
      · have hk' : k = 8 * x := by omega
        subst hk'
        rw [← N8.pw_two, N8.mod_pw_of_lt HX.out] at hrk
        have hT : M * 2 ^ b < N8.pw L := by
          rw [N8.pw_two, hL, show 8 * (x + b / 8 + 1) = 8 * x + (8 * (b / 8) + 8) by omega, Nat.pow_add, ← N8.pw_two]
          exact Nat.lt_of_lt_of_le (Nat.mul_lt_mul_of_pos_right HX.out (Nat.two_pow_pos _)) (Nat.mul_le_mul_left _ (Nat.pow_le_pow_right (by decide) (by omega)))
        have hD : IsD wr (some ⟨g, 0, none⟩) L (M * 2 ^ b) := ⟨hT, hrk.isL⟩
        have hL9 : L ≤ 1000000 := by omega
        have HL := Lib.hid hL
        have hBr := hok.below HB.out hgB
        clear hT hL
        go_wp2_with fail
        refine (words_any _ _ L _ _ hD (Nat.le_refl _) (by omega) hL9).mono ?_
        rintro e w5 ⟨A5, c5, rfl, hR5, hf1, hf2, hb5⟩
        go_wp2_with fail
        go_ret2
        exact ⟨A5, c5, rfl, hR5, below_step hBr hb5⟩
set_option maxHeartbeats 2000000 in
theorem rshift_down (A : Option Addr) (n c M b : Nat) (w : World) (hM : IsNat w A n M) (hn : n ≤ 200) (hb : b ≤ 65536) (hb0 : 0 < b) :
    Calls Try.prog 28 #[.slice A n c, .int .i64 (-(b : Int))] w (ShiftPost (M / 2 ^ b) w) := by
  have h1 : ¬ (65536 : Int) < -(b : Int) := by omega
  have h2 : ¬ -(b : Int) < -65536 := by omega
  have h3 : ¬ (0 : Int) < -(b : Int) := by omega
  have hl1 := N8wlen_le hM
  go_enter Try.func28, Try.ntmps28
  go_wp2_with fail
  refine (digits_any A n c M _ hM (by omega)).mono ?_
  rintro e w1 ⟨A1, c1, rfl, hD1, hc1, hc2, hb1⟩
  have hMw := N8.lt_pw_wlen M
  generalize N8.wlen M = x at *
  have hmk := make_ints (x + 1) (by omega) ((x : Int) + 1) (by omega) (by omega)
  go_wp2_with fail
  all_goals
    clear hmk
    have hrow := RowI.made w1 (x + 1)
    have hDA := hD1.alloc (.cells (madeCells #[.int .i64 0] (x + 1)) 3)
    have hbw : Below w.heap.size w (w1.alloc (.cells (madeCells #[.int .i64 0] (x + 1)) 3)) := hb1.alloc hb1.size _
    have hfA : 0 < x → ∀ b o, A1 = some ⟨b, o, none⟩ → b ≠ w1.heap.size := fun h => digs_far hD1 h (Nat.le_refl _)
    have hgB := hb1.size
    generalize w1.alloc (.cells (madeCells #[.int .i64 0] (x + 1)) 3) = w3 at *
    generalize w1.heap.size = g at *
    have HB := Lib.hid hbw
    obtain ⟨L, hL⟩ : ∃ L, L = x + 1 := ⟨_, rfl⟩
    rw [← hL] at hrow ⊢
    have HX := Lib.hid hMw
    clear hbw hM hD1 hb1 hMw
    go_loopw [8] (fun i wr => ∃ k : Nat, i = .int .i64 k ∧ k ≤ 8 * x ∧ RowI wr g L (N8.dig (M % 2 ^ k / 2 ^ b)) ∧ Only g w3 wr) (fun i _ => 8 * x - (intOf i).toNat)
    case atStart => exact ⟨0, rfl, Nat.zero_le _, hrow.congr fun j _ => by rw [Nat.pow_zero, Nat.mod_one, Nat.zero_div, N8.dig_of_lt (N8.pw_pos j)], Only.refl _ _⟩
    case round =>
      clear hrow
      obtain ⟨k, rfl, hk, hrk, hok⟩ := hrel
      by_cases hlt : k < 8 * x
      · have hMk := hok.digs hDA (hfA (by omega))
        by_cases hskip : k < b
        · have hneg : ¬ (0 : Int) ≤ (k : Int) + -(b : Int) := by omega
          have hz : ∀ j, j ≤ b → M % 2 ^ j / 2 ^ b = 0 := fun j hj => Nat.div_eq_of_lt (Nat.lt_of_lt_of_le (Nat.mod_lt _ (Nat.two_pow_pos _)) (Nat.pow_le_pow_right (by decide) hj))
          have hzz : N8.dig (M % 2 ^ (k + 1) / 2 ^ b) = N8.dig (M % 2 ^ k / 2 ^ b) := by rw [hz _ hskip, hz _ (by omega)]
          have HZ := Lib.hid hzz
          clear hz hzz
          go_wp2_with fail
          go_roundw
          case rel => exact ⟨k + 1, by go_num, by omega, by rw [HZ.out]; exact hrk, hok⟩
          case measure => simp [intOf] <;> omega
        obtain ⟨p, hp⟩ : ∃ p, p = k - b := ⟨_, rfl⟩
        have hkp : k = p + b := by omega
        have e1 : (k : Int) + -(b : Int) = (p : Int) := by omega
        have hpL : p / 8 < L := by omega
        obtain ⟨t, ht⟩ : ∃ t, t = M / 2 ^ k % 2 := ⟨_, rfl⟩
        have ht1 : t ≤ 1 := by omega
        have hO : M % 2 ^ k / 2 ^ b < 2 ^ p := Nat.div_lt_of_lt_mul (by rw [← Nat.pow_add, show b + p = k by omega]; exact Nat.mod_lt _ (Nat.two_pow_pos _))
        have hroom := N8.dig_room_lo hO ht1
        have hup := N8.dig_upd hroom
        have hO' : M % 2 ^ k / 2 ^ b + t * 2 ^ (p % 8) * N8.pw (p / 8) = M % 2 ^ (k + 1) / 2 ^ b := by
          have e9 : t * 2 ^ k = t * 2 ^ p * 2 ^ b := by rw [Nat.mul_assoc, ← Nat.pow_add, ← hkp]
          rw [Nat.mul_assoc, N8.pw_bit, N8.mod_bit, ← ht, e9, Nat.add_mul_div_right _ _ (Nat.two_pow_pos b)]
        rw [hO'] at hup
        have HUP := Lib.hid hup
        have HBIT := Lib.hid (bit_any A1 x c1 M k wr.drew ⟨hMk.1, hMk.2.drew⟩ (by omega) (by omega) t ht)
        obtain ⟨pq, hpq⟩ : ∃ pq, pq = p / 8 := ⟨_, rfl⟩
        obtain ⟨pr, hpr⟩ : ∃ pr, pr = p % 8 := ⟨_, rfl⟩
        have hpb : p ≤ 100000 := by omega
        have q1 : IntKind.i64.wrap (p : Int) = (p : Int) := by rw [IntKind.wrap_i64]; omega
        have q2 : IntKind.i64.wrap ((p : Int) / 8) = (pq : Int) := by rw [IntKind.wrap_i64]; omega
        have q3 : IntKind.i64.wrap ((p : Int) % 8) = (pr : Int) := by rw [IntKind.wrap_i64]; omega
        have hpr8 : pr < 8 := by omega
        rw [← hpq] at hpL
        have hpL' : (pq : Int) < (L : Int) := by omega
        have hp0 : (0 : Int) ≤ (pq : Int) := by omega
        have s1 := hrk.cell hpL
        have s2 := hrk.frozen pq
        rw [hpq] at s1
        generalize hQ : N8.dig (M % 2 ^ k / 2 ^ b) (p / 8) = u at *
        obtain ⟨s, hs⟩ : ∃ s, s = u + t * 2 ^ (p % 8) := ⟨_, rfl⟩
        have HSS := Lib.hid hs
        have hsb : s < 256 := by omega
        have ew : wrap64 ((u : Int) + wrap64 ((t : Int) * 2 ^ min (p % 8) 64)) = (s : Int) := by
          have e0 : (t : Int) * 2 ^ (p % 8) = ((t * 2 ^ (p % 8) : Nat) : Int) := by simp
          rw [Nat.min_eq_left (by omega), e0]
          exact wrap_sum u (t * 2 ^ (p % 8)) s hs hsb
        rw [← hpq] at s1
        have EW := Lib.hid ew
        have HPQ := Lib.hid hpq
        have HPR := Lib.hid hpr
        have HL := Lib.hid hL
        clear hup hQ hs ew hO hO' ht hroom hp hkp hpq hpr hL hMk
        go_wp2_with fail
        go_region_with (go_at_call 55; refine (HBIT.out).mono ?_; rintro e w2 ⟨rfl, rfl⟩)
        all_goals go_wp2_with fail
        all_goals
          rw [EW.out]
          refine ⟨⟨k + 1, by go_num, by omega, ?_, (hok.set_ _ _).drew⟩, by simp [intOf] <;> omega⟩
          refine ((hrk.set_ pq s).drew).congr fun j _ => ?_
          rw [HUP.out j, HSS.out, HPQ.out]
      · have hk' : k = 8 * x := by omega
        subst hk'
        rw [← N8.pw_two, N8.mod_pw_of_lt HX.out] at hrk
        have hT : M / 2 ^ b < N8.pw L := Nat.lt_of_le_of_lt (Nat.div_le_self _ _) (Nat.lt_of_lt_of_le HX.out (N8.pw_mono (by omega)))
        have hD : IsD wr (some ⟨g, 0, none⟩) L (M / 2 ^ b) := ⟨hT, hrk.isL⟩
        have hL9 : L ≤ 1000000 := by omega
        have HL := Lib.hid hL
        have hBr := hok.below HB.out hgB
        clear hT hL
        go_wp2_with fail
        refine (words_any _ _ L _ _ hD (Nat.le_refl _) (by omega) hL9).mono ?_
        rintro e w5 ⟨A5, c5, rfl, hR5, hf1, hf2, hb5⟩
        go_wp2_with fail
        go_ret2
        exact ⟨A5, c5, rfl, hR5, below_step hBr hb5⟩
end Go.Proofs.Ytegbhenchmfngaa
