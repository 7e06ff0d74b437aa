/- The document's Bits, Of and Small. -/
import Derived.Test.YtegbhenchmfngaaRef8
namespace Go.Proofs.Ytegbhenchmfngaa
open Go.RowKit

theorem blen_bit (M k : Nat) : (M / 2 ^ k % 2 = 0 → Nt.blen (M % 2 ^ (k + 1)) = Nt.blen (M % 2 ^ k)) ∧ (M / 2 ^ k % 2 = 1 → Nt.blen (M % 2 ^ (k + 1)) = k + 1) := by
  refine ⟨fun h => by rw [N8.mod_bit, h, Nat.zero_mul, Nat.add_zero], fun h => ?_⟩
  refine Nt.blen_eq ?_ (Nat.mod_lt _ (Nat.two_pow_pos _))
  rw [N8.mod_bit, h, Nat.one_mul]
  exact Nat.le_add_left _ _

set_option maxHeartbeats 2000000 in
theorem rbits_any (A : Option Addr) (n c M : Nat) (w : World) (hM : IsNat w A n M) (hn : n ≤ 200) :
    Calls Try.prog 32 #[.slice A n c] w fun e w' => e = .returned (.int .i64 (Nt.blen M)) ∧ Below w.heap.size w w' := by
  have hl1 := N8wlen_le hM
  go_enter Try.func32, Try.ntmps32
  go_wp2_with fail
  refine (digits_any A n c M _ hM (by omega)).mono ?_
  rintro e w1 ⟨A1, c1, rfl, hD1, hc1, hc2, hb1⟩
  have hMw := N8.lt_pw_wlen M
  generalize N8.wlen M = x at *
  have HX := Lib.hid hMw
  clear hMw hM
  go_wp2_with fail
  go_loopw [4, 5] (fun v i wr => ∃ k : Nat, i = .int .i64 k ∧ k ≤ 8 * x ∧ v = .int .i64 (Nt.blen (M % 2 ^ k)) ∧ Below w1.heap.size w1 wr) (fun _ i _ => 8 * x - (intOf i).toNat)
  case atStart => exact ⟨0, rfl, Nat.zero_le _, by rw [Nat.pow_zero, Nat.mod_one]; rfl, Below.refl _ _⟩
  case round =>
    obtain ⟨k, rfl, hk, rfl, hb⟩ := hrel
    by_cases hlt : k < 8 * x
    · have hDw := hD1.below hb
      obtain ⟨q1, q2⟩ := blen_bit M k
      obtain ⟨t, ht⟩ : ∃ t, t = M / 2 ^ k % 2 := ⟨_, rfl⟩
      rw [← ht] at q1 q2
      have HB := Lib.hid (bit_any A1 x c1 M k wr hDw hlt (by omega) t ht)
      have h01 : t = 0 ∨ t = 1 := by omega
      clear ht
      rcases h01 with rfl | rfl
      · have Q1 := Lib.hid (q1 rfl)
        clear q1 q2
        go_wp2_with fail
        refine (HB.out).mono ?_
        rintro e w2 ⟨rfl, rfl⟩
        go_wp2_with fail
        go_roundw
        case rel => exact ⟨k + 1, by go_num, by omega, by rw [Q1.out], hb⟩
        case measure => simp [intOf] <;> omega
      · have Q1 := Lib.hid (q2 rfl)
        clear q1 q2
        go_wp2_with fail
        refine (HB.out).mono ?_
        rintro e w2 ⟨rfl, rfl⟩
        go_wp2_with fail
        go_roundw
        case rel => exact ⟨k + 1, by go_num, by omega, by rw [Q1.out]; go_num, hb⟩
        case measure => simp [intOf] <;> omega
    · have hk' : k = 8 * x := by omega
      subst hk'
      have hT : M % 2 ^ (8 * x) = M := by rw [← N8.pw_two, N8.mod_pw_of_lt HX.out]
      rw [hT]
      clear hT
      go_wp2_with fail
      go_ret
      exact ⟨rfl, below_step hb1 hb⟩

theorem rsmall_big (A : Option Addr) (n c M : Nat) (w : World) (hM : IsNat w A n M) (hn : n ≤ 200) (hbig : 18446744073709551616 ≤ M) :
    Calls Try.prog 30 #[.slice A n c] w fun e w' => e = .returned (.tuple #[.int .u64 0, .bool false]) ∧ Below w.heap.size w w' := by
  have hl1 := N8wlen_le hM
  have hx : ¬ N8.wlen M ≤ 8 := fun h => by
    have h1 := Nat.lt_of_lt_of_le (N8.lt_pw_wlen M) (N8.pw_mono h)
    have : N8.pw 8 = 18446744073709551616 := by decide
    omega
  go_enter Try.func30, Try.ntmps30
  go_wp2_with fail
  refine (digits_any A n c M _ hM (by omega)).mono ?_
  rintro e w1 ⟨A1, c1, rfl, hD1, hc1, hc2, hb1⟩
  generalize N8.wlen M = x at *
  have hx1 : (8 : Int) < (x : Int) := by omega
  go_wp2_with fail
  go_ret2
  exact ⟨rfl, hb1⟩

set_option maxHeartbeats 2000000 in
theorem rsmall_yes (A : Option Addr) (n c M : Nat) (w : World) (hM : IsNat w A n M) (hn : n ≤ 200) (hsm : M < 18446744073709551616) :
    Calls Try.prog 30 #[.slice A n c] w fun e w' => e = .returned (.tuple #[.int .u64 M, .bool true]) ∧ Below w.heap.size w w' := by
  have hl1 := N8wlen_le hM
  have hx : N8.wlen M ≤ 8 := N8.wlen_le (by rw [show N8.pw 8 = 18446744073709551616 by decide]; exact hsm)
  go_enter Try.func30, Try.ntmps30
  go_wp2_with fail
  refine (digits_any A n c M _ hM (by omega)).mono ?_
  rintro e w1 ⟨A1, c1, rfl, hD1, hc1, hc2, hb1⟩
  have hMw := N8.lt_pw_wlen M
  generalize N8.wlen M = x at *
  have hx1 : ¬ (8 : Int) < (x : Int) := by omega
  have HX := Lib.hid hMw
  have HSM := Lib.hid hsm
  clear hMw hM
  go_wp2_with fail
  go_loopw [5, 6] (fun v i wr => ∃ k : Nat, i = .int .i64 ((x : Int) - 1 - k) ∧ k ≤ x ∧ v = .int .u64 ((M / N8.pw (x - k) : Nat) : Int) ∧ Below w1.heap.size w1 wr) (fun _ i _ => (intOf i + 1).toNat)
  case atStart => exact ⟨0, congrArg (Value.int .i64) (by omega), Nat.zero_le _, by rw [Nat.sub_zero, N8.div_pw_of_lt HX.out]; rfl, Below.refl _ _⟩
  case round =>
    obtain ⟨k, rfl, hk, rfl, hb⟩ := hrel
    by_cases hlt : k < x
    · obtain ⟨b, o, rfl, hc⟩ := (hD1.below hb).2 (by omega)
      have h1 := hc (x - 1 - k) (by omega)
      have hs := N8.div_pw_split M (x - 1 - k)
      rw [show x - 1 - k + 1 = x - k by omega] at hs
      have hle : M / N8.pw (x - 1 - k) < 18446744073709551616 := Nat.lt_of_le_of_lt (Nat.div_le_self _ _) hsm
      have hd := N8.dig_lt M (x - 1 - k)
      have HE := Lib.hid (show x - (k + 1) = x - 1 - k by omega)
      clear hc
      generalize N8.dig M (x - 1 - k) = d at *
      generalize hv : M / N8.pw (x - 1 - k) = v at *
      generalize M / N8.pw (x - k) = u at *
      rw [N8.K_eq] at hs
      have HV := Lib.hid hv
      have hge : (0 : Int) ≤ (x : Int) - 1 - k := by omega
      have hub : u < 72057594037927936 := by omega
      have e1 : (256 : Int) * (u : Int) + (d : Int) = (v : Int) := by omega
      clear hv hs hsm
      go_wp2_with fail
      go_roundw
      case rel => exact ⟨k + 1, congrArg (Value.int .i64) (by omega), by omega, by rw [HE.out, HV.out], hb⟩
      case measure => simp [intOf] <;> omega
    · have hk' : k = x := by omega
      subst hk'
      have hneg : ¬ (0 : Int) ≤ (k : Int) - 1 - k := by omega
      have hT : M / N8.pw (k - k) = M := by rw [Nat.sub_self, N8.pw_zero, Nat.div_one]
      rw [hT]
      clear hT
      go_wp2_with fail
      go_ret2
      exact ⟨rfl, below_step hb1 hb⟩

theorem and_255_64 {x j : Nat} (hx : x < 18446744073709551616) : bits .and .u64 ((x : Int) / 2 ^ (8 * j)) 255 = ((x / 256 ^ j % 256 : Nat) : Int) := by
  have h1 : x / 2 ^ (8 * j) < 18446744073709551616 := Nat.lt_of_le_of_lt (Nat.div_le_self _ _) hx
  have h := bits_and_u64_nat (x / 2 ^ (8 * j)) 255 (by omega) (by decide)
  rw [show (255 : Nat) = 2 ^ 8 - 1 from rfl, Nat.and_two_pow_sub_one_eq_mod] at h
  rw [show 256 ^ j = 2 ^ (8 * j) by rw [Nat.pow_mul]]
  simpa using h

set_option maxHeartbeats 2000000 in
theorem rof_any (N : Nat) (w : World) (hN : N < 18446744073709551616) :
    Calls Try.prog 34 #[.int .u64 N] w (WordPost N w) := by
  obtain ⟨i0, hi, hz0, hz1, hz2⟩ := info_parts info3
  go_enter Try.func34, Try.ntmps34
  go_wp2_with fail
  go_loopw [3, 4] (fun v i wr => ∃ k : Nat, k ≤ 8 ∧ i = .int .i64 k ∧ wr.ownsRow w.heap.size 3 1 v k (ints (N8.dig N) k) ∧ Below w.heap.size w wr) (fun _ i _ => 8 - (intOf i).toNat)
  case atStart => exact ⟨0, Nat.zero_le _, rfl, World.ownsRow_nil _ _ _ _, Below.refl _ _⟩
  case round =>
    obtain ⟨k, hk, rfl, hown, hb⟩ := hrel
    by_cases hlt : k < 8
    · obtain ⟨d, hd⟩ : ∃ d, d = N8.dig N k := ⟨_, rfl⟩
      have e1 : bits .and .u64 ((N : Int) / 2 ^ (8 * k)) 255 = (d : Int) := by rw [and_255_64 hN, hd]; rfl
      have hdb : d < 256 := by rw [hd]; exact N8.dig_lt _ _
      have HD := Lib.hid hd
      have hBw := hb.size
      clear hd
      go_wp2_with (at_builtin; go_must (refine wpList_append_own _ rfl (.tmp 9) (.tmp 17) _ rfl w.heap.size 3 i0 _ 1 8 Try.underlying52 hi hz0 hz1 hz2 rfl (by omega) _ k (ints (N8.dig N) k) rfl (hown.alloc _) ⟨wr.heap.size, 0, none⟩ 1 1 [.int .i64 (d : Int)] rfl rfl (news_one _ _ _) (by intro u hu; rw [List.mem_singleton.1 hu]; rfl) (by unfold maxLen; omega) (by omega) (by simp; omega) ?_); intro v' w4 hown4 hg4 hnil4)
      have hb4 := (hb.alloc hb.size (.cells #[.int .i64 (d : Int)] 3)).grown hg4 (by simp; omega) (fun x hx => (hown.lt x hx).1)
      clear e1 hg4 hnil4
      go_roundw
      case rel => exact ⟨k + 1, by omega, by go_num, by rw [ints_succ, ← HD.out]; exact hown4, hb4⟩
      case measure => simp [intOf] <;> omega
    · have hk' : k = 8 := by omega
      subst hk'
      obtain ⟨A', c', rfl, hc1, hc2⟩ := own_formI hown
      have hD : IsD wr A' 8 N := ⟨by rw [show N8.pw 8 = 18446744073709551616 by decide]; exact hN, own_isL hown⟩
      clear hown
      go_wp2_with fail
      refine (words_any A' 8 c' N _ hD hc1 hc2 (by decide)).mono ?_
      rintro e w5 ⟨A5, c5, rfl, hR5, hf1, hf2, hb5⟩
      go_wp2_with fail
      go_ret
      exact ⟨A5, c5, rfl, hR5, hf1, hf2, below_step hb hb5⟩
end Go.Proofs.Ytegbhenchmfngaa
