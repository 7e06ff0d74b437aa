/- The program's parse. -/
import Derived.Test.YtbpbokdomdmclaaODevRow
import Derived.Laws.ShiftsVar
namespace Go.Proofs.Ytbpbokdomdmclaa
open Go.RowKit

theorem u64_wrap_nat (n : Nat) : IntKind.u64.wrap (n : Int) = ((n % 18446744073709551616 : Nat) : Int) := by
  show (n : Int) % (2 ^ 64 : Int) = _
  norm_cast
theorem or_shift {a y b : Nat} (hy : y < 2 ^ b) : y ||| a * 2 ^ b = a * 2 ^ b + y := by
  have h := Nat.shiftLeft_add_eq_or_of_lt (a := a) (b := y) (i := b) hy
  rw [Nat.shiftLeft_eq] at h
  rw [Nat.or_comm, ← h]
/-- One byte more: what the round reckons. -/
theorem parse_step (k y V : Nat) (hk : k ≤ 9) (hV : V < 128 ^ k) : ∃ z u q : Nat, IntKind.u64.wrap ((y : Int) * 2 ^ (k * 7)) = (z : Int) ∧ bits .or .u64 (V : Int) (z : Int) = (u : Int) ∧ (u : Int) / 2 ^ (k * 7) = (q : Int) ∧
    ((q = y ∧ u = V + y * 128 ^ k) ∨ (q ≠ y ∧ 18446744073709551616 ≤ V + y * 128 ^ k)) := by
  have e128 : 128 ^ k = 2 ^ (k * 7) := by rw [show 128 = 2 ^ 7 from rfl, ← Nat.pow_mul, Nat.mul_comm]
  rw [e128] at hV ⊢
  have hb : k * 7 ≤ 63 := by omega
  generalize k * 7 = b at *
  have h64 : 18446744073709551616 = 2 ^ (64 - b) * 2 ^ b := by rw [← Nat.pow_add, show 64 - b + b = 64 by omega]
  have hpb : 0 < 2 ^ b := Nat.two_pow_pos b
  have hz : y * 2 ^ b % 18446744073709551616 = y % 2 ^ (64 - b) * 2 ^ b := by rw [h64, Nat.mul_mod_mul_right]
  have hzl : y % 2 ^ (64 - b) * 2 ^ b + V < 18446744073709551616 := by
    have h1 : y % 2 ^ (64 - b) < 2 ^ (64 - b) := Nat.mod_lt _ (Nat.two_pow_pos _)
    have h2 : (y % 2 ^ (64 - b) + 1) * 2 ^ b ≤ 2 ^ (64 - b) * 2 ^ b := Nat.mul_le_mul_right _ h1
    rw [Nat.add_mul, Nat.one_mul, ← h64] at h2
    omega
  have hor := u64_or_nat V (y % 2 ^ (64 - b) * 2 ^ b) (by omega) (by omega)
  rw [or_shift hV] at hor
  refine ⟨y % 2 ^ (64 - b) * 2 ^ b, y % 2 ^ (64 - b) * 2 ^ b + V, y % 2 ^ (64 - b), ?_, hor, ?_, ?_⟩
  · rw [← hz, ← u64_wrap_nat]
    norm_cast
  · have : (y % 2 ^ (64 - b) * 2 ^ b + V) / 2 ^ b = y % 2 ^ (64 - b) := by
      rw [Nat.add_comm, Nat.add_mul_div_right _ _ hpb, Nat.div_eq_of_lt hV, Nat.zero_add]
    exact_mod_cast this
  · rcases Nat.lt_or_ge y (2 ^ (64 - b)) with h | h
    · rw [Nat.mod_eq_of_lt h]
      exact .inl ⟨rfl, by omega⟩
    · refine .inr ⟨fun e => ?_, ?_⟩
      · have := Nat.mod_lt y (Nat.two_pow_pos (64 - b))
        omega
      · have := Nat.mul_le_mul_right (2 ^ b) h
        omega
theorem val_take {b : List Nat} {k : Nat} (h : k < b.length) : val (b.take (k + 1)) = val (b.take k) + b[k] % 128 * 128 ^ k := by
  rw [List.take_succ_eq_append_getElem h, val_append, List.length_take, show min k b.length = k by omega]
  simp only [val]
  rw [Nat.mul_zero, Nat.add_zero, Nat.mul_comm]
theorem val_take_lt (b : List Nat) (k : Nat) : val (b.take k) < 128 ^ k :=
  Nat.lt_of_lt_of_le (val_lt _) (Nat.pow_le_pow_right (by decide) (by rw [List.length_take]; omega))

theorem least_zero (w : World) : Calls Try.prog 39 #[.int .u64 0, .int .i64 0] w fun e w' => e = .returned (.int .u64 0) ∧ w = w' := by
  go_enter Try.func39, Try.ntmps39
  go_wp2_with fail
  go_ret
  exact ⟨rfl, rfl⟩
theorem least_some (V k : Nat) (w : World) (h0 : 0 < k) (hk : k ≤ 9) (hV : V < 128 ^ k) : Calls Try.prog 39 #[.int .u64 V, .int .i64 k] w fun e w' => e = .returned (.int .u64 (V + 128 ^ k : Nat)) ∧ w = w' := by
  have e128 : 128 ^ k = 2 ^ (k * 7) := by rw [show 128 = 2 ^ 7 from rfl, ← Nat.pow_mul, Nat.mul_comm]
  have hle : 2 ^ (k * 7) ≤ 2 ^ 63 := Nat.pow_le_pow_right (by decide) (by omega)
  obtain ⟨P, hP⟩ : ∃ P, P = 2 ^ (k * 7) := ⟨_, rfl⟩
  have hPi : IntKind.u64.wrap ((2 : Int) ^ (k * 7)) = (P : Int) := by
    rw [show (2 : Int) ^ (k * 7) = ((2 ^ (k * 7) : Nat) : Int) by norm_cast, ← hP, u64_wrap_nat, Nat.mod_eq_of_lt (by rw [hP]; omega)]
  rw [e128] at hV ⊢
  rw [← hP] at hV hle ⊢
  have hs : IntKind.u64.wrap ((V : Int) + (P : Int)) = ((V + P : Nat) : Int) := by
    rw [← Int.natCast_add, u64_wrap_nat, Nat.mod_eq_of_lt (by omega)]
  have hk0 : ((k : Int) == 0) = false := by simp; omega
  have HP := Lib.hid hP
  have hl : P ≤ 9223372036854775808 := hle
  clear hP e128 hle
  go_enter Try.func39, Try.ntmps39
  go_wp2_with fail
  go_ret
  exact ⟨rfl, rfl⟩

set_option maxRecDepth 100000 in
set_option maxHeartbeats 4000000 in
theorem parse_any (A : Option Addr) (c : Nat) (b : List Nat) (most : Nat) (w : World) (hA : Holds w A (bytesV b)) (hb : Bytes b) (hl : b.length ≤ 1000000000) (hm : most < 18446744073709551616) :
    Calls Try.prog 37 #[.slice A b.length c, .int .u64 most] w fun e w' => e = .returned (.tuple #[.int .u64 (scan b most).1, .int .i64 (scan b most).2.1, .int .i64 (scan b most).2.2]) ∧ w = w' := by
  obtain ⟨L, hL⟩ : ∃ L, L = b.length := ⟨_, rfl⟩
  obtain ⟨K, hK⟩ : ∃ K, K = min L 10 := ⟨_, rfl⟩
  rw [← hL] at hl ⊢
  have HL := Lib.hid hL
  have HM := Lib.hid hm
  have HBy := Lib.hid hb
  have HK := Lib.hid hK
  have hKL : K ≤ L := by omega
  have hKt : K ≤ 10 := by omega
  clear hL hm hb hK
  go_enter Try.func37, Try.ntmps37
  go_wp2_with fail
  all_goals
    go_loop [7, 13] (fun v i => ∃ k : Nat, i = .int .i64 k ∧ k ≤ K ∧ Hid (∀ j (h : j < b.length), j < k → 128 ≤ b[j]) ∧ ∃ V : Nat, v = .int .u64 V ∧ Hid (V = val (b.take k))) (fun _ i => K - (intOf i).toNat)
    case atStart => exact ⟨0, rfl, Nat.zero_le _, fun j _ h => absurd h (by omega), 0, rfl, rfl⟩
    case round =>
      obtain ⟨k, rfl, hk, HB, V, rfl, HV⟩ := hrel
      by_cases hlt : k < K
      · have hkl : k < b.length := by have := HL.out; omega
        have hkL : k < L := by omega
        have hkt : k < 10 := by omega
        obtain ⟨g, o, rfl, hc⟩ := hA (by rw [bytesV_len]; omega)
        have h1 := hc k _ (bytesV_get hkl)
        have hx := HBy.out _ (List.getElem_mem hkl)
        have hvt := val_take hkl
        have hvl := val_take_lt b k
        rw [← HV.out] at hvt hvl
        have HVT := Lib.hid hvt
        have HVL := Lib.hid hvl
        obtain ⟨y, hy⟩ : ∃ y, y = b[k] % 128 := ⟨_, rfl⟩
        have HY := Lib.hid hy
        obtain ⟨x, hxx⟩ : ∃ x, x = b[k] := ⟨_, rfl⟩
        rw [← hxx] at h1 hx
        have hxi : (x : Int) % 128 = (y : Int) := by omega
        have HX := Lib.hid hxx
        have hyb : y < 128 := by omega
        clear hc hvt hvl hy hxx
        obtain ⟨z, u, q, e1, e2, e3, hcase⟩ := parse_step k y V (by omega) HVL.out
        have HCASE := Lib.hid hcase
        clear hcase
        by_cases hqy : q = y
        · have hu : Hid (u = val (b.take (k + 1))) := by
            rcases HCASE.out with ⟨_, h⟩ | ⟨h, _⟩
            · have e := HVT.out; rw [← HY.out] at e; rw [e]; exact h
            · exact absurd hqy h
          subst hqy
          have t1 : ((q : Int) != (q : Int)) = false := by simp
          by_cases hx8 : 128 ≤ x
          · have hB1 : Hid (∀ j (h : j < b.length), j < k + 1 → 128 ≤ b[j]) := fun j h hj => by
              by_cases e : j = k
              · subst e; rw [← HX.out]; exact hx8
              · exact HB.out j h (by omega)
            have t2 : (128 : Int) ≤ (x : Int) := by omega
            go_wp2_with fail
            go_round
            case rel => exact ⟨k + 1, by go_num, by omega, hB1, u, rfl, hu⟩
            case measure => simp [intOf] <;> omega
          · have t2 : ¬ (128 : Int) ≤ (x : Int) := by omega
            have hqx : q = x := by omega
            subst hqx
            by_cases hbig : most < u
            · have t3 : (most : Int) < (u : Int) := by omega
              have hsc := Lib.hid (scan_great (most := most) HB.out (by rw [← hu.out]; exact hbig))
              go_wp2_with fail
              rw [hsc.out]
              go_ret3
              exact ⟨rfl, rfl⟩
            · have t3 : ¬ (most : Int) < (u : Int) := by omega
              by_cases h0 : q = 0
              · have t6 : ((q : Int) == 0) = true := by simp; omega
                have H0 := Lib.hid h0
                clear h0
                by_cases hk0 : 0 < k
                · have t4 : (0 : Int) < (k : Int) := by omega
                  have hsc := Lib.hid (scan_bad (most := most) HB.out hkl (by rw [← HX.out]; exact H0.out) hk0)
                  go_wp2_with fail
                  rw [hsc.out]
                  go_ret3
                  exact ⟨rfl, rfl⟩
                · have t4 : ¬ (0 : Int) < (k : Int) := by omega
                  have hsc := Lib.hid (scan_ok (most := most) HBy.out HB.out hkl (by rw [← HX.out]; have := H0.out; omega) (fun h => absurd h hk0) (by rw [← hu.out]; omega))
                  go_wp2_with fail
                  rw [hsc.out, ← hu.out]
                  go_ret3
                  exact ⟨rfl, rfl⟩
              · have t4 : ((q : Int) == 0) = false := by simp; omega
                have hsc := Lib.hid (scan_ok (most := most) HBy.out HB.out hkl (by rw [← HX.out]; omega) (fun _ => by rw [← HX.out]; exact h0) (by rw [← hu.out]; omega))
                go_wp2_with fail
                rw [hsc.out, ← hu.out]
                go_ret3
                exact ⟨rfl, rfl⟩
        · have t1 : ((q : Int) != (y : Int)) = true := by simp; omega
          have hsc := Lib.hid (scan_great (most := most) HB.out (by
            rcases HCASE.out with ⟨h, _⟩ | ⟨_, h⟩
            · exact absurd h hqy
            · have e := HVT.out; rw [← HY.out] at e; rw [e]; exact Nat.lt_of_lt_of_le HM.out h))
          go_wp2_with fail
          rw [hsc.out]
          go_ret3
          exact ⟨rfl, rfl⟩
      · obtain rfl : k = K := by omega
        by_cases hL10 : L < 10
        · first
            | (exfalso; omega)
            | (skip
               obtain rfl : k = L := by have := HK.out; omega
               have hall : ∀ x ∈ b, 128 ≤ x := fun x hx => by
                 obtain ⟨j, hj, rfl⟩ := List.mem_iff_getElem.1 hx
                 exact HB.out j hj (by have := HL.out; omega)
               have hV : V = val b := by rw [HV.out, HL.out, List.take_length]
               by_cases hk0 : k = 0
               · subst hk0
                 have hb0 : b = [] := List.eq_nil_of_length_eq_zero HL.out.symm
                 have hV0 : V = 0 := by rw [hV, hb0]; rfl
                 have hsc := Lib.hid (scan_more (most := most) HBy.out hall (.inl hb0))
                 subst hV0
                 clear hall hV hb0
                 go_wp2_with (refine (least_zero _).mono ?_; rintro e w' ⟨rfl, rfl⟩)
                 rw [hsc.out]
                 go_ret3
                 exact ⟨rfl, rfl⟩
               · have hVl : V < 128 ^ k := by have := val_lt b; rw [← HL.out] at this; omega
                 have HC := Lib.hid (least_some V k w (by omega) (by omega) hVl)
                 obtain ⟨l, hl'⟩ : ∃ l, l = V + 128 ^ k := ⟨_, rfl⟩
                 rw [← hl'] at HC
                 have hlv : l = val b + 128 ^ b.length := by rw [hl', hV, HL.out]
                 by_cases hlm : l ≤ most
                 · have t5 : (l : Int) ≤ (most : Int) := by omega
                   have hsc := Lib.hid (scan_more (most := most) HBy.out hall (.inr (by rw [← hlv]; exact hlm)))
                   clear hall hV hVl hl' hlv
                   go_wp2_with (refine (HC.out).mono ?_; rintro e w' ⟨rfl, rfl⟩)
                   rw [hsc.out]
                   go_ret3
                   exact ⟨rfl, rfl⟩
                 · have t5 : ¬ (l : Int) ≤ (most : Int) := by omega
                   have hsc := Lib.hid (scan_less (most := most) hall (fun e => hk0 (by rw [HL.out, e]; rfl)) (by rw [← hlv]; omega))
                   clear hall hV hVl hl' hlv
                   go_wp2_with (refine (HC.out).mono ?_; rintro e w' ⟨rfl, rfl⟩)
                   rw [hsc.out]
                   go_ret3
                   exact ⟨rfl, rfl⟩)
        · have hk10 : k = 10 := by have := HK.out; omega
          have hsc := Lib.hid (scan_long (most := most) (by rw [← hk10]; exact HB.out) (by have := HL.out; omega) HM.out)
          go_wp2_with fail
          rw [hsc.out]
          go_ret3
          exact ⟨rfl, rfl⟩
end Go.Proofs.Ytbpbokdomdmclaa
