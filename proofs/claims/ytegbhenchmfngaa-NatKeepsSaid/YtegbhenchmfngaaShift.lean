/- nat.shiftUp, nat.shiftDown, nat.Shift. -/
import Derived.Test.YtegbhenchmfngaaMem
import Derived.Test.YtegbhenchmfngaaTrim
import Derived.Test.YtegbhenchmfngaaBase2
namespace Go.Proofs.Ytegbhenchmfngaa
open Go.RowKit

theorem or_u64_shift {a y b : Nat} (ha : a < 4294967296) (hb : b ≤ 31) (hy : y < 2 ^ b) : bits .or .u64 (y : Int) ((a * 2 ^ b : Nat) : Int) = ((a * 2 ^ b + y : Nat) : Int) := by
  have h2 := Nt.two_le hb
  have h3 : a * 2 ^ b ≤ 4294967295 * 2147483648 := Nat.mul_le_mul (by omega) h2
  have h := u64_or_nat y (a * 2 ^ b) (by omega) (by omega)
  rw [Nt.or_bits hy] at h
  exact h

set_option maxHeartbeats 800000 in
theorem shiftUp_any (A : Option Addr) (n c N s b : Nat) (w : World) (hN : IsNat w A n N) (hn : n ≤ 1099511627776) (hs : s ≤ 1099511627776) (hb : b ≤ 31) :
    Calls Try.prog 58 #[.slice A n c, .int .i64 s, .int .i64 b] w fun e w' => ∃ g, e = .returned (.slice (some ⟨g, 0, none⟩) (s + n + 1) (s + n + 1)) ∧ w.heap.size ≤ g ∧
      RowN w' g (s + n + 1) (Nt.dig (N * 2 ^ b * Nt.pw s)) ∧ N * 2 ^ b * Nt.pw s < Nt.pw (s + n + 1) ∧ Below w.heap.size w w' := by
  have hmk := make_words (s + n + 1) (by omega) ((s : Int) + (n : Int) + 1) (by omega) (by omega)
  have h2 := Nt.two_le hb
  have hp2 := Nat.two_pow_pos b
  go_enter Try.func58, Try.ntmps58
  go_wp2_with fail
  clear hmk
  have hfN := far_of hN (Nat.le_refl _)
  have hN1 := hN.alloc (.cells (madeCells #[.int .u32 0] (s + n + 1)) 44)
  have hrow := RowN.made w (s + n + 1)
  have hbw : Below w.heap.size w (w.alloc (.cells (madeCells #[.int .u32 0] (s + n + 1)) 44)) := (Below.refl _ _).alloc (Nat.le_refl _) _
  generalize w.alloc (.cells (madeCells #[.int .u32 0] (s + n + 1)) 44) = w1 at *
  have HB := Lib.hid hbw
  clear hbw
  go_loopw [8, 18] (fun cy i wr => ∃ k y : Nat, k ≤ n ∧ i = .int .i64 k ∧ cy = .int .u64 y ∧ y < 2 ^ b ∧ Hid (y = Nt.addT 0 N (2 ^ b) k / Nt.pw k) ∧
    RowN wr w.heap.size (s + n + 1) (fun j => if s ≤ j ∧ j < s + k then Nt.dig (Nt.addT 0 N (2 ^ b) k) (j - s) else 0) ∧ Only w.heap.size w1 wr) (fun _ i _ => n - (intOf i).toNat)
  case atStart => exact ⟨0, 0, Nat.zero_le _, rfl, rfl, hp2, show _ = _ by rw [Nt.addT_zero]; rfl, hrow.congr fun j _ => by rw [if_neg (by omega)], Only.refl _ _⟩
  case round =>
    obtain ⟨k, y, hk, rfl, rfl, hy, HY, hrk, hok⟩ := hrel
    by_cases hlt : k < n
    · have hNk := hok.nat hN1 hfN
      obtain ⟨b', o', rfl, hcN⟩ := hNk.2 (by omega)
      have h1 := hcN k hlt
      have hf := hrk.frozen (s + k)
      have hcl := hrk.cell (i := s + k) (by omega)
      rw [if_neg (by omega)] at hcl
      have hd := Nt.dig_lt N k
      clear hcN
      obtain ⟨q1, q2, q3⟩ := Nt.addT_next (M := 0) (N := N) (W := 2 ^ b) (k := k) (s := Nt.dig N k * 2 ^ b + y) HY.out.symm (by rw [Nt.dig_zero]; omega)
      generalize Nt.dig N k = x at *
      obtain ⟨p, hp⟩ : ∃ p : Nat, p = x * 2 ^ b := ⟨_, rfl⟩
      obtain ⟨z, hz⟩ : ∃ z : Nat, z = p + y := ⟨_, rfl⟩
      have hpb : p ≤ 4294967295 * 2147483648 := by rw [hp]; exact Nat.mul_le_mul (by omega) h2
      have hpz : (x : Int) * 2 ^ b = (p : Int) := by rw [hp]; simp
      have e1 : IntKind.u64.wrap ((x : Int) * 2 ^ b) = (p : Int) := by rw [hpz]; exact IntWalk.u64_in _ (by omega)
      have e2 : bits .or .u64 (y : Int) (p : Int) = (z : Int) := by rw [hz, hp]; exact or_u64_shift hd hb hy
      have hyb : y < 2147483648 := by omega
      have hzb : z ≤ 18446744073709551615 := by omega
      have hzc : z / 4294967296 < 2 ^ b := by
        have : z < 4294967296 * 2 ^ b := by
          have h4 : (x + 1) * 2 ^ b ≤ 4294967296 * 2 ^ b := Nat.mul_le_mul_right _ hd
          rw [Nat.add_mul, Nat.one_mul, ← hp] at h4
          omega
        exact Nat.div_lt_of_lt_mul this
      rw [← hp, ← hz] at q1 q2
      have HQ1 := Lib.hid q1
      have HQ2 := Lib.hid q2
      have HQ3 := Lib.hid q3
      clear q1 q2 q3 hp hz hpz
      go_wp2_with fail
      clear e1 e2
      go_roundw
      case rel =>
        have ev : (z : Int) % 4294967296 = ((z % 4294967296 : Nat) : Int) := by omega
        rw [ev]
        exact ⟨k + 1, z / 4294967296, by omega, by go_num, by go_num, hzc, show _ = _ by rw [HQ1.out, Nt.K_eq], hrk.step (D' := Nt.dig (Nt.addT 0 N (2 ^ b) (k + 1))) (by rw [HQ2.out, Nt.K_eq]) HQ3.out, hok.set_ _ _⟩
      case measure => simp [intOf] <;> omega
    · have hk' : k = n := by omega
      subst hk'
      have hf := hrk.frozen (s + k)
      have hcl := hrk.cell (i := s + k) (by omega)
      rw [if_neg (by omega)] at hcl
      have hY := HY.out
      rw [Nt.addT_full (Nt.pw_pos k) hN.1, Nat.zero_add] at hY
      rw [Nt.addT_full (Nt.pw_pos k) hN.1, Nat.zero_add] at hrk
      have hyb : y < 4294967296 := by omega
      have hyK : y < Nt.K := by rw [Nt.K_eq]; exact hyb
      have hT : N * 2 ^ b < Nt.pw (k + 1) := by
        rw [Nt.pw_succ]
        rw [hY] at hyK
        have := (Nat.div_lt_iff_lt_mul (Nt.pw_pos k)).1 hyK
        exact Nat.lt_of_lt_of_le this (Nat.le_of_eq (Nat.mul_comm _ _))
      have hdk : Nt.dig (N * 2 ^ b) k = y := by
        rw [hY]
        exact Nat.mod_eq_of_lt (by rw [← hY]; exact hyK)
      have hfin := (hrk.set_ (s + k) y).congr (G := Nt.dig (N * 2 ^ b * Nt.pw s)) fun j hj => by
        have hsh := Nt.dig_add_pw_add (R := 0) (d := N * 2 ^ b) (i := s) (Nt.pw_pos s)
        rw [Nat.zero_add] at hsh
        by_cases e : j = s + k
        · subst e
          rw [if_pos rfl, hsh, hdk]
        · rw [if_neg e]
          by_cases h : s ≤ j ∧ j < s + k
          · rw [if_pos h]
            have := hsh (j - s)
            rw [show s + (j - s) = j by omega] at this
            exact this.symm
          · have hjs : j < s := by omega
            have := Nt.dig_add_pw_lt 0 (N * 2 ^ b) hjs
            rw [Nat.zero_add, Nt.dig_zero] at this
            rw [if_neg h, this]
      have hlast : N * 2 ^ b * Nt.pw s < Nt.pw (s + k + 1) := by
        rw [show s + k + 1 = (k + 1) + s by omega, Nt.pw_add]
        exact Nat.mul_lt_mul_of_pos_right hT (Nt.pw_pos s)
      have HF := Lib.hid hfin
      have HL := Lib.hid hlast
      clear hfin hlast hT hdk hY
      go_wp2_with fail
      go_ret
      exact ⟨_, rfl, Nat.le_refl _, HF.out, HL.out, (hok.set_ _ _).below HB.out (Nat.le_refl _)⟩

set_option maxHeartbeats 400000 in
theorem shiftDown_none (A : Option Addr) (n c s b : Nat) (w : World) (hs : n ≤ s) :
    Calls Try.prog 57 #[.slice A n c, .int .i64 s, .int .i64 b] w fun e w' => e = .returned (.slice none 0 0) ∧ w = w' := by
  have hsz : (n : Int) ≤ (s : Int) := by omega
  go_enter Try.func57, Try.ntmps57
  go_wp2_with fail
  go_ret
  exact ⟨rfl, rfl⟩

set_option maxHeartbeats 800000 in
theorem shiftDown_some (A : Option Addr) (n c M s b : Nat) (w : World) (hM : IsNat w A n M) (hc : n ≤ c) (_hcm : c ≤ 9223372036854775807) (hn : n ≤ 1099511627776) (hs : s < n) (hb : b ≤ 31) :
    Calls Try.prog 57 #[.slice A n c, .int .i64 s, .int .i64 b] w fun e w' => ∃ A' r, e = .returned (.slice A' r r) ∧ Own w.heap.size w' A' r r (M / Nt.pw s / 2 ^ b) ∧ Below w.heap.size w w' := by
  have hsz : ¬ (n : Int) ≤ (s : Int) := by omega
  have hmk := make_words (n - s) (by omega) ((n : Int) - (s : Int)) (by omega) (by omega)
  have h2 := Nt.two_le hb
  have hp2 := Nat.two_pow_pos b
  have hX : M / Nt.pw s < Nt.pw (n - s) := Nat.div_lt_of_lt_mul (by rw [← Nt.pw_add, show s + (n - s) = n by omega]; exact hM.1)
  obtain ⟨gA, oA, rfl, hcM⟩ := hM.2 (by omega)
  have hMs : IsNat w (some ⟨gA, oA + s, none⟩) (n - s) (M / Nt.pw s) := ⟨hX, fun _ => ⟨gA, oA + s, rfl, fun j hj => by
    rw [Nt.dig_div_pw, Nat.add_assoc]
    exact hcM (s + j) (by omega)⟩⟩
  have hszi : (Try.prog.info? 44).map (·.size) = some 1 := by kernel_rfl
  have hne : ¬ c = s := by omega
  clear hcM
  go_enter Try.func57, Try.ntmps57
  go_wp2_with (refine wpList_copy_nat rfl _ _ _ _ rfl 44 Try.underlying23 hszi w.heap.size 0 (n - s) _ _ _ (some ⟨gA, oA + s, none⟩) (n - s) _ (M / Nt.pw s) rfl rfl (RowN.made _ _) (hMs.alloc _) (by omega) w.heap.size w ((Below.refl _ _).alloc (Nat.le_refl _) _) (Nat.le_refl _) ?_; intro w2 hr2 hb2)
  have hrow := hr2.congr (G := Nt.dig (M / Nt.pw s)) fun j hj => by rw [if_pos (by omega), Nat.sub_zero]
  clear hr2 hMs hsz hne hszi hmk hs
  generalize hXe : M / Nt.pw s = X at *
  have HXE := Lib.hid hXe
  clear hXe
  generalize hr : n - s = r at *
  have hrb : r ≤ 1099511627776 := by omega
  have HB := Lib.hid hb2
  clear hr hb2
  go_loopw [26] (fun i wr => ∃ k : Nat, k ≤ r ∧ i = .int .i64 k ∧ RowN wr w.heap.size r (fun j => if j < k then Nt.dig (X / 2 ^ b) j else Nt.dig X j) ∧ Only w.heap.size w2 wr) (fun i _ => r - (intOf i).toNat)
  case atStart => exact ⟨0, Nat.zero_le _, rfl, hrow.congr fun j _ => by rw [if_neg (by omega)], Only.refl _ _⟩
  case round =>
    obtain ⟨k, hk, rfl, hrk, hok⟩ := hrel
    by_cases hlt : k < r
    · have h1 := hrk.cell (i := k) hlt
      rw [if_neg (by omega)] at h1
      have hf := hrk.frozen k
      have hd := Nt.dig_lt X k
      have hd' := Nt.dig_lt X (k + 1)
      have hdig := Nt.shr_digit (X := X) (i := k) hb
      by_cases hl : k + 1 < r
      · have h3 := hrk.cell (i := k + 1) hl
        rw [if_neg (by omega)] at h3
        have hli : (k : Int) + 1 < (r : Int) := by omega
        generalize Nt.dig X k = x at *
        generalize Nt.dig X (k + 1) = y at *
        obtain ⟨z, hz⟩ : ∃ z : Nat, z = y * 4294967296 + x := ⟨_, rfl⟩
        have e1 : bits .or .u64 (x : Int) ((y : Int) * 4294967296) = (z : Int) := by rw [hz]; exact or_u64_word' hd' hd
        have hzb : z ≤ 18446744073709551615 := by omega
        rw [Nt.K_eq, ← hz] at hdig
        have HD := Lib.hid hdig
        clear hdig hz
        go_wp2_with fail
        clear e1
        go_roundw
        case rel =>
          have ev : (z : Int) / 2 ^ b % 4294967296 = ((z / 2 ^ b % 4294967296 : Nat) : Int) := by simp
          rw [ev]
          refine ⟨k + 1, by omega, by go_num, (hrk.set_ k _).congr fun j _ => ?_, hok.set_ _ _⟩
          by_cases e : j = k
          · subst e
            rw [if_pos rfl, if_pos (by omega), HD.out]
          · rw [if_neg e]
            by_cases h : j < k
            · rw [if_pos h, if_pos (by omega)]
            · rw [if_neg h, if_neg (by omega)]
        case measure => simp [intOf] <;> omega
      · have hli : ¬ (k : Int) + 1 < (r : Int) := by omega
        have hy0 : Nt.dig X (k + 1) = 0 := Nt.dig_of_lt (Nat.lt_of_lt_of_le hX (Nt.pw_mono (by omega)))
        rw [hy0, Nat.zero_mul, Nat.zero_add, Nt.K_eq] at hdig
        generalize Nt.dig X k = x at *
        have HD := Lib.hid hdig
        clear hdig hy0 hd'
        go_wp2_with fail
        go_roundw
        case rel =>
          have ev : (x : Int) / 2 ^ b % 4294967296 = ((x / 2 ^ b % 4294967296 : Nat) : Int) := by simp
          rw [ev]
          refine ⟨k + 1, by omega, by go_num, (hrk.set_ k _).congr fun j _ => ?_, hok.set_ _ _⟩
          by_cases e : j = k
          · subst e
            rw [if_pos rfl, if_pos (by omega), HD.out]
          · rw [if_neg e]
            by_cases h : j < k
            · rw [if_pos h, if_pos (by omega)]
            · rw [if_neg h, if_neg (by omega)]
        case measure => simp [intOf] <;> omega
    · have hk' : k = r := by omega
      subst hk'
      have hq : X / 2 ^ b < Nt.pw k := Nat.lt_of_le_of_lt (Nat.div_le_self _ _) hX
      have hown := Own.of_row (n := k) (N := X / 2 ^ b) hrk (Nat.le_refl _) (by omega) (Nat.le_refl _) hq (fun j hj => if_pos hj)
      have HO := Lib.hid hown
      clear hown hq
      go_wp2_with fail
      go_ret
      exact ⟨_, _, rfl, by rw [HXE.out]; exact HO.out, hok.below HB.out (Nat.le_refl _)⟩

/-- What a shift comes to. -/
def shiftN (M : Nat) (by_ : Int) : Nat := if by_ < 0 then M / 2 ^ (-by_).toNat else M * 2 ^ by_.toNat

set_option maxHeartbeats 400000 in
theorem shift_large (A : Option Addr) (n c : Nat) (b : Int) (w : World) (hb : 65536 < b ∨ b < -65536) :
    Calls Try.prog 27 #[.slice A n c, .int .i64 b] w fun e w' => e = .returned (.tuple #[.slice none 0 0, .int .i64 6]) ∧ w = w' := by
  rcases hb with hb | hb
  · go_enter Try.func27, Try.ntmps27
    go_wp2_with fail
    go_ret2
    exact ⟨rfl, rfl⟩
  · have h1 : ¬ 65536 < b := by omega
    go_enter Try.func27, Try.ntmps27
    go_wp2_with fail
    go_ret2
    exact ⟨rfl, rfl⟩

set_option maxHeartbeats 400000 in
theorem shift_up (A : Option Addr) (n c M : Nat) (b : Nat) (w : World) (hM : IsNat w A n M) (hc : n ≤ c) (hcm : c ≤ 9223372036854775807) (hn : n ≤ 1099511627776) (hb : b ≤ 65536) :
    Calls Try.prog 27 #[.slice A n c, .int .i64 b] w fun e w' => ∃ A' c', e = .returned (.tuple #[.slice A' (Nt.wlen (M * 2 ^ b)) c', .int .i64 0]) ∧ Own w.heap.size w' A' (Nt.wlen (M * 2 ^ b)) c' (M * 2 ^ b) ∧ Below w.heap.size w w' := by
  have h1 : ¬ (65536 : Int) < (b : Int) := by omega
  have h2 : ¬ (b : Int) < -65536 := by omega
  have h3 : ¬ (b : Int) < 0 := by omega
  have hl := hM.wl
  have hsh := Nt.mul_shift M (b / 32) (b % 32)
  rw [show 32 * (b / 32) + b % 32 = b by omega] at hsh
  have HU := fun w (h : IsNat w A (Nt.wlen M) M) => shiftUp_any A (Nt.wlen M) c M (b / 32) (b % 32) w h (by omega) (by omega) (by omega)
  rw [hsh] at HU
  obtain ⟨s, hs⟩ : ∃ s : Nat, s = b / 32 := ⟨_, rfl⟩
  obtain ⟨t, ht⟩ : ∃ t : Nat, t = b % 32 := ⟨_, rfl⟩
  rw [← hs, ← ht] at HU
  have e1 : (b : Int) / 32 = (s : Int) := by omega
  have e2 : (b : Int) % 32 = (t : Int) := by omega
  have hlb : Nt.wlen M ≤ 1099511627776 := by omega
  have hsb : s ≤ 2048 := by omega
  clear hsh hs ht hl
  generalize M * 2 ^ b = T at *
  go_enter Try.func27, Try.ntmps27
  go_wp2_with fail
  refine (trim_any _ _ _ M _ hM hc hcm).mono ?_; rintro e w' ⟨rfl, rfl⟩
  go_wp2_with fail
  refine (HU _ hM.trim).mono ?_
  rintro e w1 ⟨g, rfl, hg, hrow, hT, hb'⟩
  have hown := Own.of_row (n := s + Nt.wlen M + 1) (N := T) hrow hg (by omega) (Nat.le_refl _) hT (fun j _ => rfl)
  clear HU e1 e2
  go_wp2_with fail
  refine (trim_any _ _ _ T _ hown.nat (Nat.le_refl _) (by omega)).mono ?_; rintro e w' ⟨rfl, rfl⟩
  go_wp2_with fail
  go_ret2
  exact ⟨_, _, rfl, hown.trim, hb'⟩

set_option maxHeartbeats 400000 in
theorem shift_down (A : Option Addr) (n c M : Nat) (b : Nat) (w : World) (hM : IsNat w A n M) (hc : n ≤ c) (hcm : c ≤ 9223372036854775807) (hn : n ≤ 1099511627776) (hb : b ≤ 65536) (hb0 : 0 < b) :
    Calls Try.prog 27 #[.slice A n c, .int .i64 (-(b : Int))] w fun e w' => ∃ A' c', e = .returned (.tuple #[.slice A' (Nt.wlen (M / 2 ^ b)) c', .int .i64 0]) ∧ Own w.heap.size w' A' (Nt.wlen (M / 2 ^ b)) c' (M / 2 ^ b) ∧ Below w.heap.size w w' := by
  have h1 : ¬ (65536 : Int) < (-(b : Int)) := by omega
  have h2 : ¬ (-(b : Int)) < -65536 := by omega
  have h3 : (-(b : Int)) < 0 := by omega
  have hl := hM.wl
  have hsh := Nt.div_shift M (b / 32) (b % 32)
  rw [show 32 * (b / 32) + b % 32 = b by omega] at hsh
  have HU : ∀ w (h : IsNat w A (Nt.wlen M) M), Calls Try.prog 57 #[.slice A (Nt.wlen M) c, .int .i64 (b / 32 : Nat), .int .i64 (b % 32 : Nat)] w fun e w' => ∃ A' r, e = .returned (.slice A' r r) ∧ Own w.heap.size w' A' r r (M / 2 ^ b) ∧ Below w.heap.size w w' := fun w h => by
    rcases Nat.lt_or_ge (b / 32) (Nt.wlen M) with h' | h'
    · have := shiftDown_some A (Nt.wlen M) c M (b / 32) (b % 32) w h (by omega) hcm (by omega) h' (by omega)
      rw [hsh] at this
      exact this
    · refine (shiftDown_none A (Nt.wlen M) c (b / 32) (b % 32) w h').mono ?_
      rintro e w' ⟨rfl, rfl⟩
      have h0 : M / 2 ^ b = 0 := by
        rw [← hsh, Nat.div_eq_of_lt (Nat.lt_of_lt_of_le (Nt.lt_pw_wlen M) (Nt.pw_mono h')), Nat.zero_div]
      rw [h0]
      exact ⟨none, 0, rfl, Own.none_ _ _, Below.refl _ _⟩
  obtain ⟨s, hs⟩ : ∃ s : Nat, s = b / 32 := ⟨_, rfl⟩
  obtain ⟨t, ht⟩ : ∃ t : Nat, t = b % 32 := ⟨_, rfl⟩
  rw [← hs, ← ht] at HU
  have e1 : (b : Int) / 32 = (s : Int) := by omega
  have e2 : (b : Int) % 32 = (t : Int) := by omega
  have hbb : (b : Int) ≤ 65536 := by omega
  clear hsh hs ht hl hb0
  generalize M / 2 ^ b = T at *
  go_enter Try.func27, Try.ntmps27
  go_wp2_with fail
  refine (trim_any _ _ _ M _ hM hc hcm).mono ?_; rintro e w' ⟨rfl, rfl⟩
  go_wp2_with fail
  refine (HU _ hM.trim).mono ?_
  rintro e w1 ⟨A', r, rfl, hown, hb'⟩
  clear HU e1 e2
  go_wp2_with fail
  refine (trim_any _ _ _ T _ hown.nat hown.le (by have := hown.small; omega)).mono ?_; rintro e w' ⟨rfl, rfl⟩
  go_wp2_with fail
  go_ret2
  exact ⟨_, _, rfl, hown.trim, hb'⟩
end Go.Proofs.Ytegbhenchmfngaa
