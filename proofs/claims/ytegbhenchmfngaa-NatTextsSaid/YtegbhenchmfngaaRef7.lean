/- The document's quotient and rest. -/
import Derived.Test.YtegbhenchmfngaaRef6
namespace Go.Proofs.Ytegbhenchmfngaa
open Go.RowKit

/-- One bit in a slice of its own. -/
theorem one_digit (w : World) (b : Nat) (hb : b ≤ 1) : IsD (w.alloc (.cells #[.int .i64 (b : Int)] 3)) (some ⟨w.heap.size, 0, none⟩) 1 b := by
  refine ⟨by rw [show N8.pw 1 = 256 from rfl]; omega, fun _ => ⟨_, 0, rfl, fun j hj => ?_⟩⟩
  obtain rfl : j = 0 := by omega
  have e : N8.dig b 0 = b := by
    unfold N8.dig
    rw [N8.pw_zero, Nat.div_one, N8.K_eq]
    omega
  rw [e, World.cell?_alloc_at _ _ _ _ rfl]
  rfl

theorem wrap_sum (u v s : Nat) (h : s = u + v) (hs : s < 256) : wrap64 ((u : Int) + wrap64 (v : Int)) = (s : Int) := by
  rw [IntWalk.wrap64_in v (by omega), IntWalk.wrap64_in _ (by omega), h]
  simp
theorem rdivmod_zero (A B : Option Addr) (n c m d M : Nat) (w : World) (hM : IsNat w A n M) (hN : IsNat w B m 0) (hn : n ≤ 200) (hm : m ≤ 200) :
    Calls Try.prog 24 #[.slice A n c, .slice B m d] w fun e w' => e = .returned (.tuple #[.slice none 0 0, .slice none 0 0, .int .i64 2]) ∧ Below w.heap.size w w' := by
  have HD := fun (w : World) h => digits_any B m d 0 w h (by omega)
  have h0 : N8.wlen 0 = 0 := rfl
  unfold DigPost at HD
  rw [h0] at HD
  go_enter Try.func24, Try.ntmps24
  go_wp2_with fail
  refine (digits_any A n c M _ hM (by omega)).mono ?_
  rintro e w1 ⟨A1, c1, rfl, hD1, hc1, hc2, hb1⟩
  have hN1 := hN.below hb1
  go_wp2_with fail
  refine (HD _ hN1).mono ?_
  rintro e w2 ⟨A2, c2, rfl, hD2, hd1, hd2, hb2⟩
  go_wp2_with fail
  go_ret3
  exact ⟨rfl, below_step hb1 hb2⟩

set_option maxHeartbeats 2000000 in
theorem rdivmod_some (A B : Option Addr) (n c m d M N : Nat) (w : World) (hM : IsNat w A n M) (hN : IsNat w B m N) (hn : n ≤ 200) (hm : m ≤ 200) (h0 : 0 < N) :
    Calls Try.prog 24 #[.slice A n c, .slice B m d] w fun e w' =>
      ∃ A1 c1 A2 c2, e = .returned (.tuple #[.slice A1 (Nt.wlen (M / N)) c1, .slice A2 (Nt.wlen (M % N)) c2, .int .i64 0]) ∧ IsNat w' A1 (Nt.wlen (M / N)) (M / N) ∧ IsNat w' A2 (Nt.wlen (M % N)) (M % N) ∧ Below w.heap.size w w' := by
  have hl1 := N8wlen_le hM
  have hl2 := N8wlen_le hN
  have hp : N8.wlen N ≠ 0 := fun h => by have := N8.wlen_eq_zero.1 h; omega
  have H0 := Lib.hid h0
  go_enter Try.func24, Try.ntmps24
  go_wp2_with fail
  refine (digits_any A n c M _ hM (by omega)).mono ?_
  rintro e w1 ⟨A1, c1, rfl, hD1, hc1, hc2, hb1⟩
  have hN1 := hN.below hb1
  go_wp2_with fail
  refine (digits_any B m d N _ hN1 (by omega)).mono ?_
  rintro e w2 ⟨A2, c2, rfl, hD2, hd1, hd2, hb2⟩
  have hD1' := hD1.below hb2
  have hB2 := below_step hb1 hb2
  have hMw := N8.lt_pw_wlen M
  have HNw := Lib.hid (rfl : N8.wlen N = N8.wlen N)
  generalize N8.wlen M = x at *
  have hmk := make_ints x (by omega) (x : Int) (by omega) (by omega)
  have hy0 : ((N8.wlen N : Int) == 0) = false := by simp; omega
  go_wp2_with fail
  clear hmk
  have hrow := RowI.made w2 x
  have hbw : Below w2.heap.size w2 (w2.alloc (.cells (madeCells #[.int .i64 0] x) 3)) := (Below.refl _ _).alloc (Nat.le_refl _) _
  have hN8 : N8.wlen N ≤ 800 := by omega
  have hx8 : x ≤ 800 := by omega
  generalize w2.alloc (.cells (madeCells #[.int .i64 0] x) 3) = w3 at *
  obtain ⟨g, hg⟩ : ∃ g, g = w2.heap.size := ⟨_, rfl⟩
  rw [← hg] at hrow ⊢
  have HG := Lib.hid hg
  have HX := Lib.hid hMw
  clear hM hN hN1 hD1 hb1 hb2 hg hy0 hp HNw hl1 hl2 hMw
  go_loopw [10, 11] (fun v i wr => ∃ (k R : Nat) (A3 : Option Addr) (c3 : Nat), i = .int .i64 ((k : Int) - 1) ∧ k ≤ 8 * x ∧ v = .slice A3 (N8.wlen R) c3 ∧ N8.wlen R ≤ c3 ∧ c3 ≤ 9223372036854775807 ∧ N8.wlen R ≤ 800 ∧ IsD wr A3 (N8.wlen R) R ∧ Hid (R = M / 2 ^ k % N) ∧
    RowI wr g x (N8.dig (M / 2 ^ k / N * 2 ^ k)) ∧ Below w2.heap.size w2 wr) (fun _ i _ => (intOf i + 1).toNat)
  case atStart =>
    have h0' : M / 2 ^ (8 * x) = 0 := by rw [← N8.pw_two]; exact N8.div_pw_of_lt HX.out
    exact ⟨8 * x, 0, none, 0, congrArg (Value.int .i64) (by omega), Nat.le_refl _, rfl, by rw [N8.wlen_zero]; omega, by omega, by rw [N8.wlen_zero]; omega, IsD.nil _ _, show _ = _ by rw [h0', Nat.zero_mod], hrow.congr fun j _ => by rw [h0', Nat.zero_div, Nat.zero_mul, N8.dig_of_lt (N8.pw_pos j)], hbw⟩
  case round =>
    clear hrow hbw
    obtain ⟨k, R, A3, c3, rfl, hk, rfl, h31, h32, hR8, hD3, HR, hrow, hbr⟩ := hrel
    by_cases hlt : 0 < k
    · obtain ⟨j, rfl⟩ : ∃ j, k = j + 1 := ⟨k - 1, by omega⟩
      have hi : ((j + 1 : Nat) : Int) - 1 = (j : Int) := by omega
      rw [hi]
      clear hi
      obtain ⟨b, hb⟩ : ∃ b, b = M / 2 ^ j % 2 := ⟨_, rfl⟩
      have hb1 : b ≤ 1 := by omega
      obtain ⟨S, hS⟩ : ∃ S, S = R + R + b := ⟨_, rfl⟩
      have hq := N8.quot_bit (D := M / 2 ^ (j + 1)) hb1 H0.out
      have hsb := N8.shr_bit M j
      rw [← hb] at hsb
      rw [← hsb, ← HR.out, show 2 * R + b = S by omega] at hq
      have hqv : ∀ c, 2 * c * 2 ^ j = c * 2 ^ (j + 1) := fun c => by rw [Nat.pow_succ]; ac_rfl
      have hqv1 : ∀ c, (2 * c + 1) * 2 ^ j = c * 2 ^ (j + 1) + 2 ^ j := fun c => by rw [Nat.add_mul, Nat.one_mul, hqv]
      have hS1 : N8.wlen (R + R) ≤ 801 := N8wlen_add R R 800 hR8 hR8
      have hS2 : N8.wlen S ≤ 802 := by
        rw [hS]
        refine N8wlen_add (R + R) b 801 hS1 (Nat.le_trans (N8.wlen_le (n := 1) ?_) (by omega))
        rw [show N8.pw 1 = 256 from rfl]; omega
      have hSN : S - N < N := by
        have : R < N := by rw [HR.out]; exact Nat.mod_lt _ H0.out
        omega
      have hS3 : N8.wlen (S - N) ≤ 800 := Nat.le_trans (N8.wlen_mono (Nat.le_of_lt hSN)) hN8
      have hS4 : S < N → N8.wlen S ≤ 800 := fun h => Nat.le_trans (N8.wlen_mono (Nat.le_of_lt h)) hN8
      have HQ := Lib.hid hq
      have HQV := Lib.hid hqv
      have HQV1 := Lib.hid hqv1
      have HB := Lib.hid hb
      have HS := Lib.hid hS
      have HS4 := Lib.hid hS4
      have HSS : Hid (S = N8.ofDigs (N8.dig S) (N8.wlen S)) := show _ = _ by rw [N8.ofDigs_dig, N8.mod_pw_of_lt (N8.lt_pw_wlen S)]
      have HL := fun A1 A2 c1 c2 w hD1 hD2 => less_any A1 A2 c1 c2 S N w hD1 hD2 (by omega) (decide (S < N)) rfl
      have HL := Lib.hid HL
      clear hq hqv hqv1 hb hsb hS hSN hS4 HX
      go_wp2_with fail
      refine (plus_any A3 A3 _ c3 _ c3 R R _ hD3 hD3 (by omega) (by omega)).mono ?_
      rintro e wa ⟨Aa, ca, rfl, hDa, ha1, ha2, hba⟩
      have hDM := (hD1'.below hbr).below hba
      go_wp2_with fail
      refine (bit_any A1 x c1 M j _ hDM (by omega) (by omega) b HB.out).mono ?_
      rintro e w' ⟨rfl, rfl⟩
      go_wp2_with fail
      have hDb := hDa.alloc (.cells #[.int .i64 (b : Int)] 3)
      have hD1b := one_digit wa b hb1
      refine (plus_any Aa _ _ ca _ _ (R + R) b _ hDb hD1b (by omega) (by omega)).mono ?_
      rw [← HS.out]
      rintro e wb ⟨Ab, cb, rfl, hDb2, hb2, hb3, hbb⟩
      go_wp2_with fail
      refine (carried_any Ab _ cb (N8.dig S) _ hDb2.2 (by omega) (fun t _ => by have := N8.dig_lt S t; omega) S HSS.out).mono ?_
      rintro e wc ⟨Ac, cc, rfl, hDc, hc3, hc4, hbc⟩
      have hb4 := below_step (below_step (below_alloc hba _) hbb) hbc
      have hDN := (hD2.below hbr).below hb4
      go_wp2_with fail
      refine (HL.out Ac A2 cc c2 _ hDc hDN).mono ?_
      rintro e wd ⟨rfl, hbd⟩
      have hb5 := below_step hb4 hbd
      have hrow5 := hrow.below hb5
      have hDc5 := hDc.below hbd
      have hDN5 := hDN.below hbd
      have hbr5 := hbr.trans (hb5.mono hbr.size)
      clear hD3 hDa hDM hDb hD1b hDb2 hDN hDc hrow hbr hba hbb hbc hb4 hbd
      by_cases hlt2 : S < N
      · have e1 := HQ.out.1 hlt2
        have e3 := HS4.out hlt2
        have E1 := Lib.hid e1
        have e2 : decide (S < N) = true := decide_eq_true hlt2
        rw [e2]
        clear e1 e2 hlt2
        go_wp2_with fail
        go_roundw
        case rel => exact ⟨j, S, Ac, cc, by go_num, by omega, rfl, hc3, hc4, e3, hDc5, E1.out.1.symm, by rw [E1.out.2, HQV.out]; exact hrow5, hbr5⟩
        case measure => simp [intOf] <;> omega
      · have hle : N ≤ S := by omega
        have e1 := HQ.out.2 hle
        have E1 := Lib.hid e1
        have e2 : decide (S < N) = false := decide_eq_false hlt2
        have HLE := Lib.hid hle
        rw [e2]
        clear e1 e2 hlt2 hle
        go_wp2_with fail
        refine (minus_new Ac A2 _ cc _ c2 S N _ hDc5 hDN5 (by omega) HLE.out).mono ?_
        rintro e we ⟨Ae, ce, rfl, hDe, he1, he2, hbe, hfar⟩
        have hrow6 := hrow5.below hbe
        have hbr6 := hbr5.trans (hbe.mono hbr5.size)
        have hroom := N8.dig_room_hi (M / 2 ^ (j + 1) / N) j
        have hup := N8.dig_upd hroom
        rw [N8.pw_bit, ← HQV1.out, ← E1.out.2] at hup
        have s1 := hrow6.cell (i := j / 8) (by omega)
        have s2 := hrow6.frozen (j / 8)
        have HUP := Lib.hid hup
        have hge : g < wd.heap.size := hrow5.lt
        have hx1 := N8.two_mod8 j
        have hgs : w2.heap.size ≤ g := Nat.le_of_eq HG.out.symm
        generalize hQ : N8.dig (M / 2 ^ (j + 1) / N * 2 ^ (j + 1)) (j / 8) = u at *
        have hQ' := Lib.hid hQ
        obtain ⟨s, hs⟩ : ∃ s, s = u + 2 ^ (j % 8) := ⟨_, rfl⟩
        have HSS2 := Lib.hid hs
        have hsb : s < 256 := by omega
        have ew : wrap64 ((u : Int) + wrap64 (2 ^ (j % 8))) = (s : Int) := by
          have e0 : (2 : Int) ^ (j % 8) = ((2 ^ (j % 8) : Nat) : Int) := by simp
          rw [e0]
          exact wrap_sum u (2 ^ (j % 8)) s hs hsb
        have EW := Lib.hid ew
        clear hup hQ hs ew
        go_wp2_with fail
        rw [EW.out]
        refine ⟨?_, by simp [intOf] <;> omega⟩
        have hO : Only g we _ := ((Only.refl g we).set_ (j / 8) (.int .i64 (s : Int)))
        refine ⟨j, S - N, Ae, ce, by go_num, by omega, rfl, he1, he2, hS3, hO.digs hDe (fun b o h => by have := hfar b o h; omega), E1.out.1.symm, ?_, (hbr6.setCell hgs _)⟩
        refine ((hrow6.set_ (j / 8) s)).congr fun t _ => ?_
        rw [HUP.out t, HSS2.out]
    · have hk' : k = 0 := by omega
      subst hk'
      have hneg : ¬ (0 : Int) ≤ ((0 : Nat) : Int) - 1 := by omega
      have hR := HR.out
      rw [Nat.pow_zero, Nat.div_one] at hR
      subst hR
      rw [Nat.pow_zero, Nat.div_one, Nat.mul_one] at hrow
      have hMN : M / N < N8.pw x := Nat.lt_of_le_of_lt (Nat.div_le_self _ _) HX.out
      have hDQ : IsD wr (some ⟨g, 0, none⟩) x (M / N) := ⟨hMN, hrow.isL⟩
      clear hMN
      go_wp2_with fail
      refine (words_any _ _ x _ _ hDQ (Nat.le_refl _) (by omega) (by omega)).mono ?_
      rintro e w5 ⟨A5, c5, rfl, hR5, hf1, hf2, hb5⟩
      have hD3' := hD3.below hb5
      go_wp2_with fail
      refine (words_any A3 _ c3 _ _ hD3' h31 h32 (by omega)).mono ?_
      rintro e w6 ⟨A6, c6, rfl, hR6, hg1, hg2, hb6⟩
      go_wp2_with fail
      go_ret3
      exact ⟨A5, c5, A6, c6, rfl, hR5.below hb6, hR6, below_step (below_step (below_step hB2 hbr) hb5) hb6⟩
end Go.Proofs.Ytegbhenchmfngaa
