/- The document's Norm, Add, Monus and Compare. -/
import Derived.Test.YtegbhenchmfngaaRef4
namespace Go.Proofs.Ytegbhenchmfngaa
open Go.RowKit

theorem N8wlen_le {A : Option Addr} {n N : Nat} {w : World} (h : IsNat w A n N) : N8.wlen N ≤ 4 * n := by
  have := N8wlen_words N
  have := h.wl
  omega
theorem N8wlen_add (M N L : Nat) (hM : N8.wlen M ≤ L) (hN : N8.wlen N ≤ L) : N8.wlen (M + N) ≤ L + 1 := by
  refine N8.wlen_le ?_
  have h1 := Nat.lt_of_lt_of_le (N8.lt_pw_wlen M) (N8.pw_mono hM)
  have h2 := Nat.lt_of_lt_of_le (N8.lt_pw_wlen N) (N8.pw_mono hN)
  rw [N8.pw_succ, N8.K_eq]
  omega

set_option maxHeartbeats 2000000 in
theorem rnorm_any (A : Option Addr) (n c N : Nat) (w : World) (h : IsNat w A n N) (hn : n ≤ 10000) :
    Calls Try.prog 16 #[.slice A n c] w (WordPost N w) := by
  have hl := N8wlen_le h
  go_enter Try.func16, Try.ntmps16
  go_wp2_with fail
  refine (digits_any A n c N _ h (by omega)).mono ?_
  rintro e w1 ⟨A1, c1, rfl, hD, hc1, hc2, hb⟩
  go_wp2_with fail
  refine (words_any A1 _ c1 N _ hD hc1 hc2 (by omega)).mono ?_
  rintro e w2 ⟨A2, c2, rfl, hN, hd1, hd2, hb2⟩
  go_wp2_with fail
  go_ret
  exact ⟨A2, c2, rfl, hN, hd1, hd2, below_step hb hb2⟩

set_option maxHeartbeats 2000000 in
theorem radd_any (A B : Option Addr) (n c m d M N : Nat) (w : World) (hM : IsNat w A n M) (hN : IsNat w B m N) (hn : n ≤ 10000) (hm : m ≤ 10000) :
    Calls Try.prog 18 #[.slice A n c, .slice B m d] w (WordPost (M + N) w) := by
  have hl1 := N8wlen_le hM
  have hl2 := N8wlen_le hN
  have hl3 := N8wlen_add M N 40000 (by omega) (by omega)
  go_enter Try.func18, Try.ntmps18
  go_wp2_with fail
  refine (digits_any A n c M _ hM (by omega)).mono ?_
  rintro e w1 ⟨A1, c1, rfl, hD1, hc1, hc2, hb1⟩
  have hN1 := hN.below hb1
  go_wp2_with fail
  refine (digits_any B m d N _ hN1 (by omega)).mono ?_
  rintro e w2 ⟨A2, c2, rfl, hD2, hd1, hd2, hb2⟩
  have hD1' := hD1.below hb2
  go_wp2_with fail
  refine (plus_any A1 A2 _ c1 _ c2 M N _ hD1' hD2 (by omega) (by omega)).mono ?_
  rintro e w3 ⟨A3, c3, rfl, hD3, he1, he2, hb3⟩
  go_wp2_with fail
  refine (words_any A3 _ c3 _ _ hD3 he1 he2 (by omega)).mono ?_
  rintro e w4 ⟨A4, c4, rfl, hR, hf1, hf2, hb4⟩
  go_wp2_with fail
  go_ret
  exact ⟨A4, c4, rfl, hR, hf1, hf2, below_step (below_step (below_step hb1 hb2) hb3) hb4⟩

set_option maxHeartbeats 2000000 in
theorem rmonus_any (A B : Option Addr) (n c m d M N : Nat) (w : World) (hM : IsNat w A n M) (hN : IsNat w B m N) (hn : n ≤ 10000) (hm : m ≤ 10000) :
    Calls Try.prog 20 #[.slice A n c, .slice B m d] w (WordPost (M - N) w) := by
  have hl1 := N8wlen_le hM
  have hl2 := N8wlen_le hN
  have hl3 : N8.wlen (M - N) ≤ N8.wlen M := N8.wlen_mono (Nat.sub_le _ _)
  have HX := fun A1 c1 A2 c2 w hD1 hD2 => less_any A1 A2 c1 c2 M N w hD1 hD2 (by omega) (decide (M < N)) rfl
  have HL := Lib.hid HX
  clear HX
  go_enter Try.func20, Try.ntmps20
  go_wp2_with fail
  refine (digits_any A n c M _ hM (by omega)).mono ?_
  rintro e w1 ⟨A1, c1, rfl, hD1, hc1, hc2, hb1⟩
  have hN1 := hN.below hb1
  go_wp2_with fail
  refine (digits_any B m d N _ hN1 (by omega)).mono ?_
  rintro e w2 ⟨A2, c2, rfl, hD2, hd1, hd2, hb2⟩
  have hD1' := hD1.below hb2
  have HLE : Hid (M < N ∨ N ≤ M) := Nat.lt_or_ge M N
  rcases hlt : decide (M < N) with _ | _
  · have hle : N ≤ M := Nat.le_of_not_lt (of_decide_eq_false hlt)
    rw [hlt] at HL
    have HLE := Lib.hid hle
    clear hle hlt
    go_wp2_with fail
    refine (HL.out A1 c1 A2 c2 _ hD1' hD2).mono ?_
    rintro e w3 ⟨rfl, hb3⟩
    have hD1'' := hD1'.below hb3
    have hD2' := hD2.below hb3
    go_wp2_with fail
    refine (minus_any A1 A2 _ c1 _ c2 M N _ hD1'' hD2' (by omega) HLE.out).mono ?_
    rintro e w4 ⟨A3, c3, rfl, hD3, he1, he2, hb4⟩
    go_wp2_with fail
    refine (words_any A3 _ c3 _ _ hD3 he1 he2 (by omega)).mono ?_
    rintro e w5 ⟨A5, c5, rfl, hR, hf1, hf2, hb5⟩
    go_wp2_with fail
    go_ret
    exact ⟨A5, c5, rfl, hR, hf1, hf2, below_step (below_step (below_step (below_step hb1 hb2) hb3) hb4) hb5⟩
  · have hlt' : M < N := of_decide_eq_true hlt
    rw [hlt] at HL
    have h0 : M - N = 0 := by omega
    have H0 := Lib.hid h0
    clear hlt hlt' h0
    go_wp2_with fail
    refine (HL.out A1 c1 A2 c2 _ hD1' hD2).mono ?_
    rintro e w3 ⟨rfl, hb3⟩
    go_wp2_with fail
    go_ret
    rw [H0.out]
    exact ⟨_, _, rfl, IsNat.nil _ _, Nat.zero_le _, by simp, below_alloc (below_step (below_step hb1 hb2) hb3) _⟩

set_option maxHeartbeats 2000000 in
theorem rcompare_any (A B : Option Addr) (n c m d M N : Nat) (w : World) (hM : IsNat w A n M) (hN : IsNat w B m N) (hn : n ≤ 10000) (hm : m ≤ 10000) :
    Calls Try.prog 22 #[.slice A n c, .slice B m d] w fun e w' => e = .returned (.int .i64 (Nt.cmp M N)) ∧ Below w.heap.size w w' := by
  have hl1 := N8wlen_le hM
  have hl2 := N8wlen_le hN
  have HX := fun A1 c1 A2 c2 w hD1 hD2 => less_any A1 A2 c1 c2 M N w hD1 hD2 (by omega) (decide (M < N)) rfl
  have HL := Lib.hid HX
  have HX2 := fun A1 c1 A2 c2 w hD1 hD2 => less_any A1 A2 c1 c2 N M w hD1 hD2 (by omega) (decide (N < M)) rfl
  have HL2 := Lib.hid HX2
  clear HX HX2
  go_enter Try.func22, Try.ntmps22
  go_wp2_with fail
  refine (digits_any A n c M _ hM (by omega)).mono ?_
  rintro e w1 ⟨A1, c1, rfl, hD1, hc1, hc2, hb1⟩
  have hN1 := hN.below hb1
  go_wp2_with fail
  refine (digits_any B m d N _ hN1 (by omega)).mono ?_
  rintro e w2 ⟨A2, c2, rfl, hD2, hd1, hd2, hb2⟩
  have hD1' := hD1.below hb2
  have hB2 := below_step hb1 hb2
  rcases Nat.lt_trichotomy M N with h | h | h
  · have e1 : decide (M < N) = true := decide_eq_true h
    have e2 : Nt.cmp M N = -1 := Nt.cmp_lt (by omega)
    rw [e1] at HL
    have E2 := Lib.hid e2
    clear e1 e2 h
    go_wp2_with fail
    refine (HL.out A1 c1 A2 c2 _ hD1' hD2).mono ?_
    rintro e w3 ⟨rfl, hb3⟩
    go_wp2_with fail
    go_ret
    exact ⟨by rw [E2.out]; rfl, below_step hB2 hb3⟩
  · have e1 : decide (M < N) = false := decide_eq_false (by omega)
    have e3 : decide (N < M) = false := decide_eq_false (by omega)
    have e2 : Nt.cmp M N = 0 := Nt.cmp_eq (by omega)
    rw [e1] at HL
    rw [e3] at HL2
    have E2 := Lib.hid e2
    clear e1 e2 e3 h
    go_wp2_with fail
    refine (HL.out A1 c1 A2 c2 _ hD1' hD2).mono ?_
    rintro e w3 ⟨rfl, hb3⟩
    have hB3 := below_step hB2 hb3
    have hM3 := hM.below hB3
    have hN3 := hN.below hB3
    go_wp2_with fail
    refine (digits_any B m d N _ hN3 (by omega)).mono ?_
    rintro e w4 ⟨A4, c4, rfl, hD4, hd1, hd2, hb4⟩
    have hM4 := hM3.below hb4
    go_wp2_with fail
    refine (digits_any A n c M _ hM4 (by omega)).mono ?_
    rintro e w5 ⟨A5, c5, rfl, hD5, hd1, hd2, hb5⟩
    have hD4' := hD4.below hb5
    go_wp2_with fail
    refine (HL2.out A4 c4 A5 c5 _ hD4' hD5).mono ?_
    rintro e w6 ⟨rfl, hb6⟩
    go_wp2_with fail
    go_ret
    exact ⟨by rw [E2.out]; rfl, below_step (below_step (below_step hB3 hb4) hb5) hb6⟩
  · have e1 : decide (M < N) = false := decide_eq_false (by omega)
    have e3 : decide (N < M) = true := decide_eq_true h
    have e2 : Nt.cmp M N = 1 := Nt.cmp_gt (by omega)
    rw [e1] at HL
    rw [e3] at HL2
    have E2 := Lib.hid e2
    clear e1 e2 e3 h
    go_wp2_with fail
    refine (HL.out A1 c1 A2 c2 _ hD1' hD2).mono ?_
    rintro e w3 ⟨rfl, hb3⟩
    have hB3 := below_step hB2 hb3
    have hM3 := hM.below hB3
    have hN3 := hN.below hB3
    go_wp2_with fail
    refine (digits_any B m d N _ hN3 (by omega)).mono ?_
    rintro e w4 ⟨A4, c4, rfl, hD4, hd1, hd2, hb4⟩
    have hM4 := hM3.below hb4
    go_wp2_with fail
    refine (digits_any A n c M _ hM4 (by omega)).mono ?_
    rintro e w5 ⟨A5, c5, rfl, hD5, hd1, hd2, hb5⟩
    have hD4' := hD4.below hb5
    go_wp2_with fail
    refine (HL2.out A4 c4 A5 c5 _ hD4' hD5).mono ?_
    rintro e w6 ⟨rfl, hb6⟩
    go_wp2_with fail
    go_ret
    exact ⟨by rw [E2.out]; rfl, below_step (below_step (below_step hB3 hb4) hb5) hb6⟩
theorem rcompare_b (A B : Option Addr) (n c m d M N : Nat) (w : World) (z : Int) (hz : Nt.cmp M N = z) (hM : IsNat w A n M) (hN : IsNat w B m N) (hn : n ≤ 10000) (hm : m ≤ 10000) :
    Calls Try.prog 22 #[.slice A n c, .slice B m d] w fun e w' => e = .returned (.int .i64 z) ∧ Below w.heap.size w w' :=
  hz ▸ rcompare_any A B n c m d M N w hM hN hn hm
end Go.Proofs.Ytegbhenchmfngaa
