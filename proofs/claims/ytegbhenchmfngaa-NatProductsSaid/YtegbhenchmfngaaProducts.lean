/- NatProducts: products, quotients and rests are those of the numbers. -/
import Derived.Test.YtegbhenchmfngaaLawKit
import Derived.Test.YtegbhenchmfngaaDivAll
import Derived.Test.YtegbhenchmfngaaRef7
namespace Go.Proofs.Ytegbhenchmfngaa
open Go.RowKit

theorem products_long (A B : Option Addr) (n c m d : Nat) (w : World) (h : 80 < n ∨ 80 < m) :
    Calls Try.prog 4 #[.slice A n c, .slice B m d] w fun e w' => e = .returned (.bool true) ∧ Below w.heap.size w w' := by
  have HL := fun w => long2 A B n c m d w true ⟨fun _ => h, fun _ => rfl⟩
  clear h
  go_enter Try.func4, Try.ntmps4
  go_wp2_with fail
  refine (awake_any _).mono ?_
  rintro e w0 ⟨rfl, hb0⟩
  go_wp2_with fail
  refine (HL w0).mono ?_
  rintro e w1 ⟨rfl, rfl⟩
  clear HL
  go_wp2_with fail
  go_ret
  exact ⟨rfl, below_alloc hb0 _⟩

set_option maxHeartbeats 2000000 in
theorem products_zero (A B : Option Addr) (n c m d M N : Nat) (w : World) (hM : IsNat w A n M) (hN : IsNat w B m N) (hnc : n ≤ c) (hmd : m ≤ d)
    (hc : c ≤ 9223372036854775807) (hd : d ≤ 9223372036854775807) (hn : n ≤ 80) (hm : m ≤ 80) (h0 : N = 0) :
    Calls Try.prog 4 #[.slice A n c, .slice B m d] w fun e w' => e = .returned (.bool true) ∧ Below w.heap.size w w' := by
  have SM := Stays.of hM
  have SN := Stays.of hN
  have aMN : Nt.wlen (M * N) ≤ 160 := Nt.wlen_mul hM.1 hN.1 (by omega)
  have hlong : false = true ↔ 80 < n ∨ 80 < m := ⟨(fun h => by cases h), (fun h => by omega)⟩
  have HL := fun w => long2 A B n c m d w false hlong
  have SZ : Stays w B m 0 := h0 ▸ SN
  clear hM hN hlong h0
  go_enter Try.func4, Try.ntmps4
  go_wp2_with fail
  refine (awake_any _).mono ?_
  rintro e w0 ⟨rfl, hb0⟩
  go_wp2_with fail
  refine (HL w0).mono ?_
  rintro e w1 ⟨rfl, rfl⟩
  clear HL
  have hb1 := below_alloc hb0 (.cells #[.slice A n c, .slice B m d] 23)
  go_wp2_with fail
  refine (divmod_zero A B n c m d M _ (SM _ hb1) (SZ _ hb1) hnc hmd hc hd).mono ?_
  rintro e w2 ⟨rfl, rfl⟩
  go_wp2_with fail
  refine (rdivmod_zero A B n c m d M _ (SM _ hb1) (SZ _ hb1) (by omega) (by omega)).mono ?_
  rintro e v1 ⟨rfl, g⟩
  have hb2 := below_step hb1 g
  clear g
  go_wp2_with fail
  refine (same_one _ _ _ _ _ _ 0 0 _ rfl rfl rfl (IsNat.nil _ _) (IsNat.nil _ _) (Nat.zero_le _)).mono ?_
  rintro e v2 ⟨rfl, g⟩
  have hb3 := below_step hb2 g
  clear g
  go_wp2_with fail
  refine (same_one _ _ _ _ _ _ 0 0 _ rfl rfl rfl (IsNat.nil _ _) (IsNat.nil _ _) (Nat.zero_le _)).mono ?_
  rintro e v3 ⟨rfl, g⟩
  have hb4 := below_step hb3 g
  clear g
  go_wp2_with fail
  refine (mul_any _ _ _ _ _ _ M N _ (SM _ hb4) (SN _ hb4) hnc hmd hc hd (by omega) (by omega)).mono ?_
  rintro e wx3 ⟨Ax3, cx3, rfl, ox3, g⟩
  have hb5 := below_step hb4 g
  clear g
  have bx3 := Below.refl wx3.heap.size wx3
  have lx3 := ox3.le
  have mx3 := ox3.small
  go_wp2_with fail
  refine (rmul_any _ _ _ _ _ _ M N _ (SM _ hb5) (SN _ hb5) (by omega) (by omega)).mono ?_
  rintro e wr3 ⟨Ar3, cr3, rfl, nr3, lr3, mr3, g⟩
  have hb6 := below_step hb5 g
  have bx3 := below_step bx3 g
  clear g
  have br3 := Below.refl wr3.heap.size wr3
  go_wp2_with fail
  refine (same_one _ _ _ _ _ _ (M * N) (M * N) _ rfl rfl rfl (ox3.nat.below bx3) (nr3.below br3) (by omega)).mono ?_
  rintro e v4 ⟨rfl, g⟩
  have hb7 := below_step hb6 g
  have bx3 := below_step bx3 g
  have br3 := below_step br3 g
  clear g
  clear bx3 ox3
  clear br3 nr3
  go_wp2_with fail
  go_ret
  exact ⟨rfl, hb7⟩

set_option maxHeartbeats 2000000 in
theorem products_pos (A B : Option Addr) (n c m d M N : Nat) (w : World) (hM : IsNat w A n M) (hN : IsNat w B m N) (hnc : n ≤ c) (hmd : m ≤ d)
    (hc : c ≤ 9223372036854775807) (hd : d ≤ 9223372036854775807) (hn : n ≤ 80) (hm : m ≤ 80) (h0 : 0 < N) :
    Calls Try.prog 4 #[.slice A n c, .slice B m d] w fun e w' => e = .returned (.bool true) ∧ Below w.heap.size w w' := by
  have SM := Stays.of hM
  have SN := Stays.of hN
  have aMN : Nt.wlen (M * N) ≤ 160 := Nt.wlen_mul hM.1 hN.1 (by omega)
  have hlong : false = true ↔ 80 < n ∨ 80 < m := ⟨(fun h => by cases h), (fun h => by omega)⟩
  have HL := fun w => long2 A B n c m d w false hlong
  obtain ⟨Q, hQ⟩ : ∃ Q, Q = M / N := ⟨_, rfl⟩
  obtain ⟨R, hR⟩ : ∃ R, R = M % N := ⟨_, rfl⟩
  have hRN : R < N := by rw [hR]; exact Nat.mod_lt _ h0
  have hQM : Q ≤ M := by rw [hQ]; exact Nat.div_le_self _ _
  have aM : Nt.wlen M ≤ 80 := Nat.le_trans hM.wl hn
  have aN : Nt.wlen N ≤ 80 := Nat.le_trans hN.wl hm
  have aQ : Nt.wlen Q ≤ 80 := Nat.le_trans (Nt.wlen_mono hQM) aM
  have aR : Nt.wlen R ≤ 80 := Nat.le_trans (Nt.wlen_mono (Nat.le_of_lt hRN)) aN
  have HQ := Lib.hid hQ
  have HR := Lib.hid hR
  have H0 := Lib.hid h0
  clear hM hN hlong hQ hR h0 hRN hQM
  go_enter Try.func4, Try.ntmps4
  go_wp2_with fail
  refine (awake_any _).mono ?_
  rintro e w0 ⟨rfl, hb0⟩
  go_wp2_with fail
  refine (HL w0).mono ?_
  rintro e w1 ⟨rfl, rfl⟩
  clear HL
  have hb1 := below_alloc hb0 (.cells #[.slice A n c, .slice B m d] 23)
  go_wp2_with fail
  have hT := divmod_any _ _ _ _ _ _ M N _ (SM _ hb1) (SN _ hb1) hnc hmd hc hd (by omega) H0.out
  unfold DivPost at hT
  rw [← HQ.out, ← HR.out] at hT
  refine hT.mono ?_
  rintro e wq ⟨Aq, cq, Ar, cr, rfl, oq, or, apq, g⟩
  clear hT apq
  have hb2 := below_step hb1 g
  clear g
  have bq := Below.refl wq.heap.size wq
  have br := Below.refl wq.heap.size wq
  go_wp2_with fail
  have hT := rdivmod_some A B n c m d M N _ (SM _ hb2) (SN _ hb2) (by omega) (by omega) H0.out
  rw [← HQ.out, ← HR.out] at hT
  refine hT.mono ?_
  rintro e wp ⟨Ap, cp, As, cs, rfl, nrp, nrs, g⟩
  clear hT
  have hb3 := below_step hb2 g
  have bq := below_step bq g
  have br := below_step br g
  clear g
  have brp := Below.refl wp.heap.size wp
  have brs := Below.refl wp.heap.size wp
  go_wp2_with fail
  refine (same_one _ _ _ _ _ _ (Q) (Q) _ rfl rfl rfl (oq.nat.below bq) (nrp.below brp) (by omega)).mono ?_
  rintro e v1 ⟨rfl, g⟩
  have hb4 := below_step hb3 g
  have bq := below_step bq g
  have br := below_step br g
  have brp := below_step brp g
  have brs := below_step brs g
  clear g
  go_wp2_with fail
  refine (same_one _ _ _ _ _ _ (R) (R) _ rfl rfl rfl (or.nat.below br) (nrs.below brs) (by omega)).mono ?_
  rintro e v2 ⟨rfl, g⟩
  have hb5 := below_step hb4 g
  have bq := below_step bq g
  have br := below_step br g
  have brp := below_step brp g
  have brs := below_step brs g
  clear g
  clear bq oq
  clear br or
  clear brp nrp
  clear brs nrs
  go_wp2_with fail
  refine (mul_any _ _ _ _ _ _ M N _ (SM _ hb5) (SN _ hb5) hnc hmd hc hd (by omega) (by omega)).mono ?_
  rintro e wx3 ⟨Ax3, cx3, rfl, ox3, g⟩
  have hb6 := below_step hb5 g
  clear g
  have bx3 := Below.refl wx3.heap.size wx3
  have lx3 := ox3.le
  have mx3 := ox3.small
  go_wp2_with fail
  refine (rmul_any _ _ _ _ _ _ M N _ (SM _ hb6) (SN _ hb6) (by omega) (by omega)).mono ?_
  rintro e wr3 ⟨Ar3, cr3, rfl, nr3, lr3, mr3, g⟩
  have hb7 := below_step hb6 g
  have bx3 := below_step bx3 g
  clear g
  have br3 := Below.refl wr3.heap.size wr3
  go_wp2_with fail
  refine (same_one _ _ _ _ _ _ (M * N) (M * N) _ rfl rfl rfl (ox3.nat.below bx3) (nr3.below br3) (by omega)).mono ?_
  rintro e v3 ⟨rfl, g⟩
  have hb8 := below_step hb7 g
  have bx3 := below_step bx3 g
  have br3 := below_step br3 g
  clear g
  clear bx3 ox3
  clear br3 nr3
  go_wp2_with fail
  go_ret
  exact ⟨rfl, hb8⟩

theorem products_any (A B : Option Addr) (n c m d M N : Nat) (w : World) (hM : IsNat w A n M) (hN : IsNat w B m N) (hnc : n ≤ c) (hmd : m ≤ d)
    (hc : c ≤ 9223372036854775807) (hd : d ≤ 9223372036854775807) :
    Calls Try.prog 4 #[.slice A n c, .slice B m d] w fun e w' => e = .returned (.bool true) ∧ Below w.heap.size w w' := by
  by_cases h : 80 < n ∨ 80 < m
  · exact products_long A B n c m d w h
  · rcases Nat.eq_zero_or_pos N with h0 | h0
    · exact products_zero A B n c m d M N w hM hN hnc hmd hc hd (by omega) (by omega) h0
    · exact products_pos A B n c m d M N w hM hN hnc hmd hc hd (by omega) (by omega) h0
end Go.Proofs.Ytegbhenchmfngaa
