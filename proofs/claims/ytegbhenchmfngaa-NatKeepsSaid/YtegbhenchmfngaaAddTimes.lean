/- nat.addTimes: so many times a number is added to a row's words. -/
import Derived.Test.YtegbhenchmfngaaMem
namespace Go.Proofs.Ytegbhenchmfngaa
open Go.RowKit

set_option maxHeartbeats 400000 in
theorem addTimes_any (g o n c L : Nat) (F : Nat → Nat) (B : Option Addr) (m d M N W : Nat) (w : World) (hr : RowN w g L F) (hl : o + n ≤ L) (hmn : m ≤ n) (hB : IsNat w B m N) (hne : 0 < m → ∀ b' o', B = some ⟨b', o', none⟩ → b' ≠ g)
    (hM : M < Nt.pw m) (hF : ∀ j, j < m → F (o + j) = Nt.dig M j) (hW : W < 4294967296) (hL : L ≤ 1152921504606846976) :
    Calls Try.prog 56 #[.slice (some ⟨g, o, none⟩) n c, .slice B m d, .int .u32 W] w fun e w' => e = .returned (.int .u32 ((M + N * W) / Nt.pw m : Nat)) ∧
      RowN w' g L (fun j => if o ≤ j ∧ j < o + m then Nt.dig (M + N * W) (j - o) else F j) ∧ Only g w w' := by
  rw [← Nt.addT_full hM hB.1]
  go_enter Try.func56, Try.ntmps56
  go_wp2
  go_loopw [7, 11] (fun cy i wr => ∃ k : Nat, k ≤ m ∧ i = .int .i64 k ∧ cy = .int .u64 (Nt.addT M N W k / Nt.pw k : Nat) ∧
    RowN wr g L (fun j => if o ≤ j ∧ j < o + k then Nt.dig (Nt.addT M N W k) (j - o) else F j) ∧ Only g w wr) (fun _ i _ => m - (intOf i).toNat)
  case atStart =>
    refine ⟨0, Nat.zero_le _, rfl, by rw [Nt.addT_zero]; rfl, hr.congr fun j _ => ?_, Only.refl _ _⟩
    rw [if_neg (by omega)]
  case round =>
    obtain ⟨k, hk, rfl, rfl, hrk, hok⟩ := hrel
    by_cases hlt : k < m
    · have hBk := hok.nat hB hne
      obtain ⟨b', o', rfl, hcB⟩ := hBk.2 (by omega)
      have h1 := hcB k hlt
      have h2 := hrk.cell (i := o + k) (by omega)
      rw [if_neg (by omega), hF k hlt] at h2
      have h3 := hrk.frozen (o + k)
      have hcy : Nt.addT M N W k / Nt.pw k < 4294967296 := Nt.addT_lt hW
      have hb := Nt.mul_word_le (Nt.dig_lt N k) hW
      have hd := Nt.dig_lt M k
      have hd' := Nt.dig_lt N k
      clear hcB
      generalize hcyy : Nt.addT M N W k / Nt.pw k = cy at *
      have HC := Lib.hid hcyy
      clear hcyy
      generalize hxx : Nt.dig N k = x at *
      generalize hyy : Nt.dig M k = y at *
      obtain ⟨p, hp⟩ : ∃ p : Nat, p = x * W := ⟨_, rfl⟩
      obtain ⟨s, hs⟩ : ∃ s : Nat, s = cy + (p + y) := ⟨_, rfl⟩
      rw [← hp] at hb
      have hpz : (x : Int) * (W : Int) = (p : Int) := by rw [hp]; simp
      have e1 : IntKind.u64.wrap (x : Int) = (x : Int) := IntWalk.u64_in _ (by omega)
      have e2 : IntKind.u64.wrap (W : Int) = (W : Int) := IntWalk.u64_in _ (by omega)
      have e3 : IntKind.u64.wrap ((x : Int) * (W : Int)) = (p : Int) := by rw [hpz]; exact IntWalk.u64_in _ (by omega)
      have e4 : IntKind.u64.wrap (y : Int) = (y : Int) := IntWalk.u64_in _ (by omega)
      have e5 : IntKind.u64.wrap ((p : Int) + (y : Int)) = (p : Int) + (y : Int) := IntWalk.u64_in _ (by omega)
      have e6 : IntKind.u64.wrap ((cy : Int) + ((p : Int) + (y : Int))) = (s : Int) := by rw [hs]; exact IntWalk.u64_in _ (by omega)
      have hsb : s ≤ 18446744073709551615 := by omega
      have HX := Lib.hid hxx
      have HY := Lib.hid hyy
      have HP := Lib.hid hp
      have HS := Lib.hid hs
      clear hxx hyy hp hs hpz hb
      go_wp2_with fail
      go_quiet (fail)
      clear e1 e2 e3 e4 e5 e6
      go_wp2_with fail
      go_roundw
      case rel =>
        obtain ⟨q1, q2, q3⟩ := Nt.addT_next HC.out (s := s) (by rw [HS.out, HP.out, HX.out, HY.out])
        have ev : (s : Int) % 4294967296 = ((s % 4294967296 : Nat) : Int) := by omega
        rw [ev]
        exact ⟨k + 1, by omega, by go_num, congrArg (Value.int .u64) (by rw [q1, Nt.K_eq]; omega), (hrk.drewN nq).step (D' := Nt.dig (Nt.addT M N W (k + 1))) (by rw [q2, Nt.K_eq]) q3, (hok.drewN nq).set_ _ _⟩
      case measure => simp [intOf] <;> omega
    · have hk' : k = m := by omega
      subst hk'
      have hcy : Nt.addT M N W k / Nt.pw k < 4294967296 := Nt.addT_lt hW
      generalize hcyy : Nt.addT M N W k / Nt.pw k = cy at *
      have HC := Lib.hid hcyy
      clear hcyy
      go_wp2_with fail
      go_ret
      exact ⟨ret_int (by rw [HC.out]), hrk, hok⟩

end Go.Proofs.Ytegbhenchmfngaa
