/- nat.guess: how often a divisor goes into a rest, or once more. -/
import Derived.Test.YtegbhenchmfngaaMem
import Derived.Test.YtegbhenchmfngaaBase2
import Derived.BigGuard
namespace Go.Proofs.Ytegbhenchmfngaa
open Go.RowKit

set_option maxHeartbeats 1000000 in
theorem guess_any (g o c L : Nat) (F : Nat → Nat) (B : Option Addr) (m d V D : Nat) (w : World) (hr : RowN w g L F) (hl : o + (m + 1) ≤ L) (hL : L ≤ 1152921504606846976) (hB : IsNat w B m D) (hm : 2 ≤ m)
    (hF : ∀ j, j < m + 1 → F (o + j) = Nt.dig V j) (hV : V < D * Nt.K) (hVm : V < Nt.pw (m + 1)) (hn : Nt.pw m ≤ 2 * D) :
    Calls Try.prog 68 #[.slice (some ⟨g, o, none⟩) (m + 1) c, .slice B m d] w fun e w' => ∃ t : Nat, e = .returned (.int .u32 t) ∧ (t = V / D ∨ t = V / D + 1) ∧ t < 4294967296 ∧ ∃ q, w' = w.drewN q := by
  obtain ⟨b, ob, rfl, hcB⟩ := hB.2 (by omega)
  have hD := hB.1
  have r0 := hr.cell (i := o + m) (by omega)
  rw [hF m (by omega)] at r0
  have r1 := hr.cell (i := o + (m - 1)) (by omega)
  rw [hF (m - 1) (by omega)] at r1
  have r2 := hr.cell (i := o + (m - 2)) (by omega)
  rw [hF (m - 2) (by omega)] at r2
  have b1 := hcB (m - 1) (by omega)
  have b2 := hcB (m - 2) (by omega)
  have hfirst := Nt.guess_first (D := D) (m := m) (by omega) hn hD
  have ed1 : Nt.dig D (m - 1) = D / Nt.pw (m - 1) := Nat.mod_eq_of_lt (by rw [Nt.K_eq]; exact hfirst.2)
  rw [ed1] at b1
  have hd0 := Nt.dig_lt D (m - 2)
  have htop : V / Nt.pw (m - 1) = Nt.dig V m * 4294967296 + Nt.dig V (m - 1) := by
    have := Nt.div_pw_split V (m - 1)
    rw [show m - 1 + 1 = m by omega] at this
    rw [this, Nt.K_eq]
    congr 2
    exact (Nat.mod_eq_of_lt (Nt.div_lt_K hVm)).symm
  have hv1 := Nt.dig_lt V m
  have hv2 := Nt.dig_lt V (m - 1)
  have hv0 := Nt.dig_lt V (m - 2)
  have hinit := Nt.guess_init (V := V) hm hn hD
  have htest := fun times left h => Nt.guess_test (V := V) (D := D) (m := m) (times := times) (left := left) hm hn h
  have htopl := Nt.guess_top (V := V) (D := D) (m := m) hV
  have hok := fun t ht => Nt.guess_ok (V := V) (D := D) (m := m) hm hn hV (t := t) ht
  generalize V / Nt.pw (m - 2) / (D / Nt.pw (m - 2)) = Q at *
  generalize D / Nt.pw (m - 1) = d1 at *
  generalize hT : V / Nt.pw (m - 1) = top at *
  generalize Nt.dig D (m - 2) = d0 at *
  generalize Nt.dig V (m - 2) = v0 at *
  generalize Nt.dig V m = va at *
  generalize Nt.dig V (m - 1) = vb at *
  have e1 : bits .or .u64 ((va : Int) * 4294967296) (vb : Int) = (top : Int) := by rw [htop]; exact or_u64_word hv1 hv2
  have htb : top ≤ 18446744073709551615 := by omega
  obtain ⟨hf1, hf2⟩ := hfirst
  obtain ⟨ti, hti⟩ : ∃ ti : Nat, ti = top / d1 := ⟨_, rfl⟩
  obtain ⟨li, hli⟩ : ∃ li : Nat, li = top % d1 := ⟨_, rfl⟩
  have hstart : ti * d1 + li = top := by rw [hti, hli, Nat.mul_comm]; exact Nat.div_add_mod top d1
  have htib : ti ≤ top := by rw [hti]; exact Nat.div_le_self _ _
  have hlib : li < d1 := by rw [hli]; exact Nat.mod_lt _ (by omega)
  rw [← hti] at hinit
  have et1 : (top : Int) / (d1 : Int) = (ti : Int) := by rw [hti]; simp
  have et2 : IntKind.u64.wrap ((ti : Int)) = (ti : Int) := IntWalk.u64_in _ (by omega)
  have et3 : (top : Int) % (d1 : Int) = (li : Int) := by rw [hli]; simp
  have HS := Lib.hid hstart
  have ET3 := Lib.hid et3
  clear hti hli hstart et3
  have HT := Lib.hid htest
  have HOK := Lib.hid hok
  clear hT htop ed1 hcB hV hVm hn hF htest hok hB hD
  rw [Nt.K_eq] at htopl
  go_enter Try.func68, Try.ntmps68
  go_wp2_with fail
  go_quiet (fail)
  go_wp2_with fail
  go_quiet (fail)
  go_wp2_with fail
  go_quiet (fail)
  clear e1 et1 et2
  go_wp2_with fail
  go_loopw [9, 10] (fun tm lf wr => (∃ q, wr = w.drewN q) ∧ ∃ times left : Nat, tm = .int .u64 times ∧ lf = .int .u64 left ∧ left < 4294967296 ∧ Hid (times * d1 + left = top) ∧ Hid (min Q (Nt.K - 1) ≤ times)) (fun tm _ _ => (intOf tm).toNat)
  case atStart => exact ⟨⟨_, by rw [World.drewN_drewN, World.drewN_drewN]⟩, ti, li, rfl, congrArg (Value.int .u64) ET3.out, by omega, HS.out, show min Q (Nt.K - 1) ≤ ti by omega⟩
  case round =>
    obtain ⟨⟨q, rfl⟩, times, left, rfl, rfl, hlf, HI, HM⟩ := hrel
    have htmb : times ≤ 18446744073709551615 := by
      have h1 := HI.out
      have h2 : times * 1 ≤ times * d1 := Nat.mul_le_mul_left _ (by omega)
      omega
    -- what a round that goes on, or ends, asks
    have hstep : ∀ (t : Nat), times = t + 1 → (4294967296 ≤ times ∨ left * 4294967296 + v0 < times * d0) → t * d1 + (left + d1) = top ∧ min Q (Nt.K - 1) ≤ t ∧ (4294967296 ≤ left + d1 → t < 4294967296 ∧ t = min Q (Nt.K - 1)) := by
      intro t ht htest
      have h1 := HI.out
      have h2 := HM.out
      have hgt : min Q (Nt.K - 1) < times := by
        rcases htest with h | h
        · have := Nat.min_le_right Q (Nt.K - 1)
          rw [Nt.K_eq] at this ⊢
          omega
        · have h3 := HT.out times left h1
          have h4 : ¬ times ≤ Q := fun hq => by have := h3.2 hq; rw [Nt.K_eq] at this; omega
          have := Nat.min_le_left Q (Nt.K - 1)
          omega
      have h5 : t * d1 + (left + d1) = top := by rw [ht, Nat.add_mul] at h1; omega
      refine ⟨h5, by omega, fun hle => ?_⟩
      have h6 : t < 4294967296 := by
        rcases Nat.lt_or_ge t 4294967296 with h | h
        · exact h
        · have h7 : 4294967296 * d1 ≤ t * d1 := Nat.mul_le_mul_right _ h
          rw [Nat.add_mul, Nat.mul_comm d1] at htopl
          omega
      refine ⟨h6, ?_⟩
      have h8 : t ≤ Q := (HT.out t (left + d1) h5).1 (by
        have h9 : t * d0 ≤ 4294967295 * 4294967295 := Nat.mul_le_mul (by omega) (by omega)
        have h10 : 4294967296 * 4294967296 ≤ (left + d1) * 4294967296 := Nat.mul_le_mul_right _ hle
        rw [Nt.K_eq]
        omega)
      have : t ≤ Nt.K - 1 := by rw [Nt.K_eq]; omega
      have := Nat.le_min.2 ⟨h8, this⟩
      omega
    have HST := Lib.hid hstep
    clear hstep
    by_cases ha : 4294967296 ≤ times
    · obtain ⟨t, ht⟩ : ∃ t, times = t + 1 := ⟨times - 1, by omega⟩
      obtain ⟨s1, s2, s3⟩ := HST.out t ht (.inl ha)
      subst ht
      have S1 := Lib.hid s1
      have S2 := Lib.hid s2
      have S3 := Lib.hid s3
      clear s1 s2 s3
      have haz : (0 : Int) < ((t + 1 : Nat) : Int) / 4294967296 := by omega
      by_cases hbr : 4294967296 ≤ left + d1
      · have hbz : (0 : Int) < ((left : Int) + (d1 : Int)) / 4294967296 := by omega
        obtain ⟨u1, u2⟩ := S3.out hbr
        have U2 := Lib.hid u2
        clear u2
        go_wp2_with fail
        go_ret
        exact ⟨t, rfl, HOK.out t U2.out, u1, q, rfl⟩
      · have hbz : ¬ (0 : Int) < ((left : Int) + (d1 : Int)) / 4294967296 := by omega
        go_wp2_with fail
        go_roundw
        case rel => exact ⟨⟨q, rfl⟩, t, left + d1, rfl, by go_num, by omega, S1.out, S2.out⟩
        case measure => simp [intOf] <;> omega
    · have haz : ¬ (0 : Int) < (times : Int) / 4294967296 := by omega
      obtain ⟨p, hp⟩ : ∃ p : Nat, p = times * d0 := ⟨_, rfl⟩
      obtain ⟨s, hs⟩ : ∃ s : Nat, s = left * 4294967296 + v0 := ⟨_, rfl⟩
      have hpz : (times : Int) * (d0 : Int) = (p : Int) := by rw [hp]; simp
      have hpb : p ≤ 4294967295 * 4294967295 := by rw [hp]; exact Nat.mul_le_mul (by omega) (by omega)
      have e3 : IntKind.u64.wrap ((times : Int) * (d0 : Int)) = (p : Int) := by rw [hpz]; exact IntWalk.u64_in _ (by omega)
      have e4 : bits .or .u64 ((left : Int) * 4294967296) (v0 : Int) = (s : Int) := by rw [hs]; exact or_u64_word hlf hv0
      by_cases hps : s < p
      · have hpsz : (s : Int) < (p : Int) := by omega
        obtain ⟨t, ht⟩ : ∃ t, times = t + 1 := ⟨times - 1, by
          have : times ≠ 0 := fun h => by rw [h, Nat.zero_mul] at hp; omega
          omega⟩
        obtain ⟨s1, s2, s3⟩ := HST.out t ht (.inr (by rw [← hp, ← hs]; exact hps))
        have S1 := Lib.hid s1
        have S2 := Lib.hid s2
        have S3 := Lib.hid s3
        have HTT := Lib.hid ht
        clear s1 s2 s3 hp hs hpz ht
        have htt : (times : Int) - 1 = (t : Int) := by have := HTT.out; omega
        have htt1 : 1 ≤ (times : Int) := by have := HTT.out; omega
        have HTZ := Lib.hid htt
        clear htt
        by_cases hbr : 4294967296 ≤ left + d1
        · have hbz : (0 : Int) < ((left : Int) + (d1 : Int)) / 4294967296 := by omega
          obtain ⟨u1, u2⟩ := S3.out hbr
          have U2 := Lib.hid u2
          clear u2
          go_wp2_with fail
          go_ret
          exact ⟨t, ret_int HTZ.out, HOK.out t U2.out, u1, q, rfl⟩
        · have hbz : ¬ (0 : Int) < ((left : Int) + (d1 : Int)) / 4294967296 := by omega
          go_wp2_with fail
          go_roundw
          case rel => exact ⟨⟨q, rfl⟩, t, left + d1, congrArg (Value.int .u64) HTZ.out, by go_num, by omega, S1.out, S2.out⟩
          case measure => simp [intOf] <;> omega
      · have hpsz : ¬ (s : Int) < (p : Int) := by omega
        have hfin : times = min Q (Nt.K - 1) := by
          have h1 := (HT.out times left HI.out).1 (by rw [← hp, Nt.K_eq, ← hs]; omega)
          have h2 := HM.out
          have h3 : times ≤ Nt.K - 1 := by rw [Nt.K_eq]; omega
          have := Nat.le_min.2 ⟨h1, h3⟩
          omega
        have HF := Lib.hid hfin
        have htb' : times < 4294967296 := by omega
        clear hfin hp hs hpz
        go_wp2_with fail
        go_ret
        exact ⟨times, rfl, HOK.out times HF.out, htb', q, rfl⟩
end Go.Proofs.Ytegbhenchmfngaa
