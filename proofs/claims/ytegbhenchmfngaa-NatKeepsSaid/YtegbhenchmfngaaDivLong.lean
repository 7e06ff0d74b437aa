/- nat.divLong: division by a number of two words or more. -/
import Derived.Test.YtegbhenchmfngaaDivStep
import Derived.Test.YtegbhenchmfngaaShift
import Derived.Test.YtegbhenchmfngaaBits
import Derived.Test.YtegbhenchmfngaaDivMod
namespace Go.Proofs.Ytegbhenchmfngaa
open Go.RowKit

theorem lz_any (x : Nat) (w : World) (hx : x < 4294967296) :
    Calls Try.prog 66 #[.int .u32 x] w fun e w' => e = .returned (.int .i64 ((32 - Nt.blen x : Nat) : Int)) ∧ w = w' :=
  (Try.bits_LeadingZeros32 x w (by omega) (by omega)).mono fun _ _ h => ⟨by
    rw [h.1, Int.toNat_natCast, bitLen_blen 32 x (by simpa using hx) (by decide)]
    have := Nt.blen_le_of (N := x) (n := 32) (by simpa using hx)
    exact ret_int (by omega), h.2.symm⟩

set_option maxHeartbeats 1000000 in
theorem divLong_any (A B : Option Addr) (c d M N : Nat) (w : World) (hM : IsNat w A (Nt.wlen M) M) (hN : IsNat w B (Nt.wlen N) N) (hc : Nt.wlen M ≤ c) (hd : Nt.wlen N ≤ d) (hcm : c ≤ 9223372036854775807) (hdm : d ≤ 9223372036854775807) (hn : Nt.wlen M ≤ 1099511627775)
    (h2 : 2 ≤ Nt.wlen N) (hle : N ≤ M) :
    Calls Try.prog 53 #[.slice A (Nt.wlen M) c, .slice B (Nt.wlen N) d] w fun e w' => ∃ A1 c1 A2 c2, e = .returned (.tuple #[.slice A1 (Nt.wlen (M / N)) c1, .slice A2 (Nt.wlen (M % N)) c2]) ∧ Own w.heap.size w' A1 (Nt.wlen (M / N)) c1 (M / N) ∧ Own w.heap.size w' A2 (Nt.wlen (M % N)) c2 (M % N) ∧ Apart2 A1 A2 ∧ Below w.heap.size w w' := by
  obtain ⟨m1, hm1⟩ : ∃ m1, Nt.wlen N = m1 + 1 := ⟨Nt.wlen N - 1, by omega⟩
  obtain ⟨ts1, ts2, ts3⟩ := Nt.top_shift hm1
  have hmn := Nt.wlen_mono hle
  have hMw := Nt.lt_pw_wlen M
  obtain ⟨b, hb⟩ : ∃ b, b = 32 - Nt.blen (Nt.dig N m1) := ⟨_, rfl⟩
  rw [← hb] at ts1 ts2 ts3
  have hlz := fun w => lz_any (Nt.dig N m1) w (Nt.dig_lt _ _)
  rw [← hb] at hlz
  obtain ⟨bb, ob, hBe, hcB⟩ := hN.2 (by omega)
  have hctop := hcB m1 (by omega)
  subst hBe
  rw [hm1] at hN hd h2 hmn ⊢
  have hQ := Nt.quot_lt hMw hm1 (by omega) hmn
  have hstart := Nt.long_start (M := M) (N := N) (b := b) hMw (by omega) hmn ts3 ts2
  generalize Nt.wlen M = n at *
  have hquo := Nt.div_scale (M := M) (N := N) b
  have hrem := Nt.mod_scale (M := M) (N := N) b
  have HU := fun w (h : IsNat w A n M) => shiftUp_any A n c M 0 b w h (by omega) (by omega) ts3
  have HV := fun w (h : IsNat w (some ⟨bb, ob, none⟩) (m1 + 1) N) => shiftUp_any (some ⟨bb, ob, none⟩) (m1 + 1) d N 0 b w h (by omega) (by omega) ts3
  rw [Nt.pw_zero, Nat.mul_one] at HU HV
  generalize M * 2 ^ b = M' at *
  generalize N * 2 ^ b = D at *
  have hMN : M / N < Nt.pw (n - (m1 + 1) + 1) := hQ
  generalize Nt.dig N m1 = top at *
  have hctop' : w.cell? ⟨bb, ob + ((m1 + 1) - 1), none⟩ = some (.int .u32 top) := by rw [Nat.add_sub_cancel]; exact hctop
  clear hb hle hMw hm1 hcB hQ hctop
  generalize m1 + 1 = m at *
  obtain ⟨P, hP⟩ : ∃ P, P = n - m + 1 := ⟨_, rfl⟩
  rw [← hP] at hstart hMN
  have hP1 : P + m ≤ n + 1 := by omega
  have hP2 : n + 1 ≤ P + m := by omega
  have HP := Lib.hid hP
  clear hP
  have hmk := make_words P (by omega) ((n : Int) - (m : Int) + 1) (by omega) (by omega)
  go_enter Try.func53, Try.ntmps53
  go_wp2_with fail
  refine (hlz _).mono ?_
  rintro e w0 ⟨rfl, rfl⟩
  go_wp2_with fail
  refine (HU _ hM).mono ?_
  rintro e w1 ⟨g1, rfl, hg1, hr1, hM1, hb1⟩
  go_wp2_with fail
  refine (HV _ (hN.below hb1)).mono ?_
  rintro e w2 ⟨g2, rfl, hg2, hr2, hD2, hb2⟩
  have hg1s := hr1.lt
  have hr1' := hr1.below hb2
  have hb2' := hb1.trans (hb2.mono hb1.size)
  have hg2s := hr2.lt
  clear HU HV hlz hr1 hb1 hb2 hM hN hctop'
  have hD := hr2.nat (o := 0) (n := m) ts1 (by omega) (fun j _ => by rw [Nat.zero_add])
  have hDpos : 0 < D := by have := Nt.pw_pos m; omega
  clear hr2 hD2
  go_wp2_with fail
  clear hmk
  have hrow3 := RowN.made w2 P
  have hr1'' := hr1'.alloc (.cells (madeCells #[.int .u32 0] P) 44)
  have hD3 := hD.alloc (.cells (madeCells #[.int .u32 0] P) 44)
  have hb3 := below_alloc hb2' (.cells (madeCells #[.int .u32 0] P) 44)
  have hg3 : w.heap.size ≤ w2.heap.size := hb2'.size
  have hg12 : g1 < w2.heap.size := by have := hr1'.lt; omega
  have hg1w : w.heap.size ≤ g1 := hg1
  have hg2w : g2 < w2.heap.size := hg2s
  have hg21 : g2 ≠ g1 := by omega
  generalize w2.alloc (.cells (madeCells #[.int .u32 0] P) 44) = w3 at *
  generalize hg3e : w2.heap.size = g3 at *
  clear hr1' hD hb2' hg1 hg2 hg1s hg2s hg3e HP
  go_loopw [37] (fun i wr => ∃ (k : Nat) (F1 F3 : Nat → Nat), i = .int .i64 k ∧ k ≤ P ∧ RowN wr g1 (0 + n + 1) F1 ∧ RowN wr g3 P F3 ∧ IsNat wr (some ⟨g2, 0, none⟩) m D ∧ Below w.heap.size w wr ∧
    Hid (∀ j, j < P - k → F1 j = Nt.dig M' j) ∧ Hid (∀ j, j < m → F1 (P - k + j) = Nt.dig (M' / Nt.pw (P - k) % D) j) ∧ Hid (∀ j, P - k ≤ j → j < P → F3 j = Nt.dig (M / N) j)) (fun i _ => P - (intOf i).toNat)
  case atStart =>
    refine ⟨0, _, _, rfl, Nat.zero_le _, hr1'', hrow3, hD3, hb3, fun j _ => rfl, fun j hj => ?_, fun j h1 h2 => by omega⟩
    rw [Nat.sub_zero, Nat.mod_eq_of_lt hstart, Nt.dig_div_pw]
  case round =>
    obtain ⟨k, F1, F3, rfl, hk, hrow1, hrowq, hDw, hbw, H1, H2, H3⟩ := hrel
    by_cases hlt : k < P
    · obtain ⟨i, hi⟩ : ∃ i, i = P - 1 - k := ⟨_, rfl⟩
      have hi1 : P - k = i + 1 := by omega
      have hiz : (P : Int) - 1 - (k : Int) = (i : Int) := by omega
      obtain ⟨v1, v2, v3⟩ := Nt.long_step M' D i
      have hVlt : M' / Nt.pw i % (D * Nt.K) < D * Nt.K := Nat.mod_lt _ (Nat.mul_pos hDpos Nt.K_pos)
      have hdm := Nt.dig_lt M' i
      have hFV : ∀ j, j < m + 1 → F1 (i + j) = Nt.dig (M' / Nt.pw i % (D * Nt.K)) j := fun j hj => by
        rw [v1]
        cases j with
        | zero => rw [Nt.dig_cons_zero hdm]; exact H1.out i (by omega)
        | succ j =>
          rw [Nt.dig_cons_succ hdm]
          have := H2.out j (by omega)
          rw [hi1] at this
          rw [← this]
          congr 1
          omega
      rw [← hquo] at H3
      have HDS := Lib.hid (divStep_any g1 i (n + 1 - i) (0 + n + 1) F1 (some ⟨g2, 0, none⟩) m (m + 1) _ D wr hrow1 (by omega) (by omega) hDw (fun _ b' o' e => by cases e; exact hg21) h2 hFV hVlt ts2)
      rw [v2, v3] at HDS
      have hib : i < P := by omega
      have him : i + m ≤ n := by omega
      have HI1 := Lib.hid hi1
      have HIE := Lib.hid hi
      clear v1 v2 v3 hVlt hFV hi1 hi
      rw [hquo] at HDS H3
      obtain ⟨qd, hqde⟩ : ∃ qd, qd = Nt.dig (M / N) i := ⟨_, rfl⟩
      rw [← hqde] at HDS
      have hqd : qd < 4294967296 := by rw [hqde]; exact Nt.dig_lt _ _
      have HQD := Lib.hid hqde
      clear hqde
      go_wp2_with fail
      rw [show i + m + 1 - i = m + 1 from by omega]
      refine (HDS.out).mono ?_
      rintro e w4 ⟨rfl, F1', hrow1', q1, q2, hok⟩
      have hrowq' := hrowq.only hok (by omega)
      have hc3 := hrowq'.cell (i := i) hib
      have hf3 := hrowq'.frozen i
      have hD4 := hok.nat hDw (fun _ b' o' e => by cases e; exact hg21)
      have hb4 := hok.below hbw hg1w
      have hqdb : qd < 4294967296 := hqd
      have Q1 := Lib.hid q1
      have Q2 := Lib.hid q2
      clear q1 q2 HDS
      go_wp2_with fail
      go_roundw
      case rel =>
        have hok2 : Only g3 w4 (w4.setCell ⟨g3, i, none⟩ (.int .u32 qd)) := (Only.refl _ _).set_ _ _
        refine ⟨k + 1, F1', _, by go_num, by omega, hrow1'.only hok2 (by omega), hrowq'.set_ i qd, hok2.nat hD4 (fun _ b' o' e => by cases e; omega), hok2.below hb4 hg3, ?_, ?_, ?_⟩
        · intro j hj
          have hi := HIE.out
          rw [Q2.out j (by omega)]
          exact H1.out j (by omega)
        · intro j hj
          have hi := HIE.out
          rw [show P - (k + 1) = i by omega]
          exact Q1.out j hj
        · intro j h1 h2
          have hi := HIE.out
          by_cases e : j = i
          · subst e
            rw [if_pos rfl, HQD.out]
          · rw [if_neg e]
            exact H3.out j (by omega) h2
      case measure => simp [intOf] <;> omega
    · have hk' : k = P := by omega
      subst hk'
      have hfin : ∀ j, j < m → F1 (0 + j) = Nt.dig (M' % D) j := fun j hj => by
        have := H2.out j hj
        rw [Nat.sub_self, Nt.pw_zero, Nat.div_one] at this
        exact this
      have hrD : M' % D < Nt.pw m := Nat.lt_trans (Nat.mod_lt _ hDpos) ts1
      have hrest := hrow1.nat hrD (by omega) hfin
      have hown := Own.of_row (n := k) (N := M / N) hrowq hg3 (by omega) (Nat.le_refl _) hMN (fun j hj => H3.out j (by omega) hj)
      have hsd := shiftDown_some (some ⟨g1, 0, none⟩) m (n + 1) (M' % D) 0 b wr.drew hrest.drew (by omega) (by omega) (by omega) (by omega) ts3
      rw [Nt.pw_zero, Nat.div_one, hrem, show ((0 : Nat) : Int) = 0 from rfl] at hsd
      have HSD := Lib.hid hsd
      have hq0 := hown.nat
      have hgs3 := hrowq.lt
      clear hsd hfin hrest H1 H2 H3
      go_wp2_with fail
      go_region_with (first
        | (go_at_call 57; with_reducible refine (HSD.out).mono ?_; rintro e w5 ⟨A', r', rfl, hown5, hb5⟩; have hq5 := hq0.drew.below hb5)
        | (go_at_call 42; with_reducible refine (trim_any (some ⟨g3, 0, none⟩) k k (M / N) _ (by first | exact hq0.drew | exact hq5) (Nat.le_refl _) (by omega)).mono ?_; rintro e w' ⟨rfl, rfl⟩)
        | (go_at_call 42; with_reducible refine (trim_any A' r' r' (M % N) _ hown5.nat hown5.le (by have := hown5.small; omega)).mono ?_; rintro e w' ⟨rfl, rfl⟩))
      all_goals
        go_wp2_with fail
        go_ret2
        refine ⟨some ⟨g3, 0, none⟩, k, A', r', rfl, (hown.drew.trim).keep hb5, (hown5.trim).mono hbw.size, fun g h e => ?_, below_step hbw.drew hb5⟩
        cases h
        rcases hown5.fresh with ⟨h, _⟩ | ⟨g5, _, h, hge, _⟩
        · rw [h] at e; cases e
        · rw [h] at e
          cases e
          exact absurd hgs3 (Nat.not_lt.2 hge)
end Go.Proofs.Ytegbhenchmfngaa
