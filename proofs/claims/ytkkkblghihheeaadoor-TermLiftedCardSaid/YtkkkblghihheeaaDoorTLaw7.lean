/- TermLifted: lifting in two steps is lifting at once. -/
import Derived.Test.YtkkkblghihheeaaDoorTLawKit
namespace Go.Proofs.YtkkkblghihheeaaDoor
open Go.RowKit

set_option maxRecDepth 100000 in
set_option maxHeartbeats 8000000 in
theorem tlifted_any (A : Option Addr) (n c : Nat) (t : List Node3) (a b f : Int) (w : World) (hn : t.length = n) (hs : Slice A n c) (hA : Holds w A (nodesV t)) (hL : Lim w) (hnb : n ≤ 4611686018427387904)
    (ha0 : 0 ≤ a) (ha1 : a ≤ 65535) (hb0 : 0 ≤ b) (hb1 : b ≤ 65535) (hf0 : 0 ≤ f) (hf1 : f ≤ 65535) :
    Calls Tryd.prog 7 #[.slice A n c, .int .u16 a, .int .u16 b, .int .u16 f] w fun e w' => e = .returned (.bool true) ∧ Below w.heap.size w w' := by
  have HR1 := Lib.hid (show ∀ w', Below w.heap.size w w' → RowIn w' A n c t from fun w' hb => ⟨hn, hs, hA.below hb⟩)
  have HL := Lib.hid (show ∀ w', Below w.heap.size w w' → Lim w' from fun w' hb => hL.next hb)
  have HAW := Lib.hid (awake_any w hL)
  have HLO := Lib.hid (show ∀ w1 : World, _ from fun w1 => long_any (some ⟨w1.heap.size, 0, none⟩) 1 1 [(A, c, t)] (w1.alloc (.cells #[.slice A n c] 23)) rfl (by omega) (by
      have := holds_at w1 #[.slice A n c] 23 (([(A, c, t)] : List RowT).map rowV) (by simp [rowV, hn])
      exact this) (by
    intro y hy
    simp only [List.mem_cons, List.not_mem_nil, or_false] at hy
    rcases hy with rfl
    simp only; omega))
  have HN := Lib.hid hn
  clear hA hL hn hs hnb
  go_enter Tryd.func7, Tryd.ntmps7
  go_wp2_with fail
  refine (HAW.out).mono ?_
  rintro e w1 ⟨rfl, hb1'⟩
  have HB2 := Lib.hid (below_alloc hb1' (.cells #[.slice A n c] 23))
  clear hb1'
  go_wp2_with fail
  refine (HLO.out w1).mono ?_
  rintro e w2 ⟨rfl, (rfl | ⟨hlen, rfl⟩)⟩
  · go_wp2_with fail
    go_ret
    exact ⟨rfl, HB2.out⟩
  · have hnl : n ≤ 9000 := by have := lens_le (l := [(A, c, t)]) (A, c, t) (by simp); have := HN.out; simp only at *; omega
    clear hlen
    by_cases xa : 1000 < a
    · go_wp2_with fail
      go_ret
      exact ⟨rfl, HB2.out⟩
    by_cases xb : 1000 < b
    · go_wp2_with fail
      go_ret
      exact ⟨rfl, HB2.out⟩
    by_cases xf : 1000 < f
    · go_wp2_with fail
      go_ret
      exact ⟨rfl, HB2.out⟩
    go_wp2_with fail
    refine (shape_in (HR1.out _ HB2.out) (HL.out _ HB2.out)).mono ?_
    rintro e w3 ⟨rfl, hb3⟩
    have HB3 := Lib.hid (below_step HB2.out hb3)
    clear hb3
    obtain ⟨st, hst⟩ : ∃ st, shapeOf t = st := ⟨_, rfl⟩
    rw [hst]
    by_cases hst0 : st = 0
    · subst hst0
      have HTW := Lib.hid (lifted_twice (a := a) (b := b) (from_ := f) hst ha0 hb0 (by omega) hf0)
      have HV := Lib.hid (show (liftS t (a + b) f).2 = 0 ∨ (liftS t (a + b) f).2 = 6 by rw [lift_vals hst (by omega) hf0]; split <;> simp)
      have HLX := Lib.hid (lift_len t (a + b) f)
      clear hst
      go_wp2_with fail
      refine (lift_in (HR1.out _ HB3.out) (HL.out _ HB3.out) (a + b) f).mono ?_
      rintro e w4 ⟨A4, n4, c4, rfl, hr4, hb4⟩
      have HB4 := Lib.hid (below_step HB3.out hb4)
      have HRx := Lib.hid hr4
      clear hr4 hb4
      have hv := HV.out
      clear HV
      generalize (liftS t (a + b) f).2 = ex at *
      generalize (liftS t (a + b) f).1 = lx at *
      rcases hv with rfl | rfl
      · obtain ⟨hy, hz, hfr, hbl⟩ := HTW.out (by first | rfl | trivial)
        have HZ := Lib.hid hz
        have HFR := Lib.hid hfr
        have HBL := Lib.hid hbl
        have HLY := Lib.hid (lift_len t a f)
        clear hz hfr hbl HTW
        go_wp2_with fail
        refine (lift_in (HR1.out _ HB4.out) (HL.out _ HB4.out) a f).mono ?_
        rintro e w5 ⟨A5, n5, c5, rfl, hr5, hb5⟩
        have HB5 := Lib.hid (below_step HB4.out hb5)
        have HRy := Lib.hid hr5
        have HRx5 := Lib.hid (HRx.out.below hb5)
        clear hr5 hb5 HRx
        rw [hy]
        clear hy
        generalize (liftS t a f).1 = ly at *
        go_wp2_with fail
        refine (lift_in HRy.out (HL.out _ HB5.out) b (f + a)).mono ?_
        rw [HZ.out]
        rintro e w6 ⟨A6, n6, c6, rfl, hr6, hb6⟩
        have HB6 := Lib.hid (below_step HB5.out hb6)
        have HRz := Lib.hid hr6
        have HRx6 := Lib.hid (HRx5.out.below hb6)
        have HRy6 := Lib.hid (HRy.out.below hb6)
        clear hr6 hb6 HRx5 HRy HZ
        simp only
        go_wp2_with fail
        refine (same_in HRx6.out HRz.out (by have := HRx6.out.len; have := HLX.out; omega) true (by simp)).mono ?_
        rintro e w7 ⟨rfl, hb7⟩
        have HB7 := Lib.hid (below_step HB6.out hb7)
        have HRx7 := Lib.hid (HRx6.out.below hb7)
        have HRy7 := Lib.hid (HRy6.out.below hb7)
        clear hb7 HRx6 HRy6 HRz
        have fin : ∀ wz (hz : Below w.heap.size w wz), RowIn wz A4 n4 c4 lx → Hid True := fun _ _ _ => trivial
        clear fin
        by_cases ha : 0 < a
        · have HFF : Hid (freeS ly f = false) := Lib.hid (HFR.out ha)
          go_wp2_with fail
          refine (free_in_ HRy7.out (HL.out _ HB7.out) f).mono ?_
          rw [HFF.out]
          rintro e w8 ⟨rfl, hb8⟩
          have HB8 := Lib.hid (below_step HB7.out hb8)
          have HRx8 := Lib.hid (HRx7.out.below hb8)
          clear hb8 HRx7 HRy7 HFR
          go_wp2_with fail
          refine (below_in (HR1.out _ HB8.out) (HL.out _ HB8.out) f).mono ?_
          rintro e w9 ⟨rfl, hb9⟩
          have HB9 := Lib.hid (below_step HB8.out hb9)
          have HRx9 := Lib.hid (HRx8.out.below hb9)
          clear hb9 HRx8
          generalize belowS t f = bl at *
          cases bl with
          | false =>
            clear HBL
            go_wp2_with fail
            go_ret
            exact ⟨rfl, HB9.out⟩
          | true =>
            have htl : t = lx := HBL.out (by first | rfl | trivial)
            have HSM := Lib.hid (same_in (HR1.out _ HB9.out) HRx9.out (by omega) true (by simp [htl]))
            clear htl HBL
            go_wp2_with fail
            refine (HSM.out).mono ?_
            rintro e w10 ⟨rfl, hb10⟩
            have HB10 := Lib.hid (below_step HB9.out hb10)
            clear hb10
            go_wp2_with fail
            go_ret
            exact ⟨rfl, HB10.out⟩
        · clear HFR HRy7
          go_wp2_with fail
          refine (below_in (HR1.out _ HB7.out) (HL.out _ HB7.out) f).mono ?_
          rintro e w9 ⟨rfl, hb9⟩
          have HB9 := Lib.hid (below_step HB7.out hb9)
          have HRx9 := Lib.hid (HRx7.out.below hb9)
          clear hb9 HRx7
          generalize belowS t f = bl at *
          cases bl with
          | false =>
            clear HBL
            go_wp2_with fail
            go_ret
            exact ⟨rfl, HB9.out⟩
          | true =>
            have htl : t = lx := HBL.out (by first | rfl | trivial)
            have HSM := Lib.hid (same_in (HR1.out _ HB9.out) HRx9.out (by omega) true (by simp [htl]))
            clear htl HBL
            go_wp2_with fail
            refine (HSM.out).mono ?_
            rintro e w10 ⟨rfl, hb10⟩
            have HB10 := Lib.hid (below_step HB9.out hb10)
            clear hb10
            go_wp2_with fail
            go_ret
            exact ⟨rfl, HB10.out⟩
      · clear HTW
        go_wp2_with fail
        go_ret
        exact ⟨rfl, HB4.out⟩
    · have h2 : (st != 0) = true := by simpa using hst0
      clear hst0 hst
      go_wp2_with fail
      go_ret
      exact ⟨rfl, HB3.out⟩
end Go.Proofs.YtkkkblghihheeaaDoor
