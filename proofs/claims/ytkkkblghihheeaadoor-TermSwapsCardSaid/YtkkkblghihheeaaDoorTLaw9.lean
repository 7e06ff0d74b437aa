/- TermSwaps: of two substitutions the second may come first. -/
import Derived.Test.YtkkkblghihheeaaDoorTLawKit
namespace Go.Proofs.YtkkkblghihheeaaDoor
open Go.RowKit

set_option maxHeartbeats 8000000 in
theorem tswaps_any (A B C : Option Addr) (n c m d k f : Nat) (t u v : List Node3) (w : World) (hn : t.length = n) (hs : Slice A n c) (hA : Holds w A (nodesV t)) (hm : u.length = m) (hsu : Slice B m d) (hB : Holds w B (nodesV u)) (hk : v.length = k) (hsv : Slice C k f) (hC : Holds w C (nodesV v)) (hL : Lim w) :
    Calls Tryd.prog 9 #[.slice A n c, .slice B m d, .slice C k f] w fun e w' => e = .returned (.bool true) ∧ Below w.heap.size w w' := by
  have HR1 := Lib.hid (show ∀ w', Below w.heap.size w w' → RowIn w' A n c t from fun w' hb => ⟨hn, hs, hA.below hb⟩)
  have HR2 := Lib.hid (show ∀ w', Below w.heap.size w w' → RowIn w' B m d u from fun w' hb => ⟨hm, hsu, hB.below hb⟩)
  have HR3 := Lib.hid (show ∀ w', Below w.heap.size w w' → RowIn w' C k f v from fun w' hb => ⟨hk, hsv, hC.below hb⟩)
  have HL := Lib.hid (show ∀ w', Below w.heap.size w w' → Lim w' from fun w' hb => hL.next hb)
  have HAW := Lib.hid (awake_any w hL)
  clear hA hB hC hL hn hm hk hs hsu hsv
  by_cases hbig : 300 < n ∨ 300 < m ∨ 300 < k
  · by_cases b1 : 300 < n
    · have c1 : (300 : Int) < (n : Int) := by omega
      clear hbig
      go_enter Tryd.func9, Tryd.ntmps9
      go_wp2_with fail
      refine (HAW.out).mono ?_
      rintro e w1 ⟨rfl, hb1⟩
      go_wp2_with fail
      go_ret
      exact ⟨rfl, hb1⟩
    · have c1 : ¬ (300 : Int) < (n : Int) := by omega
      by_cases b2 : 300 < m
      · have c2 : (300 : Int) < (m : Int) := by omega
        clear hbig
        go_enter Tryd.func9, Tryd.ntmps9
        go_wp2_with fail
        refine (HAW.out).mono ?_
        rintro e w1 ⟨rfl, hb1⟩
        go_wp2_with fail
        go_ret
        exact ⟨rfl, hb1⟩
      · have c2 : ¬ (300 : Int) < (m : Int) := by omega
        have c3 : (300 : Int) < (k : Int) := by omega
        clear hbig
        go_enter Tryd.func9, Tryd.ntmps9
        go_wp2_with fail
        refine (HAW.out).mono ?_
        rintro e w1 ⟨rfl, hb1⟩
        go_wp2_with fail
        go_ret
        exact ⟨rfl, hb1⟩
  · have c1 : ¬ (300 : Int) < (n : Int) := by omega
    have c2 : ¬ (300 : Int) < (m : Int) := by omega
    have c3 : ¬ (300 : Int) < (k : Int) := by omega
    clear hbig
    have i0 : I64 0 := by unfold I64; omega
    have i1 : I64 1 := by unfold I64; omega
    have I0 := Lib.hid i0
    have I1 := Lib.hid i1
    clear i0 i1
    have HSW := Lib.hid (swaps (t := t) (u := u) (w := v))
    have HLB := Lib.hid (subst_len (substS t u 0).1 v 0)
    go_enter Tryd.func9, Tryd.ntmps9
    go_wp2_with fail
    refine (HAW.out).mono ?_
    rintro e w1 ⟨rfl, hb1⟩
    have HB1 := Lib.hid hb1
    clear hb1
    go_wp2_with fail
    refine (subst_in (HR1.out _ HB1.out) (HR2.out _ HB1.out) (HL.out _ HB1.out) 0 I0.out).mono ?_
    rintro e w2 ⟨A2, n2, c2', rfl, hr2, hb2⟩
    have HB2 := Lib.hid (below_step HB1.out hb2)
    have HRa := Lib.hid hr2
    clear hr2 hb2
    generalize (substS t u 0).2 = e2 at *
    generalize (substS t u 0).1 = la at *
    go_wp2_with fail
    refine (subst_in HRa.out (HR3.out _ HB2.out) (HL.out _ HB2.out) 0 I0.out).mono ?_
    rintro e w3 ⟨A3, n3, c3', rfl, hr3, hb3⟩
    have HB3 := Lib.hid (below_step HB2.out hb3)
    have HRb := Lib.hid hr3
    clear hr3 hb3 HRa
    generalize (substS la v 0).2 = e3 at *
    generalize (substS la v 0).1 = lb at *
    go_wp2_with fail
    refine (subst_in (HR1.out _ HB3.out) (HR3.out _ HB3.out) (HL.out _ HB3.out) 1 I1.out).mono ?_
    rintro e w4 ⟨A4, n4, c4', rfl, hr4, hb4⟩
    have HB4 := Lib.hid (below_step HB3.out hb4)
    have HRc := Lib.hid hr4
    have HRb4 := Lib.hid (HRb.out.below hb4)
    clear hr4 hb4 HRb
    generalize (substS t v 1).2 = e4 at *
    generalize (substS t v 1).1 = lc at *
    go_wp2_with fail
    refine (subst_in (HR2.out _ HB4.out) (HR3.out _ HB4.out) (HL.out _ HB4.out) 0 I0.out).mono ?_
    rintro e w5 ⟨A5, n5, c5', rfl, hr5, hb5⟩
    have HB5 := Lib.hid (below_step HB4.out hb5)
    have HRd := Lib.hid hr5
    have HRb5 := Lib.hid (HRb4.out.below hb5)
    have HRc5 := Lib.hid (HRc.out.below hb5)
    clear hr5 hb5 HRb4 HRc
    generalize (substS u v 0).2 = e5 at *
    generalize (substS u v 0).1 = ld at *
    go_wp2_with fail
    refine (subst_in HRc5.out HRd.out (HL.out _ HB5.out) 0 I0.out).mono ?_
    rintro e w6 ⟨A6, n6, c6', rfl, hr6, hb6⟩
    have HB6 := Lib.hid (below_step HB5.out hb6)
    have HRi := Lib.hid hr6
    have HRb6 := Lib.hid (HRb5.out.below hb6)
    clear hr6 hb6 HRb5 HRc5 HRd
    generalize (substS lc ld 0).2 = e6 at *
    generalize (substS lc ld 0).1 = li at *
    by_cases x2 : e2 = 0
    · subst x2
      by_cases x3 : e3 = 0
      · subst x3
        by_cases x4 : e4 = 0
        · subst x4
          by_cases x5 : e5 = 0
          · subst x5
            by_cases x6 : e6 = 0
            · subst x6
              have hsw : lb = li := HSW.out (by first | rfl | trivial) (by first | rfl | trivial) (by first | rfl | trivial) (by first | rfl | trivial) (by first | rfl | trivial)
              have HSM := Lib.hid (same_in HRb6.out HRi.out (by have := HRb6.out.len; have := HLB.out; omega) true (by simp [hsw]))
              clear hsw HSW HLB
              go_wp2_with fail
              refine (HSM.out).mono ?_
              rintro e w7 ⟨rfl, hb7⟩
              have HB7 := Lib.hid (below_step HB6.out hb7)
              clear hb7
              go_wp2_with fail
              go_ret
              exact ⟨rfl, HB7.out⟩
            · have y6 : (e6 != 0) = true := by simpa using x6
              clear x6 HSW HLB
              go_wp2_with fail
              go_ret
              exact ⟨rfl, HB6.out⟩
          · have y5 : (e5 != 0) = true := by simpa using x5
            clear x5 HSW HLB
            go_wp2_with fail
            go_ret
            exact ⟨rfl, HB6.out⟩
        · have y4 : (e4 != 0) = true := by simpa using x4
          clear x4 HSW HLB
          go_wp2_with fail
          go_ret
          exact ⟨rfl, HB6.out⟩
      · have y3 : (e3 != 0) = true := by simpa using x3
        clear x3 HSW HLB
        go_wp2_with fail
        go_ret
        exact ⟨rfl, HB6.out⟩
    · have y2 : (e2 != 0) = true := by simpa using x2
      clear x2 HSW HLB
      go_wp2_with fail
      go_ret
      exact ⟨rfl, HB6.out⟩
end Go.Proofs.YtkkkblghihheeaaDoor
