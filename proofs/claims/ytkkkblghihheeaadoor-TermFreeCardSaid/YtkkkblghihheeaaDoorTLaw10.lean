/- TermFree: what is put in a variable's place brings just its own free variables, and the others stay. -/
import Derived.Test.YtkkkblghihheeaaDoorTLawKit
namespace Go.Proofs.YtkkkblghihheeaaDoor
open Go.RowKit

set_option maxHeartbeats 8000000 in
theorem tfree_law (A B : Option Addr) (n c m d : Nat) (t u : List Node3) (x : Int) (w : World) (hn : t.length = n) (hs : Slice A n c) (hA : Holds w A (nodesV t)) (hm : u.length = m) (hsu : Slice B m d) (hB : Holds w B (nodesV u)) (hL : Lim w) (h0 : 0 ≤ x) (h1 : x ≤ 65535) :
    Calls Tryd.prog 10 #[.slice A n c, .slice B m d, .int .u16 x] w fun e w' => e = .returned (.bool true) ∧ Below w.heap.size w w' := by
  have HR1 := Lib.hid (show ∀ w', Below w.heap.size w w' → RowIn w' A n c t from fun w' hb => ⟨hn, hs, hA.below hb⟩)
  have HR2 := Lib.hid (show ∀ w', Below w.heap.size w w' → RowIn w' B m d u from fun w' hb => ⟨hm, hsu, hB.below hb⟩)
  have HL := Lib.hid (show ∀ w', Below w.heap.size w w' → Lim w' from fun w' hb => hL.next hb)
  have HAW := Lib.hid (awake_any w hL)
  clear hA hB hL hn hm hs hsu
  by_cases hbig : 2000 < n ∨ 2000 < m ∨ 500 < x
  · by_cases b1 : 2000 < n
    · have c1 : (2000 : Int) < (n : Int) := by omega
      clear hbig
      go_enter Tryd.func10, Tryd.ntmps10
      go_wp2_with fail
      refine (HAW.out).mono ?_
      rintro e w1 ⟨rfl, hb1⟩
      go_wp2_with fail
      go_ret
      exact ⟨rfl, hb1⟩
    · have c1 : ¬ (2000 : Int) < (n : Int) := by omega
      by_cases b2 : 2000 < m
      · have c2 : (2000 : Int) < (m : Int) := by omega
        clear hbig
        go_enter Tryd.func10, Tryd.ntmps10
        go_wp2_with fail
        refine (HAW.out).mono ?_
        rintro e w1 ⟨rfl, hb1⟩
        go_wp2_with fail
        go_ret
        exact ⟨rfl, hb1⟩
      · have c2 : ¬ (2000 : Int) < (m : Int) := by omega
        have c3 : 500 < x := by omega
        clear hbig
        go_enter Tryd.func10, Tryd.ntmps10
        go_wp2_with fail
        refine (HAW.out).mono ?_
        rintro e w1 ⟨rfl, hb1⟩
        go_wp2_with fail
        go_ret
        exact ⟨rfl, hb1⟩
  · have c1 : ¬ (2000 : Int) < (n : Int) := by omega
    have c2 : ¬ (2000 : Int) < (m : Int) := by omega
    have c3 : ¬ 500 < x := by omega
    clear hbig
    have I0 := Lib.hid (show I64 0 by unfold I64; omega)
    have HFR := Lib.hid (free_in (t := t) (u := u) (p := x) h0)
    have HER := Lib.hid (subst_err (t := t) (u := u) (at_ := 0))
    go_enter Tryd.func10, Tryd.ntmps10
    go_wp2_with fail
    refine (HAW.out).mono ?_
    rintro e w1 ⟨rfl, hb1⟩
    have HB1 := Lib.hid hb1
    clear hb1
    go_wp2_with fail
    refine (subst_in (HR1.out _ HB1.out) (HR2.out _ HB1.out) (HL.out _ HB1.out) 0 I0.out).mono ?_
    rintro e w2 ⟨A2, n2, c2', rfl, hr2, hb2⟩
    have HB2 := Lib.hid (below_step HB1.out hb2)
    have HRa := Lib.hid hr2
    clear hr2 hb2
    generalize (substS t u 0).2 = e2 at *
    generalize (substS t u 0).1 = la at *
    by_cases x2 : e2 = 0
    · subst x2
      have hfr : freeS la x = (freeS t (x + 1) || (freeS t 0 && freeS u x)) := HFR.out (by first | rfl | trivial)
      have HFQ := Lib.hid hfr
      clear hfr HFR HER
      go_wp2_with fail
      refine (free_in_ HRa.out (HL.out _ HB2.out) x).mono ?_
      rintro e w3 ⟨rfl, hb3⟩
      have HB3 := Lib.hid (below_step HB2.out hb3)
      clear hb3
      go_wp2_with fail
      refine (free_in_ (HR1.out _ HB3.out) (HL.out _ HB3.out) (x + 1)).mono ?_
      rintro e w4 ⟨rfl, hb4⟩
      have HB4 := Lib.hid (below_step HB3.out hb4)
      clear hb4
      generalize freeS la x = r0 at *
      generalize freeS t (x + 1) = r1 at *
      cases r1 with
      | true =>
        obtain rfl : r0 = true := HFQ.out
        go_wp2_with fail
        go_ret
        exact ⟨rfl, HB4.out⟩
      | false =>
        go_wp2_with fail
        refine (free_in_ (HR1.out _ HB4.out) (HL.out _ HB4.out) 0).mono ?_
        rintro e w5 ⟨rfl, hb5⟩
        have HB5 := Lib.hid (below_step HB4.out hb5)
        clear hb5
        generalize freeS t 0 = r2 at *
        cases r2 with
        | true =>
          go_wp2_with fail
          refine (free_in_ (HR2.out _ HB5.out) (HL.out _ HB5.out) x).mono ?_
          rintro e w6 ⟨rfl, hb6⟩
          have HB6 := Lib.hid (below_step HB5.out hb6)
          clear hb6
          generalize freeS u x = r3 at *
          obtain rfl : r0 = r3 := by simpa using HFQ.out
          clear HFQ
          cases r0
          all_goals
            go_wp2_with fail
            go_ret
            exact ⟨rfl, HB6.out⟩
        | false =>
          obtain rfl : r0 = false := by simpa using HFQ.out
          go_wp2_with fail
          go_ret
          exact ⟨rfl, HB5.out⟩
    · have y2 : (e2 != 0) = true := by simpa using x2
      have hnil : la = [] := HER.out x2
      subst hnil
      obtain rfl : 0 = n2 := HRa.out.len
      clear x2 HFR HER
      go_wp2_with fail
      go_ret
      exact ⟨rfl, HB2.out⟩
end Go.Proofs.YtkkkblghihheeaaDoor
