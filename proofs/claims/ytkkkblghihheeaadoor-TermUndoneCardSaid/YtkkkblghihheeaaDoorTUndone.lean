/- TermUndone: a variable that was made by lifting takes whatever is put in its place away again. -/
import Derived.Test.YtkkkblghihheeaaDoorTLong
import Derived.Test.YtkkkblghihheeaaDoorTFacts
namespace Go.Proofs.YtkkkblghihheeaaDoor
open Go.RowKit

set_option maxHeartbeats 8000000 in
theorem tundone_any (A B : Option Addr) (n c m d : Nat) (t u : List Node3) (x : Int) (w : World) (hn : t.length = n) (hs : Slice A n c) (hA : Holds w A (nodesV t)) (hm : u.length = m) (hsu : Slice B m d) (hB : Holds w B (nodesV u)) (hL : Lim w)
    (hnb : n ≤ 4611686018427387904) (hmb : m ≤ 4611686018427387904) (h0 : 0 ≤ x) (h1 : x ≤ 65535) :
    Calls Tryd.prog 8 #[.slice A n c, .slice B m d, .int .u16 x] w fun e w' => e = .returned (.bool true) ∧ Below w.heap.size w w' := by
  have HA := Lib.hid (show ∀ w', Below w.heap.size w w' → Holds w' A (nodesV t) from fun w' hb => hA.below hb)
  have HB := Lib.hid (show ∀ w', Below w.heap.size w w' → Holds w' B (nodesV u) from fun w' hb => hB.below hb)
  have HL := Lib.hid (show ∀ w', Below w.heap.size w w' → Lim w' from fun w' hb => hL.next hb)
  have HAW := Lib.hid (awake_any w hL)
  have HN := Lib.hid hn
  have HM := Lib.hid hm
  have HLIT := Lib.hid (show ∀ w1 : World, Holds (w1.alloc (.cells #[.slice A n c, .slice B m d] 23)) (some ⟨w1.heap.size, 0, none⟩) (([(A, c, t), (B, d, u)] : List RowT).map rowV) from fun w1 => by
    have := holds_at w1 #[.slice A n c, .slice B m d] 23 (([(A, c, t), (B, d, u)] : List RowT).map rowV) (by simp [rowV, hn, hm])
    exact this)
  have HLO := Lib.hid (show ∀ w1 : World, _ from fun w1 => long_any (some ⟨w1.heap.size, 0, none⟩) 2 2 [(A, c, t), (B, d, u)] (w1.alloc (.cells #[.slice A n c, .slice B m d] 23)) rfl (by omega) (HLIT.out w1) (by
    intro y hy
    simp only [List.mem_cons, List.not_mem_nil, or_false] at hy
    rcases hy with rfl | rfl
    · simp only; omega
    · simp only; omega))
  clear hA hB hL hn hm hnb hmb
  go_enter Tryd.func8, Tryd.ntmps8
  go_wp2_with fail
  refine (HAW.out).mono ?_
  rintro e w1 ⟨rfl, hb1⟩
  have HB1 := Lib.hid hb1
  have HB2 := Lib.hid (below_alloc hb1 (.cells #[.slice A n c, .slice B m d] 23))
  clear hb1
  go_wp2_with fail
  refine (HLO.out w1).mono ?_
  rintro e w2 ⟨rfl, (rfl | ⟨hlen, rfl⟩)⟩
  · go_wp2_with fail
    go_ret
    exact ⟨rfl, HB2.out⟩
  · have hnl : n ≤ 9000 := by have := lens_le (l := [(A, c, t), (B, d, u)]) (A, c, t) (by simp); have := HN.out; simp only at *; omega
    have hml : m ≤ 9000 := by have := lens_le (l := [(A, c, t), (B, d, u)]) (B, d, u) (by simp); have := HM.out; simp only at *; omega
    clear hlen
    by_cases hx : 1000 < x
    · go_wp2_with fail
      go_ret
      exact ⟨rfl, HB2.out⟩
    · go_wp2_with fail
      refine (shape_any A n c t _ HN.out (HA.out _ HB2.out) (HL.out _ HB2.out)).mono ?_
      rintro e w3 ⟨rfl, hb3⟩
      have HB3 := Lib.hid (below_step HB2.out hb3)
      clear hb3
      obtain ⟨st, hst⟩ : ∃ st, shapeOf t = st := ⟨_, rfl⟩
      rw [hst]
      by_cases hst0 : st = 0
      · subst hst0
        have HST := Lib.hid hst
        clear hst
        go_wp2_with fail
        refine (shape_any B m d u _ HM.out (HB.out _ HB3.out) (HL.out _ HB3.out)).mono ?_
        rintro e w4 ⟨rfl, hb4⟩
        have HB4 := Lib.hid (below_step HB3.out hb4)
        clear hb4
        obtain ⟨su, hsu'⟩ : ∃ su, shapeOf u = su := ⟨_, rfl⟩
        rw [hsu']
        by_cases hsu0 : su = 0
        · subst hsu0
          have HSU := Lib.hid hsu'
          clear hsu'
          go_wp2_with fail
          refine (lift_any A n c t 1 x _ HN.out hs (HA.out _ HB4.out) (HL.out _ HB4.out)).mono ?_
          rintro e w5 ⟨A5, n5, c5, rfl, hl5, ho5, hb5⟩
          have HB5 := Lib.hid (below_step HB4.out hb5)
          have HUN : Hid ((liftS t 1 x).2 = 0 → substS (liftS t 1 x).1 u x = (t, 0)) := Lib.hid (undone HST.out HSU.out h0)
          have hv : (liftS t 1 x).2 = 0 ∨ (liftS t 1 x).2 = 6 := by rw [lift_vals HST.out (by omega) h0]; split <;> simp
          have HL5 := Lib.hid hl5
          have HO5 := Lib.hid (own_holds ho5)
          obtain ⟨A5', c5', e5, hs5, _⟩ := own_slice ho5
          cases e5
          have HS5 := Lib.hid hs5
          clear hb5 hl5 ho5 hs5
          generalize (liftS t 1 x).2 = e5 at *
          generalize (liftS t 1 x).1 = l5 at *
          rcases hv with rfl | rfl
          · have HUN' := Lib.hid (HUN.out rfl)
            clear HUN
            go_wp2_with fail
            refine (subst_any A5 B n5 c5 m d l5 u x _ HL5.out HS5.out HO5.out HM.out hsu (HB.out _ HB5.out) (HL.out _ HB5.out) (by unfold I64; omega)).mono ?_
            rw [HUN'.out]
            rintro e w6 ⟨A6, n6, c6, rfl, hl6, ho6, hb6⟩
            obtain rfl : n = n6 := by rw [← hl6]; exact HN.out.symm
            have HO6 := Lib.hid (own_holds ho6)
            have HB6 := Lib.hid (below_step HB5.out hb6)
            clear hl6 ho6 hb6
            simp only
            go_wp2_with fail
            refine (tsame_n A6 A n n c6 c t t _ HN.out HN.out HO6.out (HA.out _ HB6.out) (by omega) true (by simp)).mono ?_
            rintro e w7 ⟨rfl, hb7⟩
            have HB7 := Lib.hid (below_step HB6.out hb7)
            clear hb7
            go_wp2_with fail
            go_ret
            exact ⟨rfl, HB7.out⟩
          · go_wp2_with fail
            go_ret
            exact ⟨rfl, HB5.out⟩
        · have h2 : (su != 0) = true := by simpa using hsu0
          clear hsu0 hsu'
          go_wp2_with fail
          go_ret
          exact ⟨rfl, HB4.out⟩
      · have h2 : (st != 0) = true := by simpa using hst0
        clear hst0 hst
        go_wp2_with fail
        go_ret
        exact ⟨rfl, HB3.out⟩
end Go.Proofs.YtkkkblghihheeaaDoor
