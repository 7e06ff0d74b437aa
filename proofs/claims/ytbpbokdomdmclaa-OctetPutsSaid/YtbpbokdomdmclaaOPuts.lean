/- OctetPuts: numbers, signed numbers and rows have the forms that the document says. -/
import Derived.Test.YtbpbokdomdmclaaOAns
namespace Go.Proofs.Ytbpbokdomdmclaa
open Go.RowKit

theorem puts_long (A B C : Option Addr) (n m k c d f : Nat) (z : Int) (w : World) (h : 2000 < n ∨ 500 < m ∨ 5000 < k) :
    Calls Try.prog 3 #[.slice A n c, .slice B m d, .int .i64 z, .slice C k f] w fun e w' => e = .returned (.bool true) ∧ Below w.heap.size w w' := by
  by_cases h1 : 2000 < n
  · have t1 : (2000 : Int) < (n : Int) := by omega
    clear h
    go_enter Try.func3, Try.ntmps3
    go_wp2_with (refine (awake_any _).mono ?_; rintro e w0 ⟨rfl, hb0⟩)
    go_ret
    exact ⟨rfl, hb0⟩
  · have t1 : ¬ (2000 : Int) < (n : Int) := by omega
    by_cases h2 : 500 < m
    · have t2 : (500 : Int) < (m : Int) := by omega
      clear h
      go_enter Try.func3, Try.ntmps3
      go_wp2_with (refine (awake_any _).mono ?_; rintro e w0 ⟨rfl, hb0⟩)
      go_ret
      exact ⟨rfl, hb0⟩
    · have t2 : ¬ (500 : Int) < (m : Int) := by omega
      have t3 : (5000 : Int) < (k : Int) := by omega
      clear h
      go_enter Try.func3, Try.ntmps3
      go_wp2_with (refine (awake_any _).mono ?_; rintro e w0 ⟨rfl, hb0⟩)
      go_ret
      exact ⟨rfl, hb0⟩

set_option maxHeartbeats 2000000 in
theorem puts_some (A B C : Option Addr) (n m k c d f : Nat) (b : List Nat) (l : List Int) (z : Int) (t : List Node3) (w : World) (hn : b.length = n) (hm : l.length = m) (hk : t.length = k) (hs : Slice A n c)
    (hA : Holds w A (bytesV b)) (hB : Holds w B (intsV l)) (hl : Wide l) (hC : Holds w C (nodesV t)) (ht : WideT t) (z1 : -9223372036854775808 ≤ z) (z2 : z ≤ 9223372036854775807)
    (h1 : n ≤ 2000) (h2 : m ≤ 500) (h3 : k ≤ 5000) :
    Calls Try.prog 3 #[.slice A n c, .slice B m d, .int .i64 z, .slice C k f] w fun e w' => e = .returned (.bool true) ∧ Below w.heap.size w w' := by
  have t1 : ¬ (2000 : Int) < (n : Int) := by omega
  have t2 : ¬ (500 : Int) < (m : Int) := by omega
  have t3 : ¬ (5000 : Int) < (k : Int) := by omega
  have pl := putF_len (b := b) hl
  have rl := rowF_len (b := b) ht
  obtain ⟨r, E, hr⟩ : ∃ r E, putF b l = (r, E) := ⟨_, _, rfl⟩
  obtain ⟨q, F, hq⟩ : ∃ q F, rowF b t = (q, F) := ⟨_, _, rfl⟩
  obtain ⟨rn, hrn⟩ : ∃ rn, r.length = rn := ⟨_, rfl⟩
  obtain ⟨qn, hqn⟩ : ∃ qn, q.length = qn := ⟨_, rfl⟩
  obtain ⟨s, hs1⟩ : ∃ s, b ++ leb (fold z) = s := ⟨_, rfl⟩
  obtain ⟨sn, hsn⟩ : ∃ sn, s.length = sn := ⟨_, rfl⟩
  have rn1 : rn ≤ 10000 := by rw [hr] at pl; simp only at pl; omega
  have qn1 : qn ≤ 300000 := by rw [hq] at rl; simp only at rl; omega
  have sn1 : sn ≤ 3000 := by
    have := leb_ten (fold_bound z1 z2)
    rw [← hsn, ← hs1, List.length_append]
    omega
  have P1 := Lib.hid fun w hA hB => oput_f A B n m c d b w hn hs hA (by omega) l hm hB hl (by omega) r E rn hr hrn
  have P2 := Lib.hid fun w hA hB => rput_f A B n m c d b w hn hs hA (by omega) l hm hB hl (by omega) r E rn hr hrn
  have R1 := Lib.hid fun w hA hC => orow_f A C n k c f b w hn hs hA (by omega) t hk hC ht q F qn hq hqn
  have R2 := Lib.hid fun w hA hC => rrow_f A C n k c f b w hn hs hA (by omega) t hk hC ht q F qn hq hqn
  have S1 := Lib.hid fun w hA => osigned_f A n c b w hn hs hA (by omega) z z1 z2 s sn hs1 hsn
  have S2 := Lib.hid fun w hA => rsigned_f A n c b w hn hs hA (by omega) z z1 z2 s sn hs1 hsn
  have HRN := Lib.hid hrn
  have HQN := Lib.hid hqn
  have HSN := Lib.hid hsn
  clear hr hq hrn hqn hs1 hsn pl rl hn hm hk hl ht
  go_enter Try.func3, Try.ntmps3
  go_wp2_with fail
  refine (awake_any _).mono ?_
  rintro e w0 ⟨rfl, hb0⟩
  go_wp2_with fail
  refine (P1.out _ (hA.below hb0) (hB.below hb0)).mono ?_
  rintro e w1 ⟨A1, c1, rfl, ho1, _, g⟩
  have hb1 := below_step hb0 g
  have x1 := own_holds ho1
  clear hb0 g ho1
  go_wp2_with fail
  refine (P2.out _ (hA.below hb1) (hB.below hb1)).mono ?_
  rintro e w2 ⟨A2, c2, rfl, ho2, _, g⟩
  have hb2 := below_step hb1 g
  have x2 := x1.below g
  have y2 := own_holds ho2
  clear hb1 g ho2 x1
  go_wp2_with fail
  refine (R1.out _ (hA.below hb2) (hC.below hb2)).mono ?_
  rintro e w3 ⟨A3, c3, rfl, ho3, _, g⟩
  have hb3 := below_step hb2 g
  have x3 := x2.below g
  have y3 := y2.below g
  have u3 := own_holds ho3
  clear hb2 g ho3 x2 y2
  go_wp2_with fail
  refine (R2.out _ (hA.below hb3) (hC.below hb3)).mono ?_
  rintro e w4 ⟨A4, c4, rfl, ho4, _, g⟩
  have hb4 := below_step hb3 g
  have x4 := x3.below g
  have y4 := y3.below g
  have u4 := u3.below g
  have v4 := own_holds ho4
  clear hb3 g ho4 x3 y3 u3
  go_wp2_with fail
  refine (same_n A1 A2 rn rn c1 c2 r r _ HRN.out HRN.out x4 y4 (by omega) true (by simp)).mono ?_
  rintro e w5 ⟨rfl, g⟩
  have hb5 := below_step hb4 g
  have u5 := u4.below g
  have v5 := v4.below g
  clear hb4 g x4 y4 u4 v4
  go_wp2_with fail
  refine (same_n A3 A4 qn qn c3 c4 q q _ HQN.out HQN.out u5 v5 (by omega) true (by simp)).mono ?_
  rintro e w6 ⟨rfl, g⟩
  have hb6 := below_step hb5 g
  clear hb5 g u5 v5
  go_wp2_with fail
  refine (S1.out _ (hA.below hb6)).mono ?_
  rintro e w7 ⟨A7, c7, rfl, ho7, _, g⟩
  have hb7 := below_step hb6 g
  have x7 := own_holds ho7
  clear hb6 g ho7
  go_wp2_with fail
  refine (S2.out _ (hA.below hb7)).mono ?_
  rintro e w8 ⟨A8, c8, rfl, ho8, _, g⟩
  have hb8 := below_step hb7 g
  have x8 := x7.below g
  have y8 := own_holds ho8
  clear hb7 g ho8 x7
  go_wp2_with fail
  refine (same_n A7 A8 sn sn c7 c8 s s _ HSN.out HSN.out x8 y8 (by omega) true (by simp)).mono ?_
  rintro e w9 ⟨rfl, g⟩
  have hb9 := below_step hb8 g
  go_wp2_with fail
  go_ret
  exact ⟨rfl, hb9⟩
theorem puts_any (A B C : Option Addr) (c d f : Nat) (b : List Nat) (l : List Int) (z : Int) (t : List Node3) (w : World) (hs : Slice A b.length c)
    (hA : Holds w A (bytesV b)) (hB : Holds w B (intsV l)) (hl : Wide l) (hC : Holds w C (nodesV t)) (ht : WideT t) (z1 : -9223372036854775808 ≤ z) (z2 : z ≤ 9223372036854775807) :
    Calls Try.prog 3 #[.slice A b.length c, .slice B l.length d, .int .i64 z, .slice C t.length f] w fun e w' => e = .returned (.bool true) ∧ Below w.heap.size w w' := by
  by_cases h : 2000 < b.length ∨ 500 < l.length ∨ 5000 < t.length
  · exact puts_long A B C _ _ _ c d f z w h
  · exact puts_some A B C _ _ _ c d f b l z t w rfl rfl rfl hs hA hB hl hC ht z1 z2 (by omega) (by omega) (by omega)
end Go.Proofs.Ytbpbokdomdmclaa
