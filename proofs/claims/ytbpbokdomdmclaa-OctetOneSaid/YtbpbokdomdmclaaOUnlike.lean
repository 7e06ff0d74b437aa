/- OctetUnlike: unlike numbers have unlike forms, none of which begins another's. -/
import Derived.Test.YtbpbokdomdmclaaOAns
namespace Go.Proofs.Ytbpbokdomdmclaa
open Go.RowKit

theorem Holds.take_ {w : World} {A : Option Addr} {b : List Nat} (h : Holds w A (bytesV b)) (k : Nat) : Holds w A (bytesV (b.take k)) := fun hn => by
  rw [bytesV_len, List.length_take] at hn
  obtain ⟨g, o, e, hc⟩ := h (by rw [bytesV_len]; omega)
  refine ⟨g, o, e, fun j u hu => hc j u ?_⟩
  unfold bytesV at hu ⊢
  rw [List.map_take, List.getElem?_take] at hu
  split at hu
  · exact hu
  · cases hu
theorem same_q (A B : Option Addr) (n m c d : Nat) (l r : List Nat) (w : World) (hn : l.length = n) (hm : r.length = m) (hA : Holds w A (bytesV l)) (hB : Holds w B (bytesV r)) (hl : n ≤ 4611686018427387904) (v : Bool) (hv : v = decide (l = r)) :
    Calls Try.prog 15 #[.slice A n c, .slice B m d] w fun e w' => e = .returned (.bool v) ∧ ∃ q, w' = w.drewN q := by
  subst hn hm
  exact rsame_any A B c d l r w hA hB hl v hv
theorem fold_inj {n m : Int} (h : fold n = fold m) : n = m := by rw [← unfold_fold n, h, unfold_fold]
theorem leb_mono : ∀ (m n : Nat), n ≤ m → (leb n).length ≤ (leb m).length := by
  intro m
  induction m using Nat.strongRecOn with
  | ind m ih =>
    intro n hn
    by_cases h : n < 128
    · rw [leb_small h]
      exact leb_pos m
    · rw [leb_big h, leb_big (n := m) (by omega), List.length_cons, List.length_cons]
      have := ih (m / 128) (by omega) (n / 128) (by omega)
      omega
theorem leb_apart {n m k : Nat} (hk : k = min (leb n).length (leb m).length) (h : (leb n).take k = (leb m).take k) : n = m := by
  rcases Nat.le_total (leb n).length (leb m).length with hle | hle
  · rw [show k = (leb n).length by omega, List.take_length] at h
    exact found_one (b := leb m) (most := n + m) ⟨by omega, by rw [h]; exact List.take_prefix _ _⟩ ⟨by omega, List.prefix_refl _⟩
  · rw [show k = (leb m).length by omega, List.take_length] at h
    exact (found_one (b := leb n) (most := n + m) ⟨by omega, by rw [← h]; exact List.take_prefix _ _⟩ ⟨by omega, List.prefix_refl _⟩).symm
theorem put_one (n k : Nat) (w : World) (B : Option Addr) (hn : n ≤ 9223372036854775807) (hB : Holds w B (intsV [(n : Int)])) (hk : (leb n).length = k) :
    Calls Try.prog 11 #[.slice none 0 0, .slice B 1 1] w fun e w' => ∃ A' c', e = .returned (.tuple #[.slice A' k c', .int .i64 0]) ∧ w'.ownsRow w.heap.size 5 1 (.slice A' k c') k (bytesV (leb n)) ∧ Slice A' k c' ∧ Below w.heap.size w w' := by
  have hr : putF [] [(n : Int)] = (leb n, 0) := by
    unfold putF
    rw [if_pos (by intro x hx; simp at hx; omega)]
    simp [lebs]
  exact oput_f none B 0 1 0 1 [] w rfl slice_nil (Holds.nil _ _) (by omega) [(n : Int)] rfl hB (by intro x hx; simp at hx; omega) (by omega) (leb n) 0 k hr hk

set_option maxHeartbeats 4000000 in
theorem unlike_any (n m : Int) (w : World) (n1 : -9223372036854775808 ≤ n) (n2 : n ≤ 9223372036854775807) (m1 : -9223372036854775808 ≤ m) (m2 : m ≤ 9223372036854775807) :
    Calls Try.prog 8 #[.int .i64 n, .int .i64 m] w fun e w' => e = .returned (.bool true) ∧ Below w.heap.size w w' := by
  obtain ⟨an, han⟩ : ∃ k, (leb (fold n)).length = k := ⟨_, rfl⟩
  obtain ⟨bn, hbn⟩ : ∃ k, (leb (fold m)).length = k := ⟨_, rfl⟩
  have a1 : 0 < an := by rw [← han]; exact leb_pos _
  have b1 : 0 < bn := by rw [← hbn]; exact leb_pos _
  have a2 : an ≤ 10 := by rw [← han]; exact leb_ten (fold_bound n1 n2)
  have b2 : bn ≤ 10 := by rw [← hbn]; exact leb_ten (fold_bound m1 m2)
  have HS1 := Lib.hid fun w => osigned_f none 0 0 [] w rfl slice_nil (Holds.nil _ _) (by omega) n n1 n2 (leb (fold n)) an (List.nil_append _) han
  have HS2 := Lib.hid fun w => osigned_f none 0 0 [] w rfl slice_nil (Holds.nil _ _) (by omega) m m1 m2 (leb (fold m)) bn (List.nil_append _) hbn
  obtain ⟨k, hk⟩ : ∃ k, k = min an bn := ⟨_, rfl⟩
  have HSA := Lib.hid fun (w : World) (A B : Option Addr) (c d : Nat) (v : Bool) (hv : v = decide (n = m)) (hA : Holds w A (bytesV (leb (fold n)))) (hB : Holds w B (bytesV (leb (fold m)))) =>
    same_q A B k k c d ((leb (fold n)).take k) ((leb (fold m)).take k) w (by rw [List.length_take]; omega) (by rw [List.length_take]; omega) (hA.take_ k) (hB.take_ k) (by omega) v (by
      rw [hv]
      refine decide_eq_decide.2 ⟨fun h => by rw [h], fun h => fold_inj (leb_apart (by rw [han, hbn]; exact hk) h)⟩)
  have hk1 : 1 ≤ k := by omega
  have hk2 : k ≤ an := by omega
  have hk3 : k ≤ bn := by omega
  generalize leb (fold n) = a at *
  generalize leb (fold m) = b at *
  have hmin : (an ≤ bn ∧ an = k) ∨ (bn < an ∧ bn = k) := by omega
  clear han hbn hk
  rcases hmin with ⟨hle, rfl⟩ | ⟨hle, rfl⟩
  · go_enter Try.func8, Try.ntmps8
    go_wp2_with fail
    refine (awake_any _).mono ?_
    rintro e w0 ⟨rfl, hb0⟩
    go_wp2_with fail
    refine (HS1.out _).mono ?_
    rintro e w1 ⟨A1, c1, rfl, ho1, hs1, g⟩
    have hb1 := below_step hb0 g
    have x1 := own_holds ho1
    clear hb0 g ho1
    go_wp2_with fail
    refine (HS2.out _).mono ?_
    rintro e w2 ⟨A2, c2, rfl, ho2, hs2, g⟩
    have hb2 := below_step hb1 g
    have x2 := x1.below g
    have y2 := own_holds ho2
    have ac1 : an ≤ c1 := hs1.1
    have bc2 : bn ≤ c2 := hs2.1
    have ac2 : c1 ≤ 9223372036854775807 := hs1.2.1
    have bc3 : c2 ≤ 9223372036854775807 := hs2.2.1
    have HX := Lib.hid x2
    have HY := Lib.hid y2
    clear hb1 g ho2 x1 hs1 hs2 x2 y2
    by_cases hnm : n = m
    · have HV := Lib.hid (show true = decide (n = m) by simp [hnm])
      have tnm : ((n : Int) == m) = true := by simp [hnm]
      clear hnm
      go_wp2_with fail
      have tk1 : decide ((an : Int) < 1) = false := by simp; omega
      go_quiet ((go_at_call 15; refine Calls.quiet_of (HSA.out _ _ _ _ _ _ HV.out (HX.out.drewN _) (HY.out.drewN _))))
      clear tnm tk1
      have hb3 := below_drewN hb2 nq
      clear hb2
      generalize w2.drewN nq = w3 at *
      by_cases hn0 : n < 0
      · go_wp2_with fail
        go_ret
        exact ⟨rfl, hb3⟩
      · by_cases hm0 : m < 0
        · go_wp2_with fail
          go_ret
          exact ⟨rfl, hb3⟩
        · obtain ⟨x, rfl⟩ : ∃ x : Nat, n = x := ⟨n.toNat, by omega⟩
          obtain ⟨y, rfl⟩ : ∃ y : Nat, m = y := ⟨m.toNat, by omega⟩
          obtain ⟨px, hpx⟩ : ∃ k, (leb x).length = k := ⟨_, rfl⟩
          obtain ⟨py, hpy⟩ : ∃ k, (leb y).length = k := ⟨_, rfl⟩
          have HP1 := Lib.hid fun w B hB => put_one x px w B (by omega) hB hpx
          have HP2 := Lib.hid fun w B hB => put_one y py w B (by omega) hB hpy
          have hlen : x ≤ y → px ≤ py := fun h => by rw [← hpx, ← hpy]; exact leb_mono y x h
          have HLEN := Lib.hid hlen
          have g1 := holds_at w3 #[.int .i64 x] 3 (intsV [(x : Int)]) rfl
          have b1 := below_alloc hb3 (.cells #[.int .i64 x] 3)
          clear hpx hpy hlen hb3
          go_wp2_with fail
          ((with_reducible refine (HP1.out _ _ g1).mono ?_); rintro e w4 ⟨A4, c4, rfl, _, _, gb⟩)
          have b2 := below_step b1 gb
          have g2 := holds_at w4 #[.int .i64 y] 3 (intsV [(y : Int)]) rfl
          have b3 := below_alloc b2 (.cells #[.int .i64 y] 3)
          clear b1 gb b2 g1
          go_wp2_with fail
          ((with_reducible refine (HP2.out _ _ g2).mono ?_); rintro e w5 ⟨A5, c5, rfl, _, _, gb⟩)
          have b4 := below_step b3 gb
          clear b3 gb g2
          by_cases hxy : y < x
          · have txy : decide ((y : Int) < (x : Int)) = true := by simp; omega
            go_wp2_with fail
            go_ret
            exact ⟨rfl, b4⟩
          · have hle2 := HLEN.out (by omega)
            have txy : decide ((y : Int) < (x : Int)) = false := by simp; omega
            have tpp : decide ((px : Int) ≤ (py : Int)) = true := by simp; omega
            go_wp2_with fail
            go_ret
            exact ⟨rfl, b4⟩
    · have HV := Lib.hid (show false = decide (n = m) by simp [hnm])
      have tnm : ((n : Int) == m) = false := by simp [hnm]
      clear hnm
      go_wp2_with fail
      have tk1 : decide ((an : Int) < 1) = false := by simp; omega
      go_quiet ((go_at_call 15; refine Calls.quiet_of (HSA.out _ _ _ _ _ _ HV.out (HX.out.drewN _) (HY.out.drewN _))))
      clear tnm tk1
      have hb3 := below_drewN hb2 nq
      clear hb2
      generalize w2.drewN nq = w3 at *
      by_cases hn0 : n < 0
      · go_wp2_with fail
        go_ret
        exact ⟨rfl, hb3⟩
      · by_cases hm0 : m < 0
        · go_wp2_with fail
          go_ret
          exact ⟨rfl, hb3⟩
        · obtain ⟨x, rfl⟩ : ∃ x : Nat, n = x := ⟨n.toNat, by omega⟩
          obtain ⟨y, rfl⟩ : ∃ y : Nat, m = y := ⟨m.toNat, by omega⟩
          obtain ⟨px, hpx⟩ : ∃ k, (leb x).length = k := ⟨_, rfl⟩
          obtain ⟨py, hpy⟩ : ∃ k, (leb y).length = k := ⟨_, rfl⟩
          have HP1 := Lib.hid fun w B hB => put_one x px w B (by omega) hB hpx
          have HP2 := Lib.hid fun w B hB => put_one y py w B (by omega) hB hpy
          have hlen : x ≤ y → px ≤ py := fun h => by rw [← hpx, ← hpy]; exact leb_mono y x h
          have HLEN := Lib.hid hlen
          have g1 := holds_at w3 #[.int .i64 x] 3 (intsV [(x : Int)]) rfl
          have b1 := below_alloc hb3 (.cells #[.int .i64 x] 3)
          clear hpx hpy hlen hb3
          go_wp2_with fail
          ((with_reducible refine (HP1.out _ _ g1).mono ?_); rintro e w4 ⟨A4, c4, rfl, _, _, gb⟩)
          have b2 := below_step b1 gb
          have g2 := holds_at w4 #[.int .i64 y] 3 (intsV [(y : Int)]) rfl
          have b3 := below_alloc b2 (.cells #[.int .i64 y] 3)
          clear b1 gb b2 g1
          go_wp2_with fail
          ((with_reducible refine (HP2.out _ _ g2).mono ?_); rintro e w5 ⟨A5, c5, rfl, _, _, gb⟩)
          have b4 := below_step b3 gb
          clear b3 gb g2
          by_cases hxy : y < x
          · have txy : decide ((y : Int) < (x : Int)) = true := by simp; omega
            go_wp2_with fail
            go_ret
            exact ⟨rfl, b4⟩
          · have hle2 := HLEN.out (by omega)
            have txy : decide ((y : Int) < (x : Int)) = false := by simp; omega
            have tpp : decide ((px : Int) ≤ (py : Int)) = true := by simp; omega
            go_wp2_with fail
            go_ret
            exact ⟨rfl, b4⟩
  · go_enter Try.func8, Try.ntmps8
    go_wp2_with fail
    refine (awake_any _).mono ?_
    rintro e w0 ⟨rfl, hb0⟩
    go_wp2_with fail
    refine (HS1.out _).mono ?_
    rintro e w1 ⟨A1, c1, rfl, ho1, hs1, g⟩
    have hb1 := below_step hb0 g
    have x1 := own_holds ho1
    clear hb0 g ho1
    go_wp2_with fail
    refine (HS2.out _).mono ?_
    rintro e w2 ⟨A2, c2, rfl, ho2, hs2, g⟩
    have hb2 := below_step hb1 g
    have x2 := x1.below g
    have y2 := own_holds ho2
    have ac1 : an ≤ c1 := hs1.1
    have bc2 : bn ≤ c2 := hs2.1
    have ac2 : c1 ≤ 9223372036854775807 := hs1.2.1
    have bc3 : c2 ≤ 9223372036854775807 := hs2.2.1
    have HX := Lib.hid x2
    have HY := Lib.hid y2
    clear hb1 g ho2 x1 hs1 hs2 x2 y2
    by_cases hnm : n = m
    · have HV := Lib.hid (show true = decide (n = m) by simp [hnm])
      have tnm : ((n : Int) == m) = true := by simp [hnm]
      clear hnm
      go_wp2_with fail
      have tk1 : decide ((bn : Int) < 1) = false := by simp; omega
      go_quiet ((go_at_call 15; refine Calls.quiet_of (HSA.out _ _ _ _ _ _ HV.out (HX.out.drewN _) (HY.out.drewN _))))
      clear tnm tk1
      have hb3 := below_drewN hb2 nq
      clear hb2
      generalize w2.drewN nq = w3 at *
      by_cases hn0 : n < 0
      · go_wp2_with fail
        go_ret
        exact ⟨rfl, hb3⟩
      · by_cases hm0 : m < 0
        · go_wp2_with fail
          go_ret
          exact ⟨rfl, hb3⟩
        · obtain ⟨x, rfl⟩ : ∃ x : Nat, n = x := ⟨n.toNat, by omega⟩
          obtain ⟨y, rfl⟩ : ∃ y : Nat, m = y := ⟨m.toNat, by omega⟩
          obtain ⟨px, hpx⟩ : ∃ k, (leb x).length = k := ⟨_, rfl⟩
          obtain ⟨py, hpy⟩ : ∃ k, (leb y).length = k := ⟨_, rfl⟩
          have HP1 := Lib.hid fun w B hB => put_one x px w B (by omega) hB hpx
          have HP2 := Lib.hid fun w B hB => put_one y py w B (by omega) hB hpy
          have hlen : x ≤ y → px ≤ py := fun h => by rw [← hpx, ← hpy]; exact leb_mono y x h
          have HLEN := Lib.hid hlen
          have g1 := holds_at w3 #[.int .i64 x] 3 (intsV [(x : Int)]) rfl
          have b1 := below_alloc hb3 (.cells #[.int .i64 x] 3)
          clear hpx hpy hlen hb3
          go_wp2_with fail
          ((with_reducible refine (HP1.out _ _ g1).mono ?_); rintro e w4 ⟨A4, c4, rfl, _, _, gb⟩)
          have b2 := below_step b1 gb
          have g2 := holds_at w4 #[.int .i64 y] 3 (intsV [(y : Int)]) rfl
          have b3 := below_alloc b2 (.cells #[.int .i64 y] 3)
          clear b1 gb b2 g1
          go_wp2_with fail
          ((with_reducible refine (HP2.out _ _ g2).mono ?_); rintro e w5 ⟨A5, c5, rfl, _, _, gb⟩)
          have b4 := below_step b3 gb
          clear b3 gb g2
          by_cases hxy : y < x
          · have txy : decide ((y : Int) < (x : Int)) = true := by simp; omega
            go_wp2_with fail
            go_ret
            exact ⟨rfl, b4⟩
          · have hle2 := HLEN.out (by omega)
            have txy : decide ((y : Int) < (x : Int)) = false := by simp; omega
            have tpp : decide ((px : Int) ≤ (py : Int)) = true := by simp; omega
            go_wp2_with fail
            go_ret
            exact ⟨rfl, b4⟩
    · have HV := Lib.hid (show false = decide (n = m) by simp [hnm])
      have tnm : ((n : Int) == m) = false := by simp [hnm]
      clear hnm
      go_wp2_with fail
      have tk1 : decide ((bn : Int) < 1) = false := by simp; omega
      go_quiet ((go_at_call 15; refine Calls.quiet_of (HSA.out _ _ _ _ _ _ HV.out (HX.out.drewN _) (HY.out.drewN _))))
      clear tnm tk1
      have hb3 := below_drewN hb2 nq
      clear hb2
      generalize w2.drewN nq = w3 at *
      by_cases hn0 : n < 0
      · go_wp2_with fail
        go_ret
        exact ⟨rfl, hb3⟩
      · by_cases hm0 : m < 0
        · go_wp2_with fail
          go_ret
          exact ⟨rfl, hb3⟩
        · obtain ⟨x, rfl⟩ : ∃ x : Nat, n = x := ⟨n.toNat, by omega⟩
          obtain ⟨y, rfl⟩ : ∃ y : Nat, m = y := ⟨m.toNat, by omega⟩
          obtain ⟨px, hpx⟩ : ∃ k, (leb x).length = k := ⟨_, rfl⟩
          obtain ⟨py, hpy⟩ : ∃ k, (leb y).length = k := ⟨_, rfl⟩
          have HP1 := Lib.hid fun w B hB => put_one x px w B (by omega) hB hpx
          have HP2 := Lib.hid fun w B hB => put_one y py w B (by omega) hB hpy
          have hlen : x ≤ y → px ≤ py := fun h => by rw [← hpx, ← hpy]; exact leb_mono y x h
          have HLEN := Lib.hid hlen
          have g1 := holds_at w3 #[.int .i64 x] 3 (intsV [(x : Int)]) rfl
          have b1 := below_alloc hb3 (.cells #[.int .i64 x] 3)
          clear hpx hpy hlen hb3
          go_wp2_with fail
          ((with_reducible refine (HP1.out _ _ g1).mono ?_); rintro e w4 ⟨A4, c4, rfl, _, _, gb⟩)
          have b2 := below_step b1 gb
          have g2 := holds_at w4 #[.int .i64 y] 3 (intsV [(y : Int)]) rfl
          have b3 := below_alloc b2 (.cells #[.int .i64 y] 3)
          clear b1 gb b2 g1
          go_wp2_with fail
          ((with_reducible refine (HP2.out _ _ g2).mono ?_); rintro e w5 ⟨A5, c5, rfl, _, _, gb⟩)
          have b4 := below_step b3 gb
          clear b3 gb g2
          by_cases hxy : y < x
          · have txy : decide ((y : Int) < (x : Int)) = true := by simp; omega
            go_wp2_with fail
            go_ret
            exact ⟨rfl, b4⟩
          · have hle2 := HLEN.out (by omega)
            have txy : decide ((y : Int) < (x : Int)) = false := by simp; omega
            have tpp : decide ((px : Int) ≤ (py : Int)) = true := by simp; omega
            go_wp2_with fail
            go_ret
            exact ⟨rfl, b4⟩
end Go.Proofs.Ytbpbokdomdmclaa
