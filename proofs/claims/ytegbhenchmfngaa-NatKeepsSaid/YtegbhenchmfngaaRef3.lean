/- The document's less and minus, and the words of digits. -/
import Derived.Test.YtegbhenchmfngaaRef2
namespace Go.Proofs.Ytegbhenchmfngaa
open Go.RowKit

set_option maxHeartbeats 800000 in
theorem less_any (A B : Option Addr) (c d M N : Nat) (w : World) (hM : IsD w A (N8.wlen M) M) (hN : IsD w B (N8.wlen N) N) (hn : N8.wlen M ≤ 1000000) (r : Bool) (hr : r = decide (M < N)) :
    Calls Try.prog 48 #[.slice A (N8.wlen M) c, .slice B (N8.wlen N) d] w fun e w' => e = .returned (.bool r) ∧ Below w.heap.size w w' := by
  have HR := Lib.hid hr
  clear hr
  by_cases hne : N8.wlen M = N8.wlen N
  · have hMl := N8.lt_pw_wlen M
    have hNl := N8.lt_pw_wlen N
    rw [hne] at hM hMl hn ⊢
    generalize N8.wlen N = L at *
    have HNE := Lib.hid hne
    clear hne
    go_enter Try.func48, Try.ntmps48
    go_wp2_with fail
    go_loopw [5] (fun i wr => (∃ q, wr = w.drewN q) ∧ ∃ k : Nat, k ≤ L ∧ i = .int .i64 ((L : Int) - 1 - k) ∧ Hid (M / N8.pw (L - k) = N / N8.pw (L - k))) (fun i _ => (intOf i + 1).toNat)
    case atStart => exact ⟨⟨0, rfl⟩, 0, Nat.zero_le _, by simp, show _ = _ by rw [Nat.sub_zero, N8.div_pw_of_lt hMl, N8.div_pw_of_lt hNl]⟩
    case round =>
      obtain ⟨⟨q, hq⟩, k, hk, rfl, HD0⟩ := hrel
      have HQ : Hid (∃ q, wr = w.drewN q) := ⟨q, hq⟩
      have htM : IsD wr A L M := by rw [hq]; exact hM
      have htN : IsD wr B L N := by rw [hq]; exact hN
      clear hq
      by_cases hlt : k < L
      · obtain ⟨b, o, rfl, hcM⟩ := htM.2 (by omega)
        obtain ⟨b', o', rfl, hcN⟩ := htN.2 (by omega)
        have h1 := hcM (L - 1 - k) (by omega)
        have h2 := hcN (L - 1 - k) (by omega)
        have hdiv := HD0.out
        rw [show L - k = L - 1 - k + 1 from by omega] at hdiv
        have HD := Lib.hid hdiv
        have hge : (0 : Int) ≤ (L : Int) - 1 - k := by omega
        clear hcM hcN hdiv HD0
        by_cases hdg : N8.dig M (L - 1 - k) = N8.dig N (L - 1 - k)
        · have hz1 : ((N8.dig M (L - 1 - k) : Int) != (N8.dig N (L - 1 - k) : Int)) = false := by rw [hdg]; simp
          have HG := Lib.hid hdg
          clear hdg
          go_wp2_with fail
          go_quiet (fail)
          go_wp2_with fail
          go_roundw
          case rel => exact ⟨by obtain ⟨q, hq⟩ := HQ.out; exact ⟨q + nq, by rw [hq, World.drewN_drewN]⟩, k + 1, by omega, congrArg (Value.int .i64) (by omega), show _ = _ by rw [show L - (k + 1) = L - 1 - k from by omega]; exact N8.div_of_dig HD.out HG.out⟩
          case measure => simp [intOf] <;> omega
        · have hz1 : ((N8.dig M (L - 1 - k) : Int) != (N8.dig N (L - 1 - k) : Int)) = true := by simp; omega
          have hcc : r = decide ((N8.dig M (L - 1 - k) : Int) < (N8.dig N (L - 1 - k) : Int)) := by
            rw [HR.out]
            rcases Nat.lt_or_ge (N8.dig M (L - 1 - k)) (N8.dig N (L - 1 - k)) with h | h
            · rw [decide_eq_true (N8.lt_of_dig HD.out h), decide_eq_true (by omega)]
            · have h' : N8.dig N (L - 1 - k) < N8.dig M (L - 1 - k) := by omega
              have := N8.lt_of_dig HD.out.symm h'
              rw [decide_eq_false (by omega), decide_eq_false (by omega)]
          have HC := Lib.hid hcc
          clear hcc hdg
          go_wp2_with fail
          go_quiet (fail)
          go_wp2_with fail
          go_quiet (fail)
          go_wp2_with fail
          go_ret
          refine ⟨ret_bool ?_, ?_⟩
          · rw [HC.out]
            first | rfl | simp
          · obtain ⟨q, hq⟩ := HQ.out
            rw [hq]
            exact below_drewN (below_drewN (below_drewN (Below.refl _ _) _) _) _
      · have hk' : k = L := by omega
        have hge : ¬ (0 : Int) ≤ (L : Int) - 1 - k := by omega
        have heq : M = N := by
          have := HD0.out
          rw [hk', Nat.sub_self, N8.pw_zero, Nat.div_one, Nat.div_one] at this
          exact this
        have hf : r = false := by rw [HR.out, heq]; simp
        have HF := Lib.hid hf
        clear hf heq hk'
        go_wp2_with fail
        go_ret
        exact ⟨ret_bool HF.out.symm, by obtain ⟨q, hq⟩ := HQ.out; rw [hq]; exact below_drewN (Below.refl _ _) _⟩
  · have hz : ((N8.wlen M : Int) != (N8.wlen N : Int)) = true := by simp; omega
    have hcc : r = decide ((N8.wlen M : Int) < (N8.wlen N : Int)) := by
      rw [HR.out]
      rcases Nat.lt_or_ge (N8.wlen M) (N8.wlen N) with h | h
      · rw [decide_eq_true (N8.cmp_wlen h), decide_eq_true (by omega)]
      · have h' : N8.wlen N < N8.wlen M := by omega
        have := N8.cmp_wlen h'
        rw [decide_eq_false (by omega), decide_eq_false (by omega)]
    have HC := Lib.hid hcc
    clear hcc hne
    go_enter Try.func48, Try.ntmps48
    go_wp2_with fail
    go_ret
    refine ⟨ret_bool ?_, Below.refl _ _⟩
    rw [HC.out]
    first | rfl | simp

/-- Where an own row lies. -/
theorem own_farI {w : World} {B e n c : Nat} {A : Option Addr} {xs : List Value} (h : w.ownsRow B e 1 (.slice A n c) n xs) : ∀ b o, A = some ⟨b, o, none⟩ → B ≤ b := by
  rcases h.2 with ⟨e, _⟩ | ⟨g, cap, _, e, hB, _⟩
  · cases e
    exact fun b o h => by cases h
  · cases e
    exact fun b o h => by cases h; exact hB
/-- What a function on digits answers, in new memory. -/
def DigNew (N : Nat) (w : World) (e : Ending) (w' : World) : Prop :=
  ∃ A c, e = .returned (.slice A (N8.wlen N) c) ∧ IsD w' A (N8.wlen N) N ∧ N8.wlen N ≤ c ∧ c ≤ 9223372036854775807 ∧ Below w.heap.size w w' ∧ ∀ b o, A = some ⟨b, o, none⟩ → w.heap.size ≤ b

set_option maxHeartbeats 1000000 in
theorem minus_new (A B : Option Addr) (n c m d M N : Nat) (w : World) (hM : IsD w A n M) (hN : IsD w B m N) (hn : n ≤ 1000000) (hle : N ≤ M) :
    Calls Try.prog 49 #[.slice A n c, .slice B m d] w (DigNew (M - N) w) := by
  obtain ⟨i0, hi, hz0, hz1, hz2⟩ := info_parts info3
  have HLE := Lib.hid hle
  clear hle
  go_enter Try.func49, Try.ntmps49
  go_wp2_with fail
  go_loopw [5, 6, 7] (fun v bw i wr => ∃ k br R : Nat, k ≤ n ∧ i = .int .i64 k ∧ bw = .int .i64 br ∧ br ≤ 1 ∧ R < N8.pw k ∧ Hid (R + N % N8.pw k = M % N8.pw k + br * N8.pw k) ∧
    wr.ownsRow w.heap.size 3 1 v k (ints (N8.dig R) k) ∧ Below w.heap.size w wr) (fun _ _ i _ => n - (intOf i).toNat)
  case atStart => exact ⟨0, 0, 0, Nat.zero_le _, rfl, rfl, by omega, N8.pw_pos 0, show _ = _ by rw [N8.mod_pw_zero, N8.mod_pw_zero]; rfl, World.ownsRow_nil _ _ _ _, Below.refl _ _⟩
  case round =>
    obtain ⟨k, br, R, hk, rfl, rfl, hbr, hR, HE, hown, hb⟩ := hrel
    have hBw := hb.size
    by_cases hlt : k < n
    · have hMw := hM.below hb
      have hNw := hN.below hb
      obtain ⟨b, o, rfl, hcM⟩ := hMw.2 (by omega)
      have h1 := hcM k hlt
      have hdM := N8.dig_lt M k
      have hdN := N8.dig_lt N k
      have cN : k < m → ∃ b o, B = some ⟨b, o, none⟩ ∧ wr.cell? ⟨b, o + k, none⟩ = some (.int .i64 (N8.dig N k)) := fun h => by
        obtain ⟨b, o, e, hc⟩ := hNw.2 (by omega)
        exact ⟨b, o, e, hc k h⟩
      have zN : m ≤ k → N8.dig N k = 0 := fun h => N8.dig_of_lt (Nat.lt_of_lt_of_le hN.1 (N8.pw_mono h))
      have hstep := fun z br' hz hz2 => N8.minus_step (M := M) (N := N) (k := k) (R := R) (br := br) (z := z) (br' := br') hR HE.out rfl rfl hz hz2
      have hints : ∀ z, z < 256 → ints (N8.dig (R + z * N8.pw k)) (k + 1) = ints (N8.dig R) k ++ [.int .i64 (z : Int)] := fun z hz => by
        rw [ints_succ, N8.dig_add_pw, N8.div_pw_of_lt hR, Nat.zero_add, Nat.mod_eq_of_lt (by rw [N8.K_eq]; exact hz)]
        rw [ints_congr fun j hj => N8.dig_add_pw_lt R z hj]
      generalize N8.dig M k = x at *
      generalize N8.dig N k = y at *
      have HST := Lib.hid hstep
      have HIN := Lib.hid hints
      clear hstep hints hcM
      by_cases hneg : x < br + y
      all_goals by_cases h2 : k < m
      · obtain ⟨b', o', rfl, hc2⟩ := cN h2
        obtain ⟨z, hz⟩ : ∃ z : Nat, z = x + 256 - br - y := ⟨_, rfl⟩
        have HS := Lib.hid (HST.out z 1 (by omega) (by omega))
        have e1 : (x : Int) - (br : Int) - (y : Int) + 256 = (z : Int) := by omega
        have e2 : (x : Int) - (br : Int) - (y : Int) < 0 := by omega
        have HI := Lib.hid (HIN.out z (by omega))
        have hzb : z < 256 := by omega
        clear cN zN hz HST HIN
        go_wp2_with (at_builtin; go_must (refine wpList_append_own _ rfl (.tmp 35) (.tmp 37) _ rfl w.heap.size 3 i0 _ 1 8 Try.underlying52 hi hz0 hz1 hz2 rfl (by omega) _ k _ rfl (hown.alloc _) ⟨wr.heap.size, 0, none⟩ 1 1 [.int .i64 (z : Int)] rfl rfl (news_one _ _ _) (by intro u hu; rw [List.mem_singleton.1 hu]; rfl) (by unfold maxLen; omega) (by omega) (by simp; omega) ?_); intro v' w4 hown4 hg4 hnil4)
        have hb4 := (hb.alloc hb.size (.cells #[.int .i64 (z : Int)] 3)).grown hg4 (by simp; omega) (fun x hx => (hown.lt x hx).1)
        clear hg4 hnil4
        go_roundw
        case rel => exact ⟨k + 1, 1, R + z * N8.pw k, by omega, by go_num, rfl, by omega, HS.out.1, HS.out.2, by rw [HI.out]; exact hown4, hb4⟩
        case measure => simp [intOf] <;> omega
      · have hy0 := zN (by omega)
        subst hy0
        have hkm : ¬ (k : Int) < (m : Int) := by omega
        obtain ⟨z, hz⟩ : ∃ z : Nat, z = x + 256 - br - 0 := ⟨_, rfl⟩
        have HS := Lib.hid (HST.out z 1 (by omega) (by omega))
        have e1 : (x : Int) - (br : Int) + 256 = (z : Int) := by omega
        have e2 : (x : Int) - (br : Int) < 0 := by omega
        have HI := Lib.hid (HIN.out z (by omega))
        have hzb : z < 256 := by omega
        clear cN zN hz HST HIN
        go_wp2_with (at_builtin; go_must (refine wpList_append_own _ rfl (.tmp 35) (.tmp 37) _ rfl w.heap.size 3 i0 _ 1 8 Try.underlying52 hi hz0 hz1 hz2 rfl (by omega) _ k _ rfl (hown.alloc _) ⟨wr.heap.size, 0, none⟩ 1 1 [.int .i64 (z : Int)] rfl rfl (news_one _ _ _) (by intro u hu; rw [List.mem_singleton.1 hu]; rfl) (by unfold maxLen; omega) (by omega) (by simp; omega) ?_); intro v' w4 hown4 hg4 hnil4)
        have hb4 := (hb.alloc hb.size (.cells #[.int .i64 (z : Int)] 3)).grown hg4 (by simp; omega) (fun x hx => (hown.lt x hx).1)
        clear hg4 hnil4
        go_roundw
        case rel => exact ⟨k + 1, 1, R + z * N8.pw k, by omega, by go_num, rfl, by omega, HS.out.1, HS.out.2, by rw [HI.out]; exact hown4, hb4⟩
        case measure => simp [intOf] <;> omega
      · obtain ⟨b', o', rfl, hc2⟩ := cN h2
        obtain ⟨z, hz⟩ : ∃ z : Nat, z = x - br - y := ⟨_, rfl⟩
        have HS := Lib.hid (HST.out z 0 (by omega) (by omega))
        have e1 : (x : Int) - (br : Int) - (y : Int) = (z : Int) := by omega
        have HI := Lib.hid (HIN.out z (by omega))
        have hzb : z < 256 := by omega
        clear cN zN hz HST HIN
        go_wp2_with (at_builtin; go_must (refine wpList_append_own _ rfl (.tmp 35) (.tmp 37) _ rfl w.heap.size 3 i0 _ 1 8 Try.underlying52 hi hz0 hz1 hz2 rfl (by omega) _ k _ rfl (hown.alloc _) ⟨wr.heap.size, 0, none⟩ 1 1 [.int .i64 (z : Int)] rfl rfl (news_one _ _ _) (by intro u hu; rw [List.mem_singleton.1 hu]; rfl) (by unfold maxLen; omega) (by omega) (by simp; omega) ?_); intro v' w4 hown4 hg4 hnil4)
        have hb4 := (hb.alloc hb.size (.cells #[.int .i64 (z : Int)] 3)).grown hg4 (by simp; omega) (fun x hx => (hown.lt x hx).1)
        clear hg4 hnil4
        go_roundw
        case rel => exact ⟨k + 1, 0, R + z * N8.pw k, by omega, by go_num, rfl, by omega, HS.out.1, HS.out.2, by rw [HI.out]; exact hown4, hb4⟩
        case measure => simp [intOf] <;> omega
      · have hy0 := zN (by omega)
        subst hy0
        have hkm : ¬ (k : Int) < (m : Int) := by omega
        obtain ⟨z, hz⟩ : ∃ z : Nat, z = x - br - 0 := ⟨_, rfl⟩
        have HS := Lib.hid (HST.out z 0 (by omega) (by omega))
        have e1 : (x : Int) - (br : Int) = (z : Int) := by omega
        have HI := Lib.hid (HIN.out z (by omega))
        have hzb : z < 256 := by omega
        clear cN zN hz HST HIN
        go_wp2_with (at_builtin; go_must (refine wpList_append_own _ rfl (.tmp 35) (.tmp 37) _ rfl w.heap.size 3 i0 _ 1 8 Try.underlying52 hi hz0 hz1 hz2 rfl (by omega) _ k _ rfl (hown.alloc _) ⟨wr.heap.size, 0, none⟩ 1 1 [.int .i64 (z : Int)] rfl rfl (news_one _ _ _) (by intro u hu; rw [List.mem_singleton.1 hu]; rfl) (by unfold maxLen; omega) (by omega) (by simp; omega) ?_); intro v' w4 hown4 hg4 hnil4)
        have hb4 := (hb.alloc hb.size (.cells #[.int .i64 (z : Int)] 3)).grown hg4 (by simp; omega) (fun x hx => (hown.lt x hx).1)
        clear hg4 hnil4
        go_roundw
        case rel => exact ⟨k + 1, 0, R + z * N8.pw k, by omega, by go_num, rfl, by omega, HS.out.1, HS.out.2, by rw [HI.out]; exact hown4, hb4⟩
        case measure => simp [intOf] <;> omega
    · have hk' : k = n := by omega
      subst hk'
      have hRM := N8.minus_last hM.1 HLE.out hR HE.out
      subst hRM
      obtain ⟨A', c', rfl, hc1, hc2⟩ := own_formI hown
      have hD : IsD wr A' k (M - N) := ⟨hR, own_isL hown⟩
      have hfar := own_farI hown
      clear hown
      go_wp2_with (go_at_call 63; refine (cut_any A' k c' (M - N) _ hD hc1 hc2).mono ?_; rintro e w' ⟨rfl, rfl⟩)
      go_ret
      exact ⟨A', c', rfl, hD.trim, Nat.le_trans hD.wl hc1, hc2, hb, hfar⟩
theorem minus_any (A B : Option Addr) (n c m d M N : Nat) (w : World) (hM : IsD w A n M) (hN : IsD w B m N) (hn : n ≤ 1000000) (hle : N ≤ M) :
    Calls Try.prog 49 #[.slice A n c, .slice B m d] w (DigPost (M - N) w) :=
  (minus_new A B n c m d M N w hM hN hn hle).mono fun _ _ ⟨A, c, h1, h2, h3, h4, h5, _⟩ => ⟨A, c, h1, h2, h3, h4, h5⟩
end Go.Proofs.Ytegbhenchmfngaa
