/- The document's Same, begins and SameRow. -/
import Derived.Test.YtbpbokdomdmclaaONode
namespace Go.Proofs.Ytbpbokdomdmclaa
open Go.RowKit

set_option maxHeartbeats 800000 in
theorem rsame_any (A B : Option Addr) (c d : Nat) (l r : List Nat) (w : World) (hA : Holds w A (bytesV l)) (hB : Holds w B (bytesV r)) (hl : l.length ≤ 4611686018427387904) (v : Bool) (hv : v = decide (l = r)) :
    Calls Try.prog 15 #[.slice A l.length c, .slice B r.length d] w fun e w' => e = .returned (.bool v) ∧ ∃ q, w' = w.drewN q := by
  have HV := Lib.hid hv
  clear hv
  by_cases hn : l.length = r.length
  · have HN := Lib.hid hn
    obtain ⟨n, hnl⟩ : ∃ n, n = l.length := ⟨_, rfl⟩
    rw [← hn, ← hnl]
    rw [← hnl] at hl
    have HNL := Lib.hid hnl
    clear hn hnl
    go_enter Try.func15, Try.ntmps15
    go_wp2_with fail
    go_loopw [5] (fun i wr => (∃ q, wr = w.drewN q) ∧ ∃ k : Nat, k ≤ n ∧ i = .int .i64 k ∧ Hid (l.take k = r.take k)) (fun i _ => n - (intOf i).toNat)
    case atStart => exact ⟨⟨0, rfl⟩, 0, Nat.zero_le _, rfl, show _ = _ by simp⟩
    case round =>
      obtain ⟨⟨q, hq⟩, k, hk, rfl, HA⟩ := hrel
      have HQ : Hid (∃ q, wr = w.drewN q) := ⟨q, hq⟩
      have hA' : Holds wr A (bytesV l) := by rw [hq]; exact hA
      have hB' : Holds wr B (bytesV r) := by rw [hq]; exact hB
      clear hq
      by_cases hlt : k < n
      · have kl : k < l.length := by have := HNL.out; omega
        have kr : k < r.length := by have := HN.out; omega
        obtain ⟨b, o, rfl, hcM⟩ := hA' (by rw [bytesV_len]; omega)
        obtain ⟨b', o', rfl, hcN⟩ := hB' (by rw [bytesV_len]; omega)
        have h1 := hcM k _ (bytesV_get kl)
        have h2 := hcN k _ (bytesV_get kr)
        have ht1 := List.take_succ_eq_append_getElem kl
        have ht2 := List.take_succ_eq_append_getElem kr
        have hne : l[k] ≠ r[k] → v = false := fun h => by
          rw [HV.out, decide_eq_false_iff_not]
          intro e
          subst e
          exact h rfl
        have HNE := Lib.hid hne
        have HT1 := Lib.hid ht1
        have HT2 := Lib.hid ht2
        clear hcM hcN hne ht1 ht2
        generalize l[k] = x at *
        generalize r[k] = y at *
        by_cases hdg : x = y
        · subst hdg
          have hz1 : ((x : Int) != (x : Int)) = false := by simp
          go_wp2_with fail
          go_quiet (fail)
          go_wp2_with fail
          go_roundw
          case rel => exact ⟨by obtain ⟨q, hq⟩ := HQ.out; exact ⟨q + nq, by rw [hq, World.drewN_drewN]⟩, k + 1, by omega, by go_num, show _ = _ by rw [HT1.out, HT2.out, HA.out]⟩
          case measure => simp [intOf] <;> omega
        · have hz1 : ((x : Int) != (y : Int)) = true := by simp; omega
          have HF := Lib.hid (HNE.out hdg)
          go_wp2_with fail
          go_quiet (fail)
          go_wp2_with fail
          go_ret
          exact ⟨ret_bool HF.out.symm, by obtain ⟨q, hq⟩ := HQ.out; exact ⟨q + nq, by rw [hq, World.drewN_drewN]⟩⟩
      · have hk' : k = n := by omega
        subst hk'
        have he : v = true := by
          have h1 := HA.out
          rw [List.take_of_length_le (by have := HNL.out; omega), List.take_of_length_le (by have := HNL.out; have := HN.out; omega)] at h1
          rw [HV.out, h1]; simp
        have HD := Lib.hid he
        clear he
        go_wp2_with fail
        go_ret
        exact ⟨ret_bool HD.out.symm, HQ.out⟩
  · have hz : ((l.length : Int) != (r.length : Int)) = true := by simp; omega
    have he : v = false := by
      rw [HV.out, decide_eq_false_iff_not]
      intro e
      exact hn (by rw [e])
    have HF := Lib.hid he
    clear hn he
    go_enter Try.func15, Try.ntmps15
    go_wp2_with fail
    go_ret
    exact ⟨ret_bool HF.out.symm, 0, rfl⟩

set_option maxHeartbeats 800000 in
/-- Does r begin with l? -/
theorem rbegins_any (A B : Option Addr) (c d : Nat) (l r : List Nat) (w : World) (hA : Holds w A (bytesV l)) (hB : Holds w B (bytesV r)) (hl : l.length ≤ 4611686018427387904) (v : Bool) (hv : v = decide (l = r.take l.length)) :
    Calls Try.prog 38 #[.slice A l.length c, .slice B r.length d] w fun e w' => e = .returned (.bool v) ∧ ∃ q, w' = w.drewN q := by
  have HV := Lib.hid hv
  clear hv
  by_cases hn : l.length ≤ r.length
  · have HN := Lib.hid hn
    have hz : ¬ (r.length : Int) < (l.length : Int) := by omega
    obtain ⟨n, hnl⟩ : ∃ n, n = l.length := ⟨_, rfl⟩
    obtain ⟨m, hmr⟩ : ∃ m, m = r.length := ⟨_, rfl⟩
    rw [← hmr, ← hnl] at hz ⊢
    rw [← hnl] at hl
    have HNL := Lib.hid hnl
    have HMR := Lib.hid hmr
    have hnm : n ≤ m := by omega
    clear hn hnl hmr
    go_enter Try.func38, Try.ntmps38
    go_wp2_with fail
    go_loopw [5] (fun i wr => (∃ q, wr = w.drewN q) ∧ ∃ k : Nat, k ≤ n ∧ i = .int .i64 k ∧ Hid (l.take k = r.take k)) (fun i _ => n - (intOf i).toNat)
    case atStart => exact ⟨⟨0, rfl⟩, 0, Nat.zero_le _, rfl, show _ = _ by simp⟩
    case round =>
      obtain ⟨⟨q, hq⟩, k, hk, rfl, HA⟩ := hrel
      have HQ : Hid (∃ q, wr = w.drewN q) := ⟨q, hq⟩
      have hA' : Holds wr A (bytesV l) := by rw [hq]; exact hA
      have hB' : Holds wr B (bytesV r) := by rw [hq]; exact hB
      clear hq
      by_cases hlt : k < n
      · have kl : k < l.length := by have := HNL.out; omega
        have kr : k < r.length := by have := HN.out; omega
        have km : k < m := by omega
        obtain ⟨b, o, rfl, hcM⟩ := hA' (by rw [bytesV_len]; omega)
        obtain ⟨b', o', rfl, hcN⟩ := hB' (by rw [bytesV_len]; omega)
        have h1 := hcM k _ (bytesV_get kl)
        have h2 := hcN k _ (bytesV_get kr)
        have ht1 := List.take_succ_eq_append_getElem kl
        have ht2 := List.take_succ_eq_append_getElem kr
        have hne : l[k] ≠ r[k] → v = false := fun h => by
          rw [HV.out, decide_eq_false_iff_not]
          intro e
          refine h ?_
          have h3 : (r.take l.length)[k]? = some r[k] := by rw [List.getElem?_take, if_pos kl, List.getElem?_eq_getElem kr]
          rw [← e, List.getElem?_eq_getElem kl] at h3
          exact Option.some.inj h3
        have HNE := Lib.hid hne
        have HT1 := Lib.hid ht1
        have HT2 := Lib.hid ht2
        clear hcM hcN hne ht1 ht2
        generalize l[k] = x at *
        generalize r[k] = y at *
        by_cases hdg : x = y
        · subst hdg
          have hz1 : ((x : Int) != (x : Int)) = false := by simp
          go_wp2_with fail
          go_quiet (fail)
          go_wp2_with fail
          go_roundw
          case rel => exact ⟨by obtain ⟨q, hq⟩ := HQ.out; exact ⟨q + nq, by rw [hq, World.drewN_drewN]⟩, k + 1, by omega, by go_num, show _ = _ by rw [HT1.out, HT2.out, HA.out]⟩
          case measure => simp [intOf] <;> omega
        · have hz1 : ((x : Int) != (y : Int)) = true := by simp; omega
          have HF := Lib.hid (HNE.out hdg)
          go_wp2_with fail
          go_quiet (fail)
          go_wp2_with fail
          go_ret
          exact ⟨ret_bool HF.out.symm, by obtain ⟨q, hq⟩ := HQ.out; exact ⟨q + nq, by rw [hq, World.drewN_drewN]⟩⟩
      · have hk' : k = n := by omega
        subst hk'
        have he : v = true := by
          have h1 := HA.out
          rw [List.take_of_length_le (by have := HNL.out; omega)] at h1
          rw [HV.out, ← HNL.out, ← h1]; simp
        have HD := Lib.hid he
        clear he
        go_wp2_with fail
        go_ret
        exact ⟨ret_bool HD.out.symm, HQ.out⟩
  · have hz : (r.length : Int) < (l.length : Int) := by omega
    have he : v = false := by
      rw [HV.out, decide_eq_false_iff_not]
      intro e
      have := congrArg List.length e
      rw [List.length_take] at this
      omega
    have HF := Lib.hid he
    clear hn he
    go_enter Try.func38, Try.ntmps38
    go_wp2_with fail
    go_ret
    exact ⟨ret_bool HF.out.symm, 0, rfl⟩
end Go.Proofs.Ytbpbokdomdmclaa
