/- The document's SameRow. -/
import Derived.Test.YtbpbokdomdmclaaOSame
namespace Go.Proofs.Ytbpbokdomdmclaa
open Go.RowKit

set_option maxHeartbeats 1000000 in
theorem rsameRow_any (A B : Option Addr) (c d : Nat) (l r : List Node3) (w : World) (hA : Holds w A (nodesV l)) (hB : Holds w B (nodesV r)) (hl : l.length ≤ 1000000000) (v : Bool) (hv : v = decide (l = r)) :
    Calls Try.prog 21 #[.slice A l.length c, .slice B r.length d] w fun e w' => e = .returned (.bool v) ∧ ∃ q, w' = w.drewN q := by
  have HV := Lib.hid hv
  clear hv
  by_cases hn : l.length = r.length
  · have HN := Lib.hid hn
    obtain ⟨n, hnl⟩ : ∃ n, n = l.length := ⟨_, rfl⟩
    rw [← hn, ← hnl]
    rw [← hnl] at hl
    have HNL := Lib.hid hnl
    clear hn hnl
    go_enter Try.func21, Try.ntmps21
    go_wp2_with fail
    go_loopw [5] (fun i wr => (∃ q, wr = w.drewN q) ∧ ∃ k : Nat, k ≤ n ∧ i = .int .i64 k ∧ Hid (l.take k = r.take k)) (fun i _ => n - (intOf i).toNat)
    case atStart => exact ⟨⟨0, rfl⟩, 0, Nat.zero_le _, rfl, show _ = _ by simp⟩
    case round =>
      obtain ⟨⟨q, hq⟩, k, hk, rfl, HA⟩ := hrel
      have HQ : Hid (∃ q, wr = w.drewN q) := ⟨q, hq⟩
      have hA' : Holds wr A (nodesV l) := by rw [hq]; exact hA
      have hB' : Holds wr B (nodesV r) := by rw [hq]; exact hB
      clear hq
      by_cases hlt : k < n
      · have kl : k < l.length := by have := HNL.out; omega
        have kr : k < r.length := by have := HN.out; omega
        obtain ⟨b, o, rfl, hcM⟩ := hA' (by rw [nodesV_len]; omega)
        obtain ⟨b', o', rfl, hcN⟩ := hB' (by rw [nodesV_len]; omega)
        have s0 := hcM (k * 3) _ (nodesV_get0 kl)
        have s1 := hcM (k * 3 + 1) _ (nodesV_get1 kl)
        have s2 := hcM (k * 3 + 2) _ (nodesV_get2 kl)
        have t0 := hcN (k * 3) _ (nodesV_get0 kr)
        have t1 := hcN (k * 3 + 1) _ (nodesV_get1 kr)
        have t2 := hcN (k * 3 + 2) _ (nodesV_get2 kr)
        rw [← Nat.add_assoc] at s1 s2 t1 t2
        have ht1 := List.take_succ_eq_append_getElem kl
        have ht2 := List.take_succ_eq_append_getElem kr
        have hne : l[k] ≠ r[k] → v = false := fun h => by
          rw [HV.out, decide_eq_false_iff_not]
          intro e
          subst e
          exact h rfl
        have HNE := Lib.hid hne
        have HT1 := Lib.hid ht1
        have HT2 := Lib.hid ht2
        clear hcM hcN hne ht1 ht2
        generalize l[k] = x at *
        generalize r[k] = y at *
        obtain ⟨p, q, u⟩ := x
        obtain ⟨p', q', u'⟩ := y
        simp only at s0 s1 s2 t0 t1 t2
        by_cases e1 : p = p'
        · subst e1
          by_cases e2 : q = q'
          · subst e2
            by_cases e3 : u = u'
            · subst e3
              go_wp2_with fail
              go_region
              go_wp2_with fail
              go_roundw
              case rel => exact ⟨by obtain ⟨q, hq⟩ := HQ.out; exact ⟨q + 1, by rw [hq]; rfl⟩, k + 1, by omega, by go_num, show _ = _ by rw [HT1.out, HT2.out, HA.out]⟩
              case measure => simp [intOf] <;> omega
            · have HF := Lib.hid (HNE.out (by simp [e3]))
              go_wp2_with fail
              go_region
              go_wp2_with fail
              go_ret
              exact ⟨ret_bool HF.out.symm, by obtain ⟨q, hq⟩ := HQ.out; exact ⟨q + 1, by rw [hq]; rfl⟩⟩
          · have HF := Lib.hid (HNE.out (by simp [e2]))
            go_wp2_with fail
            go_region
            go_wp2_with fail
            go_ret
            exact ⟨ret_bool HF.out.symm, by obtain ⟨q, hq⟩ := HQ.out; exact ⟨q + 1, by rw [hq]; rfl⟩⟩
        · have HF := Lib.hid (HNE.out (by simp [e1]))
          go_wp2_with fail
          go_region
          go_wp2_with fail
          go_ret
          exact ⟨ret_bool HF.out.symm, by obtain ⟨q, hq⟩ := HQ.out; exact ⟨q + 1, by rw [hq]; rfl⟩⟩
      · have hk' : k = n := by omega
        subst hk'
        have he : v = true := by
          have h1 := HA.out
          rw [List.take_of_length_le (by have := HNL.out; omega), List.take_of_length_le (by have := HNL.out; have := HN.out; omega)] at h1
          rw [HV.out, h1]; simp
        have HD := Lib.hid he
        clear he
        go_wp2_with fail
        go_ret
        exact ⟨ret_bool HD.out.symm, HQ.out⟩
  · have hz : ((l.length : Int) != (r.length : Int)) = true := by simp; omega
    have he : v = false := by
      rw [HV.out, decide_eq_false_iff_not]
      intro e
      exact hn (by rw [e])
    have HF := Lib.hid he
    clear hn he
    go_enter Try.func21, Try.ntmps21
    go_wp2_with fail
    go_ret
    exact ⟨ret_bool HF.out.symm, 0, rfl⟩
end Go.Proofs.Ytbpbokdomdmclaa
