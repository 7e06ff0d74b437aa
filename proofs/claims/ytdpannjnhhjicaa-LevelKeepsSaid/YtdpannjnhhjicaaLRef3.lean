/- The document's Meets, Same, SameInts. -/
import Derived.Test.YtdpannjnhhjicaaLRef2
namespace Go.Proofs.Ytdpannjnhhjicaa
open Go.RowKit

set_option maxHeartbeats 2000000 in
theorem rmeets_any (A B : Option Addr) (n c d : Nat) (vals : List Int) (E : List Ord3) (w : World) (hn : vals.length = n) (hA : Holds w A (intsV vals)) (hB : Holds w B (ordsV E)) (hV : WideI vals) (hl : n ≤ 9223372036854775807) (hm : E.length ≤ 9223372036854775807) :
    Calls Try.prog 29 #[.slice A n c, .slice B E.length d] w fun e w' => e = .returned (.bool (meetsS vals E)) ∧ Below w.heap.size w w' := by
  have HN := Lib.hid hn
  have HZ := Lib.hid fun v => sumS_zero hV v
  clear hn hV
  go_enter Try.func29, Try.ntmps29
  go_wp2_with fail
  go_loopw [5] (fun i wr => ∃ k : Nat, k ≤ n ∧ i = .int .i64 k ∧ Hid ((vals.take k).all (fun x => decide (0 ≤ x)) = true) ∧ w = wr) (fun i _ => n - (intOf i).toNat)
  case atStart => exact ⟨0, by omega, rfl, show _ = _ by simp, rfl⟩
  case round =>
    obtain ⟨k, hk, rfl, HK, rfl⟩ := hrel
    by_cases hlt : k < n
    · have hkl : k < vals.length := by rw [HN.out]; exact hlt
      obtain ⟨b, o, rfl, hb0, hc⟩ := hA.at_ (by rw [intsV_len]; omega)
      have s0 := hc k _ (intsV_get hkl)
      have HS := Lib.hid fun h => all_step (p := fun x => decide (0 ≤ x)) hkl HK.out h
      have HX := Lib.hid fun h => all_not (p := fun x => decide (0 ≤ x)) hkl h
      generalize vals[k] = x at *
      clear hc hkl
      by_cases h1 : x < 0
      · have HM : Hid (meetsS vals E = false) := show _ = _ by unfold meetsS; rw [HX.out (by simpa using h1)]; rfl
        go_wp2_with fail
        go_ret
        exact ⟨ret_bool HM.out.symm, Below.refl _ _⟩
      · have HM := Lib.hid (HS.out (by simpa using h1))
        go_wp2_with fail
        go_roundw
        case rel => exact ⟨k + 1, by omega, by go_num, HM.out, trivial⟩
        case measure => simp [intOf]; omega
    · have HV : Hid (meetsS vals E = E.all (meetsO vals)) := show _ = _ by
        have h := HK.out
        rw [List.take_of_length_le (by rw [HN.out]; omega)] at h
        unfold meetsS; rw [h]; rfl
      go_wp2_with fail
      clear hlt hk HK
      go_loopw [6] (fun i wr => ∃ k : Nat, k ≤ E.length ∧ i = .int .i64 k ∧ Hid ((E.take k).all (meetsO vals) = true) ∧ Below w.heap.size w wr) (fun i _ => E.length - (intOf i).toNat)
      case atStart => exact ⟨0, by omega, rfl, show _ = _ by simp, Below.refl _ _⟩
      case round =>
        obtain ⟨k, hk, rfl, HK, hb⟩ := hrel
        by_cases hlt : k < E.length
        · have hA' := Lib.hid (hA.below hb)
          obtain ⟨b, o, rfl, hb0, hc⟩ := (hB.below hb).at_ (by rw [ordsV_len]; omega)
          have s0 := hc (k * 3) _ (ordsV_get0 hlt)
          have s1 := hc (k * 3 + 1) _ (ordsV_get1 hlt)
          have s2 := hc (k * 3 + 2) _ (ordsV_get2 hlt)
          rw [← Nat.add_assoc] at s1 s2
          have HS := Lib.hid fun h => all_step hlt HK.out h
          have HX := Lib.hid fun h => all_not (p := meetsO vals) hlt h
          generalize E[k] = x at *
          obtain ⟨lo, ad, hi⟩ := x
          simp only at s0 s1 s2
          have e1 := wrap_sum vals lo ad
          clear hc
          by_cases h1 : valOf vals hi < sumS vals lo ad
          · have HM : Hid (E.all (meetsO vals) = false) := HX.out (by simp only [meetsO, HZ.out, decide_eq_false_iff_not]; omega)
            go_wp2_with fail
            go_quiet ((go_at_call 33; refine Calls.quiet_of_same (of_any _ _ _ vals _ _ HN.out (hA'.out.drewN _) hl)))
            go_wp2_with fail
            go_ret
            exact ⟨ret_bool (by rw [HV.out, HM.out]), below_drewN hb _⟩
          · have HM := Lib.hid (HS.out (by simp only [meetsO, HZ.out, decide_eq_true_eq]; omega))
            go_wp2_with fail
            go_quiet ((go_at_call 33; refine Calls.quiet_of_same (of_any _ _ _ vals _ _ HN.out (hA'.out.drewN _) hl)))
            go_wp2_with fail
            go_roundw
            case rel => exact ⟨k + 1, by omega, by go_num, HM.out, below_drewN hb _⟩
            case measure => simp [intOf]; omega
        · have HM : Hid (E.all (meetsO vals) = true) := show _ = _ by
            have h := HK.out
            rwa [List.take_of_length_le (by omega)] at h
          go_wp2_with fail
          go_ret
          exact ⟨ret_bool (by rw [HV.out, HM.out]), hb⟩
set_option maxHeartbeats 1000000 in
theorem rsameA_any (A B : Option Addr) (c d : Nat) (l r : List Atom2) (w : World) (hA : Holds w A (atomsV l)) (hB : Holds w B (atomsV r)) (hl : l.length ≤ 9223372036854775807) (v : Bool) (hv : v = decide (l = r)) :
    Calls Try.prog 19 #[.slice A l.length c, .slice B r.length d] w fun e w' => e = .returned (.bool v) ∧ ∃ q, w' = w.drewN q := by
  have HV := Lib.hid hv
  clear hv
  by_cases hn : l.length = r.length
  · have HN := Lib.hid hn
    obtain ⟨n, hnl⟩ : ∃ n, n = l.length := ⟨_, rfl⟩
    rw [← hn, ← hnl]
    rw [← hnl] at hl
    have HNL := Lib.hid hnl
    clear hn hnl
    go_enter Try.func19, Try.ntmps19
    go_wp2_with fail
    go_loopw [5] (fun i wr => (∃ q, wr = w.drewN q) ∧ ∃ k : Nat, k ≤ n ∧ i = .int .i64 k ∧ Hid (l.take k = r.take k)) (fun i _ => n - (intOf i).toNat)
    case atStart => exact ⟨⟨0, rfl⟩, 0, Nat.zero_le _, rfl, show _ = _ by simp⟩
    case round =>
      obtain ⟨⟨q, hq⟩, k, hk, rfl, HA⟩ := hrel
      have HQ : Hid (∃ q, wr = w.drewN q) := ⟨q, hq⟩
      have hA' : Holds wr A (atomsV l) := by rw [hq]; exact hA
      have hB' : Holds wr B (atomsV r) := by rw [hq]; exact hB
      clear hq
      by_cases hlt : k < n
      · have kl : k < l.length := by have := HNL.out; omega
        have kr : k < r.length := by have := HN.out; omega
        obtain ⟨b, o, rfl, hcM⟩ := hA' (by rw [atomsV_len]; omega)
        obtain ⟨b', o', rfl, hcN⟩ := hB' (by rw [atomsV_len]; omega)
        have s0 := hcM (k * 2) _ (atomsV_get0 kl)
        have s1 := hcM (k * 2 + 1) _ (atomsV_get1 kl)
        have t0 := hcN (k * 2) _ (atomsV_get0 kr)
        have t1 := hcN (k * 2 + 1) _ (atomsV_get1 kr)
        rw [← Nat.add_assoc] at s1 t1
        have ht1 := List.take_succ_eq_append_getElem kl
        have ht2 := List.take_succ_eq_append_getElem kr
        have hne : l[k] ≠ r[k] → v = false := fun h => by
          rw [HV.out, decide_eq_false_iff_not]
          intro e
          subst e
          exact h rfl
        have HNE := Lib.hid hne
        have HT1 := Lib.hid ht1
        have HT2 := Lib.hid ht2
        clear hcM hcN hne ht1 ht2
        generalize l[k] = x at *
        generalize r[k] = y at *
        obtain ⟨p, q⟩ := x
        obtain ⟨p', q'⟩ := y
        simp only at s0 s1 t0 t1
        by_cases e1 : p = p'
        · subst e1
          by_cases e2 : q = q'
          · subst e2
            go_wp2_with fail
            go_region
            go_wp2_with fail
            go_roundw
            case rel => exact ⟨by obtain ⟨q, hq⟩ := HQ.out; exact ⟨q + 1, by rw [hq]; rfl⟩, k + 1, by omega, by go_num, show _ = _ by rw [HT1.out, HT2.out, HA.out]⟩
            case measure => simp [intOf] <;> omega
          · have HF := Lib.hid (HNE.out (by simp [e2]))
            go_wp2_with fail
            go_region
            go_wp2_with fail
            go_ret
            exact ⟨ret_bool HF.out.symm, by obtain ⟨q, hq⟩ := HQ.out; exact ⟨q + 1, by rw [hq]; rfl⟩⟩
        · have HF := Lib.hid (HNE.out (by simp [e1]))
          go_wp2_with fail
          go_region
          go_wp2_with fail
          go_ret
          exact ⟨ret_bool HF.out.symm, by obtain ⟨q, hq⟩ := HQ.out; exact ⟨q + 1, by rw [hq]; rfl⟩⟩
      · have hk' : k = n := by omega
        subst hk'
        have he : v = true := by
          have h1 := HA.out
          rw [List.take_of_length_le (by have := HNL.out; omega), List.take_of_length_le (by have := HNL.out; have := HN.out; omega)] at h1
          rw [HV.out, h1]; simp
        have HD := Lib.hid he
        clear he
        go_wp2_with fail
        go_ret
        exact ⟨ret_bool HD.out.symm, HQ.out⟩
  · have hz : ((l.length : Int) != (r.length : Int)) = true := by simp; omega
    have he : v = false := by
      rw [HV.out, decide_eq_false_iff_not]
      intro e
      exact hn (by rw [e])
    have HF := Lib.hid he
    clear hn he
    go_enter Try.func19, Try.ntmps19
    go_wp2_with fail
    go_ret
    exact ⟨ret_bool HF.out.symm, 0, rfl⟩
set_option maxHeartbeats 1000000 in
theorem rsameI_any (A B : Option Addr) (c d : Nat) (l r : List Int) (w : World) (hA : Holds w A (intsV l)) (hB : Holds w B (intsV r)) (hl : l.length ≤ 9223372036854775807) (v : Bool) (hv : v = decide (l = r)) :
    Calls Try.prog 27 #[.slice A l.length c, .slice B r.length d] w fun e w' => e = .returned (.bool v) ∧ ∃ q, w' = w.drewN q := by
  have HV := Lib.hid hv
  clear hv
  by_cases hn : l.length = r.length
  · have HN := Lib.hid hn
    obtain ⟨n, hnl⟩ : ∃ n, n = l.length := ⟨_, rfl⟩
    rw [← hn, ← hnl]
    rw [← hnl] at hl
    have HNL := Lib.hid hnl
    clear hn hnl
    go_enter Try.func27, Try.ntmps27
    go_wp2_with fail
    go_loopw [5] (fun i wr => (∃ q, wr = w.drewN q) ∧ ∃ k : Nat, k ≤ n ∧ i = .int .i64 k ∧ Hid (l.take k = r.take k)) (fun i _ => n - (intOf i).toNat)
    case atStart => exact ⟨⟨0, rfl⟩, 0, Nat.zero_le _, rfl, show _ = _ by simp⟩
    case round =>
      obtain ⟨⟨q, hq⟩, k, hk, rfl, HA⟩ := hrel
      have HQ : Hid (∃ q, wr = w.drewN q) := ⟨q, hq⟩
      have hA' : Holds wr A (intsV l) := by rw [hq]; exact hA
      have hB' : Holds wr B (intsV r) := by rw [hq]; exact hB
      clear hq
      by_cases hlt : k < n
      · have kl : k < l.length := by have := HNL.out; omega
        have kr : k < r.length := by have := HN.out; omega
        obtain ⟨b, o, rfl, hcM⟩ := hA' (by rw [intsV_len]; omega)
        obtain ⟨b', o', rfl, hcN⟩ := hB' (by rw [intsV_len]; omega)
        have h1 := hcM k _ (intsV_get kl)
        have h2 := hcN k _ (intsV_get kr)
        have ht1 := List.take_succ_eq_append_getElem kl
        have ht2 := List.take_succ_eq_append_getElem kr
        have hne : l[k] ≠ r[k] → v = false := fun h => by
          rw [HV.out, decide_eq_false_iff_not]
          intro e
          subst e
          exact h rfl
        have HNE := Lib.hid hne
        have HT1 := Lib.hid ht1
        have HT2 := Lib.hid ht2
        clear hcM hcN hne ht1 ht2
        generalize l[k] = x at *
        generalize r[k] = y at *
        by_cases hdg : x = y
        · subst hdg
          have hz1 : (x != x) = false := by simp
          go_wp2_with fail
          go_quiet (fail)
          go_wp2_with fail
          go_roundw
          case rel => exact ⟨by obtain ⟨q, hq⟩ := HQ.out; exact ⟨q + nq, by rw [hq, World.drewN_drewN]⟩, k + 1, by omega, by go_num, show _ = _ by rw [HT1.out, HT2.out, HA.out]⟩
          case measure => simp [intOf] <;> omega
        · have hz1 : (x != y) = true := by simpa using hdg
          have HF := Lib.hid (HNE.out hdg)
          go_wp2_with fail
          go_quiet (fail)
          go_wp2_with fail
          go_ret
          exact ⟨ret_bool HF.out.symm, by obtain ⟨q, hq⟩ := HQ.out; exact ⟨q + nq, by rw [hq, World.drewN_drewN]⟩⟩
      · have hk' : k = n := by omega
        subst hk'
        have he : v = true := by
          have h1 := HA.out
          rw [List.take_of_length_le (by have := HNL.out; omega), List.take_of_length_le (by have := HNL.out; have := HN.out; omega)] at h1
          rw [HV.out, h1]; simp
        have HD := Lib.hid he
        clear he
        go_wp2_with fail
        go_ret
        exact ⟨ret_bool HD.out.symm, HQ.out⟩
  · have hz : ((l.length : Int) != (r.length : Int)) = true := by simp; omega
    have he : v = false := by
      rw [HV.out, decide_eq_false_iff_not]
      intro e
      exact hn (by rw [e])
    have HF := Lib.hid he
    clear hn he
    go_enter Try.func27, Try.ntmps27
    go_wp2_with fail
    go_ret
    exact ⟨ret_bool HF.out.symm, 0, rfl⟩
theorem same_atoms (A B : Option Addr) (n m c d : Nat) (l r : List Atom2) (w : World) (hA : LevelAt w A n c l) (hB : LevelAt w B m d r) (v : Bool) (hv : v = decide (l = r)) :
    Calls Try.prog 19 #[.slice A n c, .slice B m d] w fun e w' => e = .returned (.bool v) ∧ Below w.heap.size w w' := by
  obtain ⟨rfl, h2, h3⟩ := hA
  obtain ⟨rfl, h5, h6⟩ := hB
  exact (rsameA_any A B c d l r w h3 h6 (by have := h2.1; have := h2.2.1; omega) v hv).mono fun e w' h => ⟨h.1, by obtain ⟨q, hq⟩ := h.2; rw [hq]; exact below_drewN (Below.refl _ _) q⟩
theorem same_ints (A B : Option Addr) (n m c d : Nat) (l r : List Int) (w : World) (hn : l.length = n) (hm : r.length = m) (hA : Holds w A (intsV l)) (hB : Holds w B (intsV r)) (hl : n ≤ 9223372036854775807) (v : Bool) (hv : v = decide (l = r)) :
    Calls Try.prog 27 #[.slice A n c, .slice B m d] w fun e w' => e = .returned (.bool v) ∧ Below w.heap.size w w' := by
  subst hn hm
  exact (rsameI_any A B c d l r w hA hB hl v hv).mono fun e w' h => ⟨h.1, by obtain ⟨q, hq⟩ := h.2; rw [hq]; exact below_drewN (Below.refl _ _) q⟩
end Go.Proofs.Ytdpannjnhhjicaa
