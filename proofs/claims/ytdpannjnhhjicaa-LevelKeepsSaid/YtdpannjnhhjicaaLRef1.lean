/- The document's Right, Of, Value, Meets, Same, SameInts. -/
import Derived.Test.YtdpannjnhhjicaaLUp
namespace Go.Proofs.Ytdpannjnhhjicaa
open Go.RowKit

theorem rightS_no {v : Int} {l : List Atom2} (h : v < 0 ∨ 16 < v ∨ l.length = 0 ∨ 4 < l.length) : rightS v l = false := by
  cases hr : rightS v l
  · rfl
  · simp only [rightS, withinB, Bool.and_eq_true, decide_eq_true_eq] at hr
    omega
theorem rright_out (A : Option Addr) (n c : Nat) (l : List Atom2) (v : Int) (w : World) (hn : l.length = n) (h : v < 0 ∨ 16 < v ∨ n = 0 ∨ 4 < n) :
    Calls Try.prog 18 #[.slice A n c, .int .i64 v] w fun e w' => e = .returned (.bool (rightS v l)) ∧ Below w.heap.size w w' := by
  have HF := Lib.hid (rightS_no (l := l) (v := v) (by rw [hn]; exact h))
  clear hn
  by_cases h1 : v < 0
  · clear h
    go_enter Try.func18, Try.ntmps18
    go_wp2_with fail
    go_ret
    exact ⟨ret_bool HF.out.symm, Below.refl _ _⟩
  · by_cases h2 : 16 < v
    · clear h
      go_enter Try.func18, Try.ntmps18
      go_wp2_with fail
      go_ret
      exact ⟨ret_bool HF.out.symm, Below.refl _ _⟩
    · by_cases h3 : n = 0
      · subst h3
        clear h
        go_enter Try.func18, Try.ntmps18
        go_wp2_with fail
        go_ret
        exact ⟨ret_bool HF.out.symm, Below.refl _ _⟩
      · have h4 : (4 : Int) < (n : Int) := by omega
        have h5 : ((n : Int) == 0) = false := by simpa using h3
        clear h
        go_enter Try.func18, Try.ntmps18
        go_wp2_with fail
        go_ret
        exact ⟨ret_bool HF.out.symm, Below.refl _ _⟩
/-- The least variable that may stand at place k. -/
def leastAt (l : List Atom2) : Nat → Int
  | 0 => 0
  | k + 1 => (l.getD k (0, 0)).1 + 1
set_option maxHeartbeats 2000000 in
theorem rright_in (A : Option Addr) (n c : Nat) (l : List Atom2) (v : Int) (w : World) (hn : l.length = n) (hA : Holds w A (atomsV l)) (hv0 : ¬ v < 0) (hv1 : ¬ 16 < v) (h0 : 0 < n) (h4 : n ≤ 4) :
    Calls Try.prog 18 #[.slice A n c, .int .i64 v] w fun e w' => e = .returned (.bool (rightS v l)) ∧ Below w.heap.size w w' := by
  have HR : Hid (rightS v l = rightFrom v 0 l) := show _ = _ by
    have h1 : withinB v 0 16 = true := by simp [withinB]; omega
    have h2 : withinB l.length 1 4 = true := by rw [hn]; simp [withinB]; omega
    simp [rightS, h1, h2]
  have HN := Lib.hid hn
  have t3 : ((n : Int) == 0) = false := by simp; omega
  have t4 : ¬ (4 : Int) < (n : Int) := by omega
  clear hn
  go_enter Try.func18, Try.ntmps18
  go_wp2_with fail
  clear t3 t4
  go_loopw [5] (fun i wr => ∃ k : Nat, k ≤ n ∧ i = .int .i64 k ∧ Hid (0 ≤ leastAt l k ∧ leastAt l k ≤ 17 ∧ rightS v l = rightFrom v (leastAt l k) (l.drop k)) ∧ Below w.heap.size w wr) (fun i _ => n - (intOf i).toNat)
  case atStart => exact ⟨0, by omega, rfl, (show 0 ≤ leastAt l 0 ∧ leastAt l 0 ≤ 17 ∧ rightS v l = rightFrom v (leastAt l 0) (l.drop 0) from ⟨Int.le_refl _, by simp [leastAt], HR.out⟩), Below.refl _ _⟩
  case round =>
    obtain ⟨k, hk, rfl, HK, hb⟩ := hrel
    by_cases hlt : k < n
    · have hkl : k < l.length := by rw [HN.out]; exact hlt
      have HH := Lib.hid (hA.below hb)
      obtain ⟨b, o, rfl, hb0, hc⟩ := (hA.below hb).at_ (by rw [atomsV_len]; omega)
      have s0 := hc (k * 2) _ (atomsV_get0 hkl)
      have s1 := hc (k * 2 + 1) _ (atomsV_get1 hkl)
      rw [← Nat.add_assoc] at s1
      have HD := Lib.hid (List.drop_eq_getElem_cons hkl)
      have HG : Hid (l.getD k (0, 0) = l[k]) := show _ = _ by rw [List.getD_eq_getElem?_getD, List.getElem?_eq_getElem hkl]; rfl
      generalize l[k] = x at *
      obtain ⟨p, q⟩ := x
      simp only at s0 s1
      have hno : ¬ (withinB p (leastAt l k) v = true ∧ withinB q 0 1000 = true) → rightS v l = false := fun h => by
        rw [HK.out.2.2, HD.out, rightFrom]
        cases h1 : withinB p (leastAt l k) v
        · rfl
        · cases h2 : withinB q 0 1000
          · rfl
          · exact absurd ⟨h1, h2⟩ h
      have HNO := Lib.hid hno
      have hl0 := HK.out.1
      have HL := Lib.hid hl0
      clear hc hno hkl hl0
      by_cases c1 : p < 0
      · have HF := Lib.hid (HNO.out (by simp only [withinB, Bool.and_eq_true, decide_eq_true_eq]; have := HL.out; omega))
        go_wp2_with fail
        go_ret
        exact ⟨ret_bool HF.out.symm, hb⟩
      · by_cases c2 : v < p
        · have HF := Lib.hid (HNO.out (by simp only [withinB, Bool.and_eq_true, decide_eq_true_eq]; omega))
          go_wp2_with fail
          go_ret
          exact ⟨ret_bool HF.out.symm, hb⟩
        · by_cases c3 : q < 0
          · have HF := Lib.hid (HNO.out (by simp only [withinB, Bool.and_eq_true, decide_eq_true_eq]; omega))
            go_wp2_with fail
            go_ret
            exact ⟨ret_bool HF.out.symm, hb⟩
          · by_cases c4 : 1000 < q
            · have HF := Lib.hid (HNO.out (by simp only [withinB, Bool.and_eq_true, decide_eq_true_eq]; omega))
              go_wp2_with fail
              go_ret
              exact ⟨ret_bool HF.out.symm, hb⟩
            · have hyes : leastAt l k ≤ p → 0 ≤ leastAt l (k + 1) ∧ leastAt l (k + 1) ≤ 17 ∧ rightS v l = rightFrom v (leastAt l (k + 1)) (l.drop (k + 1)) := fun h => by
                have e : leastAt l (k + 1) = p + 1 := by simp only [leastAt]; rw [HG.out]
                refine ⟨by omega, by omega, ?_⟩
                rw [HK.out.2.2, HD.out, rightFrom, e]
                have h1 : withinB p (leastAt l k) v = true := by simp [withinB]; omega
                have h2 : withinB q 0 1000 = true := by simp [withinB]; omega
                simp only [h1, h2, Bool.true_and]
              have HY := Lib.hid hyes
              clear hyes
              cases k with
              | zero =>
                have HY' := Lib.hid (HY.out (by simp [leastAt]; omega))
                have t5 : decide ((0 : Int) < ((0 : Nat) : Int)) = false := by simp
                simp only [Nat.zero_mul, Nat.add_zero] at s0 s1
                go_wp2_with fail
                go_quiet (fail)
                go_wp2_with fail
                go_roundw
                case rel => exact ⟨0 + 1, by omega, by go_num, HY'.out, below_drewN hb _⟩
                case measure => simp [intOf]; omega
              | succ j =>
                have hjl : j < l.length := by rw [HN.out]; omega
                have r0 := HH.out.cell (j := j * 2) (atomsV_get0 hjl)
                have HLJ : Hid (leastAt l (j + 1) = l[j].1 + 1) := show _ = _ by simp only [leastAt]; rw [List.getD_eq_getElem?_getD, List.getElem?_eq_getElem hjl]; rfl
                generalize l[j].1 = z at *
                have t5 : decide ((0 : Int) < ((j + 1 : Nat) : Int)) = true := by simp
                have t6 : IntKind.i64.wrap (((j + 1 : Nat) : Int) - 1) = j := by rw [show ((j + 1 : Nat) : Int) - 1 = j by omega]; exact IntWalk.i64_in _ (by omega)
                by_cases c5 : p ≤ z
                · have HF := Lib.hid (HNO.out (by simp only [withinB, Bool.and_eq_true, decide_eq_true_eq]; have := HLJ.out; omega))
                  go_wp2_with fail
                  go_quiet (fail)
                  go_wp2_with fail
                  go_ret
                  exact ⟨ret_bool HF.out.symm, below_drewN hb _⟩
                · have HY' := Lib.hid (HY.out (by have := HLJ.out; omega))
                  go_wp2_with fail
                  go_quiet (fail)
                  go_wp2_with fail
                  go_roundw
                  case rel => exact ⟨j + 1 + 1, by omega, by go_num, HY'.out, below_drewN hb _⟩
                  case measure => simp [intOf]; omega
    · have HK' : Hid (rightS v l = true) := show _ = _ by rw [HK.out.2.2, List.drop_of_length_le (by have := HN.out; omega)]; rfl
      go_wp2_with fail
      go_ret
      exact ⟨ret_bool HK'.out.symm, hb⟩
theorem rright_any (A : Option Addr) (n c : Nat) (l : List Atom2) (v : Int) (w : World) (hA : LevelAt w A n c l) :
    Calls Try.prog 18 #[.slice A n c, .int .i64 v] w fun e w' => e = .returned (.bool (rightS v l)) ∧ Below w.heap.size w w' := by
  by_cases h : v < 0 ∨ 16 < v ∨ n = 0 ∨ 4 < n
  · exact rright_out A n c l v w hA.1 h
  · exact rright_in A n c l v w hA.1 hA.2.2 (by omega) (by omega) (by omega) (by omega)
end Go.Proofs.Ytdpannjnhhjicaa
