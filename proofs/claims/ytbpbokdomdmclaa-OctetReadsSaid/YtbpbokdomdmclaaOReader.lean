/- A reader's states: what is left, and the error; numbers, signed numbers and rows that are read. -/
import Derived.Test.YtbpbokdomdmclaaOScan
namespace Go.Proofs.Ytbpbokdomdmclaa

abbrev St := List Nat × Nat
/-- A number up to most is read. -/
noncomputable def nextS (most : Nat) (s : St) : Nat × St :=
  if s.2 ≠ 0 then (0, s) else ((scan s.1 most).1, (s.1.drop (scan s.1 most).2.1, (scan s.1 most).2.2))
noncomputable def numS (most : Int) (s : St) : Nat × St :=
  if most < 0 then (0, (s.1, if s.2 = 0 then 3 else s.2)) else nextS most.toNat s
/-- The number of which fold makes this. -/
def unfoldN (m : Nat) : Int := if m % 2 = 0 then (m / 2 : Nat) else -((m / 2 : Nat) : Int) - 1
noncomputable def signedS (s : St) : Int × St := (unfoldN (nextS 18446744073709551615 s).1, (nextS 18446744073709551615 s).2)
noncomputable def nodeS (s : St) : (Int × Int × Int) × St :=
  let a := numS 255 s; let b := numS 1048576 a.2; let c := numS 1048576 b.2
  (((a.1 : Int), (b.1 : Int), (c.1 : Int)), c.2)
/-- n nodes more, behind those that are there. -/
noncomputable def rowA : Nat → List (Int × Int × Int) → St → List (Int × Int × Int) × St
  | 0, t, s => (t, s)
  | n + 1, t, s => if (nodeS s).2.2 ≠ 0 then ([], (nodeS s).2) else rowA n (t ++ [(nodeS s).1]) (nodeS s).2
noncomputable def rowS (s : St) : List (Int × Int × Int) × St := rowA (numS 4096 s).1 [] (numS 4096 s).2

theorem scan_le (b : List Nat) (most : Nat) : (scan b most).1 ≤ most := by
  by_cases h : ∃ n, Found b most n
  · obtain ⟨n, hn⟩ := h
    rw [scan_found hn]
    exact hn.1
  · by_cases k : ∃ n, Cut b most n
    · rw [scan_cut h k]; exact Nat.zero_le _
    · rw [scan_form h k]; exact Nat.zero_le _
theorem nextS_le (most : Nat) (s : St) : (nextS most s).1 ≤ most := by
  unfold nextS
  split
  · exact Nat.zero_le _
  · exact scan_le _ _
theorem numS_le (most : Int) (s : St) : (numS most s).1 ≤ most.toNat := by
  unfold numS
  split
  · exact Nat.zero_le _
  · exact nextS_le _ _
theorem nextS_stays {most : Nat} {s : St} (h : s.2 ≠ 0) : nextS most s = (0, s) := by unfold nextS; rw [if_pos h]
theorem numS_stays {most : Int} {s : St} (h : s.2 ≠ 0) : numS most s = (0, s) := by
  unfold numS
  split
  · rfl
  · exact nextS_stays h
theorem signedS_stays {s : St} (h : s.2 ≠ 0) : signedS s = (0, s) := by
  unfold signedS
  rw [nextS_stays h]
  exact congrArg (·, s) (by decide : unfoldN 0 = 0)
theorem rowS_stays {s : St} (h : s.2 ≠ 0) : rowS s = ([], s) := by
  unfold rowS
  rw [numS_stays h]
  rfl
/-- What is read is the end of what was there. -/
theorem nextS_suffix (most : Nat) (s : St) : (nextS most s).2.1 <:+ s.1 := by
  unfold nextS
  split
  · exact List.suffix_refl _
  · exact List.drop_suffix _ _
theorem numS_suffix (most : Int) (s : St) : (numS most s).2.1 <:+ s.1 := by
  unfold numS
  split
  · exact List.suffix_refl _
  · exact nextS_suffix _ _
theorem nodeS_suffix (s : St) : (nodeS s).2.1 <:+ s.1 :=
  (numS_suffix _ _).trans ((numS_suffix _ _).trans (numS_suffix _ _))
theorem rowA_suffix : ∀ (n : Nat) (t : List (Int × Int × Int)) (s : St), (rowA n t s).2.1 <:+ s.1
  | 0, _, _ => List.suffix_refl _
  | n + 1, t, s => by
    rw [rowA]
    split
    · exact nodeS_suffix s
    · exact (rowA_suffix n _ _).trans (nodeS_suffix s)
theorem rowS_suffix (s : St) : (rowS s).2.1 <:+ s.1 := (rowA_suffix _ _ _).trans (numS_suffix _ _)
theorem signedS_suffix (s : St) : (signedS s).2.1 <:+ s.1 := nextS_suffix _ _
theorem rowA_fault : ∀ (n : Nat) (t : List (Int × Int × Int)) (s : St), s.2 = 0 → (rowA n t s).2.2 ≠ 0 → (rowA n t s).1 = []
  | 0, _, s, h0, h => absurd h0 h
  | n + 1, t, s, h0, h => by
    rw [rowA] at h ⊢
    split
    · rfl
    · rename_i h1
      rw [if_neg h1] at h
      exact rowA_fault n _ _ (by simpa using h1) h
theorem rowA_len : ∀ (n : Nat) (t : List (Int × Int × Int)) (s : St), (rowA n t s).1.length ≤ t.length + n
  | 0, _, _ => Nat.le_refl _
  | n + 1, t, s => by
    rw [rowA]
    split
    · simp
    · have := rowA_len n (t ++ [(nodeS s).1]) (nodeS s).2
      simp at this
      omega
/-- Numbers that were put are read. -/
theorem nextS_leb {n most : Nat} (h : n ≤ most) (r : List Nat) : nextS most (leb n ++ r, 0) = (n, (r, 0)) := by
  have hf : Found (leb n ++ r) most n := ⟨h, List.prefix_append _ _⟩
  unfold nextS
  rw [if_neg (by simp), scan_found hf]
  simp
theorem numS_leb {n : Nat} {most : Int} (h : (n : Int) ≤ most) (r : List Nat) : numS most (leb n ++ r, 0) = (n, (r, 0)) := by
  unfold numS
  rw [if_neg (by omega), nextS_leb (by omega)]
theorem unfold_fold (n : Int) : unfoldN (fold n) = n := by
  unfold unfoldN fold
  split <;> split <;> omega
theorem fold_unfold (m : Nat) : fold (unfoldN m) = m := by
  unfold unfoldN fold
  split <;> split <;> omega
theorem signedS_leb {n : Int} (h1 : -9223372036854775808 ≤ n) (h2 : n ≤ 9223372036854775807) (r : List Nat) : signedS (leb (fold n) ++ r, 0) = (n, (r, 0)) := by
  have h : fold n ≤ 18446744073709551615 := by
    unfold fold
    split <;> omega
  unfold signedS
  rw [nextS_leb h, unfold_fold]
/-- A number that is read: its form stood there. -/
theorem nextS_ok {most : Nat} {s : St} (h : (nextS most s).2.2 = 0) : s.2 = 0 ∧ leb (nextS most s).1 ++ (nextS most s).2.1 = s.1 := by
  by_cases h0 : s.2 ≠ 0
  · rw [nextS_stays h0] at h; exact absurd h h0
  · refine ⟨by simpa using h0, ?_⟩
    unfold nextS at h ⊢
    rw [if_neg h0] at h ⊢
    by_cases h1 : ∃ n, Found s.1 most n
    · obtain ⟨n, hn⟩ := h1
      rw [scan_found hn]
      obtain ⟨t, ht⟩ := hn.2
      rw [← ht]
      simp
    · by_cases k : ∃ n, Cut s.1 most n
      · rw [scan_cut h1 k] at h; cases h
      · rw [scan_form h1 k] at h; cases h
theorem numS_ok {most : Int} {s : St} (h : (numS most s).2.2 = 0) : 0 ≤ most ∧ s.2 = 0 ∧ leb (numS most s).1 ++ (numS most s).2.1 = s.1 ∧ ((numS most s).1 : Int) ≤ most := by
  by_cases h0 : most < 0
  · unfold numS at h
    rw [if_pos h0] at h
    simp only at h
    split at h
    · cases h
    · rename_i h1; exact absurd h h1
  · have e : numS most s = nextS most.toNat s := by unfold numS; rw [if_neg h0]
    rw [e] at h ⊢
    have h1 := nextS_ok h
    have h2 := nextS_le most.toNat s
    exact ⟨by omega, h1.1, h1.2, by omega⟩
/-- A number that isn't read leaves all as it was. -/
theorem nextS_bad {most : Nat} {s : St} (h : (nextS most s).2.2 ≠ 0) : (nextS most s).1 = 0 ∧ (nextS most s).2.1 = s.1 := by
  by_cases h0 : s.2 ≠ 0
  · rw [nextS_stays h0]; exact ⟨rfl, rfl⟩
  · unfold nextS at h ⊢
    rw [if_neg h0] at h ⊢
    by_cases h1 : ∃ n, Found s.1 most n
    · obtain ⟨n, hn⟩ := h1
      rw [scan_found hn] at h
      exact absurd rfl h
    · by_cases k : ∃ n, Cut s.1 most n
      · rw [scan_cut h1 k]; exact ⟨rfl, rfl⟩
      · rw [scan_form h1 k]; exact ⟨rfl, rfl⟩
theorem numS_bad {most : Int} {s : St} (h : (numS most s).2.2 ≠ 0) : (numS most s).1 = 0 ∧ (numS most s).2.1 = s.1 := by
  by_cases h0 : most < 0
  · unfold numS; rw [if_pos h0]; exact ⟨rfl, rfl⟩
  · have e : numS most s = nextS most.toNat s := by unfold numS; rw [if_neg h0]
    rw [e] at h ⊢
    exact nextS_bad h
theorem unfold_small {m : Nat} (h : m ≤ 18446744073709551615) : -9223372036854775808 ≤ unfoldN m ∧ unfoldN m ≤ 9223372036854775807 := by
  unfold unfoldN
  split <;> omega
end Go.Proofs.Ytbpbokdomdmclaa
