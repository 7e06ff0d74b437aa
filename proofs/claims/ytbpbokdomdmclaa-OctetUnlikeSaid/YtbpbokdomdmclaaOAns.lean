/- What Put, Row and Signed answer, as functions of what they are given. -/
import Derived.Test.YtbpbokdomdmclaaOAwake
namespace Go.Proofs.Ytbpbokdomdmclaa
open Go.RowKit

open Classical in
noncomputable def putF (b : List Nat) (l : List Int) : List Nat × Nat := if ∀ x ∈ l, 0 ≤ x then (b ++ lebs l, 0) else ([], 1)
open Classical in
noncomputable def rowF (b : List Nat) (t : List Node3) : List Nat × Nat := if 4096 < t.length then ([], 9) else if ∀ x ∈ t, NodeOk x then (b ++ lebT t, 0) else ([], 1)
/-- Bytes and an error are answered. -/
def Ans (r : List Nat × Nat) (w : World) (e : Ending) (w' : World) : Prop :=
  ∃ A c, e = .returned (.tuple #[.slice A r.1.length c, .int .i64 (r.2 : Int)]) ∧ w'.ownsRow w.heap.size 5 1 (.slice A r.1.length c) r.1.length (bytesV r.1) ∧ Slice A r.1.length c ∧ Below w.heap.size w w'
theorem own_nil (w : World) (B : Nat) (t : TypeId) : w.ownsRow B t 1 (.slice none 0 0) 0 (bytesV []) := ⟨rfl, .inl ⟨rfl, rfl⟩⟩
theorem ans_put {b : List Nat} {l : List Int} {w : World} {e : Ending} {w' : World} (h : PutPost b l w e w') : Ans (putF b l) w e w' := by
  unfold putF
  rcases h with ⟨h0, A, c, he, ho, hs, hb⟩ | ⟨h0, he, hb⟩
  · rw [if_pos h0]
    exact ⟨A, c, he, ho, hs, hb⟩
  · rw [if_neg h0]
    exact ⟨none, 0, he, own_nil _ _ _, slice_nil, hb⟩
theorem ans_row {b : List Nat} {t : List Node3} {w : World} {e : Ending} {w' : World} (h : RowPost b t w e w') : Ans (rowF b t) w e w' := by
  unfold rowF
  rcases h with ⟨h0, he, hb⟩ | ⟨h0, h1, A, c, he, ho, hs, hb⟩ | ⟨h0, h1, he, hb⟩
  · rw [if_pos h0]
    exact ⟨none, 0, he, own_nil _ _ _, slice_nil, hb⟩
  · rw [if_neg (by omega), if_pos h1]
    exact ⟨A, c, he, ho, hs, hb⟩
  · rw [if_neg (by omega), if_neg h1]
    exact ⟨none, 0, he, own_nil _ _ _, slice_nil, hb⟩
section
variable (A B : Option Addr) (n m c d : Nat) (b : List Nat) (w : World) (hn : b.length = n) (hs : Slice A n c) (hA : Holds w A (bytesV b)) (hb1 : n ≤ 1000000)
include hn hs hA hb1
theorem oput_f (l : List Int) (hm : l.length = m) (hB : Holds w B (intsV l)) (hl : Wide l) (hl1 : m ≤ 1000000) (r : List Nat) (E k : Nat) (hr : putF b l = (r, E)) (hk : r.length = k) :
    Calls Try.prog 11 #[.slice A n c, .slice B m d] w fun e w' => ∃ A' c', e = .returned (.tuple #[.slice A' k c', .int .i64 (E : Int)]) ∧ w'.ownsRow w.heap.size 5 1 (.slice A' k c') k (bytesV r) ∧ Slice A' k c' ∧ Below w.heap.size w w' := by
  subst hn hm hk
  refine (oput_any A B c d b l w hs hA hB hl hb1 hl1).mono fun e w' h => ?_
  have := ans_put h
  rw [hr] at this
  exact this
theorem rput_f (l : List Int) (hm : l.length = m) (hB : Holds w B (intsV l)) (hl : Wide l) (hl1 : m ≤ 1000000) (r : List Nat) (E k : Nat) (hr : putF b l = (r, E)) (hk : r.length = k) :
    Calls Try.prog 12 #[.slice A n c, .slice B m d] w fun e w' => ∃ A' c', e = .returned (.tuple #[.slice A' k c', .int .i64 (E : Int)]) ∧ w'.ownsRow w.heap.size 5 1 (.slice A' k c') k (bytesV r) ∧ Slice A' k c' ∧ Below w.heap.size w w' := by
  subst hn hm hk
  refine (rput_any A B c d b l w hs hA hB hl hb1 hl1).mono fun e w' h => ?_
  have := ans_put h
  rw [hr] at this
  exact this
theorem orow_f (t : List Node3) (hm : t.length = m) (hB : Holds w B (nodesV t)) (hl : WideT t) (r : List Nat) (E k : Nat) (hr : rowF b t = (r, E)) (hk : r.length = k) :
    Calls Try.prog 13 #[.slice A n c, .slice B m d] w fun e w' => ∃ A' c', e = .returned (.tuple #[.slice A' k c', .int .i64 (E : Int)]) ∧ w'.ownsRow w.heap.size 5 1 (.slice A' k c') k (bytesV r) ∧ Slice A' k c' ∧ Below w.heap.size w w' := by
  subst hn hm hk
  refine (orow_any A B c d b t w hs hA hB hl hb1).mono fun e w' h => ?_
  have := ans_row h
  rw [hr] at this
  exact this
theorem rrow_f (t : List Node3) (hm : t.length = m) (hB : Holds w B (nodesV t)) (hl : WideT t) (r : List Nat) (E k : Nat) (hr : rowF b t = (r, E)) (hk : r.length = k) :
    Calls Try.prog 14 #[.slice A n c, .slice B m d] w fun e w' => ∃ A' c', e = .returned (.tuple #[.slice A' k c', .int .i64 (E : Int)]) ∧ w'.ownsRow w.heap.size 5 1 (.slice A' k c') k (bytesV r) ∧ Slice A' k c' ∧ Below w.heap.size w w' := by
  subst hn hm hk
  refine (rrow_any A B c d b t w hs hA hB hl hb1).mono fun e w' h => ?_
  have := ans_row h
  rw [hr] at this
  exact this
theorem osigned_f (z : Int) (h1 : -9223372036854775808 ≤ z) (h2 : z ≤ 9223372036854775807) (r : List Nat) (k : Nat) (hr : b ++ leb (fold z) = r) (hk : r.length = k) :
    Calls Try.prog 16 #[.slice A n c, .int .i64 z] w fun e w' => ∃ A' c', e = .returned (.slice A' k c') ∧ w'.ownsRow w.heap.size 5 1 (.slice A' k c') k (bytesV r) ∧ Slice A' k c' ∧ Below w.heap.size w w' := by
  subst hn hr hk
  exact (osigned_any A c b z w hs hA h1 h2 hb1).mono fun e w' ⟨A', c', he, ho, hs', hb, _⟩ => ⟨A', c', he, ho, hs', hb⟩
theorem rsigned_f (z : Int) (h1 : -9223372036854775808 ≤ z) (h2 : z ≤ 9223372036854775807) (r : List Nat) (k : Nat) (hr : b ++ leb (fold z) = r) (hk : r.length = k) :
    Calls Try.prog 17 #[.slice A n c, .int .i64 z] w fun e w' => ∃ A' c', e = .returned (.slice A' k c') ∧ w'.ownsRow w.heap.size 5 1 (.slice A' k c') k (bytesV r) ∧ Slice A' k c' ∧ Below w.heap.size w w' := by
  subst hn hr hk
  refine (rsigned_any A c b z w hs hA h1 h2 hb1).mono fun e w' ⟨A', c', he, ho, hb⟩ => ⟨A', c', he, ho, ?_, hb⟩
  obtain ⟨A2, c2, e2, hs2, _⟩ := own_slice ho
  cases e2
  exact hs2
end
theorem putF_len {b : List Nat} {l : List Int} (h : Wide l) : (putF b l).1.length ≤ b.length + 10 * l.length := by
  unfold putF
  split
  · rw [List.length_append]
    have := lebs_len h
    omega
  · simp
theorem rowF_len {b : List Nat} {t : List Node3} (h : WideT t) : (rowF b t).1.length ≤ b.length + 40 * t.length + 10 := by
  unfold rowF
  split
  · simp
  · split
    · rw [List.length_append]
      unfold lebT
      rw [List.length_append]
      have h1 := lebs_len (wide_flat h)
      rw [flatT_len] at h1
      have h2 := leb_ten (n := t.length) (by omega)
      omega
    · simp
end Go.Proofs.Ytbpbokdomdmclaa
