/- Two right levels joined, as lists. -/
import Derived.Test.YtdpannjnhhjicaaLUnder
namespace Go.Proofs.Ytdpannjnhhjicaa

def mergeS : List Atom2 → List Atom2 → List Atom2
  | [], b => b
  | x :: a, [] => x :: a
  | x :: a, y :: b => if x.1 < y.1 then x :: mergeS a (y :: b) else if y.1 < x.1 then y :: mergeS (x :: a) b else (x.1, max x.2 y.2) :: mergeS a b
theorem mergeS_nil (a : List Atom2) : mergeS a [] = a := by cases a <;> simp [mergeS]
theorem merge_lo {x y : Atom2} {a b : List Atom2} (h : x.1 < y.1) : mergeS (x :: a) (y :: b) = x :: mergeS a (y :: b) := by rw [mergeS, if_pos h]
theorem merge_hi {x y : Atom2} {a b : List Atom2} (h : y.1 < x.1) : mergeS (x :: a) (y :: b) = y :: mergeS (x :: a) b := by rw [mergeS, if_neg (by omega), if_pos h]
theorem merge_eq {x y : Atom2} {a b : List Atom2} (h : x.1 = y.1) : mergeS (x :: a) (y :: b) = (x.1, max x.2 y.2) :: mergeS a b := by rw [mergeS, if_neg (by omega), if_neg (by omega)]
theorem mergeS_len : ∀ (a b : List Atom2), (mergeS a b).length ≤ a.length + b.length
  | [], b => by simp [mergeS]
  | x :: a, [] => by simp [mergeS]
  | x :: a, y :: b => by
    by_cases h1 : x.1 < y.1
    · rw [merge_lo h1]
      have := mergeS_len a (y :: b)
      simp only [List.length_cons] at *
      omega
    · by_cases h2 : y.1 < x.1
      · rw [merge_hi h2]
        have := mergeS_len (x :: a) b
        simp only [List.length_cons] at *
        omega
      · rw [merge_eq (by omega)]
        have := mergeS_len a b
        simp only [List.length_cons] at *
        omega
termination_by a b => a.length + b.length
end Go.Proofs.Ytdpannjnhhjicaa
