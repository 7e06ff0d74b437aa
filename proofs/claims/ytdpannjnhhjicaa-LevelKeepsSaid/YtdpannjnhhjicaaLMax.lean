/- Max, Clone, Up of the program. -/
import Derived.Test.YtdpannjnhhjicaaLMerge
namespace Go.Proofs.Ytdpannjnhhjicaa
open Go.RowKit

def maxErr (a b : List Atom2) : Int := if rightS 16 a = true ∧ rightS 16 b = true then (if 4 < (mergeS a b).length then 5 else 0) else 19
/-- What Max answers. -/
inductive MaxPost (a b : List Atom2) (w : World) : Ending → World → Prop
  | err (w' : World) : maxErr a b ≠ 0 → Below w.heap.size w w' → MaxPost a b w (.returned (.tuple #[.slice none 0 0, .int .i64 (maxErr a b)])) w'
  | ok (w' : World) (A : Option Addr) (c : Nat) : maxErr a b = 0 → OwnA w' w.heap.size (.slice A (mergeS a b).length c) (mergeS a b) → LevelAt w' A (mergeS a b).length c (mergeS a b) → Below w.heap.size w w' → MaxPost a b w (.returned (.tuple #[.slice A (mergeS a b).length c, .int .i64 0])) w'
theorem right_pos {v : Int} {l : List Atom2} (h : rightS v l = true) : 0 < l.length := by
  simp only [rightS, withinB, Bool.and_eq_true, decide_eq_true_eq] at h
  omega
theorem mergeS_pos {a b : List Atom2} (h : 0 < a.length) : 0 < (mergeS a b).length := by
  cases a with
  | nil => simp at h
  | cons x a =>
    cases b with
    | nil => simp [mergeS]
    | cons y b =>
      by_cases h1 : x.1 < y.1
      · rw [merge_lo h1]; simp
      · by_cases h2 : y.1 < x.1
        · rw [merge_hi h2]; simp
        · rw [merge_eq (by omega)]; simp
set_option maxHeartbeats 1000000 in
theorem max_any (A B : Option Addr) (n m c d : Nat) (a b : List Atom2) (w : World) (hA : LevelAt w A n c a) (hB : LevelAt w B m d b) :
    Calls Try.prog 13 #[.slice A n c, .slice B m d] w (MaxPost a b w) := by
  have hn : n ≤ 9223372036854775807 := by have := hA.2.1; unfold Slice at this; omega
  have hm : m ≤ 9223372036854775807 := by have := hB.2.1; unfold Slice at this; omega
  cases ha : rightS 16 a
  · have HE : Hid (maxErr a b = 19) := show _ = _ by simp [maxErr, ha]
    have HR := Lib.hid (right_n A c n a 16 w hA.1 hA.2.2 hn false ha)
    clear ha
    go_enter Try.func13, Try.ntmps13
    go_wp2_with fail
    refine HR.out.mono ?_
    rintro e w1 ⟨rfl, hb1⟩
    go_wp2_with fail
    go_ret2
    have h := HE.out
    rw [show (19 : Int) = maxErr a b from h.symm]
    exact .err _ (by rw [h]; omega) hb1
  · cases hb : rightS 16 b
    · have HE : Hid (maxErr a b = 19) := show _ = _ by simp [maxErr, hb]
      have HR := Lib.hid (right_n A c n a 16 w hA.1 hA.2.2 hn true ha)
      have HS := Lib.hid fun w (hB : LevelAt w B m d b) => right_n B d m b 16 w hB.1 hB.2.2 hm false hb
      clear ha hb
      go_enter Try.func13, Try.ntmps13
      go_wp2_with fail
      refine HR.out.mono ?_
      rintro e w1 ⟨rfl, hb1⟩
      go_wp2_with fail
      refine (HS.out _ (hB.below hb1)).mono ?_
      rintro e w2 ⟨rfl, hb2⟩
      go_wp2_with fail
      go_ret2
      have h := HE.out
      rw [show (19 : Int) = maxErr a b from h.symm]
      exact .err _ (by rw [h]; omega) (below_step hb1 hb2)
    · have hn4 := right_len ha
      have hm4 := right_len hb
      have hpos := mergeS_pos (b := b) (right_pos ha)
      have hE : maxErr a b = if 4 < (mergeS a b).length then 5 else 0 := by simp [maxErr, ha, hb]
      have HR := Lib.hid (right_n A c n a 16 w hA.1 hA.2.2 hn true ha)
      have HS := Lib.hid fun w (hB : LevelAt w B m d b) => right_n B d m b 16 w hB.1 hB.2.2 hm true hb
      have HM := Lib.hid fun w (hA : LevelAt w A n c a) (hB : LevelAt w B m d b) => merge_loop A B n m c d a b w hA hB (by rw [← hA.1]; exact hn4) (by rw [← hB.1]; exact hm4) hpos
      clear ha hb
      by_cases hl : 4 < (mergeS a b).length
      · rw [if_pos hl] at hE
        have HE := Lib.hid hE
        have p1 : (4 : Int) < ((mergeS a b).length : Int) := by omega
        clear hE
        go_enter Try.func13, Try.ntmps13
        go_wp2_with fail
        refine HR.out.mono ?_
        rintro e w1 ⟨rfl, hb1⟩
        go_wp2_with fail
        refine (HS.out _ (hB.below hb1)).mono ?_
        rintro e w2 ⟨rfl, hb2⟩
        go_wp2_with fail
        refine (HM.out _ ((hA.below hb1).below hb2) ((hB.below hb1).below hb2)).mono ?_
        rintro e w3 ⟨v, rfl, hv, hb3⟩
        obtain ⟨A3, c3, rfl, h3⟩ := hv.level
        go_wp2_with fail
        go_ret2
        have h := HE.out
        rw [show (5 : Int) = maxErr a b from h.symm]
        exact .err _ (by rw [h]; omega) (below_step (below_step hb1 hb2) hb3)
      · rw [if_neg hl] at hE
        have HE := Lib.hid hE
        have p1 : ¬ (4 : Int) < ((mergeS a b).length : Int) := by omega
        clear hE
        go_enter Try.func13, Try.ntmps13
        go_wp2_with fail
        refine HR.out.mono ?_
        rintro e w1 ⟨rfl, hb1⟩
        go_wp2_with fail
        refine (HS.out _ (hB.below hb1)).mono ?_
        rintro e w2 ⟨rfl, hb2⟩
        go_wp2_with fail
        refine (HM.out _ ((hA.below hb1).below hb2) ((hB.below hb1).below hb2)).mono ?_
        rintro e w3 ⟨v, rfl, hv, hb3⟩
        obtain ⟨A3, c3, rfl, h3⟩ := hv.level
        have hb12 := below_step hb1 hb2
        go_wp2_with fail
        go_ret2
        exact .ok _ A3 c3 HE.out (own_base hv hb12.size) h3 (below_step hb12 hb3)

/-- What Clone answers. -/
def CloneA (l : List Atom2) (w : World) (e : Ending) (w' : World) : Prop := ∃ v, e = .returned v ∧ OwnA w' w.heap.size v l ∧ Below w.heap.size w w'
theorem clone_any (A : Option Addr) (n c : Nat) (l : List Atom2) (w : World) (hA : LevelAt w A n c l) (hn : n ≤ 1000000) :
    Calls Try.prog 35 #[.slice A n c] w (CloneA l w) := by
  have q23 : ∀ (w : World) (a : Option Addr) (n c n' c' : Nat), (binOp .eql 23 (.slice a n c) (.slice none n' c')).run Try.prog w = .ok (.bool a.isNone) w := fun w a n c n' c' => Lib.run_eql_slice_nil w _ _ a n c n' c' Try.underlying23
  cases A with
  | none =>
    obtain ⟨rfl, rfl⟩ := hA.2.1.2.2 rfl
    obtain rfl : l = [] := List.eq_nil_of_length_eq_zero hA.1
    go_enter Try.func35, Try.ntmps35
    go_wp2_with fail
    go_ret
    exact ⟨_, rfl, OwnA.nil _ _, Below.refl _ _⟩
  | some a =>
    have hlit : OwnA (w.alloc (.cells #[] 57)) w.heap.size (.slice (some ⟨w.heap.size, 0, none⟩) 0 0) [] := World.ownsRow_lit (base := w.heap.size) (e := 57) (size := 2) w #[] 0 (Nat.le_refl _) (by unfold maxLen; omega) rfl
    have hb0 : Below w.heap.size w (w.alloc (.cells #[] 57)) := (Below.refl _ _).alloc (Nat.le_refl _) _
    go_enter Try.func35, Try.ntmps35
    go_wp2_with (at_builtin; go_must (refine wpList_append_atoms rfl (.tmp 5) (.tmp 6) _ rfl Try.underlying23 w.heap.size _ [] l rfl hlit (some a) n c rfl (hA.alloc _) (by simp only [List.length_nil]; omega) w hb0 (by simp) ?_); intro v1 w1 hown1 hb1 hz1 _ _)
    go_ret
    exact ⟨_, rfl, hown1, hb1⟩
end Go.Proofs.Ytdpannjnhhjicaa
