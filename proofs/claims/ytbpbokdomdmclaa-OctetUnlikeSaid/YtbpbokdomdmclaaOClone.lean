/- The program's Clone of bytes, appendForm, fold, Put, Signed. -/
import Derived.Test.YtbpbokdomdmclaaOSign
namespace Go.Proofs.Ytbpbokdomdmclaa
open Go.RowKit

theorem clone_any (A : Option Addr) (c : Nat) (b : List Nat) (w : World) (hs : Slice A b.length c) (hA : Holds w A (bytesV b)) (hb1 : b.length ≤ 1000000) :
    Calls Try.prog 28 #[.slice A b.length c] w (NewB b w) := by
  have q22 : ∀ (w : World) (a : Option Addr) (n c n' c' : Nat), (binOp .eql 22 (.slice a n c) (.slice none n' c')).run Try.prog w = .ok (.bool a.isNone) w := fun w a n c n' c' => Lib.run_eql_slice_nil w _ _ a n c n' c' Try.underlying22
  cases A with
  | none =>
    obtain ⟨h0, rfl⟩ := hs.2.2 rfl
    obtain rfl : b = [] := List.eq_nil_of_length_eq_zero h0
    go_enter Try.func28, Try.ntmps28
    go_wp2_with fail
    go_ret
    exact ⟨none, 0, rfl, ⟨by simp [bytesV], .inl ⟨rfl, rfl⟩⟩, Below.refl _ _⟩
  | some a =>
    have hlit := World.ownsRow_lit (base := w.heap.size) (e := 5) (size := 1) w #[] 0 (Nat.le_refl _) (by unfold maxLen; omega) rfl
    have hb0 : Below w.heap.size w (w.alloc (.cells #[] 5)) := (Below.refl _ _).alloc (Nat.le_refl _) _
    go_enter Try.func28, Try.ntmps28
    go_wp2_with (at_builtin; refine wpList_append_bytes rfl (.tmp 5) (.tmp 6) _ rfl Try.underlying22 w.heap.size _ [] b rfl hlit (some a) c rfl hs (hA.alloc _) (by simp; omega) w hb0 (by simp) ?_; intro A1 c1 w1 hown1 hs1 hb1 hz1)
    rw [List.nil_append] at hown1 hs1
    go_ret
    exact ⟨A1, c1, rfl, hown1, hb1⟩
end Go.Proofs.Ytbpbokdomdmclaa
