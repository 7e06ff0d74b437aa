/- The program's appendForm. -/
import Derived.Test.YtbpbokdomdmclaaOClone
import Derived.Test.YtbpbokdomdmclaaOReader
namespace Go.Proofs.Ytbpbokdomdmclaa
open Go.RowKit

/-- These bytes are answered in an own row (from base on). -/
def Owned (base : Nat) (w0 : World) (l : List Nat) (e : Ending) (w' : World) : Prop :=
  ∃ A c, e = .returned (.slice A l.length c) ∧ w'.ownsRow base 5 1 (.slice A l.length c) l.length (bytesV l) ∧ Slice A l.length c ∧ Below base w0 w' ∧ base ≤ w'.heap.size
theorem ret_slice2 {A : Option Addr} {n m c : Nat} (h : n = m) : Ending.returned (.slice A n c) = .returned (.slice A m c) := by rw [h]

set_option maxHeartbeats 1000000 in
theorem appendForm_any (base : Nat) (v : Value) (l : List Nat) (n : Nat) (w0 w : World) (hown : w.ownsRow base 5 1 v l.length (bytesV l)) (hb : Below base w0 w) (hbase : base ≤ w.heap.size) (hn : n < 18446744073709551616) (hl : l.length ≤ 100000000) :
    Calls Try.prog 29 #[v, .int .u64 n] w (Owned base w0 (l ++ leb n)) := by
  have hten := leb_ten hn
  go_enter Try.func29, Try.ntmps29
  go_wp2_with fail
  go_loopw [0, 1] (fun v i wr => ∃ (m : Nat) (p : List Nat), i = .int .u64 m ∧ m ≤ n ∧ Hid (leb n = p ++ leb m) ∧ wr.ownsRow base 5 1 v (l ++ p).length (bytesV (l ++ p)) ∧ Below base w0 wr ∧ base ≤ wr.heap.size) (fun _ i _ => (intOf i).toNat)
  case atStart => exact ⟨n, [], rfl, Nat.le_refl _, rfl, by simpa using hown, hb, hbase⟩
  case round =>
    clear hown hb hbase
    obtain ⟨m, p, rfl, hm, HP, hown, hb, hbase⟩ := hrel
    have hpl : p.length ≤ 10 := by have := congrArg List.length HP.out; rw [List.length_append] at this; omega
    have hlp : (l ++ p).length ≤ 100000010 := by rw [List.length_append]; omega
    have hb1 : Below base w0 wr := hb
    by_cases hlt : m < 128
    · have h1 : ¬ (128 : Int) ≤ (m : Int) := by omega
      have HE : Hid (leb n = p ++ [m]) := by have := HP.out; rw [leb_small hlt] at this; exact this
      go_wp2_with (at_builtin; go_must (refine wpList_append_bytes rfl (.tmp 16) (.tmp 19) _ rfl Try.underlying22 base _ (l ++ p) [m] rfl (hown.alloc _) (some ⟨wr.heap.size, 0, none⟩) 1 rfl (slice_lit wr 1 (by omega)) (holds_lit wr [.int .u8 m] _) (by simp only [List.length_cons, List.length_nil]; omega) w0 (hb.alloc hbase _) (by simp; omega) ?_); intro A3 c3 w3 hown3 hs3 hb3 hz3)
      go_ret
      rw [HE.out, ← List.append_assoc]
      exact ⟨A3, c3, ret_slice2 (by simp), hown3, hs3, hb3, hz3⟩
    · have h1 : (128 : Int) ≤ (m : Int) := by omega
      obtain ⟨x, hx⟩ : ∃ x, x = m % 128 + 128 := ⟨_, rfl⟩
      obtain ⟨q, hq⟩ : ∃ q, q = m / 128 := ⟨_, rfl⟩
      have hxi : (m : Int) % 128 + 128 = (x : Int) := by omega
      have hxb : x < 256 := by omega
      have hqi : (m : Int) / 128 = (q : Int) := by omega
      have hqm : q < m := by omega
      have HE : Hid (leb n = (p ++ [x]) ++ leb q) := by have := HP.out; rw [leb_big hlt, ← hx, ← hq] at this; rw [this, List.append_assoc]; rfl
      clear hx hq
      go_wp2_with (at_builtin; go_must (refine wpList_append_bytes rfl (.tmp 7) (.tmp 12) _ rfl Try.underlying22 base _ (l ++ p) [x] rfl (hown.alloc _) (some ⟨wr.heap.size, 0, none⟩) 1 rfl (slice_lit wr 1 (by omega)) (holds_lit wr [.int .u8 x] _) (by simp only [List.length_cons, List.length_nil]; omega) w0 (hb.alloc hbase _) (by simp; omega) ?_); intro A3 c3 w3 hown3 hs3 hb3 hz3)
      go_roundw
      case rel => exact ⟨q, p ++ [x], rfl, by omega, HE, by rw [← List.append_assoc, show l.length + (p.length + 1) = (l ++ p ++ [x]).length by simp]; exact hown3, hb3, hz3⟩
      case measure => simp [intOf] <;> omega

theorem ofold_any (n : Int) (w : World) (h1 : -9223372036854775808 ≤ n) (h2 : n ≤ 9223372036854775807) :
    Calls Try.prog 31 #[.int .i64 n] w fun e w' => e = .returned (.int .u64 (fold n : Nat)) ∧ w = w' := by
  by_cases h : 0 ≤ n
  · have e : ((fold n : Nat) : Int) = n * 2 := by unfold fold; rw [if_pos h]; omega
    rw [e]
    have h0 : ¬ n < 0 := by omega
    go_enter Try.func31, Try.ntmps31
    go_wp2_with fail
    go_ret
    exact ⟨rfl, rfl⟩
  · have e : ((fold n : Nat) : Int) = -(n + 1) * 2 + 1 := by unfold fold; rw [if_neg h]; omega
    rw [e]
    have h0 : n < 0 := by omega
    go_enter Try.func31, Try.ntmps31
    go_wp2_with fail
    go_ret
    exact ⟨rfl, rfl⟩
theorem unfold_any (m : Nat) (w : World) (h : m < 18446744073709551616) :
    Calls Try.prog 33 #[.int .u64 m] w fun e w' => e = .returned (.int .i64 (unfoldN m)) ∧ w = w' := by
  obtain ⟨q, hq⟩ : ∃ q, q = m / 2 := ⟨_, rfl⟩
  have hqi : (m : Int) / 2 = (q : Int) := by omega
  have hqb : q < 9223372036854775808 := by omega
  by_cases h0 : m % 2 = 0
  · have e : unfoldN m = q := by unfold unfoldN; rw [if_pos h0]; omega
    have hr : (m : Int) % 2 = 0 := by omega
    rw [e]
    clear hq e
    go_enter Try.func33, Try.ntmps33
    go_wp2_with fail
    go_ret
    exact ⟨rfl, rfl⟩
  · have e : unfoldN m = -(q : Int) - 1 := by unfold unfoldN; rw [if_neg h0]; omega
    have hr : (m : Int) % 2 = 1 := by omega
    rw [e]
    clear hq e
    go_enter Try.func33, Try.ntmps33
    go_wp2_with fail
    go_ret
    exact ⟨rfl, rfl⟩

set_option maxHeartbeats 1000000 in
theorem osigned_any (A : Option Addr) (c : Nat) (b : List Nat) (n : Int) (w : World) (hs : Slice A b.length c) (hA : Holds w A (bytesV b)) (h1 : -9223372036854775808 ≤ n) (h2 : n ≤ 9223372036854775807) (hb1 : b.length ≤ 1000000) :
    Calls Try.prog 16 #[.slice A b.length c, .int .i64 n] w (Owned w.heap.size w (b ++ leb (fold n))) := by
  have hf := fold_bound h1 h2
  have HF := Lib.hid fun w => ofold_any n w h1 h2
  generalize fold n = m at *
  go_enter Try.func16, Try.ntmps16
  go_wp2_with fail
  refine (clone_any A c b w hs hA hb1).mono ?_
  rintro e w1 ⟨A1, c1, rfl, hown1, hb1⟩
  go_wp2_with fail
  refine (HF.out _).mono ?_
  rintro e w' ⟨rfl, rfl⟩
  go_wp2_with fail
  refine (appendForm_any w.heap.size _ b m w w1 hown1 hb1 hb1.size hf (by omega)).mono ?_
  rintro e w2 ⟨A2, c2, rfl, h⟩
  go_wp2_with fail
  go_ret
  exact ⟨A2, c2, ret_slice2 (by simp), h⟩
end Go.Proofs.Ytbpbokdomdmclaa
