/- The document's Form and Fold. -/
import Derived.Test.YtbpbokdomdmclaaOMem
import Derived.Test.YtbpbokdomdmclaaOLeb
namespace Go.Proofs.Ytbpbokdomdmclaa
open Go.RowKit

theorem form_small (n : Nat) (w : World) (h : n < 128) : Calls Try.prog 30 #[.int .u64 n] w (NewB (leb n) w) := by
  rw [leb_small h]
  have h1 : (n : Int) < 128 := by omega
  go_enter Try.func30, Try.ntmps30
  go_wp2_with fail
  go_ret
  exact ⟨_, _, rfl, World.ownsRow_lit w #[.int .u8 n] 1 (Nat.le_refl _) (by unfold maxLen; omega) rfl, (Below.refl _ _).alloc (Nat.le_refl _) _⟩

theorem form_any : ∀ (n : Nat) (w : World), n < 18446744073709551616 → Calls Try.prog 30 #[.int .u64 n] w (NewB (leb n) w) := by
  intro n
  induction n using Nat.strongRecOn with
  | ind n ih =>
    intro w hn
    by_cases h : n < 128
    · exact form_small n w h
    · obtain ⟨i0, hi, hz0, hz1, hz2⟩ := info_parts info8
      obtain ⟨q, hq⟩ : ∃ q, q = n / 128 := ⟨_, rfl⟩
      have IH := Lib.hid fun w => ih q (by omega) w (by omega)
      have hll := leb_ten hn
      rw [leb_big h, List.length_cons, ← hq] at hll
      rw [leb_big h, ← hq]
      have h1 : ¬ (n : Int) < 128 := by omega
      obtain ⟨x, hx⟩ : ∃ x, x = n % 128 + 128 := ⟨_, rfl⟩
      have hxi : (n : Int) % 128 + 128 = (x : Int) := by omega
      have hxb : x < 256 := by omega
      have hqi : (n : Int) / 128 = (q : Int) := by omega
      rw [← hx]
      clear ih hx hq
      go_enter Try.func30, Try.ntmps30
      go_wp2_with fail
      have hlit := World.ownsRow_lit (base := w.heap.size) (e := 5) (size := 1) w #[.int .u8 x] 1 (Nat.le_refl _) (by unfold maxLen; omega) rfl
      have hb0 : Below w.heap.size w (w.alloc (.cells #[.int .u8 x] 5)) := (Below.refl _ _).alloc (Nat.le_refl _) _
      refine (IH.out _).mono ?_
      rintro e w2 ⟨A, c, rfl, hown, hb⟩
      have hl2 := own_below hlit hb
      have hb2 := below_step hb0 hb
      obtain ⟨a, rfl⟩ : ∃ a, A = some a := by
        obtain ⟨A', c', e, hs, _⟩ := own_slice hown
        cases e
        cases A with
        | none => have := (hs.2.2 rfl).1; have := leb_pos q; omega
        | some a => exact ⟨a, rfl⟩
      have hnews := (own_holds hown).news rfl
      have hbsz := hb2.size
      go_wp2_with (at_builtin; go_must (refine wpList_append_own _ rfl (.tmp 12) (.tmp 15) _ rfl w.heap.size 5 i0 _ 1 1 Try.underlying22 hi hz0 hz1 hz2 rfl (by omega) _ 1 _ rfl hl2 a _ c (bytesV (leb q)) rfl (by rw [bytesV_len]; omega) hnews bytesV_one (by unfold maxLen; omega) (by omega) hbsz ?_); intro v3 w3 hown3 hg3 hnil3)
      have hb3 := hb2.grown hg3 hbsz (fun x hx => (hl2.lt x hx).1)
      obtain ⟨A3, c3, rfl, hs3, _⟩ := own_slice hown3
      go_wp2_with fail
      go_ret
      refine ⟨A3, c3, ret_slice (by rw [List.length_cons]; omega), ?_, hb3⟩
      rw [List.length_cons, Nat.add_comm]
      exact hown3
end Go.Proofs.Ytbpbokdomdmclaa
