/- retortlaw02.awake: true. -/
import Derived.Test.YtbpbokdomdmclaaODevRowR
import Derived.Test.YtbpbokdomdmclaaOSameRow
namespace Go.Proofs.Ytbpbokdomdmclaa
open Go.RowKit

theorem lebs_const : lebs [0, 127, 128, 300] = [0, 127, 128, 1, 172, 2] := by
  simp [lebs, leb_small, leb_big]
theorem lebs_parts : lebs [0, 127, 128, 300] = leb 0 ++ (leb 127 ++ (leb 128 ++ (leb 300 ++ []))) := by
  simp [lebs]
/-- A read that answers a number known. -/
theorem onum_known (t : TypeId × Nat) (g : Nat) (most : Int) (s : St) (v : Nat) (s' : St) (hv : numS most s = (v, s')) (w : World) (h : Rd t w g s) (h1 : -9223372036854775808 ≤ most) (h2 : most ≤ 9223372036854775807) :
    Calls Try.prog 24 #[.pointer (some ⟨g, 0, none⟩), .int .i64 most] w (ReadPost t g w (.int .i64 v) s') := by
  have := onum_any t g most s w h h1 h2
  rw [hv] at this
  exact this
theorem put_yes (A B : Option Addr) (c d : Nat) (b : List Nat) (l : List Int) (w : World) (hs : Slice A b.length c) (hA : Holds w A (bytesV b)) (hB : Holds w B (intsV l)) (hl : Wide l)
    (hb1 : b.length ≤ 1000000) (hl1 : l.length ≤ 1000000) (h0 : ∀ x ∈ l, 0 ≤ x) (r : List Nat) (hr : b ++ lebs l = r) :
    Calls Try.prog 11 #[.slice A b.length c, .slice B l.length d] w fun e w' => ∃ A c, e = .returned (.tuple #[.slice A r.length c, .int .i64 0]) ∧ w'.ownsRow w.heap.size 5 1 (.slice A r.length c) r.length (bytesV r) ∧ Slice A r.length c ∧ Below w.heap.size w w' := by
  subst hr
  refine (oput_any A B c d b l w hs hA hB hl hb1 hl1).mono fun e w' h => ?_
  rcases h with ⟨_, h⟩ | ⟨h, _⟩
  · exact h
  · exact absurd h0 h
theorem holds_at (w : World) (cs : Array Value) (t : TypeId) (vs : List Value) (h : cs.toList = vs) : Holds (w.alloc (.cells cs t)) (some ⟨w.heap.size, 0, none⟩) vs := by
  subst h
  exact holds_lit w cs.toList t
theorem slice_nil : Slice none ([] : List Nat).length 0 := ⟨Nat.le_refl _, by omega, fun _ => ⟨rfl, rfl⟩⟩

theorem same_n (A B : Option Addr) (n m c d : Nat) (l r : List Nat) (w : World) (hn : l.length = n) (hm : r.length = m) (hA : Holds w A (bytesV l)) (hB : Holds w B (bytesV r)) (hl : n ≤ 4611686018427387904) (v : Bool) (hv : v = decide (l = r)) :
    Calls Try.prog 15 #[.slice A n c, .slice B m d] w fun e w' => e = .returned (.bool v) ∧ Below w.heap.size w w' := by
  subst hn hm
  exact (rsame_any A B c d l r w hA hB hl v hv).mono fun e w' h => ⟨h.1, by obtain ⟨q, hq⟩ := h.2; rw [hq]; exact below_drewN (Below.refl _ _) q⟩
theorem new_n (A : Option Addr) (n c : Nat) (b : List Nat) (w : World) (hn : b.length = n) (hs : Slice A n c) (hA : Holds w A (bytesV b)) (hb1 : n ≤ 1000000) (hb : Bytes b) :
    Calls Try.prog 18 #[.slice A n c] w (NewR b w) := by
  subst hn
  exact onew_any A c b w hs hA hb1 hb

set_option maxHeartbeats 2000000 in
theorem awake_any (w : World) : Calls Try.prog 10 #[] w fun e w' => e = .returned (.bool true) ∧ Below w.heap.size w w' := by
  have HP := Lib.hid fun w B hB => put_yes none B 0 4 [] [0, 127, 128, 300] w slice_nil (Holds.nil _ _) hB (by unfold Wide; decide) (by decide) (by decide) (by decide) [0, 127, 128, 1, 172, 2] (by rw [List.nil_append]; exact lebs_const)
  go_enter Try.func10, Try.ntmps10
  go_wp2_with fail
  have h1 := holds_at w #[.int .i64 0, .int .i64 127, .int .i64 128, .int .i64 300] 3 (intsV [0, 127, 128, 300]) rfl
  have hb0 := (Below.refl w.heap.size w).alloc (Nat.le_refl _) (.cells #[.int .i64 0, .int .i64 127, .int .i64 128, .int .i64 300] 3)
  refine (HP.out _ _ h1).mono ?_
  rintro e w1 ⟨A1, c1, rfl, hown1, hs1, hb1⟩
  have hb1' := below_step hb0 hb1
  have hh1 := own_holds hown1
  clear h1 hown1 hb1 hb0
  go_wp2_with fail
  have h2 := holds_at w1 #[.int .u8 0, .int .u8 127, .int .u8 128, .int .u8 1, .int .u8 172, .int .u8 2] 5 (bytesV [0, 127, 128, 1, 172, 2]) rfl
  have hb2 := (Below.refl w1.heap.size w1).alloc (Nat.le_refl _) (.cells #[.int .u8 0, .int .u8 127, .int .u8 128, .int .u8 1, .int .u8 172, .int .u8 2] 5)
  have hb2' := below_step hb1' hb2
  (with_reducible refine (same_n _ _ 6 6 _ _ [0, 127, 128, 1, 172, 2] [0, 127, 128, 1, 172, 2] _ rfl rfl (hh1.below hb2) h2 (by omega) true (by decide)).mono ?_)
  rintro e w2 ⟨rfl, hb3⟩
  have hb3' := below_step hb2' hb3
  have hh3 := (hh1.below hb2).below hb3
  clear h2 hb2 hb2' hb3 hh1 hb1'
  go_wp2_with fail
  (with_reducible refine (new_n _ 6 _ [0, 127, 128, 1, 172, 2] _ rfl hs1 hh3 (by omega) (by unfold Bytes; decide)).mono ?_)
  rintro e w3 ⟨g, rfl, hg, hR, hb4⟩
  have hb4' := below_step hb3' hb4
  rw [← lebs_const, lebs_parts] at hR
  have hgw : w.heap.size ≤ g := by have := hb3'.size; omega
  clear hb3' hb4 hh3
  go_wp2_with fail
  (with_reducible refine (onum_known _ g 0 _ 0 _ (numS_leb (n := 0) (by omega) _) _ hR (by omega) (by omega)).mono ?_)
  rintro e w4 ⟨rfl, hR4, hT4⟩
  go_wp2_with fail
  (with_reducible refine (onum_known _ g 127 _ 127 _ (numS_leb (n := 127) (by omega) _) _ hR4 (by omega) (by omega)).mono ?_)
  rintro e w5 ⟨rfl, hR5, hT5⟩
  go_wp2_with fail
  (with_reducible refine (onum_known _ g 128 _ 128 _ (numS_leb (n := 128) (by omega) _) _ hR5 (by omega) (by omega)).mono ?_)
  rintro e w6 ⟨rfl, hR6, hT6⟩
  go_wp2_with fail
  (with_reducible refine (onum_known _ g 300 _ 300 _ (numS_leb (n := 300) (by omega) _) _ hR6 (by omega) (by omega)).mono ?_)
  rintro e w7 ⟨rfl, hR7, hT7⟩
  have hT := ((hT4.trans hT5).trans hT6).trans hT7
  have hb5 := hT.below hb4' hb4'.size hgw
  clear hT4 hT5 hT6 hT7 hR4 hR5 hR6 hT hb4' hR
  go_wp2_with fail
  (with_reducible refine (oleft_any _ g _ _ hR7).mono ?_)
  rintro e w' ⟨rfl, rfl⟩
  go_wp2_with fail
  (with_reducible refine (oerr_any _ g _ _ hR7).mono ?_)
  rintro e w' ⟨rfl, rfl⟩
  go_wp2_with fail
  go_ret
  exact ⟨rfl, hb5⟩
end Go.Proofs.Ytbpbokdomdmclaa
