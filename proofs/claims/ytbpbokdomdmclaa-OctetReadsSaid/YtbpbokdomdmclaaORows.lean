/- Rows that are read: the document's, and the program's. -/
import Derived.Test.YtbpbokdomdmclaaORefNum
namespace Go.Proofs.Ytbpbokdomdmclaa
open Go.RowKit

/-- What a read of a row answers. -/
def RowRead (t : TypeId × Nat) (g : Nat) (w : World) (l : List Node3) (s : St) (e : Ending) (w' : World) : Prop :=
  ∃ A c, e = .returned (.slice A l.length c) ∧ w'.ownsRow w.heap.size 63 3 (.slice A l.length c) l.length (nodesV l) ∧ Rd t w' g s ∧ Touch g w w'
theorem own_touch {w w' : World} {B g sz n : Nat} {e : TypeId} {v : Value} {xs : List Value} (h : w.ownsRow B e sz v n xs) (hb : Touch g w w') (hg : g < B) : w'.ownsRow B e sz v n xs := by
  refine ⟨h.1, h.2.imp id fun ⟨k, cap, cur, ev, hk, hh, h'⟩ => ⟨k, cap, cur, ev, hk, ?_, h'⟩⟩
  have hlt : k < w.heap.size := by
    rcases Nat.lt_or_ge k w.heap.size with h3 | h3
    · exact h3
    · rw [Array.getElem?_eq_none h3] at hh; cases hh
  rw [hb.block k hlt (fun e => by injection e with e; omega)]
  exact hh
/-- Where a row of nodes stands within a read. -/
def RowAt (n k : Nat) (s0 : St) (acc : List Node3) (s : St) : Prop := acc.length ≤ k ∧ ((s.2 = 0 ∧ rowA n [] s0 = rowA (n - k) acc s) ∨ (s.2 ≠ 0 ∧ rowA n [] s0 = ([], s)))
theorem RowAt.begin_ (n : Nat) (s : St) (h : s.2 = 0) : RowAt n 0 s [] s := ⟨Nat.le_refl _, .inl ⟨h, by rw [Nat.sub_zero]⟩⟩
theorem RowAt.step {n k : Nat} {s0 s : St} {acc : List Node3} (h : RowAt n k s0 acc s) (hk : k < n) (h0 : s.2 = 0) : RowAt n (k + 1) s0 (acc ++ [(nodeS s).1]) (nodeS s).2 := by
  refine ⟨by have := h.1; simp; omega, ?_⟩
  rcases h.2 with ⟨_, h1⟩ | ⟨h1, _⟩
  · rw [show n - k = (n - (k + 1)) + 1 by omega, rowA] at h1
    by_cases h2 : (nodeS s).2.2 ≠ 0
    · rw [if_pos h2] at h1
      exact .inr ⟨h2, h1⟩
    · rw [if_neg h2] at h1
      exact .inl ⟨by simpa using h2, h1⟩
  · exact absurd h0 h1
theorem RowAt.good {n : Nat} {s0 s : St} {acc : List Node3} (h : RowAt n n s0 acc s) (h0 : s.2 = 0) : rowA n [] s0 = (acc, s) := by
  rcases h.2 with ⟨_, h1⟩ | ⟨h1, _⟩
  · rw [Nat.sub_self] at h1; exact h1
  · exact absurd h0 h1
theorem RowAt.bad {n k : Nat} {s0 s : St} {acc : List Node3} (h : RowAt n k s0 acc s) (h0 : s.2 ≠ 0) : rowA n [] s0 = ([], s) := by
  rcases h.2 with ⟨h1, _⟩ | ⟨_, h1⟩
  · exact absurd h1 h0
  · exact h1
theorem Touch.grown_ {g : Nat} {a w w' : World} (h : Touch g a w) {row : Option Nat} (hb : w.grownBy w' row) (hr : ∀ k, row = some k → a.heap.size ≤ k) : Touch g a w' :=
  ⟨hb.os.trans h.os, hb.tape.trans h.tape, hb.output.trans h.output, Nat.le_trans h.size hb.size, fun i hi hne => (hb.block i (Nat.lt_of_lt_of_le hi h.size) (fun e => by have := hr i e.symm; omega)).trans (h.block i hi hne)⟩
theorem nodesV_one_cons (acc : List Node3) (x : Node3) : nodesV (acc ++ [x]) = nodesV acc ++ nodesV [x] := by unfold nodesV; rw [List.flatMap_append]
/-- As it stands at the head of a round that goes on only without an error. -/
def RowGood (n k : Nat) (s0 : St) (acc : List Node3) (s : St) : Prop := RowAt n k s0 acc s ∧ ((k = n ∧ acc = []) ∨ s.2 = 0)
theorem RowAt.zero (s : St) : RowAt 0 0 s [] s := ⟨Nat.le_refl _, by
  by_cases h : s.2 = 0
  · exact .inl ⟨h, rfl⟩
  · exact .inr ⟨h, rfl⟩⟩
theorem nodeS_eq {s sa sb sc : St} {a b c : Nat} (h1 : numS 255 s = (a, sa)) (h2 : numS 1048576 sa = (b, sb)) (h3 : numS 1048576 sb = (c, sc)) : nodeS s = (((a : Int), (b : Int), (c : Int)), sc) := by
  unfold nodeS
  rw [h1]
  simp only
  rw [h2]
  simp only
  rw [h3]
theorem holds_node (w : World) (a b c : Int) (t : TypeId) : Holds (w.alloc (.cells #[.int .i64 a, .int .i64 b, .int .i64 c] t)) (some ⟨w.heap.size, 0, none⟩) (nodesV [(a, b, c)]) := holds_lit w (nodesV [(a, b, c)]) t

set_option maxHeartbeats 2000000 in
theorem rrowR_any (t : TypeId × Nat) (g : Nat) (s : St) (w : World) (h : Rd t w g s) :
    Calls Try.prog 23 #[.pointer (some ⟨g, 0, none⟩)] w (RowRead t g w (rowS s).1 (rowS s).2) := by
  have HN := Lib.hid (rnum_any t g 4096 s w h (by omega) (by omega))
  have hnl := numS_le 4096 s
  obtain ⟨n, s1, hn⟩ : ∃ n s1, numS 4096 s = (n, s1) := ⟨_, _, rfl⟩
  rw [hn] at HN hnl
  have HZ : Hid (s1.2 ≠ 0 → n = 0) := fun h1 => by
    have h2 := numS_bad (most := 4096) (s := s)
    rw [hn] at h2
    exact (h2 h1).1
  have hR : rowS s = rowA n [] s1 := by unfold rowS; rw [hn]
  have HR := Lib.hid hR
  rw [hR]
  have hgl := h.lt
  clear hR hn h
  simp only at hnl HN
  go_enter Try.func23, Try.ntmps23
  go_wp2_with fail
  refine (HN.out).mono ?_
  rintro e w1 ⟨rfl, hR1, hT1⟩
  go_wp2_with fail
  have hst : RowAt n 0 s1 [] s1 := by
    by_cases h0 : s1.2 = 0
    · exact RowAt.begin_ n s1 h0
    · obtain rfl : n = 0 := HZ.out h0
      exact RowAt.zero s1
  have hs1 := hT1.size
  go_loopw [4, 5] (fun v i wr => ∃ (k : Nat) (acc : List Node3) (s' : St), i = .int .i64 k ∧ k ≤ n ∧ RowAt n k s1 acc s' ∧ wr.ownsRow w.heap.size 63 3 v acc.length (nodesV acc) ∧ Rd t wr g s' ∧ Touch g w wr) (fun _ i _ => n - (intOf i).toNat)
  case atStart => exact ⟨0, [], s1, rfl, Nat.zero_le _, hst, ⟨rfl, .inl ⟨rfl, rfl⟩⟩, hR1, hT1⟩
  case round =>
    clear hst hR1 hT1 hs1
    obtain ⟨k, acc, s', rfl, hk, hAt, hown, hRd, hT⟩ := hrel
    have HAT := Lib.hid hAt
    have hsz := hT.size
    have hal : acc.length ≤ k := hAt.1
    clear hAt
    obtain ⟨A', c', hw0, _⟩ := hRd
    have c1 : wr.cell? ⟨g, 1, none⟩ = some (.int .i64 (s'.2 : Int)) := by rw [hw0.cell]; rfl
    have hRd : Rd t wr g s' := ⟨A', c', hw0, by assumption⟩
    clear hw0
    by_cases hlt : k < n
    · by_cases h0 : s'.2 = 0
      · rw [h0] at c1
        obtain ⟨a, sa, ea⟩ : ∃ a sa, numS 255 s' = (a, sa) := ⟨_, _, rfl⟩
        obtain ⟨b, sb, eb⟩ : ∃ b sb, numS 1048576 sa = (b, sb) := ⟨_, _, rfl⟩
        obtain ⟨c, sc, ec⟩ : ∃ c sc, numS 1048576 sb = (c, sc) := ⟨_, _, rfl⟩
        have HNX := Lib.hid (HAT.out.step hlt h0)
        rw [nodeS_eq ea eb ec] at HNX
        have HA := Lib.hid fun w h => rnum_any t g 255 s' w h (by omega) (by omega)
        have HB := Lib.hid fun w h => rnum_any t g 1048576 sa w h (by omega) (by omega)
        have HC := Lib.hid fun w h => rnum_any t g 1048576 sb w h (by omega) (by omega)
        rw [ea] at HA
        rw [eb] at HB
        rw [ec] at HC
        clear ea eb ec h0
        go_wp2_with fail
        refine (HA.out _ hRd).mono ?_
        rintro e w2 ⟨rfl, hR2, hT2⟩
        have hown2 := own_touch hown hT2 hgl
        have hT2' := hT.trans hT2
        clear hown hT hT2
        go_wp2_with fail
        refine (HB.out _ hR2).mono ?_
        rintro e w3 ⟨rfl, hR3, hT3⟩
        have hown3 := own_touch hown2 hT3 hgl
        have hT3' := hT2'.trans hT3
        clear hown2 hT2' hT3
        go_wp2_with fail
        refine (HC.out _ hR3).mono ?_
        rintro e w4 ⟨rfl, hR4, hT4⟩
        have hown4 := own_touch hown3 hT4 hgl
        have hT4' := hT3'.trans hT4
        clear hown3 hT3' hT4
        have HOLD := Lib.hid (holds_node w4 a b c 63)
        have HOWN := Lib.hid (hown4.alloc (.cells #[.int .i64 a, .int .i64 b, .int .i64 c] 63))
        have HRD := Lib.hid (hR4.below ((Below.refl _ _).alloc (Nat.le_refl _) (.cells #[.int .i64 a, .int .i64 b, .int .i64 c] 63)))
        have HT := Lib.hid (hT4'.trans (Touch.of_below (g := g) ((Below.refl w4.heap.size w4).alloc (Nat.le_refl _) (.cells #[.int .i64 a, .int .i64 b, .int .i64 c] 63))))
        clear hown4 hR4 hT4'
        go_wp2_with (at_builtin; go_must (refine wpList_append_cells rfl (.tmp 29) (.tmp 34) _ rfl 63 _ 3 24 infoNode rfl (by decide) Try.underlying25 w.heap.size _ acc.length 1 _ (nodesV [((a : Int), (b : Int), (c : Int))]) rfl HOWN.out (some ⟨w4.heap.size, 0, none⟩) 1 rfl ⟨by omega, by omega, fun h => (by cases h)⟩ HOLD.out rfl nodesV_one (by omega) (by omega) _ (Below.refl _ _) HT.out.size ?_); intro A5 c5 w5 hown5 hs5 hb5 hz5 hg5)
        have HB5 : Hid (∀ k, Value.ownBlock u4 = some k → w.heap.size ≤ k) := fun k hk => (HOWN.out.lt k hk).1
        have HRD5 := Lib.hid (HRD.out.grown hg5 (fun k hk => by have := HB5.out k hk; omega))
        have HT5 := Lib.hid (HT.out.grown_ hg5 HB5.out)
        clear hg5
        go_roundw
        case rel => exact ⟨k + 1, acc ++ [((a : Int), (b : Int), (c : Int))], sc, by go_num, by omega, HNX.out, by rw [nodesV_one_cons]; simpa using hown5, HRD5.out, HT5.out⟩
        case measure => simp [intOf] <;> omega
      · have h0i : ((s'.2 : Int) == 0) = false := by simp; omega
        have h0j : ((s'.2 : Int) != 0) = true := by simp; omega
        have HBAD := Lib.hid (HAT.out.bad h0)
        generalize hf : s'.2 = f at *
        clear hf h0
        go_wp2_with fail
        go_ret
        rw [HBAD.out]
        exact ⟨none, 0, rfl, ⟨rfl, .inl ⟨rfl, rfl⟩⟩, hRd, hT⟩
    · obtain rfl : k = n := by omega
      by_cases h0 : s'.2 = 0
      · rw [h0] at c1
        have HG := Lib.hid (HAT.out.good h0)
        obtain ⟨A3, c3, rfl, hs3, _⟩ := own_slice hown
        clear h0
        go_wp2_with fail
        go_ret
        rw [HG.out]
        exact ⟨A3, c3, rfl, hown, hRd, hT⟩
      · have h0j : ((s'.2 : Int) != 0) = true := by simp; omega
        have HBAD := Lib.hid (HAT.out.bad h0)
        generalize hf : s'.2 = f at *
        clear hf h0
        go_wp2_with fail
        go_ret
        rw [HBAD.out]
        exact ⟨none, 0, rfl, ⟨rfl, .inl ⟨rfl, rfl⟩⟩, hRd, hT⟩
end Go.Proofs.Ytbpbokdomdmclaa
