/- The way to the laws of books: ORows to ODevRowR. -/
import Derived.Test.YtfeodppdmbideaaGreatDoorBA18
namespace Go.Proofs.YtfeodppdmbideaaGreatDoor
open Go.RowKit

/-- What a read of a row answers. -/
def RowRead (t : TypeId × Nat) (g : Nat) (w : World) (l : List Node3) (s : St) (e : Ending) (w' : World) : Prop :=
  ∃ A c, e = .returned (.slice A l.length c) ∧ w'.ownsRow w.heap.size 67 3 (.slice A l.length c) l.length (nodesV l) ∧ Rd t w' g s ∧ Touch g w w'
theorem own_touch {w w' : World} {B g sz n : Nat} {e : TypeId} {v : Value} {xs : List Value} (h : w.ownsRow B e sz v n xs) (hb : Touch g w w') (hg : g < B) : w'.ownsRow B e sz v n xs := by
  refine ⟨h.1, h.2.imp id fun ⟨k, cap, cur, ev, hk, hh, h'⟩ => ⟨k, cap, cur, ev, hk, ?_, h'⟩⟩
  have hlt : k < w.heap.size := by
    rcases Nat.lt_or_ge k w.heap.size with h3 | h3
    · exact h3
    · rw [Array.getElem?_eq_none h3] at hh; cases hh
  rw [hb.block k hlt (fun e => by injection e with e; omega)]
  exact hh
/-- Where a row of nodes stands within a read. -/
def ORowAt (n k : Nat) (s0 : St) (acc : List Node3) (s : St) : Prop := acc.length ≤ k ∧ ((s.2 = 0 ∧ orowA n [] s0 = orowA (n - k) acc s) ∨ (s.2 ≠ 0 ∧ orowA n [] s0 = ([], s)))
theorem ORowAt.begin_ (n : Nat) (s : St) (h : s.2 = 0) : ORowAt n 0 s [] s := ⟨Nat.le_refl _, .inl ⟨h, by rw [Nat.sub_zero]⟩⟩
theorem ORowAt.step {n k : Nat} {s0 s : St} {acc : List Node3} (h : ORowAt n k s0 acc s) (hk : k < n) (h0 : s.2 = 0) : ORowAt n (k + 1) s0 (acc ++ [(nodeS s).1]) (nodeS s).2 := by
  refine ⟨by have := h.1; simp; omega, ?_⟩
  rcases h.2 with ⟨_, h1⟩ | ⟨h1, _⟩
  · rw [show n - k = (n - (k + 1)) + 1 by omega, orowA] at h1
    by_cases h2 : (nodeS s).2.2 ≠ 0
    · rw [if_pos h2] at h1
      exact .inr ⟨h2, h1⟩
    · rw [if_neg h2] at h1
      exact .inl ⟨by simpa using h2, h1⟩
  · exact absurd h0 h1
theorem ORowAt.good {n : Nat} {s0 s : St} {acc : List Node3} (h : ORowAt n n s0 acc s) (h0 : s.2 = 0) : orowA n [] s0 = (acc, s) := by
  rcases h.2 with ⟨_, h1⟩ | ⟨h1, _⟩
  · rw [Nat.sub_self] at h1; exact h1
  · exact absurd h0 h1
theorem ORowAt.bad {n k : Nat} {s0 s : St} {acc : List Node3} (h : ORowAt n k s0 acc s) (h0 : s.2 ≠ 0) : orowA n [] s0 = ([], s) := by
  rcases h.2 with ⟨h1, _⟩ | ⟨_, h1⟩
  · exact absurd h1 h0
  · exact h1
theorem Touch.grown_ {g : Nat} {a w w' : World} (h : Touch g a w) {row : Option Nat} (hb : w.grownBy w' row) (hr : ∀ k, row = some k → a.heap.size ≤ k) : Touch g a w' :=
  ⟨hb.os.trans h.os, hb.tape.trans h.tape, hb.output.trans h.output, Nat.le_trans h.size hb.size, fun i hi hne => (hb.block i (Nat.lt_of_lt_of_le hi h.size) (fun e => by have := hr i e.symm; omega)).trans (h.block i hi hne)⟩
theorem nodesV_one_cons (acc : List Node3) (x : Node3) : nodesV (acc ++ [x]) = nodesV acc ++ nodesV [x] := by unfold nodesV; rw [List.flatMap_append]
/-- As it stands at the head of a round that goes on only without an error. -/
def RowGood (n k : Nat) (s0 : St) (acc : List Node3) (s : St) : Prop := ORowAt n k s0 acc s ∧ ((k = n ∧ acc = []) ∨ s.2 = 0)
theorem ORowAt.zero (s : St) : ORowAt 0 0 s [] s := ⟨Nat.le_refl _, by
  by_cases h : s.2 = 0
  · exact .inl ⟨h, rfl⟩
  · exact .inr ⟨h, rfl⟩⟩
theorem nodeS_eq {s sa sb sc : St} {a b c : Nat} (h1 : numS 255 s = (a, sa)) (h2 : numS 1048576 sa = (b, sb)) (h3 : numS 1048576 sb = (c, sc)) : nodeS s = (((a : Int), (b : Int), (c : Int)), sc) := by
  unfold nodeS
  rw [h1]
  simp only
  rw [h2]
  simp only
  rw [h3]
theorem holds_node (w : World) (a b c : Int) (t : TypeId) : Holds (w.alloc (.cells #[.int .i64 a, .int .i64 b, .int .i64 c] t)) (some ⟨w.heap.size, 0, none⟩) (nodesV [(a, b, c)]) := holds_lit w (nodesV [(a, b, c)]) t

end Go.Proofs.YtfeodppdmbideaaGreatDoor
namespace Go.Proofs.YtfeodppdmbideaaGreatDoor
open Go.RowKit

theorem Rd.drew {t : TypeId × Nat} {w : World} {g : Nat} {s : St} (h : Rd t w g s) : Rd t w.drew g s := h
theorem Touch.of_drew {g : Nat} {w w' : World} (h : Touch g w.drew w') : Touch g w w' := ⟨h.os, h.tape, h.output, h.size, h.block⟩
theorem wp_append_node {w : World} {o : Oper} {a : Act} {K : Act → World → Prop} {Q : Exit → Act → World → Prop} (s x : Operand) (t : TypeId)
    (ho : o.op = .call { callee := .builtin .append, args := #[s, x], argTypes := #[28, 28] })
    (v : Value) (n m : Nat) (xs ys : List Value) (hs : a.eval s = v) (hown : w.ownsRow t 67 3 v n xs) (ad : Addr) (c : Nat) (hx : a.eval x = .slice (some ad) m c)
    (hh : Holds w (some ad) ys) (hy : ys.length = m * 3) (hone : ∀ u ∈ ys, u.oneCell' = true) (hbig : n + m ≤ 1000000000) (hbase : t ≤ w.heap.size)
    (h : ∀ A' c' w', w'.ownsRow t 67 3 (.slice A' (n + m) c') (n + m) (xs ++ ys) → w.grownBy w' v.ownBlock → K (a.put o.dst (.slice A' (n + m) c')) w') : o.wp Tryz.prog a w K Q := by
  obtain ⟨i0, hi, hz0, hz1, hz2⟩ := info_parts infoNode
  refine wp_append_own w s x 28 ho t 67 i0 _ 3 24 Tryz.underlying28 hi hz0 hz1 hz2 rfl (by decide) v n _ hs hown ad m c ys hx hy (hh.news rfl) hone (by unfold maxLen; omega) (by omega) hbase ?_
  intro v' w' hown' hg' _
  obtain ⟨A', c', e, _, _⟩ := own_slice hown'
  subst e
  exact h A' c' w' hown' hg'

set_option maxHeartbeats 4000000 in
theorem orowR_any (t : TypeId × Nat) (g : Nat) (s : St) (w : World) (h : Rd t w g s) :
    Calls Tryz.prog 116 #[.pointer (some ⟨g, 0, none⟩)] w (RowRead t g w (rowS s).1 (rowS s).2) := by
  have HN := Lib.hid (onum_any t g 4096 s w h (by omega) (by omega))
  have hnl := numS_le 4096 s
  obtain ⟨n, s1, hn⟩ : ∃ n s1, numS 4096 s = (n, s1) := ⟨_, _, rfl⟩
  rw [hn] at HN hnl
  have HZ : Hid (s1.2 ≠ 0 → n = 0) := fun h1 => by
    have h2 := numS_bad (most := 4096) (s := s)
    rw [hn] at h2
    exact (h2 h1).1
  have hR : rowS s = orowA n [] s1 := by unfold rowS; rw [hn]
  have HR := Lib.hid hR
  rw [hR]
  have hgl := h.lt
  clear hR hn h
  simp only at hnl HN
  go_enter Tryz.func116, Tryz.ntmps116
  go_wp2_with fail
  refine (HN.out).mono ?_
  rintro e w1 ⟨rfl, hR1, hT1⟩
  go_wp2_with fail
  have hst : RowGood n 0 s1 [] s1 := by
    by_cases h0 : s1.2 = 0
    · exact ⟨ORowAt.begin_ n s1 h0, .inr h0⟩
    · obtain rfl : n = 0 := HZ.out h0
      exact ⟨ORowAt.zero s1, .inl ⟨rfl, rfl⟩⟩
  have hs1 := hT1.size
  go_loopw [3, 8] (fun v i wr => ∃ (k : Nat) (acc : List Node3) (s' : St), i = .int .i64 k ∧ k ≤ n ∧ RowGood n k s1 acc s' ∧ wr.ownsRow w.heap.size 67 3 v acc.length (nodesV acc) ∧ Rd t wr g s' ∧ Touch g w wr) (fun _ i _ => n - (intOf i).toNat)
  case atStart => exact ⟨0, [], s1, rfl, Nat.zero_le _, hst, ⟨rfl, .inl ⟨rfl, rfl⟩⟩, hR1, hT1⟩
  case round =>
    clear hst hR1 hT1 hs1
    obtain ⟨k, acc, s', rfl, hk, ⟨hAt, hAt0⟩, hown, hRd, hT⟩ := hrel
    have HAT := Lib.hid hAt
    have HAZ := Lib.hid hAt0
    have hsz := hT.size
    have hal : acc.length ≤ k := hAt.1
    clear hAt hAt0
    by_cases hlt : k < n
    · have h0 : s'.2 = 0 := by
        rcases HAZ.out with h | h
        · omega
        · exact h
      obtain ⟨a, sa, ea⟩ : ∃ a sa, numS 255 s' = (a, sa) := ⟨_, _, rfl⟩
      obtain ⟨b, sb, eb⟩ : ∃ b sb, numS 1048576 sa = (b, sb) := ⟨_, _, rfl⟩
      obtain ⟨c, sc, ec⟩ : ∃ c sc, numS 1048576 sb = (c, sc) := ⟨_, _, rfl⟩
      have HNX := Lib.hid (HAT.out.step hlt h0)
      rw [nodeS_eq ea eb ec] at HNX
      have HA := Lib.hid fun w h => onum_any t g 255 s' w h (by omega) (by omega)
      have HB := Lib.hid fun w h => onum_any t g 1048576 sa w h (by omega) (by omega)
      have HC := Lib.hid fun w h => onum_any t g 1048576 sb w h (by omega) (by omega)
      rw [ea] at HA
      rw [eb] at HB
      rw [ec] at HC
      clear ea eb ec h0
      go_wp2_with fail
      refine region_begin (S := fun _ => True) (by kernel_rfl) (trivial) (fun hHeld => ?_)
      refine region_take 0 ?_ rfl (by kernel_rfl) (by rfl) hHeld ?_ ?_
      rotate_left
      · intro w hSw
        (try dsimp only at hSw)
        go_simp
        try with_reducible rfl
      try simp only [Act.put, List.setIfInBounds_toArray, List.set_cons_zero, List.set_cons_succ]
      refine region_take 1 ?_ rfl (by kernel_rfl) (by rfl) hHeld ?_ ?_
      rotate_left
      · intro w hSw
        (try dsimp only at hSw)
        go_simp
        try with_reducible rfl
      try simp only [Act.put, List.setIfInBounds_toArray, List.set_cons_zero, List.set_cons_succ]
      refine region_take 2 ?_ rfl (by kernel_rfl) (by rfl) hHeld ?_ ?_
      rotate_left
      · intro w hSw
        (try dsimp only at hSw)
        go_simp
        try with_reducible rfl
      try simp only [Act.put, List.setIfInBounds_toArray, List.set_cons_zero, List.set_cons_succ]
      refine region_take 3 ?_ rfl (by kernel_rfl) (by rfl) hHeld ?_ ?_
      rotate_left
      · intro w hSw
        (try dsimp only at hSw)
        go_simp
        try with_reducible rfl
      try simp only [Act.put, List.setIfInBounds_toArray, List.set_cons_zero, List.set_cons_succ]
      refine region_take 5 ?_ rfl (by kernel_rfl) (by rfl) hHeld ?_ ?_
      rotate_left
      · intro w hSw
        (try dsimp only at hSw)
        go_simp
        try with_reducible rfl
      try simp only [Act.put, List.setIfInBounds_toArray, List.set_cons_zero, List.set_cons_succ]
      refine region_take 6 ?_ rfl (by kernel_rfl) (by rfl) hHeld ?_ ?_
      rotate_left
      · intro w hSw
        (try dsimp only at hSw)
        go_simp
        try with_reducible rfl
      try simp only [Act.put, List.setIfInBounds_toArray, List.set_cons_zero, List.set_cons_succ]
      refine region_take 7 ?_ rfl (by kernel_rfl) (by rfl) hHeld ?_ ?_
      rotate_left
      · intro w hSw
        (try dsimp only at hSw)
        go_simp
        try with_reducible rfl
      try simp only [Act.put, List.setIfInBounds_toArray, List.set_cons_zero, List.set_cons_succ]
      refine region_take 9 ?_ rfl (by kernel_rfl) (by rfl) hHeld ?_ ?_
      rotate_left
      · intro w hSw
        (try dsimp only at hSw)
        go_simp
        try with_reducible rfl
      try simp only [Act.put, List.setIfInBounds_toArray, List.set_cons_zero, List.set_cons_succ]
      refine region_take 10 ?_ rfl (by kernel_rfl) (by rfl) hHeld ?_ ?_
      rotate_left
      · intro w hSw
        (try dsimp only at hSw)
        go_simp
        try with_reducible rfl
      try simp only [Act.put, List.setIfInBounds_toArray, List.set_cons_zero, List.set_cons_succ]
      refine region_take 11 ?_ rfl (by kernel_rfl) (by rfl) hHeld ?_ ?_
      rotate_left
      · intro w hSw
        (try dsimp only at hSw)
        go_simp
        try with_reducible rfl
      try simp only [Act.put, List.setIfInBounds_toArray, List.set_cons_zero, List.set_cons_succ]
      refine region_call 4 rfl (by kernel_rfl) (by rfl) (fun K hK => ?_)
      go_simp
      go_at_call 158
      ((with_reducible refine (HA.out _ hRd.drew).mono ?_); rintro e w2 ⟨rfl, hR2, hT2⟩)
      have hT2d := Touch.of_drew hT2
      have hown2 := own_touch hown hT2d hgl
      have hT2' := hT.trans hT2d
      clear hown hT hT2 hT2d
      refine hK.out _ _ (trivial) (fun hHeld => ?_)
      clear hK K
      try simp only [Act.put, List.setIfInBounds_toArray, List.set_cons_zero, List.set_cons_succ]
      refine region_call 8 rfl (by kernel_rfl) (by rfl) (fun K hK => ?_)
      go_simp
      go_at_call 158
      ((with_reducible refine (HB.out _ hR2).mono ?_); rintro e w3 ⟨rfl, hR3, hT3⟩)
      have hown3 := own_touch hown2 hT3 hgl
      have hT3' := hT2'.trans hT3
      clear hown2 hT2' hT3
      refine hK.out _ _ (trivial) (fun hHeld => ?_)
      clear hK K
      try simp only [Act.put, List.setIfInBounds_toArray, List.set_cons_zero, List.set_cons_succ]
      refine region_call 12 rfl (by kernel_rfl) (by rfl) (fun K hK => ?_)
      go_simp
      go_at_call 158
      ((with_reducible refine (HC.out _ hR3).mono ?_); rintro e w4 ⟨rfl, hR4, hT4⟩)
      have hown4 := own_touch hown3 hT4 hgl
      have hT4' := hT3'.trans hT4
      clear hown3 hT3' hT4
      have HOLD := Lib.hid (holds_node w4 a b c 67)
      have HOWN := Lib.hid (hown4.alloc (.cells #[.int .i64 a, .int .i64 b, .int .i64 c] 67))
      have HRD := Lib.hid (hR4.below ((Below.refl _ _).alloc (Nat.le_refl _) (.cells #[.int .i64 a, .int .i64 b, .int .i64 c] 67)))
      have HT := Lib.hid (hT4'.trans (Touch.of_below (g := g) ((Below.refl w4.heap.size w4).alloc (Nat.le_refl _) (.cells #[.int .i64 a, .int .i64 b, .int .i64 c] 67))))
      clear hown4 hR4 hT4'
      refine hK.out _ _ (trivial) (fun hHeld => ?_)
      clear hK K
      try simp only [Act.put, List.setIfInBounds_toArray, List.set_cons_zero, List.set_cons_succ]
      refine region_take 13 ?_ rfl (by kernel_rfl) (by rfl) hHeld ?_ ?_
      rotate_left
      · intro w hSw
        (try dsimp only at hSw)
        go_simp
        try with_reducible rfl
      try simp only [Act.put, List.setIfInBounds_toArray, List.set_cons_zero, List.set_cons_succ]
      refine region_call 14 rfl (by kernel_rfl) (by rfl) (fun K hK => ?_)
      go_simp
      refine hK.out _ _ (trivial) (fun hHeld => ?_)
      clear hK K
      try simp only [Act.put, List.setIfInBounds_toArray, List.set_cons_zero, List.set_cons_succ]
      refine region_call 15 rfl (by kernel_rfl) (by rfl) (fun K hK => ?_)
      refine wp_append_node (.tmp 10) (.tmp 24) _ rfl _ acc.length 1 _ (nodesV [((a : Int), (b : Int), (c : Int))]) rfl HOWN.out ⟨w4.heap.size, 0, none⟩ 1 rfl HOLD.out rfl nodesV_one (by omega) HT.out.size ?_
      intro A5 c5 w5 hown5 hg5
      refine hK.out _ _ (trivial) (fun hHeld => ?_)
      clear hK K
      try simp only [Act.put, List.setIfInBounds_toArray, List.set_cons_zero, List.set_cons_succ]
      refine region_take 16 ?_ rfl (by kernel_rfl) (by rfl) hHeld ?_ ?_
      rotate_left
      · intro w hSw
        (try dsimp only at hSw)
        go_simp
        try with_reducible rfl
      try simp only [Act.put, List.setIfInBounds_toArray, List.set_cons_zero, List.set_cons_succ]
      refine region_done (by kernel_rfl) ?_
      have HB5 : Hid (∀ k, Value.ownBlock u3 = some k → w.heap.size ≤ k) := fun k hk => (HOWN.out.lt k hk).1
      have hRD5 := HRD.out.grown hg5 (fun k hk => by have := HB5.out k hk; omega)
      have hT5 := HT.out.grown_ hg5 HB5.out
      obtain ⟨A7, c7, hw7, hr7⟩ := hRD5
      have d1 : w5.cell? ⟨g, 1, none⟩ = some (.int .i64 (sc.2 : Int)) := by rw [hw7.cell]; rfl
      have hRD6 : Rd t w5 g sc := ⟨A7, c7, hw7, hr7⟩
      have HE := Lib.hid fun h => oerr_any t g sc w5 h
      clear hg5 hw7 hr7
      by_cases hz : sc.2 = 0
      · have HZ2 : Hid (sc.2 = 0) := hz
        rw [hz] at HE d1
        clear hz
        go_wp2_with fail
        refine (HE.out hRD6).mono ?_
        rintro e w' ⟨rfl, rfl⟩
        go_wp2_with fail
        go_roundw
        case rel => exact ⟨k + 1, acc ++ [((a : Int), (b : Int), (c : Int))], sc, by go_num, by omega, ⟨HNX.out, .inr HZ2.out⟩, by rw [nodesV_one_cons]; simpa using hown5, hRD6, hT5⟩
        case measure => simp [intOf] <;> omega
      · have hzj : ((sc.2 : Int) != 0) = true := by simp; omega
        have HBAD := Lib.hid (HNX.out.bad hz)
        clear hz
        go_wp2_with fail
        refine (HE.out hRD6).mono ?_
        rintro e w' ⟨rfl, rfl⟩
        go_wp2_with fail
        go_ret
        rw [HBAD.out]
        exact ⟨none, 0, rfl, ⟨rfl, .inl ⟨rfl, rfl⟩⟩, hRD6, hT5⟩
    · obtain rfl : k = n := by omega
      by_cases h0 : s'.2 = 0
      · have HG := Lib.hid (HAT.out.good h0)
        obtain ⟨A3, c3, rfl, hs3, _⟩ := own_slice hown
        clear h0
        go_wp2_with fail
        go_ret
        rw [HG.out]
        exact ⟨A3, c3, rfl, hown, hRd, hT⟩
      · have HBAD := Lib.hid (HAT.out.bad h0)
        have hacc : acc = [] := by
          rcases HAZ.out with h | h
          · exact h.2
          · exact absurd h h0
        subst hacc
        obtain ⟨A3, c3, rfl, hs3, _⟩ := own_slice hown
        clear h0
        go_wp2_with fail
        go_ret
        rw [HBAD.out]
        exact ⟨A3, c3, rfl, hown, hRd, hT⟩
end Go.Proofs.YtfeodppdmbideaaGreatDoor
