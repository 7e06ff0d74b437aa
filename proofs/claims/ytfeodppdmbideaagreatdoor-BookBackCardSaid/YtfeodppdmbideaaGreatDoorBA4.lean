/- The way to the laws of books: TWalkNo to TWalkNo. -/
import Derived.Test.YtfeodppdmbideaaGreatDoorBA3
namespace Go.Proofs.YtfeodppdmbideaaGreatDoor
open Go.RowKit

/-- The panic of a fault. -/
def faultP (e : Int) : List PanicEntry := [{ v := .iface 201 (.int .i64 e), recovered := false }]
theorem pass_any (x y : Value) (w : World) : Calls Tryz.prog 122 #[x, y] w fun e w' => e = .returned (.tuple #[]) ∧ w = w' := by
  go_enter Tryz.func122, Tryz.ntmps122
  go_wp2_with fail
  go_end0
  exact ⟨rfl, rfl⟩
theorem walk_neg (A : Option Addr) (n c : Nat) (at0 : Int) (V : Value) (w : World) (h : at0 < 0) :
    Calls Tryz.prog 121 #[.slice A n c, .int .i64 at0, V] w fun e w' => e = .panicked (faultP 8) ∧ Below w.heap.size w w' := by
  go_enter Tryz.func121, Tryz.ntmps121
  go_wp2_with fail
  exact ⟨rfl, rfl, Below.refl _ _⟩
/-- The state of a walk that comes to nothing. -/
structure NoAtw (w : World) (t : List Node3) (j : Nat) (todo : List Part) (hd : Node3) (v : Value) (wr : World) : Prop where
  rest : W (t.drop j) hd todo = none
  k : ∀ p ∈ todo, p.k ≤ 4 * j
  own : OwnP wr v todo.reverse
  len : todo.length ≤ 64 * (j + 1)
  ahead : Whole wr (w.heap.size + 1) #[.int .i64 hd.1, .int .i64 hd.2.1, .int .i64 hd.2.2] 67
  only : Below w.heap.size w wr
  block : ∀ g, v.ownBlock = some g → w.heap.size ≤ g ∧ g ≠ w.heap.size + 1
theorem follow_len {n : Node3} {k : Nat} (hn : holdsN n) : (follow n k).length ≤ 20 := by
  unfold follow
  repeat' split
  all_goals first
    | (simp only [List.length_replicate, List.length_cons, List.length_nil]; unfold holdsN at hn; omega)
    | (rw [fix_len]; unfold holdsN at hn; omega)
    | simp
theorem walkno_step {w wr w2 w4 w5 : World} {t : List Node3} {j : Nat} {todo : List Part} {p : Part} {hd n : Node3} {v v' v'' : Value} (h : NoAtw w t j (p :: todo) hd v wr) (hn : holdsN n) (hw : W (t.drop (j + 1)) n (follow n p.k ++ todo) = none)
    (h1 : Below wr.heap.size wr w2) (h5 : Only (fun k => k = w.heap.size + 1) w2 w4) (h6 : Whole w4 (w.heap.size + 1) #[.int .i64 n.1, .int .i64 n.2.1, .int .i64 n.2.2] 67)
    (h7 : ∀ g, v'.ownBlock = some g → v.ownBlock = some g) (h8 : OwnP w5 v'' (todo.reverse ++ (follow n p.k).reverse)) (h9 : Moves w4 v' w5 v'') : NoAtw w t (j + 1) (follow n p.k ++ todo) n v'' w5 := by
  have ga := h.ahead.lt
  have gw := h.only.size
  have g1 := h1.size
  have g3 := h5.size
  refine ⟨hw, ?_, ?_, ?_, ?_, ?_, ?_⟩
  · intro q hq
    rcases List.mem_append.1 hq with hq | hq
    · have := follow_k hn q hq
      have := h.k p (by simp)
      omega
    · have := h.k q (List.mem_cons_of_mem _ hq); omega
  · rw [List.reverse_append]; exact h8
  · have h10 := follow_len (k := p.k) hn
    have h11 := h.len
    simp only [List.length_append, List.length_cons] at h11 ⊢
    omega
  · exact h6.only h9.only fun hb => (h.block _ (h7 _ hb)).2 rfl
  · have c2 := (below_step h.only h1).trans (h5.below (B := w.heap.size) (by omega) (fun k hk e => by omega))
    exact c2.trans (h9.only.below (by omega) fun k hk hb => by have := (h.block k (h7 k hb)).1; omega)
  · intro g hg
    rcases h9.next g hg with h' | h'
    · exact h.block g (h7 g h')
    · exact ⟨by omega, by omega⟩
set_option maxRecDepth 100000 in
set_option maxHeartbeats 8000000 in
theorem walk_none (A : Option Addr) (n c : Nat) (t : List Node3) (at0 : Nat) (h0 : Node3) (w : World)
    (hn : t.length = n) (hnb : n ≤ 100000) (hA : Holds w A (nodesV t)) (hL : Lim w) (hat : at0 ≤ 9223372036854775807) (hW : W (t.drop at0) h0 [⟨0, 0⟩] = none) :
    Calls Tryz.prog 121 #[.slice A n c, .int .i64 (at0 : Int), .func (.func 122) #[] #[]] w fun e w' => e = .panicked (faultP 8) ∧ Below w.heap.size w w' := by
  have hmk := make_run
  have t0 : ¬ (at0 : Int) < 0 := by omega
  have HW := Lib.hid hW
  have HA := Lib.hid hA
  have HL := Lib.hid hL
  have HN := Lib.hid hn
  clear hW hA hL hn
  go_enter Tryz.func121, Tryz.ntmps121
  go_wp2_with fail
  go_loopw [1, 7] (fun at' v' wr => ∃ (j : Nat) (todo : List Part) (hd : Node3), at' = .int .i64 (j : Int) ∧ j ≤ 9223372036854775807 ∧ NoAtw w t j todo hd v' wr) (fun at' _ _ => n + 1 - (intOf at').toNat)
  case atStart =>
    refine ⟨at0, [⟨0, 0⟩], (0, 0, 0), rfl, hat, ?_, by simp, (make_parts w).alloc _, by simp; omega, ?_, ((Below.refl _ _).alloc (Nat.le_refl _) _).alloc (by simp) _, fun g hg => ?_⟩
    · rw [← W_ahead h0 (0, 0, 0) (by simp [NoAt]) (by simp)]; exact HW.out
    · have := Whole.new (w.alloc (.cells zeros128 181)) #[.int .i64 0, .int .i64 0, .int .i64 0] 67
      rwa [World.size_alloc] at this
    · cases hg
      exact ⟨Nat.le_refl _, by simp⟩
  case round =>
    obtain ⟨j, todo, hd, rfl, hjb, hat'⟩ := hrel
    cases todo with
    | nil => exact absurd hat'.rest (by rw [W_nil]; simp)
    | cons p todo =>
      obtain ⟨m, hm⟩ : ∃ m, m = todo.length := ⟨_, rfl⟩
      have hown := hat'.own
      unfold OwnP at hown
      have hp1 : partsV [p] = partV p := by simp [partsV]
      rw [List.length_reverse, List.length_cons, ← hm, List.reverse_cons, partsV_append, hp1] at hown
      obtain ⟨Av, cv, rfl, hsl, hAv⟩ := own_slice hown
      obtain ⟨gv, ov, rfl, hgv, hcv⟩ := (own_holds hown).at_ (by simp [partV])
      obtain rfl : ov = 0 := (hAv _ _ rfl).2.2
      have hpl : (partsV todo.reverse).length = m * 2 := by rw [partsV_len, List.length_reverse, hm]
      have p0 := hcv (m * 2) (.int .i64 p.op) (by rw [List.getElem?_append_right (by omega), hpl, Nat.sub_self]; rfl)
      have p1 := hcv (m * 2 + 1) (.int .i64 (p.k : Int)) (by rw [List.getElem?_append_right (by omega), hpl, Nat.add_sub_cancel_left]; rfl)
      rw [Nat.zero_add] at p0 p1
      have a0 := hat'.ahead.cell 0
      have a1 := hat'.ahead.cell 1
      have a2 := hat'.ahead.cell 2
      have hga := hat'.ahead.lt
      have hml : m < 9223372036854775807 := by have := hsl.1; have := hsl.2.1; omega
      obtain ⟨po, pk⟩ := p
      obtain ⟨ho, hA1, hB1⟩ := hd
      have HAT := Lib.hid hat'
      have HOWN := Lib.hid hown
      have HM := Lib.hid hm
      clear hat' hown hm hcv hpl hp1 hAv
      replace a0 : wr.cell? ⟨w.heap.size + 1, 0, none⟩ = some (.int .i64 ho) := a0
      replace a1 : wr.cell? ⟨w.heap.size + 1, 1, none⟩ = some (.int .i64 hA1) := a1
      replace a2 : wr.cell? ⟨w.heap.size + 1, 2, none⟩ = some (.int .i64 hB1) := a2
      simp only at p0 p1
      by_cases hmn : (n : Int) - (j : Int) < (m : Int) + 1
      · clear a0 a1 a2
        go_wp2_with fail
        have hwr : IntKind.i64.wrap ((n : Int) - (j : Int)) = (n : Int) - (j : Int) := IntWalk.i64_in _ (by omega)
        have hmd : decide ((n : Int) - (j : Int) < (m : Int) + 1) = true := decide_eq_true (by omega)
        refine region_begin (S := fun _ => True) (by kernel_rfl) (trivial) (fun hHeld => ?_)
        refine region_take 0 ?_ rfl (by kernel_rfl) (by rfl) hHeld ?_ ?_
        rotate_left
        · intro w hSw
          (try dsimp only at hSw)
          go_simp
          try with_reducible rfl
        try simp only [Act.put, List.setIfInBounds_toArray, List.set_cons_zero, List.set_cons_succ]
        refine region_take 1 ?_ rfl (by kernel_rfl) (by rfl) hHeld ?_ ?_
        rotate_left
        · intro w hSw
          (try dsimp only at hSw)
          go_simp
          try with_reducible rfl
        try simp only [Act.put, List.setIfInBounds_toArray, List.set_cons_zero, List.set_cons_succ]
        refine region_take 2 ?_ rfl (by kernel_rfl) (by rfl) hHeld ?_ ?_
        rotate_left
        · intro w hSw
          (try dsimp only at hSw)
          go_simp
          try with_reducible rfl
        try simp only [Act.put, List.setIfInBounds_toArray, List.set_cons_zero, List.set_cons_succ]
        refine region_take 3 ?_ rfl (by kernel_rfl) (by rfl) hHeld ?_ ?_
        rotate_left
        · intro w hSw
          (try dsimp only at hSw)
          go_simp
          try with_reducible rfl
        try simp only [Act.put, List.setIfInBounds_toArray, List.set_cons_zero, List.set_cons_succ]
        refine region_take 4 ?_ rfl (by kernel_rfl) (by rfl) hHeld ?_ ?_
        rotate_left
        · intro w hSw
          (try dsimp only at hSw)
          go_simp
          try with_reducible rfl
        try simp only [Act.put, List.setIfInBounds_toArray, List.set_cons_zero, List.set_cons_succ]
        refine region_take 5 ?_ rfl (by kernel_rfl) (by rfl) hHeld ?_ ?_
        rotate_left
        · intro w hSw
          (try dsimp only at hSw)
          go_simp
          try with_reducible rfl
        try simp only [Act.put, List.setIfInBounds_toArray, List.set_cons_zero, List.set_cons_succ]
        refine region_take 6 ?_ rfl (by kernel_rfl) (by rfl) hHeld ?_ ?_
        rotate_left
        · intro w hSw
          (try dsimp only at hSw)
          go_simp
          try with_reducible rfl
        try simp only [Act.put, List.setIfInBounds_toArray, List.set_cons_zero, List.set_cons_succ]
        refine region_take 7 ?_ rfl (by kernel_rfl) (by rfl) hHeld ?_ ?_
        rotate_left
        · intro w hSw
          (try dsimp only at hSw)
          go_simp
          try with_reducible rfl
        try simp only [Act.put, List.setIfInBounds_toArray, List.set_cons_zero, List.set_cons_succ]
        refine region_skip 8 rfl (by kernel_rfl) (by rfl) hHeld ?_
        try simp only [Act.put, List.setIfInBounds_toArray, List.set_cons_zero, List.set_cons_succ]
        refine region_skip 9 rfl (by kernel_rfl) (by rfl) hHeld ?_
        try simp only [Act.put, List.setIfInBounds_toArray, List.set_cons_zero, List.set_cons_succ]
        refine region_skip 10 rfl (by kernel_rfl) (by rfl) hHeld ?_
        try simp only [Act.put, List.setIfInBounds_toArray, List.set_cons_zero, List.set_cons_succ]
        refine region_skip 11 rfl (by kernel_rfl) (by rfl) hHeld ?_
        try simp only [Act.put, List.setIfInBounds_toArray, List.set_cons_zero, List.set_cons_succ]
        refine region_skip 12 rfl (by kernel_rfl) (by rfl) hHeld ?_
        try simp only [Act.put, List.setIfInBounds_toArray, List.set_cons_zero, List.set_cons_succ]
        refine region_skip 13 rfl (by kernel_rfl) (by rfl) hHeld ?_
        try simp only [Act.put, List.setIfInBounds_toArray, List.set_cons_zero, List.set_cons_succ]
        refine region_skip 14 rfl (by kernel_rfl) (by rfl) hHeld ?_
        try simp only [Act.put, List.setIfInBounds_toArray, List.set_cons_zero, List.set_cons_succ]
        refine region_skip 15 rfl (by kernel_rfl) (by rfl) hHeld ?_
        try simp only [Act.put, List.setIfInBounds_toArray, List.set_cons_zero, List.set_cons_succ]
        refine region_take 16 ?_ rfl (by kernel_rfl) (by rfl) hHeld ?_ ?_
        rotate_left
        · intro w hSw
          (try dsimp only at hSw)
          go_simp
          try with_reducible rfl
        try simp only [Act.put, List.setIfInBounds_toArray, List.set_cons_zero, List.set_cons_succ]
        refine region_done (by kernel_rfl) ?_
        clear hwr hmd
        have hbf := below_drewN (below_alloc HAT.out.only (.cells #[.int .i64 po, .int .i64 (pk : Int)] 181)) 1
        have HBF := Lib.hid hbf
        clear hbf
        go_wp2_with fail
        exact ⟨rfl, rfl, HBF.out⟩
      · have hjn : j < n := by omega
        have hj : j < t.length := by rw [HN.out]; exact hjn
        have hAr : Holds wr A (nodesV t) := HA.out.below HAT.out.only
        obtain ⟨gA, oA, rfl, hgA, hcA⟩ := hAr.at_ (by rw [nodesV_len]; omega)
        have r0 := hcA (j * 3) _ (nodesV_get0 hj)
        have r1 := hcA (j * 3 + 1) _ (nodesV_get1 hj)
        have r2 := hcA (j * 3 + 2) _ (nodesV_get2 hj)
        rw [← Nat.add_assoc] at r1 r2
        have hdr : t.drop j = t[j] :: t.drop (j + 1) := List.drop_eq_getElem_cons hj
        obtain ⟨n1, htj⟩ : ∃ n1, n1 = t[j] := ⟨_, rfl⟩
        rw [← htj] at r0 r1 r2 hdr
        obtain ⟨o, A1, B1⟩ := n1
        have HDR := Lib.hid hdr
        clear htj hdr hcA hAr
        simp only at r0 r1 r2
        have nx := Whole.new wr #[.int .i64 po, .int .i64 (pk : Int)] 181
        have n0 := nx.cell 0
        have n1 := nx.cell 1
        have q0 := (World.cell?_alloc_lt wr (.cells #[.int .i64 po, .int .i64 (pk : Int)] 181) ⟨gA, oA + j * 3, none⟩ hgA).trans r0
        have q1 := (World.cell?_alloc_lt wr (.cells #[.int .i64 po, .int .i64 (pk : Int)] 181) ⟨gA, oA + j * 3 + 1, none⟩ hgA).trans r1
        have q2 := (World.cell?_alloc_lt wr (.cells #[.int .i64 po, .int .i64 (pk : Int)] 181) ⟨gA, oA + j * 3 + 2, none⟩ hgA).trans r2
        have b0 := (World.cell?_alloc_lt wr (.cells #[.int .i64 po, .int .i64 (pk : Int)] 181) ⟨w.heap.size + 1, 0, none⟩ hga).trans a0
        have b1 := (World.cell?_alloc_lt wr (.cells #[.int .i64 po, .int .i64 (pk : Int)] 181) ⟨w.heap.size + 1, 1, none⟩ hga).trans a1
        have b2 := (World.cell?_alloc_lt wr (.cells #[.int .i64 po, .int .i64 (pk : Int)] 181) ⟨w.heap.size + 1, 2, none⟩ hga).trans a2
        clear r0 r1 r2 a0 a1 a2
        have hzb : wr.heap.size < (wr.alloc (.cells #[.int .i64 po, .int .i64 (pk : Int)] 181)).heap.size := by simp
        have hgA' : gA < (wr.alloc (.cells #[.int .i64 po, .int .i64 (pk : Int)] 181)).heap.size := by simp; omega
        have hga' : w.heap.size + 1 < (wr.alloc (.cells #[.int .i64 po, .int .i64 (pk : Int)] 181)).heap.size := by simp; omega
        have HKS := Lib.hid (show ∀ w', Below (wr.alloc (.cells #[.int .i64 po, .int .i64 (pk : Int)] 181)).heap.size (wr.alloc (.cells #[.int .i64 po, .int .i64 (pk : Int)] 181)) w' → (fun w' => (w'.cell? ⟨wr.heap.size, 0, none⟩ = some (.int .i64 po) ∧ w'.cell? ⟨wr.heap.size, 1, none⟩ = some (.int .i64 (pk : Int)) ∧ w'.cell? ⟨gA, oA + j * 3, none⟩ = some (.int .i64 o) ∧ w'.cell? ⟨gA, oA + j * 3 + 1, none⟩ = some (.int .i64 A1) ∧ w'.cell? ⟨gA, oA + j * 3 + 2, none⟩ = some (.int .i64 B1) ∧ w'.cell? ⟨w.heap.size + 1, 0, none⟩ = some (.int .i64 ho) ∧ w'.cell? ⟨w.heap.size + 1, 1, none⟩ = some (.int .i64 hA1) ∧ w'.cell? ⟨w.heap.size + 1, 2, none⟩ = some (.int .i64 hB1)) ∧ Below (wr.alloc (.cells #[.int .i64 po, .int .i64 (pk : Int)] 181)).heap.size (wr.alloc (.cells #[.int .i64 po, .int .i64 (pk : Int)] 181)) w') w' from fun w' g => ⟨⟨(g.cell (p := ⟨wr.heap.size, 0, none⟩) hzb).trans n0, (g.cell (p := ⟨wr.heap.size, 1, none⟩) hzb).trans n1, (g.cell (p := ⟨gA, oA + j * 3, none⟩) hgA').trans q0, (g.cell (p := ⟨gA, oA + j * 3 + 1, none⟩) hgA').trans q1, (g.cell (p := ⟨gA, oA + j * 3 + 2, none⟩) hgA').trans q2, (g.cell (p := ⟨w.heap.size + 1, 0, none⟩) hga').trans b0, (g.cell (p := ⟨w.heap.size + 1, 1, none⟩) hga').trans b1, (g.cell (p := ⟨w.heap.size + 1, 2, none⟩) hga').trans b2⟩, g⟩)
        have HLW := Lib.hid (show ∀ w', Below (wr.alloc (.cells #[.int .i64 po, .int .i64 (pk : Int)] 181)).heap.size (wr.alloc (.cells #[.int .i64 po, .int .i64 (pk : Int)] 181)) w' → Lim w' from fun w' g => Lim.next (Lim.next (HL.out.next HAT.out.only) ((Below.refl _ _).alloc (Nat.le_refl _) _)) g)
        obtain ⟨bg, hbg⟩ : ∃ bg, begB po (o, A1, B1) (ho, hA1, hB1) = bg := ⟨_, rfl⟩
        have BG := Lib.hid (show ∀ w, Lim w → Calls Tryz.prog 168 #[partA ⟨po, pk⟩, nodeA (o, A1, B1), nodeA (ho, hA1, hB1)] w fun e w' => e = .returned (.bool bg) ∧ Below w.heap.size w w' from fun w hL => by
          have := begins_any ⟨po, pk⟩ (o, A1, B1) (ho, hA1, hB1) w hL
          rw [hbg] at this
          exact this)
        have HBG := Lib.hid hbg
        clear n0 n1 q0 q1 q2 b0 b1 b2 nx hbg
        cases bg with
        | false =>
          go_wp2_with fail
          have hwr : IntKind.i64.wrap ((n : Int) - (j : Int)) = (n : Int) - (j : Int) := IntWalk.i64_in _ (by omega)
          have hmd : decide ((n : Int) - (j : Int) < (m : Int) + 1) = false := decide_eq_false (by omega)
          refine region_begin (S := fun w' => (w'.cell? ⟨wr.heap.size, 0, none⟩ = some (.int .i64 po) ∧ w'.cell? ⟨wr.heap.size, 1, none⟩ = some (.int .i64 (pk : Int)) ∧ w'.cell? ⟨gA, oA + j * 3, none⟩ = some (.int .i64 o) ∧ w'.cell? ⟨gA, oA + j * 3 + 1, none⟩ = some (.int .i64 A1) ∧ w'.cell? ⟨gA, oA + j * 3 + 2, none⟩ = some (.int .i64 B1) ∧ w'.cell? ⟨w.heap.size + 1, 0, none⟩ = some (.int .i64 ho) ∧ w'.cell? ⟨w.heap.size + 1, 1, none⟩ = some (.int .i64 hA1) ∧ w'.cell? ⟨w.heap.size + 1, 2, none⟩ = some (.int .i64 hB1)) ∧ Below (wr.alloc (.cells #[.int .i64 po, .int .i64 (pk : Int)] 181)).heap.size (wr.alloc (.cells #[.int .i64 po, .int .i64 (pk : Int)] 181)) w') (by kernel_rfl) (HKS.out _ (below_drewN (Below.refl _ _) 1)) (fun hHeld => ?_)
          refine region_take 0 ?_ rfl (by kernel_rfl) (by rfl) hHeld ?_ ?_
          rotate_left
          · intro w hSw
            (try dsimp only at hSw)
            go_simp
            try with_reducible rfl
          try simp only [Act.put, List.setIfInBounds_toArray, List.set_cons_zero, List.set_cons_succ]
          refine region_take 1 ?_ rfl (by kernel_rfl) (by rfl) hHeld ?_ ?_
          rotate_left
          · intro w hSw
            (try dsimp only at hSw)
            go_simp
            try with_reducible rfl
          try simp only [Act.put, List.setIfInBounds_toArray, List.set_cons_zero, List.set_cons_succ]
          refine region_take 2 ?_ rfl (by kernel_rfl) (by rfl) hHeld ?_ ?_
          rotate_left
          · intro w hSw
            (try dsimp only at hSw)
            go_simp
            try with_reducible rfl
          try simp only [Act.put, List.setIfInBounds_toArray, List.set_cons_zero, List.set_cons_succ]
          refine region_take 3 ?_ rfl (by kernel_rfl) (by rfl) hHeld ?_ ?_
          rotate_left
          · intro w hSw
            (try dsimp only at hSw)
            go_simp
            try with_reducible rfl
          try simp only [Act.put, List.setIfInBounds_toArray, List.set_cons_zero, List.set_cons_succ]
          refine region_take 4 ?_ rfl (by kernel_rfl) (by rfl) hHeld ?_ ?_
          rotate_left
          · intro w hSw
            (try dsimp only at hSw)
            go_simp
            try with_reducible rfl
          try simp only [Act.put, List.setIfInBounds_toArray, List.set_cons_zero, List.set_cons_succ]
          refine region_take 5 ?_ rfl (by kernel_rfl) (by rfl) hHeld ?_ ?_
          rotate_left
          · intro w hSw
            (try dsimp only at hSw)
            go_simp
            try with_reducible rfl
          try simp only [Act.put, List.setIfInBounds_toArray, List.set_cons_zero, List.set_cons_succ]
          refine region_take 6 ?_ rfl (by kernel_rfl) (by rfl) hHeld ?_ ?_
          rotate_left
          · intro w hSw
            (try dsimp only at hSw)
            go_simp
            try with_reducible rfl
          try simp only [Act.put, List.setIfInBounds_toArray, List.set_cons_zero, List.set_cons_succ]
          refine region_take 7 ?_ rfl (by kernel_rfl) (by rfl) hHeld ?_ ?_
          rotate_left
          · intro w hSw
            (try dsimp only at hSw)
            go_simp
            try with_reducible rfl
          try simp only [Act.put, List.setIfInBounds_toArray, List.set_cons_zero, List.set_cons_succ]
          refine region_take 8 ?_ rfl (by kernel_rfl) (by rfl) hHeld ?_ ?_
          rotate_left
          · intro w hSw
            (try dsimp only at hSw)
            go_simp
            try with_reducible rfl
          try simp only [Act.put, List.setIfInBounds_toArray, List.set_cons_zero, List.set_cons_succ]
          refine region_take 9 ?_ rfl (by kernel_rfl) (by rfl) hHeld ?_ ?_
          rotate_left
          · intro w hSw
            (try dsimp only at hSw)
            go_simp
            try with_reducible rfl
          try simp only [Act.put, List.setIfInBounds_toArray, List.set_cons_zero, List.set_cons_succ]
          refine region_take 10 ?_ rfl (by kernel_rfl) (by rfl) hHeld ?_ ?_
          rotate_left
          · intro w hSw
            (try dsimp only at hSw)
            go_simp
            try with_reducible rfl
          try simp only [Act.put, List.setIfInBounds_toArray, List.set_cons_zero, List.set_cons_succ]
          refine region_take 11 ?_ rfl (by kernel_rfl) (by rfl) hHeld ?_ ?_
          rotate_left
          · intro w hSw
            (try dsimp only at hSw)
            go_simp
            try with_reducible rfl
          try simp only [Act.put, List.setIfInBounds_toArray, List.set_cons_zero, List.set_cons_succ]
          refine region_take 12 ?_ rfl (by kernel_rfl) (by rfl) hHeld ?_ ?_
          rotate_left
          · intro w hSw
            (try dsimp only at hSw)
            go_simp
            try with_reducible rfl
          try simp only [Act.put, List.setIfInBounds_toArray, List.set_cons_zero, List.set_cons_succ]
          refine region_take 13 ?_ rfl (by kernel_rfl) (by rfl) hHeld ?_ ?_
          rotate_left
          · intro w hSw
            (try dsimp only at hSw)
            go_simp
            try with_reducible rfl
          try simp only [Act.put, List.setIfInBounds_toArray, List.set_cons_zero, List.set_cons_succ]
          refine region_call 14 rfl (by kernel_rfl) (by rfl) (fun K hK => ?_)
          go_simp
          go_at_call 168
          refine (BG.out _ (HLW.out _ hHeld.2)).mono ?_
          rintro e w2 ⟨rfl, g2⟩
          refine hK.out _ _ (HKS.out _ (below_step hHeld.2 g2)) (fun hHeld => ?_)
          clear hK K
          try simp only [Act.put, List.setIfInBounds_toArray, List.set_cons_zero, List.set_cons_succ]
          refine region_take 15 ?_ rfl (by kernel_rfl) (by rfl) hHeld ?_ ?_
          rotate_left
          · intro w hSw
            (try dsimp only at hSw)
            go_simp
            try with_reducible rfl
          try simp only [Act.put, List.setIfInBounds_toArray, List.set_cons_zero, List.set_cons_succ]
          refine region_take 16 ?_ rfl (by kernel_rfl) (by rfl) hHeld ?_ ?_
          rotate_left
          · intro w hSw
            (try dsimp only at hSw)
            go_simp
            try with_reducible rfl
          try simp only [Act.put, List.setIfInBounds_toArray, List.set_cons_zero, List.set_cons_succ]
          refine region_done (by kernel_rfl) ?_
          have hbf := below_step (below_alloc HAT.out.only _) hHeld.2
          have HBF := Lib.hid hbf
          clear hwr hmd hHeld hbf
          go_wp2_with fail
          exact ⟨rfl, rfl, HBF.out⟩
        | true =>
          have hhn : holdsN (o, A1, B1) := begB_holds HBG.out
          have hwn : W (t.drop (j + 1)) (o, A1, B1) (follow (o, A1, B1) pk ++ todo) = none := by
            have h := HAT.out.rest
            rw [HDR.out, W_yes (p := ⟨po, pk⟩) HBG.out] at h
            simpa using h
          have HHN := Lib.hid hhn
          have HWN := Lib.hid hwn
          clear hhn hwn
          go_wp2_with fail
          have hwr : IntKind.i64.wrap ((n : Int) - (j : Int)) = (n : Int) - (j : Int) := IntWalk.i64_in _ (by omega)
          have hmd : decide ((n : Int) - (j : Int) < (m : Int) + 1) = false := decide_eq_false (by omega)
          refine region_begin (S := fun w' => (w'.cell? ⟨wr.heap.size, 0, none⟩ = some (.int .i64 po) ∧ w'.cell? ⟨wr.heap.size, 1, none⟩ = some (.int .i64 (pk : Int)) ∧ w'.cell? ⟨gA, oA + j * 3, none⟩ = some (.int .i64 o) ∧ w'.cell? ⟨gA, oA + j * 3 + 1, none⟩ = some (.int .i64 A1) ∧ w'.cell? ⟨gA, oA + j * 3 + 2, none⟩ = some (.int .i64 B1) ∧ w'.cell? ⟨w.heap.size + 1, 0, none⟩ = some (.int .i64 ho) ∧ w'.cell? ⟨w.heap.size + 1, 1, none⟩ = some (.int .i64 hA1) ∧ w'.cell? ⟨w.heap.size + 1, 2, none⟩ = some (.int .i64 hB1)) ∧ Below (wr.alloc (.cells #[.int .i64 po, .int .i64 (pk : Int)] 181)).heap.size (wr.alloc (.cells #[.int .i64 po, .int .i64 (pk : Int)] 181)) w') (by kernel_rfl) (HKS.out _ (below_drewN (Below.refl _ _) 1)) (fun hHeld => ?_)
          refine region_take 0 ?_ rfl (by kernel_rfl) (by rfl) hHeld ?_ ?_
          rotate_left
          · intro w hSw
            (try dsimp only at hSw)
            go_simp
            try with_reducible rfl
          try simp only [Act.put, List.setIfInBounds_toArray, List.set_cons_zero, List.set_cons_succ]
          refine region_take 1 ?_ rfl (by kernel_rfl) (by rfl) hHeld ?_ ?_
          rotate_left
          · intro w hSw
            (try dsimp only at hSw)
            go_simp
            try with_reducible rfl
          try simp only [Act.put, List.setIfInBounds_toArray, List.set_cons_zero, List.set_cons_succ]
          refine region_take 2 ?_ rfl (by kernel_rfl) (by rfl) hHeld ?_ ?_
          rotate_left
          · intro w hSw
            (try dsimp only at hSw)
            go_simp
            try with_reducible rfl
          try simp only [Act.put, List.setIfInBounds_toArray, List.set_cons_zero, List.set_cons_succ]
          refine region_take 3 ?_ rfl (by kernel_rfl) (by rfl) hHeld ?_ ?_
          rotate_left
          · intro w hSw
            (try dsimp only at hSw)
            go_simp
            try with_reducible rfl
          try simp only [Act.put, List.setIfInBounds_toArray, List.set_cons_zero, List.set_cons_succ]
          refine region_take 4 ?_ rfl (by kernel_rfl) (by rfl) hHeld ?_ ?_
          rotate_left
          · intro w hSw
            (try dsimp only at hSw)
            go_simp
            try with_reducible rfl
          try simp only [Act.put, List.setIfInBounds_toArray, List.set_cons_zero, List.set_cons_succ]
          refine region_take 5 ?_ rfl (by kernel_rfl) (by rfl) hHeld ?_ ?_
          rotate_left
          · intro w hSw
            (try dsimp only at hSw)
            go_simp
            try with_reducible rfl
          try simp only [Act.put, List.setIfInBounds_toArray, List.set_cons_zero, List.set_cons_succ]
          refine region_take 6 ?_ rfl (by kernel_rfl) (by rfl) hHeld ?_ ?_
          rotate_left
          · intro w hSw
            (try dsimp only at hSw)
            go_simp
            try with_reducible rfl
          try simp only [Act.put, List.setIfInBounds_toArray, List.set_cons_zero, List.set_cons_succ]
          refine region_take 7 ?_ rfl (by kernel_rfl) (by rfl) hHeld ?_ ?_
          rotate_left
          · intro w hSw
            (try dsimp only at hSw)
            go_simp
            try with_reducible rfl
          try simp only [Act.put, List.setIfInBounds_toArray, List.set_cons_zero, List.set_cons_succ]
          refine region_take 8 ?_ rfl (by kernel_rfl) (by rfl) hHeld ?_ ?_
          rotate_left
          · intro w hSw
            (try dsimp only at hSw)
            go_simp
            try with_reducible rfl
          try simp only [Act.put, List.setIfInBounds_toArray, List.set_cons_zero, List.set_cons_succ]
          refine region_take 9 ?_ rfl (by kernel_rfl) (by rfl) hHeld ?_ ?_
          rotate_left
          · intro w hSw
            (try dsimp only at hSw)
            go_simp
            try with_reducible rfl
          try simp only [Act.put, List.setIfInBounds_toArray, List.set_cons_zero, List.set_cons_succ]
          refine region_take 10 ?_ rfl (by kernel_rfl) (by rfl) hHeld ?_ ?_
          rotate_left
          · intro w hSw
            (try dsimp only at hSw)
            go_simp
            try with_reducible rfl
          try simp only [Act.put, List.setIfInBounds_toArray, List.set_cons_zero, List.set_cons_succ]
          refine region_take 11 ?_ rfl (by kernel_rfl) (by rfl) hHeld ?_ ?_
          rotate_left
          · intro w hSw
            (try dsimp only at hSw)
            go_simp
            try with_reducible rfl
          try simp only [Act.put, List.setIfInBounds_toArray, List.set_cons_zero, List.set_cons_succ]
          refine region_take 12 ?_ rfl (by kernel_rfl) (by rfl) hHeld ?_ ?_
          rotate_left
          · intro w hSw
            (try dsimp only at hSw)
            go_simp
            try with_reducible rfl
          try simp only [Act.put, List.setIfInBounds_toArray, List.set_cons_zero, List.set_cons_succ]
          refine region_take 13 ?_ rfl (by kernel_rfl) (by rfl) hHeld ?_ ?_
          rotate_left
          · intro w hSw
            (try dsimp only at hSw)
            go_simp
            try with_reducible rfl
          try simp only [Act.put, List.setIfInBounds_toArray, List.set_cons_zero, List.set_cons_succ]
          refine region_call 14 rfl (by kernel_rfl) (by rfl) (fun K hK => ?_)
          go_simp
          go_at_call 168
          refine (BG.out _ (HLW.out _ hHeld.2)).mono ?_
          rintro e w2 ⟨rfl, g2⟩
          refine hK.out _ _ (HKS.out _ (below_step hHeld.2 g2)) (fun hHeld => ?_)
          clear hK K
          try simp only [Act.put, List.setIfInBounds_toArray, List.set_cons_zero, List.set_cons_succ]
          refine region_take 15 ?_ rfl (by kernel_rfl) (by rfl) hHeld ?_ ?_
          rotate_left
          · intro w hSw
            (try dsimp only at hSw)
            go_simp
            try with_reducible rfl
          try simp only [Act.put, List.setIfInBounds_toArray, List.set_cons_zero, List.set_cons_succ]
          refine region_take 16 ?_ rfl (by kernel_rfl) (by rfl) hHeld ?_ ?_
          rotate_left
          · intro w hSw
            (try dsimp only at hSw)
            go_simp
            try with_reducible rfl
          try simp only [Act.put, List.setIfInBounds_toArray, List.set_cons_zero, List.set_cons_succ]
          refine region_done (by kernel_rfl) ?_
          obtain ⟨⟨n0, n1, q0, q1, q2, b0, b1, b2⟩, hb2⟩ := hHeld
          clear hwr hmd
          have hbw : Below wr.heap.size wr w2 := below_step ((Below.refl _ _).alloc (Nat.le_refl _) _) hb2
          have HBW := Lib.hid hbw
          clear hbw HKS HLW BG hb2
          go_wp2_with fail
          refine (pass_any _ _ _).mono ?_
          rintro e w3 ⟨rfl, rfl⟩
          have hFv := HAT.out.block gv rfl
          have hW3 := HAT.out.ahead.below HBW.out hga
          have f0 := hW3.frozen 0
          have f1 := hW3.frozen 1
          have f2 := hW3.frozen 2
          have ho3 : w2.ownsRow 0 181 2 (.slice (some ⟨gv, 0, none⟩) m cv) m (partsV todo.reverse) := by
            have h := own_cut HOWN.out (m := m) (by rw [partsV_len, List.length_reverse, HM.out]) (by omega) (by omega)
            rcases h.2 with ⟨e, _⟩ | ⟨g, cap, cur, e, hg, hh, h⟩
            · cases e
            · cases e
              exact ⟨by rw [partsV_len, List.length_reverse, HM.out], .inr ⟨gv, cv, cur, rfl, hg, (HBW.out.block gv hgv).trans hh, h⟩⟩
          have HX := Lib.hid hW3
          have HO := Lib.hid ho3
          have HFV := Lib.hid hFv
          clear hW3 ho3 hFv
          go_wp2_with fail
          have hX4 : Whole (((w2.setCell ⟨w.heap.size + 1, 0, none⟩ (.int .i64 o)).setCell ⟨w.heap.size + 1, 1, none⟩ (.int .i64 A1)).setCell ⟨w.heap.size + 1, 2, none⟩ (.int .i64 B1)) (w.heap.size + 1) #[.int .i64 o, .int .i64 A1, .int .i64 B1] 67 := ((HX.out.set_ 0 (.int .i64 o)).set_ 1 (.int .i64 A1)).set_ 2 (.int .i64 B1)
          have on4 : Only (fun k => k = w.heap.size + 1) w2 (((w2.setCell ⟨w.heap.size + 1, 0, none⟩ (.int .i64 o)).setCell ⟨w.heap.size + 1, 1, none⟩ (.int .i64 A1)).setCell ⟨w.heap.size + 1, 2, none⟩ (.int .i64 B1)) := (((Only.refl (fun k => k = w.heap.size + 1) w2).set_ (.inl rfl) 0 _).set_ (.inl rfl) 1 _).set_ (.inl rfl) 2 _
          have y1' := (on4.cell (p := ⟨wr.heap.size, 1, none⟩) (World.block_lt_of_cell? _ _ n1) (by simp only; omega)).trans n1
          have ho4 := World.ownsRow.kept (w' := (((w2.setCell ⟨w.heap.size + 1, 0, none⟩ (.int .i64 o)).setCell ⟨w.heap.size + 1, 1, none⟩ (.int .i64 A1)).setCell ⟨w.heap.size + 1, 2, none⟩ (.int .i64 B1))) (row := some (w.heap.size + 1)) HO.out ⟨on4.os, on4.tape, on4.output, on4.size, fun k hk hne => on4.block k hk fun e => hne (by rw [e])⟩ (.inr fun e => HFV.out.2 (Option.some.inj e))
          have h40 := hX4.cell 0
          have h41 := hX4.cell 1
          have h42 := hX4.cell 2
          replace h40 : ((((w2.setCell ⟨w.heap.size + 1, 0, none⟩ (.int .i64 o)).setCell ⟨w.heap.size + 1, 1, none⟩ (.int .i64 A1)).setCell ⟨w.heap.size + 1, 2, none⟩ (.int .i64 B1))).cell? ⟨w.heap.size + 1, 0, none⟩ = some (.int .i64 o) := h40
          replace h41 : ((((w2.setCell ⟨w.heap.size + 1, 0, none⟩ (.int .i64 o)).setCell ⟨w.heap.size + 1, 1, none⟩ (.int .i64 A1)).setCell ⟨w.heap.size + 1, 2, none⟩ (.int .i64 B1))).cell? ⟨w.heap.size + 1, 1, none⟩ = some (.int .i64 A1) := h41
          replace h42 : ((((w2.setCell ⟨w.heap.size + 1, 0, none⟩ (.int .i64 o)).setCell ⟨w.heap.size + 1, 1, none⟩ (.int .i64 A1)).setCell ⟨w.heap.size + 1, 2, none⟩ (.int .i64 B1))).cell? ⟨w.heap.size + 1, 2, none⟩ = some (.int .i64 B1) := h42
          have HX4 := Lib.hid hX4
          have HON4 := Lib.hid on4
          have HO4 := Lib.hid ho4
          clear hX4 on4 ho4 n0 n1 q0 q1 q2 b0 b1 b2
          generalize (((w2.setCell ⟨w.heap.size + 1, 0, none⟩ (.int .i64 o)).setCell ⟨w.heap.size + 1, 1, none⟩ (.int .i64 A1)).setCell ⟨w.heap.size + 1, 2, none⟩ (.int .i64 B1)) = w4 at *
          clear f0 f1 f2 p0 p1
          have hcut : m ≤ cv := by have := hsl.1; omega
          have hpk : pk ≤ 1000000000 := by
            have := HAT.out.k ⟨po, pk⟩ (by simp)
            simp only at this
            omega
          have hov : OwnP w4.drew (.slice (some ⟨gv, 0, none⟩) m cv) todo.reverse := by
            unfold OwnP
            rw [List.length_reverse, ← HM.out]
            exact HO4.out
          have hll : todo.reverse.length ≤ 100000000 := by
            have := HAT.out.len
            simp only [List.length_cons] at this
            rw [List.length_reverse]; omega
          have hfo := follow_any _ _ (o, A1, B1) pk w4.drew hov HHN.out (by omega) hll
          have HFO := Lib.hid hfo
          have hk4 : ∀ w5, Only (fun g => some gv = some g) w4.drew w5 → (w5.cell? ⟨w.heap.size + 1, 0, none⟩ = some (.int .i64 o) ∧ w5.cell? ⟨w.heap.size + 1, 1, none⟩ = some (.int .i64 A1) ∧ w5.cell? ⟨w.heap.size + 1, 2, none⟩ = some (.int .i64 B1) ∧ w5.cell? ⟨wr.heap.size, 1, none⟩ = some (.int .i64 (pk : Int))) := fun w5 hm =>
            ⟨(hm.cell (p := ⟨w.heap.size + 1, 0, none⟩) (World.block_lt_of_cell? _ _ h40) (fun e => HFV.out.2 (Option.some.inj e))).trans h40, (hm.cell (p := ⟨w.heap.size + 1, 1, none⟩) (World.block_lt_of_cell? _ _ h41) (fun e => HFV.out.2 (Option.some.inj e))).trans h41,
              (hm.cell (p := ⟨w.heap.size + 1, 2, none⟩) (World.block_lt_of_cell? _ _ h42) (fun e => HFV.out.2 (Option.some.inj e))).trans h42, (hm.cell (p := ⟨wr.heap.size, 1, none⟩) (World.block_lt_of_cell? _ _ y1') (fun e => by have := Option.some.inj e; simp only at this; omega)).trans y1'⟩
          have HK4 := Lib.hid hk4
          have hs0 := hk4 w4.drew (Only.refl _ _)
          clear hov hfo hk4 hll
          refine region_begin (S := fun w5 => w5.cell? ⟨w.heap.size + 1, 0, none⟩ = some (.int .i64 o) ∧ w5.cell? ⟨w.heap.size + 1, 1, none⟩ = some (.int .i64 A1) ∧ w5.cell? ⟨w.heap.size + 1, 2, none⟩ = some (.int .i64 B1) ∧ w5.cell? ⟨wr.heap.size, 1, none⟩ = some (.int .i64 (pk : Int))) (by kernel_rfl) (hs0) (fun hHeld => ?_)
          refine region_take 0 ?_ rfl (by kernel_rfl) (by rfl) hHeld ?_ ?_
          rotate_left
          · intro w hSw
            (try dsimp only at hSw)
            go_simp
            try with_reducible rfl
          try simp only [Act.put, List.setIfInBounds_toArray, List.set_cons_zero, List.set_cons_succ]
          refine region_take 1 ?_ rfl (by kernel_rfl) (by rfl) hHeld ?_ ?_
          rotate_left
          · intro w hSw
            (try dsimp only at hSw)
            go_simp
            try with_reducible rfl
          try simp only [Act.put, List.setIfInBounds_toArray, List.set_cons_zero, List.set_cons_succ]
          refine region_take 2 ?_ rfl (by kernel_rfl) (by rfl) hHeld ?_ ?_
          rotate_left
          · intro w hSw
            (try dsimp only at hSw)
            go_simp
            try with_reducible rfl
          try simp only [Act.put, List.setIfInBounds_toArray, List.set_cons_zero, List.set_cons_succ]
          refine region_take 3 ?_ rfl (by kernel_rfl) (by rfl) hHeld ?_ ?_
          rotate_left
          · intro w hSw
            (try dsimp only at hSw)
            go_simp
            try with_reducible rfl
          try simp only [Act.put, List.setIfInBounds_toArray, List.set_cons_zero, List.set_cons_succ]
          refine region_take 4 ?_ rfl (by kernel_rfl) (by rfl) hHeld ?_ ?_
          rotate_left
          · intro w hSw
            (try dsimp only at hSw)
            go_simp
            try with_reducible rfl
          try simp only [Act.put, List.setIfInBounds_toArray, List.set_cons_zero, List.set_cons_succ]
          refine region_take 5 ?_ rfl (by kernel_rfl) (by rfl) hHeld ?_ ?_
          rotate_left
          · intro w hSw
            (try dsimp only at hSw)
            go_simp
            try with_reducible rfl
          try simp only [Act.put, List.setIfInBounds_toArray, List.set_cons_zero, List.set_cons_succ]
          refine region_call 6 rfl (by kernel_rfl) (by rfl) (fun K hK => ?_)
          go_simp
          go_at_call 120
          refine (HFO.out).mono ?_
          rintro e w5 ⟨v5, rfl, hown5, hmv5⟩
          refine hK.out _ _ (HK4.out _ hmv5.only) (fun hHeld => ?_)
          clear hK K
          try simp only [Act.put, List.setIfInBounds_toArray, List.set_cons_zero, List.set_cons_succ]
          refine region_take 7 ?_ rfl (by kernel_rfl) (by rfl) hHeld ?_ ?_
          rotate_left
          · intro w hSw
            (try dsimp only at hSw)
            go_simp
            try with_reducible rfl
          try simp only [Act.put, List.setIfInBounds_toArray, List.set_cons_zero, List.set_cons_succ]
          refine region_done (by kernel_rfl) ?_
          have H5 := Lib.hid hown5
          have H6 := Lib.hid hmv5
          clear hown5 hmv5 h40 h41 h42 y1' hs0 hHeld
          go_wp2_with fail
          go_roundw
          case rel => exact ⟨j + 1, _, _, by go_num, by omega, walkno_step (v' := .slice (some ⟨gv, 0, none⟩) m cv) HAT.out HHN.out HWN.out HBW.out HON4.out.drew (HX4.out.keep rfl) (fun g hg => hg) H5.out H6.out⟩
          case measure => simp [intOf] <;> omega
end Go.Proofs.YtfeodppdmbideaaGreatDoor
