/- The way to the laws of books: TRegion to TWalk. -/
import Derived.Test.YtfeodppdmbideaaGreatDoorBA2
import Derived.Test.YtfeodppdmbideaaGreatDoorRows
import Derived.WalkKit
import Derived.Deep.RegionHeld3
namespace Go.Proofs.YtfeodppdmbideaaGreatDoor
open Go.RowKit
section
variable {P : Program} {ops : Array Oper} {Q : Exit → Act → World → Prop} {S : World → Prop}
theorem get_of_drop {i : Nat} {oi : Oper} {rest : List Oper} (h : ops.toList.drop i = oi :: rest) : ops[i]? = some oi := by
  have h1 : (ops.toList.drop i)[0]? = some oi := by rw [h]; rfl
  rw [List.getElem?_drop, Nat.add_zero, Array.getElem?_toList] at h1
  exact h1
theorem region_begin {id : Nat} {a : Act} {w : World} (hm : P.follows .mixedOrders = true) (hS : S w.drew)
    (h : S w.drew → wpAnyH P .any ops (NoPanic Q) S ops.size (Array.replicate ops.size false) a w.drew) : (Code.region id ops true).wp P Q a w :=
  wp_region_noPanic (wp_region_held_drew hm hS h)
def takes (ops : Array Oper) (listed : Array Bool) (i : Nat) : Bool := Region.noSelect ops && (Region.free .any ops listed i && (Region.ready .any ops listed).contains i)
theorem region_take (i : Nat) {oi : Oper} {rest : List Oper} (v : Value) {fuel : Nat} {listed : Array Bool} {a : Act} {w : World} (hi : ops.toList.drop i = oi :: rest) (hok : takes ops listed i = true) (hw : Region.wanted oi (yielded ops a.tmps) = true) (hS : S w)
    (hy : ∀ w, S w → (execOp a.eval oi).run P w = .ok (.value v) w)
    (h : wpAnyH P .any ops (NoPanic Q) S fuel (listed.setIfInBounds i true) (a.put oi.dst v) w) : wpAnyH P .any ops (NoPanic Q) S (fuel + 1) listed a w := by
  unfold takes at hok
  simp only [Bool.and_eq_true] at hok
  exact wpAnyH_take (get_of_drop hi) hok.1 hok.2.1 hok.2.2 (fun _ _ _ h => (h : False).elim) (.inl ⟨hw, hy⟩) hS h
theorem region_skip (i : Nat) {oi : Oper} {rest : List Oper} {fuel : Nat} {listed : Array Bool} {a : Act} {w : World} (hi : ops.toList.drop i = oi :: rest) (hok : takes ops listed i = true) (hw : Region.wanted oi (yielded ops a.tmps) = false) (hS : S w)
    (h : wpAnyH P .any ops (NoPanic Q) S fuel (listed.setIfInBounds i true) (a.put oi.dst undef) w) : wpAnyH P .any ops (NoPanic Q) S (fuel + 1) listed a w := by
  unfold takes at hok
  simp only [Bool.and_eq_true] at hok
  exact wpAnyH_take (get_of_drop hi) hok.1 hok.2.1 hok.2.2 (fun _ _ _ h => (h : False).elim) (.inr ⟨hw, rfl⟩) hS h
theorem region_call (i : Nat) {oi : Oper} {rest : List Oper} {fuel : Nat} {listed : Array Bool} {a : Act} {w : World} (hi : ops.toList.drop i = oi :: rest) (hr : Region.ready .any ops listed = [i]) (hw : Region.wanted oi (yielded ops a.tmps) = true)
    (h : ∀ K : Act → World → Prop, Shut (∀ a w, S w → (S w → wpAnyH P .any ops (NoPanic Q) S fuel (listed.setIfInBounds i true) a w) → K a w) → Oper.wp P oi a w K (NoPanic Q)) : wpAnyH P .any ops (NoPanic Q) S (fuel + 1) listed a w :=
  wpAnyH_ready hr (by simp) (AllReadyH.cons (get_of_drop hi) (fun K hK => by rw [if_pos hw]; exact h K hK) AllReadyH.nil)
theorem region_done {fuel : Nat} {listed : Array Bool} {a : Act} {w : World} (hr : Region.ready .any ops listed = []) (h : Q .normal a w) : wpAnyH P .any ops (NoPanic Q) S fuel listed a w :=
  wpAnyH_done hr (NoPanic.normal h) _
end
end Go.Proofs.YtfeodppdmbideaaGreatDoor
namespace Go.Proofs.YtfeodppdmbideaaGreatDoor
open Go.RowKit

set_option maxRecDepth 100000 in
set_option maxHeartbeats 4000000 in
theorem walk_any (A : Option Addr) (n c : Nat) (t : List Node3) (at0 : Nat) (a : Ann) (s : List Node3) (h0 e0 : Node3) (Vf : FuncId) (cap : Array Value) (I : Nat → (Nat → Prop) → World → Prop) (Stop : List PanicEntry → World → Prop) (F0 : Nat → Prop) (w : World)
    (hn : t.length = n) (hnb : n ≤ 100000) (hA : Holds w A (nodesV t)) (hL : Lim w) (hat : at0 ≤ n) (hW : W (t.drop at0) h0 [⟨0, 0⟩] = some (a, s, e0)) (hI : I 0 F0 w) (hFA : ∀ b o, A = some ⟨b, o, none⟩ → ¬ F0 b) (hF0 : ¬ F0 0)
    (V : Vis Vf cap a at0 w.heap.size I Stop) :
    Calls Tryz.prog 121 #[.slice A n c, .int .i64 (at0 : Int), .func (.func Vf) #[] cap] w (WalkPost I Stop F0 (at0 + a.length) a.length w) := by
  have hen := V.enters
  have hmk := make_run
  have t0 : ¬ (at0 : Int) < 0 := by omega
  have HV := Lib.hid V
  have HW := Lib.hid hW
  have HI := Lib.hid hI
  have HFA := Lib.hid hFA
  have HF0 := Lib.hid hF0
  have HA := Lib.hid hA
  have HL := Lib.hid hL
  have HN := Lib.hid hn
  clear hW hI hFA hF0 hA hL V hn
  go_enter Tryz.func121, Tryz.ntmps121
  go_wp2_with fail
  go_loopw [1, 7] (fun at' v' wr => ∃ (i j : Nat) (F : Nat → Prop) (todo : List Part) (hd : Node3), at' = .int .i64 (j : Int) ∧ WalkAt w A t a s e0 at0 I F0 i j F todo hd v' wr) (fun at' _ _ => n + 1 - (intOf at').toNat)
  case atStart =>
    refine ⟨0, at0, F0, [⟨0, 0⟩], (0, 0, 0), rfl, Nat.zero_le _, rfl, ?_, (make_parts w).alloc _, ?_, ?_, (Only.refl _ _).alloc _ |>.alloc _, fun k hk => .inl hk, fun hf => ?_, fun g hg => ?_⟩
    · rw [← W_ahead h0 (0, 0, 0) (by simp [NoAt]) (by simp)]; exact HW.out
    · have := Whole.new (w.alloc (.cells zeros128 181)) #[.int .i64 0, .int .i64 0, .int .i64 0] 67
      rwa [World.size_alloc] at this
    · exact HV.out.abide _ _ _ _ HI.out (Only.of_below (((Below.refl _ _).alloc (Nat.le_refl _) _).alloc (by simp) _))
    · exact absurd (HV.out.lt _ _ _ HI.out _ hf) (by omega)
    · cases hg
      exact ⟨Nat.le_refl _, fun hf => absurd (HV.out.lt _ _ _ HI.out _ hf) (by simp), by simp⟩
  case round =>
    obtain ⟨i, j, F, todo, hd, rfl, hat⟩ := hrel
    cases todo with
    | nil =>
      have hi := hat.none
      obtain ⟨Av, cv, rfl, hsl, _⟩ := own_slice hat.own
      have hj := hat.at_
      have HAT := Lib.hid hat
      have HJ := Lib.hid hj
      have HI2 := Lib.hid hi
      clear hat hi hj
      go_wp2_with fail
      go_ret
      refine .inl ⟨ret_int ?_, F, ?_, HAT.out.only, HAT.out.grow⟩
      · rw [HJ.out, HI2.out]
      · rw [← HI2.out]; exact HAT.out.inv
    | cons p todo =>
      obtain ⟨n1, a', hj, hi, htj, hb, hai, _, hw, hlen⟩ := hat.part
      obtain ⟨m, hm⟩ : ∃ m, m = todo.length := ⟨_, rfl⟩
      have hown := hat.own
      unfold OwnP at hown
      have hp1 : partsV [p] = partV p := by simp [partsV]
      rw [List.length_reverse, List.length_cons, ← hm, List.reverse_cons, partsV_append, hp1] at hown
      obtain ⟨Av, cv, rfl, hsl, hAv⟩ := own_slice hown
      obtain ⟨gv, ov, rfl, hgv, hcv⟩ := (own_holds hown).at_ (by simp [partV])
      obtain rfl : ov = 0 := (hAv _ _ rfl).2.2
      have hpl : (partsV todo.reverse).length = m * 2 := by rw [partsV_len, List.length_reverse, hm]
      have p0 := hcv (m * 2) (.int .i64 p.op) (by rw [List.getElem?_append_right (by omega), hpl, Nat.sub_self]; rfl)
      have p1 := hcv (m * 2 + 1) (.int .i64 (p.k : Int)) (by rw [List.getElem?_append_right (by omega), hpl, Nat.add_sub_cancel_left]; rfl)
      rw [Nat.zero_add] at p0 p1
      have hAr : Holds wr A (nodesV t) := HA.out.only hat.only HFA.out
      obtain ⟨gA, oA, rfl, hgA, hcA⟩ := hAr.at_ (by rw [nodesV_len]; omega)
      have r0 := hcA (j * 3) _ (nodesV_get0 hj)
      have r1 := hcA (j * 3 + 1) _ (nodesV_get1 hj)
      have r2 := hcA (j * 3 + 2) _ (nodesV_get2 hj)
      rw [← Nat.add_assoc] at r1 r2
      rw [htj] at r0 r1 r2
      have a0 := hat.ahead.cell 0
      have a1 := hat.ahead.cell 1
      have a2 := hat.ahead.cell 2
      have hga := hat.ahead.lt
      have hjn : j < n := by rw [← HN.out]; exact hj
      have hmn : ¬ (n : Int) - (j : Int) < (m : Int) + 1 := by have := HN.out; omega
      obtain ⟨po, pk⟩ := p
      obtain ⟨o, A1, B1⟩ := n1
      obtain ⟨ho, hA1, hB1⟩ := hd
      have HAT := Lib.hid hat
      have HOWN := Lib.hid hown
      have HBG := Lib.hid hb
      have HAI := Lib.hid hai
      have HWR := Lib.hid hw
      have HM := Lib.hid hm
      have HTJ := Lib.hid htj
      clear hat hown hb hai hw hm htj hcv hcA hAr hpl hp1 hAv
      replace a0 : wr.cell? ⟨w.heap.size + 1, 0, none⟩ = some (.int .i64 ho) := a0
      replace a1 : wr.cell? ⟨w.heap.size + 1, 1, none⟩ = some (.int .i64 hA1) := a1
      replace a2 : wr.cell? ⟨w.heap.size + 1, 2, none⟩ = some (.int .i64 hB1) := a2
      simp only at p0 p1 r0 r1 r2
      have nx := Whole.new wr #[.int .i64 po, .int .i64 (pk : Int)] 181
      have n0 := nx.cell 0
      have n1 := nx.cell 1
      have q0 := (World.cell?_alloc_lt wr (.cells #[.int .i64 po, .int .i64 (pk : Int)] 181) ⟨gA, oA + j * 3, none⟩ hgA).trans r0
      have q1 := (World.cell?_alloc_lt wr (.cells #[.int .i64 po, .int .i64 (pk : Int)] 181) ⟨gA, oA + j * 3 + 1, none⟩ hgA).trans r1
      have q2 := (World.cell?_alloc_lt wr (.cells #[.int .i64 po, .int .i64 (pk : Int)] 181) ⟨gA, oA + j * 3 + 2, none⟩ hgA).trans r2
      have b0 := (World.cell?_alloc_lt wr (.cells #[.int .i64 po, .int .i64 (pk : Int)] 181) ⟨w.heap.size + 1, 0, none⟩ hga).trans a0
      have b1 := (World.cell?_alloc_lt wr (.cells #[.int .i64 po, .int .i64 (pk : Int)] 181) ⟨w.heap.size + 1, 1, none⟩ hga).trans a1
      have b2 := (World.cell?_alloc_lt wr (.cells #[.int .i64 po, .int .i64 (pk : Int)] 181) ⟨w.heap.size + 1, 2, none⟩ hga).trans a2
      clear r0 r1 r2 a0 a1 a2
      have hzb : wr.heap.size < (wr.alloc (.cells #[.int .i64 po, .int .i64 (pk : Int)] 181)).heap.size := by simp
      have hgA' : gA < (wr.alloc (.cells #[.int .i64 po, .int .i64 (pk : Int)] 181)).heap.size := by simp; omega
      have hga' : w.heap.size + 1 < (wr.alloc (.cells #[.int .i64 po, .int .i64 (pk : Int)] 181)).heap.size := by simp; omega
      have HKS := Lib.hid (show ∀ w', Below (wr.alloc (.cells #[.int .i64 po, .int .i64 (pk : Int)] 181)).heap.size (wr.alloc (.cells #[.int .i64 po, .int .i64 (pk : Int)] 181)) w' → (fun w' => (w'.cell? ⟨wr.heap.size, 0, none⟩ = some (.int .i64 po) ∧ w'.cell? ⟨wr.heap.size, 1, none⟩ = some (.int .i64 (pk : Int)) ∧ w'.cell? ⟨gA, oA + j * 3, none⟩ = some (.int .i64 o) ∧ w'.cell? ⟨gA, oA + j * 3 + 1, none⟩ = some (.int .i64 A1) ∧ w'.cell? ⟨gA, oA + j * 3 + 2, none⟩ = some (.int .i64 B1) ∧ w'.cell? ⟨w.heap.size + 1, 0, none⟩ = some (.int .i64 ho) ∧ w'.cell? ⟨w.heap.size + 1, 1, none⟩ = some (.int .i64 hA1) ∧ w'.cell? ⟨w.heap.size + 1, 2, none⟩ = some (.int .i64 hB1)) ∧ Below (wr.alloc (.cells #[.int .i64 po, .int .i64 (pk : Int)] 181)).heap.size (wr.alloc (.cells #[.int .i64 po, .int .i64 (pk : Int)] 181)) w') w' from fun w' g => ⟨⟨(g.cell (p := ⟨wr.heap.size, 0, none⟩) hzb).trans n0, (g.cell (p := ⟨wr.heap.size, 1, none⟩) hzb).trans n1, (g.cell (p := ⟨gA, oA + j * 3, none⟩) hgA').trans q0, (g.cell (p := ⟨gA, oA + j * 3 + 1, none⟩) hgA').trans q1, (g.cell (p := ⟨gA, oA + j * 3 + 2, none⟩) hgA').trans q2, (g.cell (p := ⟨w.heap.size + 1, 0, none⟩) hga').trans b0, (g.cell (p := ⟨w.heap.size + 1, 1, none⟩) hga').trans b1, (g.cell (p := ⟨w.heap.size + 1, 2, none⟩) hga').trans b2⟩, g⟩)
      have HLW := Lib.hid (show ∀ w', Below (wr.alloc (.cells #[.int .i64 po, .int .i64 (pk : Int)] 181)).heap.size (wr.alloc (.cells #[.int .i64 po, .int .i64 (pk : Int)] 181)) w' → Lim w' from fun w' g => Lim.next (Lim.next (show Lim wr from Holds.only HL.out HAT.out.only fun b o e => by cases e; exact HF0.out) ((Below.refl _ _).alloc (Nat.le_refl _) _)) g)
      have BG := Lib.hid (show ∀ w, Lim w → Calls Tryz.prog 168 #[partA ⟨po, pk⟩, nodeA (o, A1, B1), nodeA (ho, hA1, hB1)] w fun e w' => e = .returned (.bool true) ∧ Below w.heap.size w w' from fun w hL => by
        have := begins_any ⟨po, pk⟩ (o, A1, B1) (ho, hA1, hB1) w hL
        rw [HBG.out] at this
        exact this)
      clear n0 n1 q0 q1 q2 b0 b1 b2 nx
      go_wp2_with fail
      have hwr : IntKind.i64.wrap ((n : Int) - (j : Int)) = (n : Int) - (j : Int) := IntWalk.i64_in _ (by omega)
      have hmd : decide ((n : Int) - (j : Int) < (m : Int) + 1) = false := decide_eq_false (by omega)
      refine region_begin (S := fun w' => (w'.cell? ⟨wr.heap.size, 0, none⟩ = some (.int .i64 po) ∧ w'.cell? ⟨wr.heap.size, 1, none⟩ = some (.int .i64 (pk : Int)) ∧ w'.cell? ⟨gA, oA + j * 3, none⟩ = some (.int .i64 o) ∧ w'.cell? ⟨gA, oA + j * 3 + 1, none⟩ = some (.int .i64 A1) ∧ w'.cell? ⟨gA, oA + j * 3 + 2, none⟩ = some (.int .i64 B1) ∧ w'.cell? ⟨w.heap.size + 1, 0, none⟩ = some (.int .i64 ho) ∧ w'.cell? ⟨w.heap.size + 1, 1, none⟩ = some (.int .i64 hA1) ∧ w'.cell? ⟨w.heap.size + 1, 2, none⟩ = some (.int .i64 hB1)) ∧ Below (wr.alloc (.cells #[.int .i64 po, .int .i64 (pk : Int)] 181)).heap.size (wr.alloc (.cells #[.int .i64 po, .int .i64 (pk : Int)] 181)) w') (by kernel_rfl) (HKS.out _ (below_drewN (Below.refl _ _) 1)) (fun hHeld => ?_)
      refine region_take 0 ?_ rfl (by kernel_rfl) (by rfl) hHeld ?_ ?_
      rotate_left
      · intro w hSw
        (try dsimp only at hSw)
        go_simp
        try with_reducible rfl
      try simp only [Act.put, List.setIfInBounds_toArray, List.set_cons_zero, List.set_cons_succ]
      refine region_take 1 ?_ rfl (by kernel_rfl) (by rfl) hHeld ?_ ?_
      rotate_left
      · intro w hSw
        (try dsimp only at hSw)
        go_simp
        try with_reducible rfl
      try simp only [Act.put, List.setIfInBounds_toArray, List.set_cons_zero, List.set_cons_succ]
      refine region_take 2 ?_ rfl (by kernel_rfl) (by rfl) hHeld ?_ ?_
      rotate_left
      · intro w hSw
        (try dsimp only at hSw)
        go_simp
        try with_reducible rfl
      try simp only [Act.put, List.setIfInBounds_toArray, List.set_cons_zero, List.set_cons_succ]
      refine region_take 3 ?_ rfl (by kernel_rfl) (by rfl) hHeld ?_ ?_
      rotate_left
      · intro w hSw
        (try dsimp only at hSw)
        go_simp
        try with_reducible rfl
      try simp only [Act.put, List.setIfInBounds_toArray, List.set_cons_zero, List.set_cons_succ]
      refine region_take 4 ?_ rfl (by kernel_rfl) (by rfl) hHeld ?_ ?_
      rotate_left
      · intro w hSw
        (try dsimp only at hSw)
        go_simp
        try with_reducible rfl
      try simp only [Act.put, List.setIfInBounds_toArray, List.set_cons_zero, List.set_cons_succ]
      refine region_take 5 ?_ rfl (by kernel_rfl) (by rfl) hHeld ?_ ?_
      rotate_left
      · intro w hSw
        (try dsimp only at hSw)
        go_simp
        try with_reducible rfl
      try simp only [Act.put, List.setIfInBounds_toArray, List.set_cons_zero, List.set_cons_succ]
      refine region_take 6 ?_ rfl (by kernel_rfl) (by rfl) hHeld ?_ ?_
      rotate_left
      · intro w hSw
        (try dsimp only at hSw)
        go_simp
        try with_reducible rfl
      try simp only [Act.put, List.setIfInBounds_toArray, List.set_cons_zero, List.set_cons_succ]
      refine region_take 7 ?_ rfl (by kernel_rfl) (by rfl) hHeld ?_ ?_
      rotate_left
      · intro w hSw
        (try dsimp only at hSw)
        go_simp
        try with_reducible rfl
      try simp only [Act.put, List.setIfInBounds_toArray, List.set_cons_zero, List.set_cons_succ]
      refine region_take 8 ?_ rfl (by kernel_rfl) (by rfl) hHeld ?_ ?_
      rotate_left
      · intro w hSw
        (try dsimp only at hSw)
        go_simp
        try with_reducible rfl
      try simp only [Act.put, List.setIfInBounds_toArray, List.set_cons_zero, List.set_cons_succ]
      refine region_take 9 ?_ rfl (by kernel_rfl) (by rfl) hHeld ?_ ?_
      rotate_left
      · intro w hSw
        (try dsimp only at hSw)
        go_simp
        try with_reducible rfl
      try simp only [Act.put, List.setIfInBounds_toArray, List.set_cons_zero, List.set_cons_succ]
      refine region_take 10 ?_ rfl (by kernel_rfl) (by rfl) hHeld ?_ ?_
      rotate_left
      · intro w hSw
        (try dsimp only at hSw)
        go_simp
        try with_reducible rfl
      try simp only [Act.put, List.setIfInBounds_toArray, List.set_cons_zero, List.set_cons_succ]
      refine region_take 11 ?_ rfl (by kernel_rfl) (by rfl) hHeld ?_ ?_
      rotate_left
      · intro w hSw
        (try dsimp only at hSw)
        go_simp
        try with_reducible rfl
      try simp only [Act.put, List.setIfInBounds_toArray, List.set_cons_zero, List.set_cons_succ]
      refine region_take 12 ?_ rfl (by kernel_rfl) (by rfl) hHeld ?_ ?_
      rotate_left
      · intro w hSw
        (try dsimp only at hSw)
        go_simp
        try with_reducible rfl
      try simp only [Act.put, List.setIfInBounds_toArray, List.set_cons_zero, List.set_cons_succ]
      refine region_take 13 ?_ rfl (by kernel_rfl) (by rfl) hHeld ?_ ?_
      rotate_left
      · intro w hSw
        (try dsimp only at hSw)
        go_simp
        try with_reducible rfl
      try simp only [Act.put, List.setIfInBounds_toArray, List.set_cons_zero, List.set_cons_succ]
      refine region_call 14 rfl (by kernel_rfl) (by rfl) (fun K hK => ?_)
      go_simp
      go_at_call 168
      refine (BG.out _ (HLW.out _ hHeld.2)).mono ?_
      rintro e w2 ⟨rfl, g2⟩
      refine hK.out _ _ (HKS.out _ (below_step hHeld.2 g2)) (fun hHeld => ?_)
      clear hK K
      try simp only [Act.put, List.setIfInBounds_toArray, List.set_cons_zero, List.set_cons_succ]
      refine region_take 15 ?_ rfl (by kernel_rfl) (by rfl) hHeld ?_ ?_
      rotate_left
      · intro w hSw
        (try dsimp only at hSw)
        go_simp
        try with_reducible rfl
      try simp only [Act.put, List.setIfInBounds_toArray, List.set_cons_zero, List.set_cons_succ]
      refine region_take 16 ?_ rfl (by kernel_rfl) (by rfl) hHeld ?_ ?_
      rotate_left
      · intro w hSw
        (try dsimp only at hSw)
        go_simp
        try with_reducible rfl
      try simp only [Act.put, List.setIfInBounds_toArray, List.set_cons_zero, List.set_cons_succ]
      refine region_done (by kernel_rfl) ?_
      obtain ⟨⟨n0, n1, q0, q1, q2, b0, b1, b2⟩, hb2⟩ := hHeld
      clear hwr hmd
      have hbw : Below wr.heap.size wr w2 := below_step ((Below.refl _ _).alloc (Nat.le_refl _) _) hb2
      have inv2 : I i F w2 := HV.out.abide _ _ _ _ HAT.out.inv (Only.of_below hbw)
      have hc := HV.out.call i F w2 hi inv2
      rw [HAI.out, ← HAT.out.at_] at hc
      have HC := Lib.hid hc
      have HBW := Lib.hid hbw
      clear hc hbw inv2 HKS HLW BG
      go_wp2_with fail
      refine (HC.out).mono ?_
      rintro e w3 (⟨rfl, F', inv3, on3, gr3⟩ | ⟨ch, rfl, hst⟩)
      · have hgw : gA < w.heap.size := by
          obtain ⟨b, o', e, hb, _⟩ := HA.out.at_ (by rw [nodesV_len]; omega)
          cases e; exact hb
        have hw2 := HBW.out.size
        have hFg : ¬ F gA := fun hf => by
          rcases HAT.out.grow _ hf with h' | h'
          · exact HFA.out _ _ rfl h'
          · omega
        have hFb : ¬ F wr.heap.size := fun hf => by have := HV.out.lt _ _ _ HAT.out.inv _ hf; omega
        have hFv := HAT.out.block gv rfl
        have x0 := (on3.cell (p := ⟨gA, oA + j * 3, none⟩) (by simp only; omega) hFg).trans q0
        have x1 := (on3.cell (p := ⟨gA, oA + j * 3 + 1, none⟩) (by simp only; omega) hFg).trans q1
        have x2 := (on3.cell (p := ⟨gA, oA + j * 3 + 2, none⟩) (by simp only; omega) hFg).trans q2
        have y0 := (on3.cell (p := ⟨wr.heap.size, 0, none⟩) (World.block_lt_of_cell? _ _ n0) hFb).trans n0
        have y1 := (on3.cell (p := ⟨wr.heap.size, 1, none⟩) (World.block_lt_of_cell? _ _ n1) hFb).trans n1
        have hW3 := (HAT.out.ahead.below HBW.out hga).only on3 HAT.out.off
        have z0 := hW3.cell 0
        have z1 := hW3.cell 1
        have z2 := hW3.cell 2
        have f0 := hW3.frozen 0
        have f1 := hW3.frozen 1
        have f2 := hW3.frozen 2
        have hb3 : w3.heap[gv]? = wr.heap[gv]? := (on3.block gv (by omega) hFv.2.1).trans (HBW.out.block gv hgv)
        have ho3 : w3.ownsRow 0 181 2 (.slice (some ⟨gv, 0, none⟩) m cv) m (partsV todo.reverse) := by
          have h := own_cut HOWN.out (m := m) (by rw [partsV_len, List.length_reverse, HM.out]) (by omega) (by omega)
          rcases h.2 with ⟨e, _⟩ | ⟨g, cap, cur, e, hg, hh, h⟩
          · cases e
          · cases e
            exact ⟨by rw [partsV_len, List.length_reverse, HM.out], .inr ⟨gv, cv, cur, rfl, hg, hb3.trans hh, h⟩⟩
        have HX := Lib.hid hW3
        have HO := Lib.hid ho3
        have HON := Lib.hid on3
        have HGR := Lib.hid gr3
        have HINV := Lib.hid inv3
        have HFV := Lib.hid hFv
        clear n0 n1 q0 q1 q2 b0 b1 b2 hFg hFb hW3 hb3 ho3 on3 gr3 inv3 hFv
        simp only [List.getElem?_toArray] at z0 z1 z2
        replace z0 : w3.cell? ⟨w.heap.size + 1, 0, none⟩ = some (.int .i64 ho) := z0
        replace z1 : w3.cell? ⟨w.heap.size + 1, 1, none⟩ = some (.int .i64 hA1) := z1
        replace z2 : w3.cell? ⟨w.heap.size + 1, 2, none⟩ = some (.int .i64 hB1) := z2
        have hX4 : Whole (((w3.setCell ⟨w.heap.size + 1, 0, none⟩ (.int .i64 o)).setCell ⟨w.heap.size + 1, 1, none⟩ (.int .i64 A1)).setCell ⟨w.heap.size + 1, 2, none⟩ (.int .i64 B1)) (w.heap.size + 1) #[.int .i64 o, .int .i64 A1, .int .i64 B1] 67 := ((HX.out.set_ 0 (.int .i64 o)).set_ 1 (.int .i64 A1)).set_ 2 (.int .i64 B1)
        have on4 : Only (fun k => k = w.heap.size + 1) w3 (((w3.setCell ⟨w.heap.size + 1, 0, none⟩ (.int .i64 o)).setCell ⟨w.heap.size + 1, 1, none⟩ (.int .i64 A1)).setCell ⟨w.heap.size + 1, 2, none⟩ (.int .i64 B1)) := (((Only.refl (fun k => k = w.heap.size + 1) w3).set_ (.inl rfl) 0 _).set_ (.inl rfl) 1 _).set_ (.inl rfl) 2 _
        have y1' := (on4.cell (p := ⟨wr.heap.size, 1, none⟩) (World.block_lt_of_cell? _ _ y1) (by simp only; omega)).trans y1
        have ho4 := World.ownsRow.kept (w' := (((w3.setCell ⟨w.heap.size + 1, 0, none⟩ (.int .i64 o)).setCell ⟨w.heap.size + 1, 1, none⟩ (.int .i64 A1)).setCell ⟨w.heap.size + 1, 2, none⟩ (.int .i64 B1))) (row := some (w.heap.size + 1)) HO.out ⟨on4.os, on4.tape, on4.output, on4.size, fun k hk hne => on4.block k hk fun e => hne (by rw [e])⟩ (.inr fun e => HFV.out.2.2 (Option.some.inj e))
        have h40 := hX4.cell 0
        have h41 := hX4.cell 1
        have h42 := hX4.cell 2
        replace h40 : ((((w3.setCell ⟨w.heap.size + 1, 0, none⟩ (.int .i64 o)).setCell ⟨w.heap.size + 1, 1, none⟩ (.int .i64 A1)).setCell ⟨w.heap.size + 1, 2, none⟩ (.int .i64 B1))).cell? ⟨w.heap.size + 1, 0, none⟩ = some (.int .i64 o) := h40
        replace h41 : ((((w3.setCell ⟨w.heap.size + 1, 0, none⟩ (.int .i64 o)).setCell ⟨w.heap.size + 1, 1, none⟩ (.int .i64 A1)).setCell ⟨w.heap.size + 1, 2, none⟩ (.int .i64 B1))).cell? ⟨w.heap.size + 1, 1, none⟩ = some (.int .i64 A1) := h41
        replace h42 : ((((w3.setCell ⟨w.heap.size + 1, 0, none⟩ (.int .i64 o)).setCell ⟨w.heap.size + 1, 1, none⟩ (.int .i64 A1)).setCell ⟨w.heap.size + 1, 2, none⟩ (.int .i64 B1))).cell? ⟨w.heap.size + 1, 2, none⟩ = some (.int .i64 B1) := h42
        have HX4 := Lib.hid hX4
        have HON4 := Lib.hid on4
        have HO4 := Lib.hid ho4
        clear hX4 on4 ho4 y0 y1
        go_wp2_with fail
        generalize (((w3.setCell ⟨w.heap.size + 1, 0, none⟩ (.int .i64 o)).setCell ⟨w.heap.size + 1, 1, none⟩ (.int .i64 A1)).setCell ⟨w.heap.size + 1, 2, none⟩ (.int .i64 B1)) = w4 at *
        clear z0 z1 z2 f0 f1 f2 x0 x1 x2 p0 p1
        have hcut : m ≤ cv := by have := hsl.1; omega
        have hpk : pk ≤ 1000000000 := by
          have h1 := W_bound _ _ _ _ _ _ 0 HW.out (by simp) _ (List.getElem_mem hi)
          have h2 := congrArg List.length (W_row _ _ _ _ _ _ HW.out).1
          have h3 := HN.out
          rw [HAI.out] at h1
          simp only [List.length_drop, List.length_append, List.length_map] at h1 h2
          omega
        have hov : OwnP w4.drew (.slice (some ⟨gv, 0, none⟩) m cv) todo.reverse := by
          unfold OwnP
          rw [List.length_reverse, ← HM.out]
          exact HO4.out
        have hfo := follow_any _ _ (o, A1, B1) pk w4.drew hov (by have := HBG.out; unfold begB at this; simp only [Bool.and_eq_true, decide_eq_true_eq] at this; exact this.1) (by omega) (by rw [List.length_reverse, ← HM.out]; omega)
        have HFO := Lib.hid hfo
        have hk4 : ∀ w5, Only (fun g => some gv = some g) w4.drew w5 → (w5.cell? ⟨w.heap.size + 1, 0, none⟩ = some (.int .i64 o) ∧ w5.cell? ⟨w.heap.size + 1, 1, none⟩ = some (.int .i64 A1) ∧ w5.cell? ⟨w.heap.size + 1, 2, none⟩ = some (.int .i64 B1) ∧ w5.cell? ⟨wr.heap.size, 1, none⟩ = some (.int .i64 (pk : Int))) := fun w5 hm =>
          ⟨(hm.cell (p := ⟨w.heap.size + 1, 0, none⟩) (World.block_lt_of_cell? _ _ h40) (fun e => HFV.out.2.2 (Option.some.inj e))).trans h40, (hm.cell (p := ⟨w.heap.size + 1, 1, none⟩) (World.block_lt_of_cell? _ _ h41) (fun e => HFV.out.2.2 (Option.some.inj e))).trans h41,
            (hm.cell (p := ⟨w.heap.size + 1, 2, none⟩) (World.block_lt_of_cell? _ _ h42) (fun e => HFV.out.2.2 (Option.some.inj e))).trans h42, (hm.cell (p := ⟨wr.heap.size, 1, none⟩) (World.block_lt_of_cell? _ _ y1') (fun e => by have := Option.some.inj e; simp only at this; omega)).trans y1'⟩
        have HK4 := Lib.hid hk4
        have hs0 := hk4 w4.drew (Only.refl _ _)
        clear hov hfo hk4
        refine region_begin (S := fun w5 => w5.cell? ⟨w.heap.size + 1, 0, none⟩ = some (.int .i64 o) ∧ w5.cell? ⟨w.heap.size + 1, 1, none⟩ = some (.int .i64 A1) ∧ w5.cell? ⟨w.heap.size + 1, 2, none⟩ = some (.int .i64 B1) ∧ w5.cell? ⟨wr.heap.size, 1, none⟩ = some (.int .i64 (pk : Int))) (by kernel_rfl) (hs0) (fun hHeld => ?_)
        refine region_take 0 ?_ rfl (by kernel_rfl) (by rfl) hHeld ?_ ?_
        rotate_left
        · intro w hSw
          (try dsimp only at hSw)
          go_simp
          try with_reducible rfl
        try simp only [Act.put, List.setIfInBounds_toArray, List.set_cons_zero, List.set_cons_succ]
        refine region_take 1 ?_ rfl (by kernel_rfl) (by rfl) hHeld ?_ ?_
        rotate_left
        · intro w hSw
          (try dsimp only at hSw)
          go_simp
          try with_reducible rfl
        try simp only [Act.put, List.setIfInBounds_toArray, List.set_cons_zero, List.set_cons_succ]
        refine region_take 2 ?_ rfl (by kernel_rfl) (by rfl) hHeld ?_ ?_
        rotate_left
        · intro w hSw
          (try dsimp only at hSw)
          go_simp
          try with_reducible rfl
        try simp only [Act.put, List.setIfInBounds_toArray, List.set_cons_zero, List.set_cons_succ]
        refine region_take 3 ?_ rfl (by kernel_rfl) (by rfl) hHeld ?_ ?_
        rotate_left
        · intro w hSw
          (try dsimp only at hSw)
          go_simp
          try with_reducible rfl
        try simp only [Act.put, List.setIfInBounds_toArray, List.set_cons_zero, List.set_cons_succ]
        refine region_take 4 ?_ rfl (by kernel_rfl) (by rfl) hHeld ?_ ?_
        rotate_left
        · intro w hSw
          (try dsimp only at hSw)
          go_simp
          try with_reducible rfl
        try simp only [Act.put, List.setIfInBounds_toArray, List.set_cons_zero, List.set_cons_succ]
        refine region_take 5 ?_ rfl (by kernel_rfl) (by rfl) hHeld ?_ ?_
        rotate_left
        · intro w hSw
          (try dsimp only at hSw)
          go_simp
          try with_reducible rfl
        try simp only [Act.put, List.setIfInBounds_toArray, List.set_cons_zero, List.set_cons_succ]
        refine region_call 6 rfl (by kernel_rfl) (by rfl) (fun K hK => ?_)
        go_simp
        go_at_call 120
        refine (HFO.out).mono ?_
        rintro e w5 ⟨v5, rfl, hown5, hmv5⟩
        refine hK.out _ _ (HK4.out _ hmv5.only) (fun hHeld => ?_)
        clear hK K
        try simp only [Act.put, List.setIfInBounds_toArray, List.set_cons_zero, List.set_cons_succ]
        refine region_take 7 ?_ rfl (by kernel_rfl) (by rfl) hHeld ?_ ?_
        rotate_left
        · intro w hSw
          (try dsimp only at hSw)
          go_simp
          try with_reducible rfl
        try simp only [Act.put, List.setIfInBounds_toArray, List.set_cons_zero, List.set_cons_succ]
        refine region_done (by kernel_rfl) ?_
        have H5 := Lib.hid hown5
        have H6 := Lib.hid hmv5
        clear hown5 hmv5 h40 h41 h42 y1' hs0 hHeld
        go_wp2_with fail
        go_roundw
        case rel => exact ⟨i + 1, j + 1, F', _, _, by go_num, HAT.out.step (v' := .slice (some ⟨gv, 0, none⟩) m cv) HV.out hi HWR.out HBW.out HINV.out HON.out HGR.out HON4.out.drew (HX4.out.keep rfl) (fun g hg => hg) H5.out H6.out⟩
        case measure => simp [intOf] <;> omega
      · go_wp2_with fail
        exact ⟨rfl, .inr ⟨ch, rfl, hst⟩⟩
end Go.Proofs.YtfeodppdmbideaaGreatDoor
