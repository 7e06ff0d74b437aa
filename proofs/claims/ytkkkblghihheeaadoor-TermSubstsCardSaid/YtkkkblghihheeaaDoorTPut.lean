/- The document's answer: Put. -/
import Derived.Test.YtkkkblghihheeaaDoorTRaise
namespace Go.Proofs.YtkkkblghihheeaaDoor
open Go.RowKit

/-- Put in a variable's place. -/
def ptF (b : Ann) (n : Node3) (k : Nat) : Ann := if n.1 = 1 then (if n.2.1 = (k : Int) then rz k 0 b else if (k : Int) < n.2.1 then [((1, n.2.1 - 1, 0), 0)] else [(n, 0)]) else [(n, 0)]
theorem pt_stays (b : Ann) : Stays (ptF b) := fun n k h => by unfold ptF; rw [if_neg h]
theorem shA_zero (a : Ann) : shA 0 a = a := by unfold shA; simp
set_option maxRecDepth 100000 in
set_option maxHeartbeats 4000000 in
theorem put_hit (K P F uK uP uF : Option Addr) (ck na ca nf cf unk uck unp ucp unf ucf : Nat) (uo uA uB : Int) (b : Ann) (w : World) (G : Nat → Prop) (u : Nat) (hu : u ≤ 4000000) (hb : 4 * b.length ≤ 4000000) (hsm : SmallA b) (h : TreeAt w G ⟨(uo, uA, uB), uK, unk, uck, uP, unp, ucp, uF, unf, ucf⟩ b) :
    Calls Tryd.prog 70 #[.agg #[.int .i64 1, .int .i64 (u : Int), .int .i64 0, .slice K 0 ck, .slice P na ca, .slice F nf cf], .agg #[.int .i64 uo, .int .i64 uA, .int .i64 uB, .slice uK unk uck, .slice uP unp ucp, .slice uF unf ucf], .int .i64 (u : Int), .int .i64 (u : Int)] w (TreePost w G (rz u 0 b)) := by
  have hb0 : Below w.heap.size w (((w.alloc (.cells #[.int .i64 1, .int .i64 (u : Int), .int .i64 0, .slice K 0 ck, .slice P na ca, .slice F nf cf] 59)).alloc (.cells #[.int .i64 uo, .int .i64 uA, .int .i64 uB, .slice uK unk uck, .slice uP unp ucp, .slice uF unf ucf] 59)).alloc (.cells #[.int .i64 0, .int .i64 0, .int .i64 0, .slice none 0 0, .slice none 0 0, .slice none 0 0] 59)) := (((Below.refl _ _).alloc (Nat.le_refl _) _).alloc (by simp) _).alloc (by simp; omega) _
  have hr := raise_any b.length ⟨(uo, uA, uB), uK, unk, uck, uP, unp, ucp, uF, unf, ucf⟩ b (((w.alloc (.cells #[.int .i64 1, .int .i64 (u : Int), .int .i64 0, .slice K 0 ck, .slice P na ca, .slice F nf cf] 59)).alloc (.cells #[.int .i64 uo, .int .i64 uA, .int .i64 uB, .slice uK unk uck, .slice uP unp ucp, .slice uF unf ucf] 59)).alloc (.cells #[.int .i64 0, .int .i64 0, .int .i64 0, .slice none 0 0, .slice none 0 0, .slice none 0 0] 59)) (fun k => G k ∧ k < w.heap.size) u 0 hu (Nat.le_refl _) ((h.mono fun k h1 h2 => ⟨h1, h2⟩).next hb0) hsm (by omega)
  have z0 : Whole (((w.alloc (.cells #[.int .i64 1, .int .i64 (u : Int), .int .i64 0, .slice K 0 ck, .slice P na ca, .slice F nf cf] 59)).alloc (.cells #[.int .i64 uo, .int .i64 uA, .int .i64 uB, .slice uK unk uck, .slice uP unp ucp, .slice uF unf ucf] 59)).alloc (.cells #[.int .i64 0, .int .i64 0, .int .i64 0, .slice none 0 0, .slice none 0 0, .slice none 0 0] 59)) (w.heap.size + 1 + 1) #[.int .i64 0, .int .i64 0, .int .i64 0, .slice none 0 0, .slice none 0 0, .slice none 0 0] 59 := by
    have := Whole.new ((w.alloc (.cells #[.int .i64 1, .int .i64 (u : Int), .int .i64 0, .slice K 0 ck, .slice P na ca, .slice F nf cf] 59)).alloc (.cells #[.int .i64 uo, .int .i64 uA, .int .i64 uB, .slice uK unk uck, .slice uP unp ucp, .slice uF unf ucf] 59)) #[.int .i64 0, .int .i64 0, .int .i64 0, .slice none 0 0, .slice none 0 0, .slice none 0 0] 59
    simpa using this
  have HR := Lib.hid hr
  have HB0 := Lib.hid hb0
  have HZ := Lib.hid z0
  clear hr hb0 z0 h
  go_enter Tryd.func70, Tryd.ntmps70
  go_wp2_with fail
  refine (HR.out).mono ?_
  rintro e w1 ⟨x', rfl, ht, hb1⟩
  obtain ⟨⟨yo, yA, yB⟩, yK, ynk, yck, yP, ynp, ycp, yF, ynf, ycf⟩ := x'
  dsimp only [TV.val]
  have hs1 := hb1.size
  simp only [World.size_alloc] at hs1
  have hwz := HZ.out.below hb1 HZ.out.lt
  have HT := Lib.hid ht
  have HB1 := Lib.hid (below_step HB0.out hb1)
  have HS1 : Hid (w.heap.size ≤ w1.heap.size) := Lib.hid (by omega)
  clear ht hb1 hs1
  have z0 : w1.cell? ⟨w.heap.size + 1 + 1, 0, none⟩ = some (.int .i64 0) := hwz.cell 0
  have f0 := hwz.frozen 0
  have z1 : w1.cell? ⟨w.heap.size + 1 + 1, 1, none⟩ = some (.int .i64 0) := hwz.cell 1
  have f1 := hwz.frozen 1
  have z2 : w1.cell? ⟨w.heap.size + 1 + 1, 2, none⟩ = some (.int .i64 0) := hwz.cell 2
  have f2 := hwz.frozen 2
  have z3 : w1.cell? ⟨w.heap.size + 1 + 1, 3, none⟩ = some (.slice none 0 0) := hwz.cell 3
  have f3 := hwz.frozen 3
  have z4 : w1.cell? ⟨w.heap.size + 1 + 1, 4, none⟩ = some (.slice none 0 0) := hwz.cell 4
  have f4 := hwz.frozen 4
  have z5 : w1.cell? ⟨w.heap.size + 1 + 1, 5, none⟩ = some (.slice none 0 0) := hwz.cell 5
  have f5 := hwz.frozen 5
  have HWZ := Lib.hid hwz
  clear hwz
  go_wp2_with fail
  have hw6 := ((((((HWZ.out).set_ 0 (.int .i64 yo)).set_ 1 (.int .i64 yA)).set_ 2 (.int .i64 yB)).set_ 3 (.slice yK ynk yck)).set_ 4 (.slice yP ynp ycp)).set_ 5 (.slice yF ynf ycf)
  have ho6 : Only (fun j => j = w.heap.size + 1 + 1) w1 ((((((w1.setCell ⟨w.heap.size + 1 + 1, 0, none⟩ (.int .i64 yo)).setCell ⟨w.heap.size + 1 + 1, 1, none⟩ (.int .i64 yA)).setCell ⟨w.heap.size + 1 + 1, 2, none⟩ (.int .i64 yB)).setCell ⟨w.heap.size + 1 + 1, 3, none⟩ (.slice yK ynk yck)).setCell ⟨w.heap.size + 1 + 1, 4, none⟩ (.slice yP ynp ycp)).setCell ⟨w.heap.size + 1 + 1, 5, none⟩ (.slice yF ynf ycf)) := ((((((Only.refl (fun j => j = w.heap.size + 1 + 1) w1).set_ (.inl rfl) 0 _).set_ (.inl rfl) 1 _).set_ (.inl rfl) 2 _).set_ (.inl rfl) 3 _).set_ (.inl rfl) 4 _).set_ (.inl rfl) 5 _
  generalize ((((((w1.setCell ⟨w.heap.size + 1 + 1, 0, none⟩ (.int .i64 yo)).setCell ⟨w.heap.size + 1 + 1, 1, none⟩ (.int .i64 yA)).setCell ⟨w.heap.size + 1 + 1, 2, none⟩ (.int .i64 yB)).setCell ⟨w.heap.size + 1 + 1, 3, none⟩ (.slice yK ynk yck)).setCell ⟨w.heap.size + 1 + 1, 4, none⟩ (.slice yP ynp ycp)).setCell ⟨w.heap.size + 1 + 1, 5, none⟩ (.slice yF ynf ycf)) = W6 at *
  have q0 : W6.cell? ⟨w.heap.size + 1 + 1, 0, none⟩ = some (.int .i64 yo) := hw6.cell 0
  have q1 : W6.cell? ⟨w.heap.size + 1 + 1, 1, none⟩ = some (.int .i64 yA) := hw6.cell 1
  have q2 : W6.cell? ⟨w.heap.size + 1 + 1, 2, none⟩ = some (.int .i64 yB) := hw6.cell 2
  have q3 : W6.cell? ⟨w.heap.size + 1 + 1, 3, none⟩ = some (.slice yK ynk yck) := hw6.cell 3
  have q4 : W6.cell? ⟨w.heap.size + 1 + 1, 4, none⟩ = some (.slice yP ynp ycp) := hw6.cell 4
  have q5 : W6.cell? ⟨w.heap.size + 1 + 1, 5, none⟩ = some (.slice yF ynf ycf) := hw6.cell 5
  have hb6 := HB1.out.trans (ho6.below (B := w.heap.size) HS1.out fun k hk e => by omega)
  have ht6 := (HT.out.keep fun k hk hl => ho6.block k hl (by simp only [World.size_alloc] at hk; omega)).mono (G' := fun k => G k ∨ w.heap.size ≤ k) fun k hk _ => by simp only [World.size_alloc] at hk; rcases hk with h | h; exact .inl h.1; exact .inr (by omega)
  clear hw6 ho6
  (try simp only [Exit.inBlock, Exit.then])
  refine bodyPost_ret (by simp [results, Tryd.results70, go_sem, q0, q1, q2, q3, q4, q5]; try rfl) rfl ?_
  exact TreePost.of ht6 hb6
set_option maxRecDepth 100000 in
set_option maxHeartbeats 4000000 in
theorem tput_any : ∀ (N : Nat) (v vu : TV) (a b : Ann) (w : World) (G : Nat → Prop) (u : Nat), a.length ≤ N → TreeAt w G v a → TreeAt w G vu b → SmallA a → SmallA b → 4 * b.length ≤ 4000000 → u + 4 * a.length ≤ 4000000 →
    Calls Tryd.prog 70 #[v.val, vu.val, .int .i64 (u : Int), .int .i64 (u : Int)] w (TreePost w G (each (ptF b) u a)) := by
  intro N
  induction N with
  | zero =>
    intro v vu a b w G u hN h
    cases h with
    | mk v ks ats fs hs hK hA hF hv sub => exact absurd hN (by simp [treeA])
  | succ N ih =>
    intro v vu a b w G u hN h hU hsm hsb hbl hu
    have h' := h
    cases h with
    | mk v ks ats fs hs hK hA hF hv sub =>
    obtain ⟨⟨op, A, B⟩, K, nk, ck, P, na, ca, F, nf, cf⟩ := v
    obtain ⟨⟨uo, uA, uB⟩, uK, unk, uck, uP, unp, ucp, uF, unf, ucf⟩ := vu
    simp only at hN hsm hu hK hA hF h'
    have htop := hsm.top
    simp only at htop
    have hnk := hs.nk
    simp only at hnk
    subst hnk
    by_cases h1 : op = 1
    · obtain ⟨hk0, ha0, hz0⟩ := hs.var h1
      simp only at hz0
      have e1 := List.eq_nil_of_length_eq_zero hk0
      have e2 := List.eq_nil_of_length_eq_zero ha0
      subst h1 e1 e2 hz0
      have hT : treeA (1, A, 0) [] fs [] = [((1, A, 0), 0)] := rfl
      rw [List.map_nil, hT] at h' hsm hu ⊢
      have hE : each (ptF b) u [((1, A, 0), 0)] = if A = (u : Int) then rz u 0 b else if (u : Int) < A then [((1, A - 1, 0), 0)] else [((1, A, 0), 0)] := by
        unfold each ptF
        simp only [List.flatMap_cons, List.flatMap_nil, List.append_nil, Nat.zero_add, shA_zero, if_true]
      rw [hE]
      clear hs hK hA hF hv sub ih hN hT hE hk0 ha0
      by_cases hq : A = (u : Int)
      · rw [if_pos hq]
        subst hq
        exact put_hit K P F uK uP uF ck na ca nf cf unk uck unp ucp unf ucf uo uA uB b w G u (by omega) hbl hsb hU
      rw [if_neg hq]
      have eq : (A == (u : Int)) = false := by simpa using hq
      dsimp only [TV.val]
      have HB := Lib.hid (show ∀ o1 o2 o3 : Obj, Below w.heap.size w (((w.alloc o1).alloc o2).alloc o3) from fun o1 o2 o3 => (((Below.refl _ _).alloc (Nat.le_refl _) _).alloc (by simp) _).alloc (by simp; omega) _)
      by_cases hg : (u : Int) < A
      · rw [if_pos hg]
        have ew := IntWalk.i64_in (A - 1) (by omega)
        clear h' hU hq
        go_enter Tryd.func70, Tryd.ntmps70
        go_wp2_with fail
        go_returns
        exact TreePost.var _ (HB.out _ _ _)
      · rw [if_neg hg]
        have HT := Lib.hid h'
        clear h' hU hq
        go_enter Tryd.func70, Tryd.ntmps70
        go_wp2_with fail
        go_returns
        exact TreePost.of ((HT.out.next (HB.out _ _ _)).mono fun k hk _ => .inl hk) (HB.out _ _ _)
    clear h'
    have HSUB : Hid (∀ (k : Nat) (hk : k < ks.length) w1, Below w.heap.size w w1 → Calls Tryd.prog 70 #[TV.val ks[k].1, .agg #[.int .i64 uo, .int .i64 uA, .int .i64 uB, .slice uK unk uck, .slice uP unp ucp, .slice uF unf ucf], .int .i64 ((u : Int) + ((aroundN (op, A, B) k : Nat) : Int)), .int .i64 ((u : Int) + ((aroundN (op, A, B) k : Nat) : Int))] w1 (TreePost w1 (fun k => G k ∧ k < w.heap.size) (each (ptF b) (u + aroundN (op, A, B) k) ks[k].2))) := Lib.hid fun k hk w1 hb => by
      have hm : ks[k].2 ∈ ks.map Prod.snd := List.mem_map.2 ⟨_, List.getElem_mem hk, rfl⟩
      have hl := treeA_len (n := (op, A, B)) (ats := ats) (fs := fs) hm
      have ha := around_le (n := (op, A, B)) (fun h => (hs.fix h).2.1) k
      have := ih ks[k].1 ⟨(uo, uA, uB), uK, unk, uck, uP, unp, ucp, uF, unf, ucf⟩ ks[k].2 b w1 (fun k => G k ∧ k < w.heap.size) (u + aroundN (op, A, B) k) (by omega) (((sub _ (List.getElem_mem hk)).mono fun k h1 h2 => ⟨h1, h2⟩).next hb) ((hU.mono fun k h1 h2 => ⟨h1, h2⟩).next hb) (hsm.kid hm) hsb hbl (by omega)
      rwa [Int.natCast_add] at this
    have HDONE : Hid (∀ (wr : World) (Ko : Option Addr) (cko k : Nat) (os : List (TV × Ann)), Below w.heap.size w wr → TGrow wr (fun k => G k ∧ k < w.heap.size) (w.heap.size + 1 + 1 + 1) (op, A, B) P na ca F nf cf (.slice Ko k cko) os → os.length = k → k = ks.length → Slice Ko k cko → (∀ j (hj : j < os.length) (hk : j < ks.length), os[j].2 = each (ptF b) (u + aroundN (op, A, B) j) ks[j].2) →
        TreeAt wr (fun k => (G k ∧ k < w.heap.size) ∨ w.heap.size + 1 + 1 + 1 < k) ⟨(op, A, B), Ko, k, cko, P, na, ca, F, nf, cf⟩ (each (ptF b) u (treeA (op, A, B) ats fs (ks.map Prod.snd)))) := Lib.hid (by
      intro wr Ko cko k os hb hg hlen hkm hsl hp
      have := hg.done hlen (ats := ats) (fs := fs) ⟨hlen.symm, hs.na, hs.nf, hsl, hs.sa, hs.sf, fun h => absurd h h1, fun h => by have := hs.fix h; exact ⟨this.1, this.2.1, by omega⟩⟩ ((hA.mono fun k h1 h2 => ⟨h1, h2⟩).keep fun k hk _ => hb.block k hk.2) ((hF.mono fun k h1 h2 => ⟨h1, h2⟩).keep fun k hk _ => hb.block k hk.2) hv
      have e : each (ptF b) u (treeA (op, A, B) ats fs (ks.map Prod.snd)) = treeA (op, A, B) ats fs (os.map Prod.snd) := by
        refine each_tree (pt_stays b) (pt_stays b _ _ h1) (fun x hx => hv x (.inl hx)) (fun x hx => hv x (.inr hx)) (by simp; omega) fun j hj => ?_
        have := hp j (by simp at hj; omega) (by simpa using hj)
        simp only [List.getElem_map]
        exact this
      rw [e]
      exact this)
    have hfx := hs.fix
    simp only at hfx
    have HFX := Lib.hid (show (op, A, B).1 = 12 → 0 ≤ (op, A, B).2.2 from fun h => (hfx h).1)
    have HAR : Hid (∀ k, aroundN (op, A, B) k ≤ 4) := Lib.hid (around_le (n := (op, A, B)) fun h => (hfx h).2.1)
    have hb0 : Below w.heap.size w ((((w.alloc (.cells #[.int .i64 op, .int .i64 A, .int .i64 B, .slice K ks.length ck, .slice P na ca, .slice F nf cf] 59)).alloc (.cells #[.int .i64 uo, .int .i64 uA, .int .i64 uB, .slice uK unk uck, .slice uP unp ucp, .slice uF unf ucf] 59)).alloc (.cells #[.int .i64 0, .int .i64 0, .int .i64 0, .slice none 0 0, .slice none 0 0, .slice none 0 0] 59)).alloc (.cells #[.int .i64 op, .int .i64 A, .int .i64 B, .slice none 0 0, .slice P na ca, .slice F nf cf] 59)) := ((((Below.refl _ _).alloc (Nat.le_refl _) _).alloc (by simp) _).alloc (by simp; omega) _).alloc (by simp; omega) _
    have x0 : Whole ((((w.alloc (.cells #[.int .i64 op, .int .i64 A, .int .i64 B, .slice K ks.length ck, .slice P na ca, .slice F nf cf] 59)).alloc (.cells #[.int .i64 uo, .int .i64 uA, .int .i64 uB, .slice uK unk uck, .slice uP unp ucp, .slice uF unf ucf] 59)).alloc (.cells #[.int .i64 0, .int .i64 0, .int .i64 0, .slice none 0 0, .slice none 0 0, .slice none 0 0] 59)).alloc (.cells #[.int .i64 op, .int .i64 A, .int .i64 B, .slice none 0 0, .slice P na ca, .slice F nf cf] 59)) w.heap.size #[.int .i64 op, .int .i64 A, .int .i64 B, .slice K ks.length ck, .slice P na ca, .slice F nf cf] 59 := (((Whole.new w #[.int .i64 op, .int .i64 A, .int .i64 B, .slice K ks.length ck, .slice P na ca, .slice F nf cf] 59).below ((Below.refl _ _).alloc (Nat.le_refl _) _) (by simp)).below ((Below.refl _ _).alloc (Nat.le_refl _) _) (by simp; omega)).below ((Below.refl _ _).alloc (Nat.le_refl _) _) (by simp; omega)
    have u0 : Whole ((((w.alloc (.cells #[.int .i64 op, .int .i64 A, .int .i64 B, .slice K ks.length ck, .slice P na ca, .slice F nf cf] 59)).alloc (.cells #[.int .i64 uo, .int .i64 uA, .int .i64 uB, .slice uK unk uck, .slice uP unp ucp, .slice uF unf ucf] 59)).alloc (.cells #[.int .i64 0, .int .i64 0, .int .i64 0, .slice none 0 0, .slice none 0 0, .slice none 0 0] 59)).alloc (.cells #[.int .i64 op, .int .i64 A, .int .i64 B, .slice none 0 0, .slice P na ca, .slice F nf cf] 59)) (w.heap.size + 1) #[.int .i64 uo, .int .i64 uA, .int .i64 uB, .slice uK unk uck, .slice uP unp ucp, .slice uF unf ucf] 59 := by
      have := ((Whole.new (w.alloc (.cells #[.int .i64 op, .int .i64 A, .int .i64 B, .slice K ks.length ck, .slice P na ca, .slice F nf cf] 59)) #[.int .i64 uo, .int .i64 uA, .int .i64 uB, .slice uK unk uck, .slice uP unp ucp, .slice uF unf ucf] 59).below ((Below.refl _ _).alloc (Nat.le_refl _) (.cells #[.int .i64 0, .int .i64 0, .int .i64 0, .slice none 0 0, .slice none 0 0, .slice none 0 0] 59)) (by simp)).below ((Below.refl _ _).alloc (Nat.le_refl _) (.cells #[.int .i64 op, .int .i64 A, .int .i64 B, .slice none 0 0, .slice P na ca, .slice F nf cf] 59)) (by simp)
      rwa [World.size_alloc] at this
    have z0 : Whole ((((w.alloc (.cells #[.int .i64 op, .int .i64 A, .int .i64 B, .slice K ks.length ck, .slice P na ca, .slice F nf cf] 59)).alloc (.cells #[.int .i64 uo, .int .i64 uA, .int .i64 uB, .slice uK unk uck, .slice uP unp ucp, .slice uF unf ucf] 59)).alloc (.cells #[.int .i64 0, .int .i64 0, .int .i64 0, .slice none 0 0, .slice none 0 0, .slice none 0 0] 59)).alloc (.cells #[.int .i64 op, .int .i64 A, .int .i64 B, .slice none 0 0, .slice P na ca, .slice F nf cf] 59)) (w.heap.size + 1 + 1) #[.int .i64 0, .int .i64 0, .int .i64 0, .slice none 0 0, .slice none 0 0, .slice none 0 0] 59 := by
      have := (Whole.new ((w.alloc (.cells #[.int .i64 op, .int .i64 A, .int .i64 B, .slice K ks.length ck, .slice P na ca, .slice F nf cf] 59)).alloc (.cells #[.int .i64 uo, .int .i64 uA, .int .i64 uB, .slice uK unk uck, .slice uP unp ucp, .slice uF unf ucf] 59)) #[.int .i64 0, .int .i64 0, .int .i64 0, .slice none 0 0, .slice none 0 0, .slice none 0 0] 59).below ((Below.refl _ _).alloc (Nat.le_refl _) (.cells #[.int .i64 op, .int .i64 A, .int .i64 B, .slice none 0 0, .slice P na ca, .slice F nf cf] 59)) (by simp)
      simpa using this
    have HG0 : Hid (TGrow ((((w.alloc (.cells #[.int .i64 op, .int .i64 A, .int .i64 B, .slice K ks.length ck, .slice P na ca, .slice F nf cf] 59)).alloc (.cells #[.int .i64 uo, .int .i64 uA, .int .i64 uB, .slice uK unk uck, .slice uP unp ucp, .slice uF unf ucf] 59)).alloc (.cells #[.int .i64 0, .int .i64 0, .int .i64 0, .slice none 0 0, .slice none 0 0, .slice none 0 0] 59)).alloc (.cells #[.int .i64 op, .int .i64 A, .int .i64 B, .slice none 0 0, .slice P na ca, .slice F nf cf] 59)) (fun k => G k ∧ k < w.heap.size) (w.heap.size + 1 + 1 + 1) (op, A, B) P na ca F nf cf (.slice none 0 0) []) := Lib.hid (by
      refine ⟨?_, World.ownsRow_nil _ _ _ _, fun k h => (by cases h), fun p hp => (by cases hp)⟩
      have := Whole.new (((w.alloc (.cells #[.int .i64 op, .int .i64 A, .int .i64 B, .slice K ks.length ck, .slice P na ca, .slice F nf cf] 59)).alloc (.cells #[.int .i64 uo, .int .i64 uA, .int .i64 uB, .slice uK unk uck, .slice uP unp ucp, .slice uF unf ucf] 59)).alloc (.cells #[.int .i64 0, .int .i64 0, .int .i64 0, .slice none 0 0, .slice none 0 0, .slice none 0 0] 59)) #[.int .i64 op, .int .i64 A, .int .i64 B, .slice none 0 0, .slice P na ca, .slice F nf cf] 59
      simpa using this)
    have hkl : ks.length ≤ 1000000 := by
      have := kids_count (n := (op, A, B)) (ats := ats) (fs := fs) sub
      omega
    have HLT : Hid (∀ k, (G k ∧ k < w.heap.size) → k < w.heap.size + 1 + 1 + 1) := Lib.hid fun k hk => by omega
    have HB0 := Lib.hid hb0
    have HX := Lib.hid x0
    have HU := Lib.hid u0
    have HZ := Lib.hid z0
    have HK := Lib.hid hK.1
    have e1 : (op == 1) = false := by simpa using h1
    clear hs hK hA hF hv sub ih hN hsm hfx hb0 x0 z0 u0 hU hsb
    dsimp only [TV.val]
    generalize each (ptF b) u (treeA (op, A, B) ats fs (ks.map Prod.snd)) = ra at *
    go_enter Tryd.func70, Tryd.ntmps70
    go_wp2_with fail
    go_loopw [10, 11] (fun i _ wr => ∃ (k : Nat) (Kv : Value) (os : List (TV × Ann)), i = .int .i64 (k : Int) ∧ k ≤ ks.length ∧ os.length = k ∧ Hid (∀ j (hj : j < os.length) (hk : j < ks.length), os[j].2 = each (ptF b) (u + aroundN (op, A, B) j) ks[j].2) ∧ Hid (TGrow wr (fun k => G k ∧ k < w.heap.size) (w.heap.size + 1 + 1 + 1) (op, A, B) P na ca F nf cf Kv os) ∧ Hid (Below (w.heap.size + 1 + 1 + 1) ((((w.alloc (.cells #[.int .i64 op, .int .i64 A, .int .i64 B, .slice K ks.length ck, .slice P na ca, .slice F nf cf] 59)).alloc (.cells #[.int .i64 uo, .int .i64 uA, .int .i64 uB, .slice uK unk uck, .slice uP unp ucp, .slice uF unf ucf] 59)).alloc (.cells #[.int .i64 0, .int .i64 0, .int .i64 0, .slice none 0 0, .slice none 0 0, .slice none 0 0] 59)).alloc (.cells #[.int .i64 op, .int .i64 A, .int .i64 B, .slice none 0 0, .slice P na ca, .slice F nf cf] 59)) wr)) (fun i _ _ => ks.length - (intOf i).toNat)
    case atStart => exact ⟨0, _, [], rfl, Nat.zero_le _, rfl, Lib.hid (fun j hj => absurd hj (by simp)), HG0, Lib.hid (Below.refl _ _)⟩
    case round =>
      obtain ⟨k, Kv, os, rfl, hk, hlen, HP, HG, HBR⟩ := hrel
      have hsz := HBR.out.size
      simp only [World.size_alloc] at hsz
      have xr := HX.out.below HBR.out (by omega)
      have c0 : wr.cell? ⟨w.heap.size, 0, none⟩ = some (.int .i64 op) := xr.cell 0
      have c1 : wr.cell? ⟨w.heap.size, 1, none⟩ = some (.int .i64 A) := xr.cell 1
      have c2 : wr.cell? ⟨w.heap.size, 2, none⟩ = some (.int .i64 B) := xr.cell 2
      have c3 : wr.cell? ⟨w.heap.size, 3, none⟩ = some (.slice K ks.length ck) := xr.cell 3
      by_cases hlt : k < ks.length
      · obtain ⟨g, o, rfl, hg, -⟩ := HK.out.at_ (by rw [treesV_len, List.length_map]; omega)
        have hd4 := HAR.out k
        have hrec := HSUB.out k hlt
        have HPART : Hid (∀ q : TV × Ann, q.2 = each (ptF b) (u + aroundN (op, A, B) k) ks[k].2 → ∀ j (hj : j < (os ++ [q]).length) (hk : j < ks.length), (os ++ [q])[j].2 = each (ptF b) (u + aroundN (op, A, B) j) ks[j].2) := Lib.hid fun q hq j hj hk' => by
          by_cases e : j < os.length
          · rw [List.getElem_append_left e]; exact HP.out j e hk'
          · have : j = k := by simp only [List.length_append, List.length_cons, List.length_nil] at hj; omega
            subst this
            rw [List.getElem_append_right (by omega)]
            simpa [hlen] using hq
        obtain ⟨d, hd⟩ : ∃ d, aroundN (op, A, B) k = d := ⟨_, rfl⟩
        rw [hd] at hd4 hrec HPART
        have HREC := Lib.hid hrec
        have HD := Lib.hid hd
        clear hd hrec
        go_wp2_with fail
        refine (around_any (op, A, B) k _ (by omega) HFX.out).mono ?_
        rintro e w1 ⟨rfl, hb1⟩
        rw [HD.out]
        have hb1' : Below wr.heap.size wr w1.drew := hb1.trans (below_drewN (Below.refl _ _) 1)
        have HBW := Lib.hid (show Below w.heap.size w w1.drew from (HB0.out.trans (HBR.out.mono (by omega))).trans (hb1'.mono (by omega)))
        have HRD := Lib.hid (show ∀ w2, Below (w.heap.size + 1 + 1 + 1) w1.drew w2 → Below (w.heap.size + 1 + 1 + 1) ((((w.alloc (.cells #[.int .i64 op, .int .i64 A, .int .i64 B, .slice (some ⟨g, o, none⟩) ks.length ck, .slice P na ca, .slice F nf cf] 59)).alloc (.cells #[.int .i64 uo, .int .i64 uA, .int .i64 uB, .slice uK unk uck, .slice uP unp ucp, .slice uF unf ucf] 59)).alloc (.cells #[.int .i64 0, .int .i64 0, .int .i64 0, .slice none 0 0, .slice none 0 0, .slice none 0 0] 59)).alloc (.cells #[.int .i64 op, .int .i64 A, .int .i64 B, .slice none 0 0, .slice P na ca, .slice F nf cf] 59)) w2 from fun w2 hb => (HBR.out.trans (hb1'.mono (by omega))).trans hb)
        have hs1 := hb1'.size
        have HS1 : Hid (w.heap.size + 1 + 1 ≤ w1.drew.heap.size) := Lib.hid (by omega)
        have HS3 : Hid (w.heap.size + 1 + 1 + 1 < w1.drew.heap.size) := Lib.hid (by omega)
        have hcs := kid_cells (k := k) (HK.out.below HBW.out) (by rw [List.length_map]; exact hlt)
        simp only [List.getElem_map] at hcs
        obtain ⟨x, hx⟩ : ∃ x, ks[k].1 = x := ⟨_, rfl⟩
        rw [hx] at hcs HREC
        clear hx
        obtain ⟨⟨xo, xA, xB⟩, xK, xnk, xck, xP, xnp, xcp, xF, xnf, xcf⟩ := x
        have r0 := hcs 0 _ rfl
        have r1 := hcs 1 _ rfl
        have r2 := hcs 2 _ rfl
        have r3 := hcs 3 _ rfl
        have r4 := hcs 4 _ rfl
        have r5 := hcs 5 _ rfl
        rw [Nat.add_zero] at r0
        have ur := (HU.out.below HBR.out (by omega)).below hb1' (by omega)
        have xr1 := xr.below hb1' (by omega)
        have HKEEP : Hid (∀ W W' : World, Below (w.heap.size + 1 + 1) W W' → (fun W => W.cell? ⟨w.heap.size, 3, none⟩ = some (.slice (some ⟨g, o, none⟩) ks.length ck) ∧ W.cell? ⟨g, o + k * 6, none⟩ = some (.int .i64 xo) ∧ W.cell? ⟨g, o + k * 6 + 1, none⟩ = some (.int .i64 xA) ∧ W.cell? ⟨g, o + k * 6 + 2, none⟩ = some (.int .i64 xB) ∧ W.cell? ⟨g, o + k * 6 + 3, none⟩ = some (.slice xK xnk xck) ∧ W.cell? ⟨g, o + k * 6 + 4, none⟩ = some (.slice xP xnp xcp) ∧ W.cell? ⟨g, o + k * 6 + 5, none⟩ = some (.slice xF xnf xcf) ∧ W.cell? ⟨w.heap.size + 1, 0, none⟩ = some (.int .i64 uo) ∧ W.cell? ⟨w.heap.size + 1, 1, none⟩ = some (.int .i64 uA) ∧ W.cell? ⟨w.heap.size + 1, 2, none⟩ = some (.int .i64 uB) ∧ W.cell? ⟨w.heap.size + 1, 3, none⟩ = some (.slice uK unk uck) ∧ W.cell? ⟨w.heap.size + 1, 4, none⟩ = some (.slice uP unp ucp) ∧ W.cell? ⟨w.heap.size + 1, 5, none⟩ = some (.slice uF unf ucf)) W → (fun W => W.cell? ⟨w.heap.size, 3, none⟩ = some (.slice (some ⟨g, o, none⟩) ks.length ck) ∧ W.cell? ⟨g, o + k * 6, none⟩ = some (.int .i64 xo) ∧ W.cell? ⟨g, o + k * 6 + 1, none⟩ = some (.int .i64 xA) ∧ W.cell? ⟨g, o + k * 6 + 2, none⟩ = some (.int .i64 xB) ∧ W.cell? ⟨g, o + k * 6 + 3, none⟩ = some (.slice xK xnk xck) ∧ W.cell? ⟨g, o + k * 6 + 4, none⟩ = some (.slice xP xnp xcp) ∧ W.cell? ⟨g, o + k * 6 + 5, none⟩ = some (.slice xF xnf xcf) ∧ W.cell? ⟨w.heap.size + 1, 0, none⟩ = some (.int .i64 uo) ∧ W.cell? ⟨w.heap.size + 1, 1, none⟩ = some (.int .i64 uA) ∧ W.cell? ⟨w.heap.size + 1, 2, none⟩ = some (.int .i64 uB) ∧ W.cell? ⟨w.heap.size + 1, 3, none⟩ = some (.slice uK unk uck) ∧ W.cell? ⟨w.heap.size + 1, 4, none⟩ = some (.slice uP unp ucp) ∧ W.cell? ⟨w.heap.size + 1, 5, none⟩ = some (.slice uF unf ucf)) W') := Lib.hid fun W W' hb ⟨h0, h1, h2, h3, h4, h5, h6, h7, h8, h9, h10, h11, h12⟩ => ⟨(hb.cell (by simp only; omega)).trans h0, (hb.cell (by simp only; omega)).trans h1, (hb.cell (by simp only; omega)).trans h2, (hb.cell (by simp only; omega)).trans h3, (hb.cell (by simp only; omega)).trans h4, (hb.cell (by simp only; omega)).trans h5, (hb.cell (by simp only; omega)).trans h6, (hb.cell (by simp only; omega)).trans h7, (hb.cell (by simp only; omega)).trans h8, (hb.cell (by simp only; omega)).trans h9, (hb.cell (by simp only; omega)).trans h10, (hb.cell (by simp only; omega)).trans h11, (hb.cell (by simp only; omega)).trans h12⟩
        have HSS : Hid ((fun W => W.cell? ⟨w.heap.size, 3, none⟩ = some (.slice (some ⟨g, o, none⟩) ks.length ck) ∧ W.cell? ⟨g, o + k * 6, none⟩ = some (.int .i64 xo) ∧ W.cell? ⟨g, o + k * 6 + 1, none⟩ = some (.int .i64 xA) ∧ W.cell? ⟨g, o + k * 6 + 2, none⟩ = some (.int .i64 xB) ∧ W.cell? ⟨g, o + k * 6 + 3, none⟩ = some (.slice xK xnk xck) ∧ W.cell? ⟨g, o + k * 6 + 4, none⟩ = some (.slice xP xnp xcp) ∧ W.cell? ⟨g, o + k * 6 + 5, none⟩ = some (.slice xF xnf xcf) ∧ W.cell? ⟨w.heap.size + 1, 0, none⟩ = some (.int .i64 uo) ∧ W.cell? ⟨w.heap.size + 1, 1, none⟩ = some (.int .i64 uA) ∧ W.cell? ⟨w.heap.size + 1, 2, none⟩ = some (.int .i64 uB) ∧ W.cell? ⟨w.heap.size + 1, 3, none⟩ = some (.slice uK unk uck) ∧ W.cell? ⟨w.heap.size + 1, 4, none⟩ = some (.slice uP unp ucp) ∧ W.cell? ⟨w.heap.size + 1, 5, none⟩ = some (.slice uF unf ucf)) w1.drew) := Lib.hid ⟨xr1.cell 3, r0, r1, r2, r3, r4, r5, ur.cell 0, ur.cell 1, ur.cell 2, ur.cell 3, ur.cell 4, ur.cell 5⟩
        have ew := IntWalk.i64_in ((u : Int) + (d : Int)) (by omega)
        have hgd := HG.out.next hb1'
        have hown : w1.drew.ownsRow 0 59 6 Kv k (treesV (os.map Prod.fst)) := by rw [← hlen]; exact hgd.own
        obtain ⟨Ko, cko, rfl, -, -⟩ := own_slice hown
        have HWH := Lib.hid hgd.whole
        have HKB := Lib.hid hgd.kb
        have HGD := Lib.hid hgd
        have HOWN := Lib.hid hown
        have HLEN := Lib.hid hlen
        have cb : w1.drew.cell? ⟨w.heap.size + 1 + 1 + 1, 3, none⟩ = some (.slice Ko k cko) := hgd.whole.cell 3
        clear hcs r0 r1 r2 r3 r4 r5 hgd hown hlen HP HG xr xr1 ur hb1 hb1' hs1 hsz c0 c1 c2 c3
        go_wp2_with fail
        refine region_begin_any (S := fun W => W.cell? ⟨w.heap.size, 3, none⟩ = some (.slice (some ⟨g, o, none⟩) ks.length ck) ∧ W.cell? ⟨g, o + k * 6, none⟩ = some (.int .i64 xo) ∧ W.cell? ⟨g, o + k * 6 + 1, none⟩ = some (.int .i64 xA) ∧ W.cell? ⟨g, o + k * 6 + 2, none⟩ = some (.int .i64 xB) ∧ W.cell? ⟨g, o + k * 6 + 3, none⟩ = some (.slice xK xnk xck) ∧ W.cell? ⟨g, o + k * 6 + 4, none⟩ = some (.slice xP xnp xcp) ∧ W.cell? ⟨g, o + k * 6 + 5, none⟩ = some (.slice xF xnf xcf) ∧ W.cell? ⟨w.heap.size + 1, 0, none⟩ = some (.int .i64 uo) ∧ W.cell? ⟨w.heap.size + 1, 1, none⟩ = some (.int .i64 uA) ∧ W.cell? ⟨w.heap.size + 1, 2, none⟩ = some (.int .i64 uB) ∧ W.cell? ⟨w.heap.size + 1, 3, none⟩ = some (.slice uK unk uck) ∧ W.cell? ⟨w.heap.size + 1, 4, none⟩ = some (.slice uP unp ucp) ∧ W.cell? ⟨w.heap.size + 1, 5, none⟩ = some (.slice uF unf ucf)) (by kernel_rfl) (HSS.out) (fun W hW hHeld => ?_)
        subst hW
        refine region_take 0 ?_ rfl (by kernel_rfl) (by rfl) hHeld ?_ ?_
        rotate_left
        · intro w hSw
          (try dsimp only at hSw)
          go_simp
          try with_reducible rfl
        try simp only [Act.put, List.setIfInBounds_toArray, List.set_cons_zero, List.set_cons_succ]
        refine region_take 2 ?_ rfl (by kernel_rfl) (by rfl) hHeld ?_ ?_
        rotate_left
        · intro w hSw
          (try dsimp only at hSw)
          go_simp
          try with_reducible rfl
        try simp only [Act.put, List.setIfInBounds_toArray, List.set_cons_zero, List.set_cons_succ]
        refine region_take 3 ?_ rfl (by kernel_rfl) (by rfl) hHeld ?_ ?_
        rotate_left
        · intro w hSw
          (try dsimp only at hSw)
          go_simp
          try with_reducible rfl
        try simp only [Act.put, List.setIfInBounds_toArray, List.set_cons_zero, List.set_cons_succ]
        refine region_take 4 ?_ rfl (by kernel_rfl) (by rfl) hHeld ?_ ?_
        rotate_left
        · intro w hSw
          (try dsimp only at hSw)
          go_simp
          try with_reducible rfl
        try simp only [Act.put, List.setIfInBounds_toArray, List.set_cons_zero, List.set_cons_succ]
        refine region_take 5 ?_ rfl (by kernel_rfl) (by rfl) hHeld ?_ ?_
        rotate_left
        · intro w hSw
          (try dsimp only at hSw)
          go_simp
          try with_reducible rfl
        try simp only [Act.put, List.setIfInBounds_toArray, List.set_cons_zero, List.set_cons_succ]
        refine region_take 6 ?_ rfl (by kernel_rfl) (by rfl) hHeld ?_ ?_
        rotate_left
        · intro w hSw
          (try dsimp only at hSw)
          go_simp
          try with_reducible rfl
        try simp only [Act.put, List.setIfInBounds_toArray, List.set_cons_zero, List.set_cons_succ]
        refine region_take 7 ?_ rfl (by kernel_rfl) (by rfl) hHeld ?_ ?_
        rotate_left
        · intro w hSw
          (try dsimp only at hSw)
          go_simp
          try with_reducible rfl
        try simp only [Act.put, List.setIfInBounds_toArray, List.set_cons_zero, List.set_cons_succ]
        refine region_take 8 ?_ rfl (by kernel_rfl) (by rfl) hHeld ?_ ?_
        rotate_left
        · intro w hSw
          (try dsimp only at hSw)
          go_simp
          try with_reducible rfl
        try simp only [Act.put, List.setIfInBounds_toArray, List.set_cons_zero, List.set_cons_succ]
        refine region_take 9 ?_ rfl (by kernel_rfl) (by rfl) hHeld ?_ ?_
        rotate_left
        · intro w hSw
          (try dsimp only at hSw)
          go_simp
          try with_reducible rfl
        try simp only [Act.put, List.setIfInBounds_toArray, List.set_cons_zero, List.set_cons_succ]
        refine region_take 10 ?_ rfl (by kernel_rfl) (by rfl) hHeld ?_ ?_
        rotate_left
        · intro w hSw
          (try dsimp only at hSw)
          go_simp
          try with_reducible rfl
        try simp only [Act.put, List.setIfInBounds_toArray, List.set_cons_zero, List.set_cons_succ]
        refine region_take 11 ?_ rfl (by kernel_rfl) (by rfl) hHeld ?_ ?_
        rotate_left
        · intro w hSw
          (try dsimp only at hSw)
          go_simp
          try with_reducible rfl
        try simp only [Act.put, List.setIfInBounds_toArray, List.set_cons_zero, List.set_cons_succ]
        refine region_take 12 ?_ rfl (by kernel_rfl) (by rfl) hHeld ?_ ?_
        rotate_left
        · intro w hSw
          (try dsimp only at hSw)
          go_simp
          try with_reducible rfl
        try simp only [Act.put, List.setIfInBounds_toArray, List.set_cons_zero, List.set_cons_succ]
        refine region_take 13 ?_ rfl (by kernel_rfl) (by rfl) hHeld ?_ ?_
        rotate_left
        · intro w hSw
          (try dsimp only at hSw)
          go_simp
          try with_reducible rfl
        try simp only [Act.put, List.setIfInBounds_toArray, List.set_cons_zero, List.set_cons_succ]
        refine region_two 1 14 rfl rfl (by kernel_rfl) (by rfl) (by rfl) (fun K hK => ?_) (fun K hK => ?_)
        · go_simp
          refine hK.out _ _ (hHeld) (fun hHeld => ?_)
          clear hK K
          try simp only [Act.put, List.setIfInBounds_toArray, List.set_cons_zero, List.set_cons_succ]
          refine region_call 14 rfl (by kernel_rfl) (by rfl) (fun K hK => ?_)
          go_simp
          refine (HREC.out _ HBW.out).mono ?_
          rintro e w2 ⟨x', rfl, ht, hb2⟩
          obtain ⟨⟨yo, yA, yB⟩, yK, ynk, yck, yP, ynp, ycp, yF, ynf, ycf⟩ := x'
          dsimp only [TV.val]
          refine hK.out _ _ (HKEEP.out _ _ (hb2.mono HS1.out) hHeld) (fun hHeld => ?_)
          clear hK K
          have cb2 : w2.cell? ⟨w.heap.size + 1 + 1 + 1, 3, none⟩ = some (.slice Ko k cko) := (hb2.cell HS3.out).trans cb
          have HB02 := Lib.hid hb2
          have HT := Lib.hid ht
          have HZ2 := Lib.hid (Nat.le_trans HS1.out hb2.size)
          clear hb2 ht
          have HL := Lib.hid (show Below w2.heap.size w2 (w2.alloc (.cells #[.int .i64 yo, .int .i64 yA, .int .i64 yB, .slice yK ynk yck, .slice yP ynp ycp, .slice yF ynf ycf] 59)) from (Below.refl _ _).alloc (Nat.le_refl _) _)
          have HLH := Lib.hid (holds_at w2 #[.int .i64 yo, .int .i64 yA, .int .i64 yB, .slice yK ynk yck, .slice yP ynp ycp, .slice yF ynf ycf] 59 _ rfl)
          try simp only [Act.put, List.setIfInBounds_toArray, List.set_cons_zero, List.set_cons_succ]
          refine region_call 15 rfl (by kernel_rfl) (by rfl) (fun K hK => ?_)
          go_simp
          refine hK.out _ _ (HKEEP.out _ _ (HL.out.mono HZ2.out) hHeld) (fun hHeld => ?_)
          clear hK K
          have cb3 := (HL.out.cell (p := ⟨w.heap.size + 1 + 1 + 1, 3, none⟩) (Nat.lt_of_lt_of_le HS3.out HB02.out.size)).trans cb2
          try simp only [Act.put, List.setIfInBounds_toArray, List.set_cons_zero, List.set_cons_succ]
          refine region_call 16 rfl (by kernel_rfl) (by rfl) (fun K hK => ?_)
          refine wp_append_at (.tmp 55) (.tmp 69) 57 57 _ rfl Tryd.underlying57 59 _ 6 96 infoTree rfl (by decide) Tryd.underlying57 (.slice Ko k cko) k 1 _ _ rfl (own_below (own_below HOWN.out HB02.out) HL.out) (some ⟨w2.heap.size, 0, none⟩) 1 rfl ⟨by omega, by omega, fun h => by cases h⟩ HLH.out rfl (by intro u hu; simp only [List.mem_cons, List.not_mem_nil, or_false] at hu; rcases hu with rfl | rfl | rfl | rfl | rfl | rfl <;> rfl) (by omega) (by decide) ?_
          intro v' w3 hown3 hmv3
          refine hK.out _ _ (HKEEP.out _ _ (hmv3.below (B := w.heap.size + 1 + 1) (Nat.le_trans HZ2.out HL.out.size) (fun g hg => Nat.le_of_lt (Nat.lt_trans (by omega) (HKB.out g hg)))) hHeld) (fun hHeld => ?_)
          clear hK K
          have hw3 := (((HWH.out.below HB02.out (by have := HS3.out; exact this)).below HL.out (by have := HS3.out; have := HB02.out.size; omega)).only hmv3.only (fun e => by have := HKB.out _ e; omega))
          obtain ⟨K', ck', rfl, -, -⟩ := own_slice hown3
          have cb4 : w3.cell? ⟨w.heap.size + 1 + 1 + 1, 3, none⟩ = some (.slice Ko k cko) := hw3.cell 3
          have fb4 : w3.frozen? ⟨w.heap.size + 1 + 1 + 1, 3, none⟩ = false := hw3.frozen 3
          have HO3 := Lib.hid hown3
          have HM3 := Lib.hid hmv3
          clear hown3 hmv3 hw3 cb3
          try simp only [Act.put, List.setIfInBounds_toArray, List.set_cons_zero, List.set_cons_succ]
          refine region_take 17 ?_ rfl (by kernel_rfl) (by rfl) hHeld ?_ ?_
          rotate_left
          · intro w hSw
            (try dsimp only at hSw)
            go_simp
            try with_reducible rfl
          try simp only [Act.put, List.setIfInBounds_toArray, List.set_cons_zero, List.set_cons_succ]
          refine region_call 18 rfl (by kernel_rfl) (by rfl) (fun K hK => ?_)
          go_simp
          refine hK.out _ _ (HKEEP.out _ _ ((Only.set_ (Only.refl (fun k => k = w.heap.size + 1 + 1 + 1) w3) (.inl rfl) 3 (.slice K' (k + 1) ck')).below (Nat.le_trans HZ2.out (Nat.le_trans HL.out.size HM3.out.only.size)) (fun k hk e => by omega)) hHeld) (fun hHeld => ?_)
          clear hK K
          try simp only [Act.put, List.setIfInBounds_toArray, List.set_cons_zero, List.set_cons_succ]
          refine region_done (by kernel_rfl) ?_
          clear cb cb2 cb4 fb4
          go_wp2_with fail
          obtain ⟨hg4, hb4⟩ := HGD.out.step HLT.out HB02.out HT.out HL.out (by rw [HLEN.out]; exact HO3.out) HM3.out
          have HG4 := Lib.hid hg4
          have HB4 := Lib.hid (HRD.out _ hb4)
          have HP4 := Lib.hid (HPART.out (⟨(yo, yA, yB), yK, ynk, yck, yP, ynp, ycp, yF, ynf, ycf⟩, each (ptF b) (u + d) ks[k].2) rfl)
          clear hg4 hb4
          go_roundw
          case rel => exact ⟨k + 1, _, os ++ [(⟨(yo, yA, yB), yK, ynk, yck, yP, ynp, ycp, yF, ynf, ycf⟩, each (ptF b) (u + d) ks[k].2)], by go_num, by omega, by rw [List.length_append, HLEN.out]; rfl, HP4, HG4, HB4⟩
          case measure => simp [intOf] <;> omega
        · go_simp
          refine (HREC.out _ HBW.out).mono ?_
          rintro e w2 ⟨x', rfl, ht, hb2⟩
          obtain ⟨⟨yo, yA, yB⟩, yK, ynk, yck, yP, ynp, ycp, yF, ynf, ycf⟩ := x'
          dsimp only [TV.val]
          refine hK.out _ _ (HKEEP.out _ _ (hb2.mono HS1.out) hHeld) (fun hHeld => ?_)
          clear hK K
          have cb2 : w2.cell? ⟨w.heap.size + 1 + 1 + 1, 3, none⟩ = some (.slice Ko k cko) := (hb2.cell HS3.out).trans cb
          have HB02 := Lib.hid hb2
          have HT := Lib.hid ht
          have HZ2 := Lib.hid (Nat.le_trans HS1.out hb2.size)
          clear hb2 ht
          have HL := Lib.hid (show Below w2.heap.size w2 (w2.alloc (.cells #[.int .i64 yo, .int .i64 yA, .int .i64 yB, .slice yK ynk yck, .slice yP ynp ycp, .slice yF ynf ycf] 59)) from (Below.refl _ _).alloc (Nat.le_refl _) _)
          have HLH := Lib.hid (holds_at w2 #[.int .i64 yo, .int .i64 yA, .int .i64 yB, .slice yK ynk yck, .slice yP ynp ycp, .slice yF ynf ycf] 59 _ rfl)
          try simp only [Act.put, List.setIfInBounds_toArray, List.set_cons_zero, List.set_cons_succ]
          refine region_two 1 15 rfl rfl (by kernel_rfl) (by rfl) (by rfl) (fun K hK => ?_) (fun K hK => ?_)
          · go_simp
            refine hK.out _ _ (hHeld) (fun hHeld => ?_)
            clear hK K
            try simp only [Act.put, List.setIfInBounds_toArray, List.set_cons_zero, List.set_cons_succ]
            refine region_call 15 rfl (by kernel_rfl) (by rfl) (fun K hK => ?_)
            go_simp
            refine hK.out _ _ (HKEEP.out _ _ (HL.out.mono HZ2.out) hHeld) (fun hHeld => ?_)
            clear hK K
            have cb3 := (HL.out.cell (p := ⟨w.heap.size + 1 + 1 + 1, 3, none⟩) (Nat.lt_of_lt_of_le HS3.out HB02.out.size)).trans cb2
            try simp only [Act.put, List.setIfInBounds_toArray, List.set_cons_zero, List.set_cons_succ]
            refine region_call 16 rfl (by kernel_rfl) (by rfl) (fun K hK => ?_)
            refine wp_append_at (.tmp 55) (.tmp 69) 57 57 _ rfl Tryd.underlying57 59 _ 6 96 infoTree rfl (by decide) Tryd.underlying57 (.slice Ko k cko) k 1 _ _ rfl (own_below (own_below HOWN.out HB02.out) HL.out) (some ⟨w2.heap.size, 0, none⟩) 1 rfl ⟨by omega, by omega, fun h => by cases h⟩ HLH.out rfl (by intro u hu; simp only [List.mem_cons, List.not_mem_nil, or_false] at hu; rcases hu with rfl | rfl | rfl | rfl | rfl | rfl <;> rfl) (by omega) (by decide) ?_
            intro v' w3 hown3 hmv3
            refine hK.out _ _ (HKEEP.out _ _ (hmv3.below (B := w.heap.size + 1 + 1) (Nat.le_trans HZ2.out HL.out.size) (fun g hg => Nat.le_of_lt (Nat.lt_trans (by omega) (HKB.out g hg)))) hHeld) (fun hHeld => ?_)
            clear hK K
            have hw3 := (((HWH.out.below HB02.out (by have := HS3.out; exact this)).below HL.out (by have := HS3.out; have := HB02.out.size; omega)).only hmv3.only (fun e => by have := HKB.out _ e; omega))
            obtain ⟨K', ck', rfl, -, -⟩ := own_slice hown3
            have cb4 : w3.cell? ⟨w.heap.size + 1 + 1 + 1, 3, none⟩ = some (.slice Ko k cko) := hw3.cell 3
            have fb4 : w3.frozen? ⟨w.heap.size + 1 + 1 + 1, 3, none⟩ = false := hw3.frozen 3
            have HO3 := Lib.hid hown3
            have HM3 := Lib.hid hmv3
            clear hown3 hmv3 hw3 cb3
            try simp only [Act.put, List.setIfInBounds_toArray, List.set_cons_zero, List.set_cons_succ]
            refine region_take 17 ?_ rfl (by kernel_rfl) (by rfl) hHeld ?_ ?_
            rotate_left
            · intro w hSw
              (try dsimp only at hSw)
              go_simp
              try with_reducible rfl
            try simp only [Act.put, List.setIfInBounds_toArray, List.set_cons_zero, List.set_cons_succ]
            refine region_call 18 rfl (by kernel_rfl) (by rfl) (fun K hK => ?_)
            go_simp
            refine hK.out _ _ (HKEEP.out _ _ ((Only.set_ (Only.refl (fun k => k = w.heap.size + 1 + 1 + 1) w3) (.inl rfl) 3 (.slice K' (k + 1) ck')).below (Nat.le_trans HZ2.out (Nat.le_trans HL.out.size HM3.out.only.size)) (fun k hk e => by omega)) hHeld) (fun hHeld => ?_)
            clear hK K
            try simp only [Act.put, List.setIfInBounds_toArray, List.set_cons_zero, List.set_cons_succ]
            refine region_done (by kernel_rfl) ?_
            clear cb cb2 cb4 fb4
            go_wp2_with fail
            obtain ⟨hg4, hb4⟩ := HGD.out.step HLT.out HB02.out HT.out HL.out (by rw [HLEN.out]; exact HO3.out) HM3.out
            have HG4 := Lib.hid hg4
            have HB4 := Lib.hid (HRD.out _ hb4)
            have HP4 := Lib.hid (HPART.out (⟨(yo, yA, yB), yK, ynk, yck, yP, ynp, ycp, yF, ynf, ycf⟩, each (ptF b) (u + d) ks[k].2) rfl)
            clear hg4 hb4
            go_roundw
            case rel => exact ⟨k + 1, _, os ++ [(⟨(yo, yA, yB), yK, ynk, yck, yP, ynp, ycp, yF, ynf, ycf⟩, each (ptF b) (u + d) ks[k].2)], by go_num, by omega, by rw [List.length_append, HLEN.out]; rfl, HP4, HG4, HB4⟩
            case measure => simp [intOf] <;> omega
          · go_simp
            refine hK.out _ _ (HKEEP.out _ _ (HL.out.mono HZ2.out) hHeld) (fun hHeld => ?_)
            clear hK K
            have cb3 := (HL.out.cell (p := ⟨w.heap.size + 1 + 1 + 1, 3, none⟩) (Nat.lt_of_lt_of_le HS3.out HB02.out.size)).trans cb2
            try simp only [Act.put, List.setIfInBounds_toArray, List.set_cons_zero, List.set_cons_succ]
            refine region_call 1 rfl (by kernel_rfl) (by rfl) (fun K hK => ?_)
            go_simp
            refine hK.out _ _ (hHeld) (fun hHeld => ?_)
            clear hK K
            try simp only [Act.put, List.setIfInBounds_toArray, List.set_cons_zero, List.set_cons_succ]
            refine region_call 16 rfl (by kernel_rfl) (by rfl) (fun K hK => ?_)
            refine wp_append_at (.tmp 55) (.tmp 69) 57 57 _ rfl Tryd.underlying57 59 _ 6 96 infoTree rfl (by decide) Tryd.underlying57 (.slice Ko k cko) k 1 _ _ rfl (own_below (own_below HOWN.out HB02.out) HL.out) (some ⟨w2.heap.size, 0, none⟩) 1 rfl ⟨by omega, by omega, fun h => by cases h⟩ HLH.out rfl (by intro u hu; simp only [List.mem_cons, List.not_mem_nil, or_false] at hu; rcases hu with rfl | rfl | rfl | rfl | rfl | rfl <;> rfl) (by omega) (by decide) ?_
            intro v' w3 hown3 hmv3
            refine hK.out _ _ (HKEEP.out _ _ (hmv3.below (B := w.heap.size + 1 + 1) (Nat.le_trans HZ2.out HL.out.size) (fun g hg => Nat.le_of_lt (Nat.lt_trans (by omega) (HKB.out g hg)))) hHeld) (fun hHeld => ?_)
            clear hK K
            have hw3 := (((HWH.out.below HB02.out (by have := HS3.out; exact this)).below HL.out (by have := HS3.out; have := HB02.out.size; omega)).only hmv3.only (fun e => by have := HKB.out _ e; omega))
            obtain ⟨K', ck', rfl, -, -⟩ := own_slice hown3
            have cb4 : w3.cell? ⟨w.heap.size + 1 + 1 + 1, 3, none⟩ = some (.slice Ko k cko) := hw3.cell 3
            have fb4 : w3.frozen? ⟨w.heap.size + 1 + 1 + 1, 3, none⟩ = false := hw3.frozen 3
            have HO3 := Lib.hid hown3
            have HM3 := Lib.hid hmv3
            clear hown3 hmv3 hw3 cb3
            try simp only [Act.put, List.setIfInBounds_toArray, List.set_cons_zero, List.set_cons_succ]
            refine region_take 17 ?_ rfl (by kernel_rfl) (by rfl) hHeld ?_ ?_
            rotate_left
            · intro w hSw
              (try dsimp only at hSw)
              go_simp
              try with_reducible rfl
            try simp only [Act.put, List.setIfInBounds_toArray, List.set_cons_zero, List.set_cons_succ]
            refine region_call 18 rfl (by kernel_rfl) (by rfl) (fun K hK => ?_)
            go_simp
            refine hK.out _ _ (HKEEP.out _ _ ((Only.set_ (Only.refl (fun k => k = w.heap.size + 1 + 1 + 1) w3) (.inl rfl) 3 (.slice K' (k + 1) ck')).below (Nat.le_trans HZ2.out (Nat.le_trans HL.out.size HM3.out.only.size)) (fun k hk e => by omega)) hHeld) (fun hHeld => ?_)
            clear hK K
            try simp only [Act.put, List.setIfInBounds_toArray, List.set_cons_zero, List.set_cons_succ]
            refine region_done (by kernel_rfl) ?_
            clear cb cb2 cb4 fb4
            go_wp2_with fail
            obtain ⟨hg4, hb4⟩ := HGD.out.step HLT.out HB02.out HT.out HL.out (by rw [HLEN.out]; exact HO3.out) HM3.out
            have HG4 := Lib.hid hg4
            have HB4 := Lib.hid (HRD.out _ hb4)
            have HP4 := Lib.hid (HPART.out (⟨(yo, yA, yB), yK, ynk, yck, yP, ynp, ycp, yF, ynf, ycf⟩, each (ptF b) (u + d) ks[k].2) rfl)
            clear hg4 hb4
            go_roundw
            case rel => exact ⟨k + 1, _, os ++ [(⟨(yo, yA, yB), yK, ynk, yck, yP, ynp, ycp, yF, ynf, ycf⟩, each (ptF b) (u + d) ks[k].2)], by go_num, by omega, by rw [List.length_append, HLEN.out]; rfl, HP4, HG4, HB4⟩
            case measure => simp [intOf] <;> omega
      · have hkm : k = ks.length := by omega
        have hG := HG.out
        have hown : wr.ownsRow 0 59 6 Kv k (treesV (os.map Prod.fst)) := by rw [← hlen]; exact hG.own
        obtain ⟨Ko, cko, rfl, hsl, -⟩ := own_slice hown
        have HDN := Lib.hid (HDONE.out wr Ko cko k os (HB0.out.trans (HBR.out.mono (by omega))) hG hlen hkm hsl HP.out)
        have hwo := hG.whole
        have o0 : wr.cell? ⟨w.heap.size + 1 + 1 + 1, 0, none⟩ = some (.int .i64 op) := hwo.cell 0
        have o1 : wr.cell? ⟨w.heap.size + 1 + 1 + 1, 1, none⟩ = some (.int .i64 A) := hwo.cell 1
        have o2 : wr.cell? ⟨w.heap.size + 1 + 1 + 1, 2, none⟩ = some (.int .i64 B) := hwo.cell 2
        have o3 : wr.cell? ⟨w.heap.size + 1 + 1 + 1, 3, none⟩ = some (.slice Ko k cko) := hwo.cell 3
        have o4 : wr.cell? ⟨w.heap.size + 1 + 1 + 1, 4, none⟩ = some (.slice P na ca) := hwo.cell 4
        have o5 : wr.cell? ⟨w.heap.size + 1 + 1 + 1, 5, none⟩ = some (.slice F nf cf) := hwo.cell 5
        have hwz := HZ.out.below HBR.out (by omega)
        have HBE := Lib.hid (show ∀ w2, Below w.heap.size wr w2 → Below w.heap.size w w2 from fun w2 hb => (HB0.out.trans (HBR.out.mono (by omega))).trans hb)
        have HSE : Hid (w.heap.size ≤ wr.heap.size) := Lib.hid (by omega)
        clear hkm hG hown hwo xr hsz
        have z0 : wr.cell? ⟨w.heap.size + 1 + 1, 0, none⟩ = some (.int .i64 0) := hwz.cell 0
        have f0 := hwz.frozen 0
        have z1 : wr.cell? ⟨w.heap.size + 1 + 1, 1, none⟩ = some (.int .i64 0) := hwz.cell 1
        have f1 := hwz.frozen 1
        have z2 : wr.cell? ⟨w.heap.size + 1 + 1, 2, none⟩ = some (.int .i64 0) := hwz.cell 2
        have f2 := hwz.frozen 2
        have z3 : wr.cell? ⟨w.heap.size + 1 + 1, 3, none⟩ = some (.slice none 0 0) := hwz.cell 3
        have f3 := hwz.frozen 3
        have z4 : wr.cell? ⟨w.heap.size + 1 + 1, 4, none⟩ = some (.slice none 0 0) := hwz.cell 4
        have f4 := hwz.frozen 4
        have z5 : wr.cell? ⟨w.heap.size + 1 + 1, 5, none⟩ = some (.slice none 0 0) := hwz.cell 5
        have f5 := hwz.frozen 5
        have HWZ := Lib.hid hwz
        clear hwz
        go_wp2_with fail
        have hw6 := ((((((HWZ.out).set_ 0 (.int .i64 op)).set_ 1 (.int .i64 A)).set_ 2 (.int .i64 B)).set_ 3 (.slice Ko k cko)).set_ 4 (.slice P na ca)).set_ 5 (.slice F nf cf)
        have ho6 : Only (fun j => j = w.heap.size + 1 + 1) wr ((((((wr.setCell ⟨w.heap.size + 1 + 1, 0, none⟩ (.int .i64 op)).setCell ⟨w.heap.size + 1 + 1, 1, none⟩ (.int .i64 A)).setCell ⟨w.heap.size + 1 + 1, 2, none⟩ (.int .i64 B)).setCell ⟨w.heap.size + 1 + 1, 3, none⟩ (.slice Ko k cko)).setCell ⟨w.heap.size + 1 + 1, 4, none⟩ (.slice P na ca)).setCell ⟨w.heap.size + 1 + 1, 5, none⟩ (.slice F nf cf)) := ((((((Only.refl (fun j => j = w.heap.size + 1 + 1) wr).set_ (.inl rfl) 0 _).set_ (.inl rfl) 1 _).set_ (.inl rfl) 2 _).set_ (.inl rfl) 3 _).set_ (.inl rfl) 4 _).set_ (.inl rfl) 5 _
        generalize ((((((wr.setCell ⟨w.heap.size + 1 + 1, 0, none⟩ (.int .i64 op)).setCell ⟨w.heap.size + 1 + 1, 1, none⟩ (.int .i64 A)).setCell ⟨w.heap.size + 1 + 1, 2, none⟩ (.int .i64 B)).setCell ⟨w.heap.size + 1 + 1, 3, none⟩ (.slice Ko k cko)).setCell ⟨w.heap.size + 1 + 1, 4, none⟩ (.slice P na ca)).setCell ⟨w.heap.size + 1 + 1, 5, none⟩ (.slice F nf cf)) = W6 at *
        have q0 : W6.cell? ⟨w.heap.size + 1 + 1, 0, none⟩ = some (.int .i64 op) := hw6.cell 0
        have q1 : W6.cell? ⟨w.heap.size + 1 + 1, 1, none⟩ = some (.int .i64 A) := hw6.cell 1
        have q2 : W6.cell? ⟨w.heap.size + 1 + 1, 2, none⟩ = some (.int .i64 B) := hw6.cell 2
        have q3 : W6.cell? ⟨w.heap.size + 1 + 1, 3, none⟩ = some (.slice Ko k cko) := hw6.cell 3
        have q4 : W6.cell? ⟨w.heap.size + 1 + 1, 4, none⟩ = some (.slice P na ca) := hw6.cell 4
        have q5 : W6.cell? ⟨w.heap.size + 1 + 1, 5, none⟩ = some (.slice F nf cf) := hw6.cell 5
        have hb6 := HBE.out _ (ho6.below (B := w.heap.size) HSE.out fun k hk e => by omega)
        have ht6 := (HDN.out.keep fun k hk hl => ho6.block k hl (by omega)).mono (G' := fun k => G k ∨ w.heap.size ≤ k) fun k hk _ => by rcases hk with h | h; exact .inl h.1; exact .inr (by omega)
        clear hw6 ho6
        (try simp only [Exit.inBlock, Exit.then])
        refine bodyPost_ret (by simp [results, Tryd.results70, go_sem, q0, q1, q2, q3, q4, q5]; try rfl) rfl ?_
        exact TreePost.of ht6 hb6
end Go.Proofs.YtkkkblghihheeaaDoor
