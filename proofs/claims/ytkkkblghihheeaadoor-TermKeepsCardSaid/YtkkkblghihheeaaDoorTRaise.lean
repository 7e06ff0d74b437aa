/- The document's answer: Raise. -/
import Derived.Test.YtkkkblghihheeaaDoorTTGrow
import Derived.Handy
namespace Go.Proofs.YtkkkblghihheeaaDoor
open Go.RowKit

/-- A tree is answered: in new memory, and in G. -/
def TreePost (w : World) (G : Nat → Prop) (a : Ann) (e : Ending) (w' : World) : Prop := ∃ v' : TV, e = .returned v'.val ∧ TreeAt w' (fun k => G k ∨ w.heap.size ≤ k) v' a ∧ Below w.heap.size w w'
theorem TreePost.var {w w' : World} {G : Nat → Prop} (A : Int) (hb : Below w.heap.size w w') : TreePost w G [((1, A, 0), 0)] (.returned (.agg #[.int .i64 1, .int .i64 A, .int .i64 0, .slice none 0 0, .slice none 0 0, .slice none 0 0])) w' :=
  ⟨⟨(1, A, 0), none, 0, 0, none, 0, 0, none, 0, 0⟩, rfl, .mk ⟨(1, A, 0), none, 0, 0, none, 0, 0, none, 0, 0⟩ [] [] [] ⟨rfl, rfl, rfl, slice_nil, slice_nil, slice_nil, fun _ => ⟨rfl, rfl, rfl⟩, fun h => by simp at h⟩
    ⟨Holds.nil _ _, fun b o e => by cases e⟩ ⟨Holds.nil _ _, fun b o e => by cases e⟩ ⟨Holds.nil _ _, fun b o e => by cases e⟩ (fun x hx => by rcases hx with hx | hx <;> cases hx) (fun p hp => by cases hp), hb⟩
theorem TreePost.of {w w' : World} {G : Nat → Prop} {a : Ann} {v : TV} (h : TreeAt w' (fun k => G k ∨ w.heap.size ≤ k) v a) (hb : Below w.heap.size w w') : TreePost w G a (.returned v.val) w' := ⟨v, rfl, h, hb⟩
set_option maxRecDepth 100000 in
set_option maxHeartbeats 4000000 in
theorem raise_any : ∀ (N : Nat) (v : TV) (a : Ann) (w : World) (G : Nat → Prop) (by_ u : Nat), by_ ≤ 4000000 → a.length ≤ N → TreeAt w G v a → SmallA a → u + 4 * a.length ≤ 4000000 →
    Calls Tryd.prog 58 #[v.val, .int .i64 (by_ : Int), .int .i64 (u : Int)] w (TreePost w G (rz by_ u a)) := by
  intro N
  induction N with
  | zero =>
    intro v a w G by_ u hby hN h
    cases h with
    | mk v ks ats fs hs hK hA hF hv sub => exact absurd hN (by simp [treeA])
  | succ N ih =>
    intro v a w G by_ u hby hN h hsm hu
    cases h with
    | mk v ks ats fs hs hK hA hF hv sub =>
    obtain ⟨⟨op, A, B⟩, K, nk, ck, P, na, ca, F, nf, cf⟩ := v
    simp only at hN hsm hu hK hA hF
    have htop := hsm.top
    simp only at htop
    have hnk := hs.nk
    simp only at hnk
    subst hnk
    have HSUB : Hid (∀ (k : Nat) (hk : k < ks.length) w1, Below w.heap.size w w1 → Calls Tryd.prog 58 #[TV.val ks[k].1, .int .i64 (by_ : Int), .int .i64 ((u : Int) + ((aroundN (op, A, B) k : Nat) : Int))] w1 (TreePost w1 (fun k => G k ∧ k < w.heap.size) (rz by_ (u + aroundN (op, A, B) k) ks[k].2))) := Lib.hid fun k hk w1 hb => by
      have hm : ks[k].2 ∈ ks.map Prod.snd := List.mem_map.2 ⟨_, List.getElem_mem hk, rfl⟩
      have hl := treeA_len (n := (op, A, B)) (ats := ats) (fs := fs) hm
      have ha := around_le (n := (op, A, B)) (fun h => (hs.fix h).2.1) k
      have := ih ks[k].1 ks[k].2 w1 (fun k => G k ∧ k < w.heap.size) by_ (u + aroundN (op, A, B) k) hby (by omega) (((sub _ (List.getElem_mem hk)).mono fun k h1 h2 => ⟨h1, h2⟩).next hb) (hsm.kid hm) (by omega)
      rwa [Int.natCast_add] at this
    have HDONE : Hid (((op, A, B) : Node3).1 = 1 ∧ (u : Int) ≤ A ∨ ∀ (wr : World) (Ko : Option Addr) (cko k : Nat) (os : List (TV × Ann)), Below w.heap.size w wr → TGrow wr (fun k => G k ∧ k < w.heap.size) (w.heap.size + 1 + 1) (op, A, B) P na ca F nf cf (.slice Ko k cko) os → os.length = k → k = ks.length → Slice Ko k cko → (∀ j (hj : j < os.length) (hk : j < ks.length), os[j].2 = rz by_ (u + aroundN (op, A, B) j) ks[j].2) →
        TreeAt wr (fun k => (G k ∧ k < w.heap.size) ∨ w.heap.size + 1 + 1 < k) ⟨(op, A, B), Ko, k, cko, P, na, ca, F, nf, cf⟩ (rz by_ u (treeA (op, A, B) ats fs (ks.map Prod.snd)))) := Lib.hid (by
      by_cases hc : op = 1 ∧ (u : Int) ≤ A
      · exact .inl hc
      refine .inr fun wr Ko cko k os hb hg hlen hkm hsl hp => ?_
      have := hg.done hlen (ats := ats) (fs := fs) ⟨hlen.symm, hs.na, hs.nf, hsl, hs.sa, hs.sf, fun h => by have := hs.var h; exact ⟨by omega, this.2.1, this.2.2⟩, fun h => by have := hs.fix h; exact ⟨this.1, this.2.1, by omega⟩⟩ ((hA.mono fun k h1 h2 => ⟨h1, h2⟩).keep fun k hk _ => hb.block k hk.2) ((hF.mono fun k h1 h2 => ⟨h1, h2⟩).keep fun k hk _ => hb.block k hk.2) hv
      have e : rz by_ u (treeA (op, A, B) ats fs (ks.map Prod.snd)) = treeA (op, A, B) ats fs (os.map Prod.snd) := by
        refine each_tree (rz_stays by_) ?_ (fun x hx => hv x (.inl hx)) (fun x hx => hv x (.inr hx)) (by simp; omega) fun j hj => ?_
        · unfold rzF
          rw [if_neg hc]
        · have := hp j (by simp at hj; omega) (by simpa using hj)
          simp only [List.getElem_map]
          exact this
      rw [e]
      exact this)
    by_cases hc : op = 1 ∧ (u : Int) ≤ A
    · obtain ⟨h1, hc⟩ := hc
      obtain ⟨hk0, ha0, hz0⟩ := hs.var h1
      simp only at hz0
      have e1 := List.eq_nil_of_length_eq_zero hk0
      have e2 := List.eq_nil_of_length_eq_zero ha0
      subst h1 e1 e2 hz0
      have HR : Hid (rz by_ u (treeA (1, A, 0) [] fs []) = [((1, A + (by_ : Int), 0), 0)]) := Lib.hid (by simp [treeA, kidsA, rz, each, rzF, hc, shA])
      clear hs hK hA hF hv sub ih hN hsm HSUB HDONE
      rw [List.map_nil, HR.out]
      dsimp only [TV.val]
      have ew := IntWalk.i64_in (A + (by_ : Int)) (by omega)
      have HB := Lib.hid (show ∀ o1 o2 : Obj, Below w.heap.size w ((w.alloc o1).alloc o2) from fun o1 o2 => ((Below.refl _ _).alloc (Nat.le_refl _) _).alloc (by simp) _)
      go_enter Tryd.func58, Tryd.ntmps58
      go_wp2_with fail
      go_returns
      exact TreePost.var _ (HB.out _ _)
    have hfx := hs.fix
    simp only at hfx
    have HFX := Lib.hid (show (op, A, B).1 = 12 → 0 ≤ (op, A, B).2.2 from fun h => (hfx h).1)
    have HAR : Hid (∀ k, aroundN (op, A, B) k ≤ 4) := Lib.hid (around_le (n := (op, A, B)) fun h => (hfx h).2.1)
    replace HDONE := Lib.hid (HDONE.out.resolve_left hc)
    have hb0 : Below w.heap.size w (((w.alloc (.cells #[.int .i64 op, .int .i64 A, .int .i64 B, .slice K ks.length ck, .slice P na ca, .slice F nf cf] 59)).alloc (.cells #[.int .i64 0, .int .i64 0, .int .i64 0, .slice none 0 0, .slice none 0 0, .slice none 0 0] 59)).alloc (.cells #[.int .i64 op, .int .i64 A, .int .i64 B, .slice none 0 0, .slice P na ca, .slice F nf cf] 59)) := (((Below.refl _ _).alloc (Nat.le_refl _) _).alloc (by simp) _).alloc (by simp; omega) _
    have x0 : Whole (((w.alloc (.cells #[.int .i64 op, .int .i64 A, .int .i64 B, .slice K ks.length ck, .slice P na ca, .slice F nf cf] 59)).alloc (.cells #[.int .i64 0, .int .i64 0, .int .i64 0, .slice none 0 0, .slice none 0 0, .slice none 0 0] 59)).alloc (.cells #[.int .i64 op, .int .i64 A, .int .i64 B, .slice none 0 0, .slice P na ca, .slice F nf cf] 59)) w.heap.size #[.int .i64 op, .int .i64 A, .int .i64 B, .slice K ks.length ck, .slice P na ca, .slice F nf cf] 59 := ((Whole.new w #[.int .i64 op, .int .i64 A, .int .i64 B, .slice K ks.length ck, .slice P na ca, .slice F nf cf] 59).below ((Below.refl _ _).alloc (Nat.le_refl _) _) (by simp)).below ((Below.refl _ _).alloc (Nat.le_refl _) _) (by simp; omega)
    have z0 : Whole (((w.alloc (.cells #[.int .i64 op, .int .i64 A, .int .i64 B, .slice K ks.length ck, .slice P na ca, .slice F nf cf] 59)).alloc (.cells #[.int .i64 0, .int .i64 0, .int .i64 0, .slice none 0 0, .slice none 0 0, .slice none 0 0] 59)).alloc (.cells #[.int .i64 op, .int .i64 A, .int .i64 B, .slice none 0 0, .slice P na ca, .slice F nf cf] 59)) (w.heap.size + 1) #[.int .i64 0, .int .i64 0, .int .i64 0, .slice none 0 0, .slice none 0 0, .slice none 0 0] 59 := by
      have := (Whole.new (w.alloc (.cells #[.int .i64 op, .int .i64 A, .int .i64 B, .slice K ks.length ck, .slice P na ca, .slice F nf cf] 59)) #[.int .i64 0, .int .i64 0, .int .i64 0, .slice none 0 0, .slice none 0 0, .slice none 0 0] 59).below ((Below.refl _ _).alloc (Nat.le_refl _) (.cells #[.int .i64 op, .int .i64 A, .int .i64 B, .slice none 0 0, .slice P na ca, .slice F nf cf] 59)) (by simp)
      rwa [World.size_alloc] at this
    have HG0 : Hid (TGrow (((w.alloc (.cells #[.int .i64 op, .int .i64 A, .int .i64 B, .slice K ks.length ck, .slice P na ca, .slice F nf cf] 59)).alloc (.cells #[.int .i64 0, .int .i64 0, .int .i64 0, .slice none 0 0, .slice none 0 0, .slice none 0 0] 59)).alloc (.cells #[.int .i64 op, .int .i64 A, .int .i64 B, .slice none 0 0, .slice P na ca, .slice F nf cf] 59)) (fun k => G k ∧ k < w.heap.size) (w.heap.size + 1 + 1) (op, A, B) P na ca F nf cf (.slice none 0 0) []) := Lib.hid (by
      refine ⟨?_, World.ownsRow_nil _ _ _ _, fun k h => (by cases h), fun p hp => (by cases hp)⟩
      have := Whole.new ((w.alloc (.cells #[.int .i64 op, .int .i64 A, .int .i64 B, .slice K ks.length ck, .slice P na ca, .slice F nf cf] 59)).alloc (.cells #[.int .i64 0, .int .i64 0, .int .i64 0, .slice none 0 0, .slice none 0 0, .slice none 0 0] 59)) #[.int .i64 op, .int .i64 A, .int .i64 B, .slice none 0 0, .slice P na ca, .slice F nf cf] 59
      simpa using this)
    have hkl : ks.length ≤ 1000000 := by
      have := kids_count (n := (op, A, B)) (ats := ats) (fs := fs) sub
      omega
    have HLT : Hid (∀ k, (G k ∧ k < w.heap.size) → k < w.heap.size + 1 + 1) := Lib.hid fun k hk => by omega
    have HB0 := Lib.hid hb0
    have HX := Lib.hid x0
    have HZ := Lib.hid z0
    have HK := Lib.hid hK.1
    clear hs hK hA hF hv sub ih hN hsm hfx hb0 x0 z0
    dsimp only [TV.val]
    generalize rz by_ u (treeA (op, A, B) ats fs (ks.map Prod.snd)) = ra at *
    by_cases h1 : op = 1
    · have e1 : (op == 1) = true := by simpa using h1
      have e2 : ¬ (u : Int) ≤ A := fun h => hc ⟨h1, h⟩
      clear h1 hc
      go_enter Tryd.func58, Tryd.ntmps58
      go_wp2_with fail
      go_loopw [8] (fun i wr => ∃ (k : Nat) (Kv : Value) (os : List (TV × Ann)), i = .int .i64 (k : Int) ∧ k ≤ ks.length ∧ os.length = k ∧ Hid (∀ j (hj : j < os.length) (hk : j < ks.length), os[j].2 = rz by_ (u + aroundN (op, A, B) j) ks[j].2) ∧ Hid (TGrow wr (fun k => G k ∧ k < w.heap.size) (w.heap.size + 1 + 1) (op, A, B) P na ca F nf cf Kv os) ∧ Hid (Below (w.heap.size + 1 + 1) (((w.alloc (.cells #[.int .i64 op, .int .i64 A, .int .i64 B, .slice K ks.length ck, .slice P na ca, .slice F nf cf] 59)).alloc (.cells #[.int .i64 0, .int .i64 0, .int .i64 0, .slice none 0 0, .slice none 0 0, .slice none 0 0] 59)).alloc (.cells #[.int .i64 op, .int .i64 A, .int .i64 B, .slice none 0 0, .slice P na ca, .slice F nf cf] 59)) wr)) (fun i _ => ks.length - (intOf i).toNat)
      case atStart => exact ⟨0, _, [], rfl, Nat.zero_le _, rfl, Lib.hid (fun j hj => absurd hj (by simp)), HG0, Lib.hid (Below.refl _ _)⟩
      case round =>
        obtain ⟨k, Kv, os, rfl, hk, hlen, HP, HG, HBR⟩ := hrel
        have hsz := HBR.out.size
        simp only [World.size_alloc] at hsz
        have xr := HX.out.below HBR.out (by omega)
        have c0 : wr.cell? ⟨w.heap.size, 0, none⟩ = some (.int .i64 op) := xr.cell 0
        have c1 : wr.cell? ⟨w.heap.size, 1, none⟩ = some (.int .i64 A) := xr.cell 1
        have c2 : wr.cell? ⟨w.heap.size, 2, none⟩ = some (.int .i64 B) := xr.cell 2
        have c3 : wr.cell? ⟨w.heap.size, 3, none⟩ = some (.slice K ks.length ck) := xr.cell 3
        have HBW := Lib.hid (show Below w.heap.size w wr.drew from (HB0.out.trans (HBR.out.mono (by omega))).trans (below_drewN (Below.refl _ _) 1))
        have HRD := Lib.hid (show ∀ w2, Below (w.heap.size + 1 + 1) wr.drew w2 → Below (w.heap.size + 1 + 1) (((w.alloc (.cells #[.int .i64 op, .int .i64 A, .int .i64 B, .slice K ks.length ck, .slice P na ca, .slice F nf cf] 59)).alloc (.cells #[.int .i64 0, .int .i64 0, .int .i64 0, .slice none 0 0, .slice none 0 0, .slice none 0 0] 59)).alloc (.cells #[.int .i64 op, .int .i64 A, .int .i64 B, .slice none 0 0, .slice P na ca, .slice F nf cf] 59)) w2 from fun w2 hb => (HBR.out.trans (below_drewN (Below.refl _ _) 1)).trans hb)
        have HS0 : Hid (w.heap.size ≤ wr.drew.heap.size) := Lib.hid (by show w.heap.size ≤ wr.heap.size; omega)
        have HS1 : Hid (w.heap.size + 1 ≤ wr.drew.heap.size) := Lib.hid (by show w.heap.size + 1 ≤ wr.heap.size; omega)
        have HS3 : Hid (w.heap.size + 1 + 1 < wr.drew.heap.size) := Lib.hid (by show w.heap.size + 1 + 1 < wr.heap.size; omega)
        clear xr hsz
        by_cases hlt : k < ks.length
        · obtain ⟨g, o, rfl, hg, -⟩ := HK.out.at_ (by rw [treesV_len, List.length_map]; omega)
          have hcs := kid_cells (k := k) (HK.out.below HBW.out) (by rw [List.length_map]; exact hlt)
          simp only [List.getElem_map] at hcs
          have HREC := Lib.hid (HSUB.out k hlt)
          have HPART : Hid (∀ q : TV × Ann, q.2 = rz by_ (u + aroundN (op, A, B) k) ks[k].2 → ∀ j (hj : j < (os ++ [q]).length) (hk : j < ks.length), (os ++ [q])[j].2 = rz by_ (u + aroundN (op, A, B) j) ks[j].2) := Lib.hid fun q hq j hj hk' => by
            by_cases e : j < os.length
            · rw [List.getElem_append_left e]; exact HP.out j e hk'
            · have : j = k := by simp only [List.length_append, List.length_cons, List.length_nil] at hj; omega
              subst this
              rw [List.getElem_append_right (by omega)]
              simpa [hlen] using hq
          have hd4 := HAR.out k
          obtain ⟨d, hd⟩ : ∃ d, aroundN (op, A, B) k = d := ⟨_, rfl⟩
          rw [hd] at hd4 HREC HPART
          have HD := Lib.hid hd
          obtain ⟨x, hx⟩ : ∃ x, ks[k].1 = x := ⟨_, rfl⟩
          rw [hx] at hcs HREC
          clear hd hx
          obtain ⟨⟨xo, xA, xB⟩, xK, xnk, xck, xP, xnp, xcp, xF, xnf, xcf⟩ := x
          have r0 := hcs 0 _ rfl
          have r1 := hcs 1 _ rfl
          have r2 := hcs 2 _ rfl
          have r3 := hcs 3 _ rfl
          have r4 := hcs 4 _ rfl
          have r5 := hcs 5 _ rfl
          rw [Nat.add_zero] at r0
          have HKEEP : Hid (∀ W W' : World, Below (w.heap.size + 1) W W' → (fun W => W.cell? ⟨w.heap.size, 0, none⟩ = some (.int .i64 op) ∧ W.cell? ⟨w.heap.size, 1, none⟩ = some (.int .i64 A) ∧ W.cell? ⟨w.heap.size, 2, none⟩ = some (.int .i64 B) ∧ W.cell? ⟨w.heap.size, 3, none⟩ = some (.slice (some ⟨g, o, none⟩) ks.length ck) ∧ W.cell? ⟨g, o + k * 6, none⟩ = some (.int .i64 xo) ∧ W.cell? ⟨g, o + k * 6 + 1, none⟩ = some (.int .i64 xA) ∧ W.cell? ⟨g, o + k * 6 + 2, none⟩ = some (.int .i64 xB) ∧ W.cell? ⟨g, o + k * 6 + 3, none⟩ = some (.slice xK xnk xck) ∧ W.cell? ⟨g, o + k * 6 + 4, none⟩ = some (.slice xP xnp xcp) ∧ W.cell? ⟨g, o + k * 6 + 5, none⟩ = some (.slice xF xnf xcf)) W → (fun W => W.cell? ⟨w.heap.size, 0, none⟩ = some (.int .i64 op) ∧ W.cell? ⟨w.heap.size, 1, none⟩ = some (.int .i64 A) ∧ W.cell? ⟨w.heap.size, 2, none⟩ = some (.int .i64 B) ∧ W.cell? ⟨w.heap.size, 3, none⟩ = some (.slice (some ⟨g, o, none⟩) ks.length ck) ∧ W.cell? ⟨g, o + k * 6, none⟩ = some (.int .i64 xo) ∧ W.cell? ⟨g, o + k * 6 + 1, none⟩ = some (.int .i64 xA) ∧ W.cell? ⟨g, o + k * 6 + 2, none⟩ = some (.int .i64 xB) ∧ W.cell? ⟨g, o + k * 6 + 3, none⟩ = some (.slice xK xnk xck) ∧ W.cell? ⟨g, o + k * 6 + 4, none⟩ = some (.slice xP xnp xcp) ∧ W.cell? ⟨g, o + k * 6 + 5, none⟩ = some (.slice xF xnf xcf)) W') := Lib.hid fun W W' hb ⟨h0, h1, h2, h3, h4, h5, h6, h7, h8, h9⟩ => ⟨(hb.cell (by simp only; omega)).trans h0, (hb.cell (by simp only; omega)).trans h1, (hb.cell (by simp only; omega)).trans h2, (hb.cell (by simp only; omega)).trans h3, (hb.cell (by simp only; omega)).trans h4, (hb.cell (by simp only; omega)).trans h5, (hb.cell (by simp only; omega)).trans h6, (hb.cell (by simp only; omega)).trans h7, (hb.cell (by simp only; omega)).trans h8, (hb.cell (by simp only; omega)).trans h9⟩
          have HSS : Hid ((fun W => W.cell? ⟨w.heap.size, 0, none⟩ = some (.int .i64 op) ∧ W.cell? ⟨w.heap.size, 1, none⟩ = some (.int .i64 A) ∧ W.cell? ⟨w.heap.size, 2, none⟩ = some (.int .i64 B) ∧ W.cell? ⟨w.heap.size, 3, none⟩ = some (.slice (some ⟨g, o, none⟩) ks.length ck) ∧ W.cell? ⟨g, o + k * 6, none⟩ = some (.int .i64 xo) ∧ W.cell? ⟨g, o + k * 6 + 1, none⟩ = some (.int .i64 xA) ∧ W.cell? ⟨g, o + k * 6 + 2, none⟩ = some (.int .i64 xB) ∧ W.cell? ⟨g, o + k * 6 + 3, none⟩ = some (.slice xK xnk xck) ∧ W.cell? ⟨g, o + k * 6 + 4, none⟩ = some (.slice xP xnp xcp) ∧ W.cell? ⟨g, o + k * 6 + 5, none⟩ = some (.slice xF xnf xcf)) wr.drew) := Lib.hid ⟨c0, c1, c2, c3, r0, r1, r2, r3, r4, r5⟩
          have ew := IntWalk.i64_in ((u : Int) + (d : Int)) (by omega)
          have hgd := HG.out.next (w1 := wr.drew) (below_drewN (Below.refl _ _) 1)
          have hown : wr.drew.ownsRow 0 59 6 Kv k (treesV (os.map Prod.fst)) := by rw [← hlen]; exact hgd.own
          obtain ⟨Ko, cko, rfl, -, -⟩ := own_slice hown
          have HWH := Lib.hid hgd.whole
          have HKB := Lib.hid hgd.kb
          have HGD := Lib.hid hgd
          have HOWN := Lib.hid hown
          have HLEN := Lib.hid hlen
          have cb : wr.drew.cell? ⟨w.heap.size + 1 + 1, 3, none⟩ = some (.slice Ko k cko) := hgd.whole.cell 3
          clear hcs r0 r1 r2 r3 r4 r5 hgd hown hlen HP HG
          go_wp2_with fail
          refine region_begin_any (S := fun W => W.cell? ⟨w.heap.size, 0, none⟩ = some (.int .i64 op) ∧ W.cell? ⟨w.heap.size, 1, none⟩ = some (.int .i64 A) ∧ W.cell? ⟨w.heap.size, 2, none⟩ = some (.int .i64 B) ∧ W.cell? ⟨w.heap.size, 3, none⟩ = some (.slice (some ⟨g, o, none⟩) ks.length ck) ∧ W.cell? ⟨g, o + k * 6, none⟩ = some (.int .i64 xo) ∧ W.cell? ⟨g, o + k * 6 + 1, none⟩ = some (.int .i64 xA) ∧ W.cell? ⟨g, o + k * 6 + 2, none⟩ = some (.int .i64 xB) ∧ W.cell? ⟨g, o + k * 6 + 3, none⟩ = some (.slice xK xnk xck) ∧ W.cell? ⟨g, o + k * 6 + 4, none⟩ = some (.slice xP xnp xcp) ∧ W.cell? ⟨g, o + k * 6 + 5, none⟩ = some (.slice xF xnf xcf)) (by kernel_rfl) (HSS.out) (fun W hW hHeld => ?_)
          subst hW
          refine region_take 0 ?_ rfl (by kernel_rfl) (by rfl) hHeld ?_ ?_
          rotate_left
          · intro w hSw
            (try dsimp only at hSw)
            go_simp
            try with_reducible rfl
          try simp only [Act.put, List.setIfInBounds_toArray, List.set_cons_zero, List.set_cons_succ]
          refine region_take 2 ?_ rfl (by kernel_rfl) (by rfl) hHeld ?_ ?_
          rotate_left
          · intro w hSw
            (try dsimp only at hSw)
            go_simp
            try with_reducible rfl
          try simp only [Act.put, List.setIfInBounds_toArray, List.set_cons_zero, List.set_cons_succ]
          refine region_take 3 ?_ rfl (by kernel_rfl) (by rfl) hHeld ?_ ?_
          rotate_left
          · intro w hSw
            (try dsimp only at hSw)
            go_simp
            try with_reducible rfl
          try simp only [Act.put, List.setIfInBounds_toArray, List.set_cons_zero, List.set_cons_succ]
          refine region_take 4 ?_ rfl (by kernel_rfl) (by rfl) hHeld ?_ ?_
          rotate_left
          · intro w hSw
            (try dsimp only at hSw)
            go_simp
            try with_reducible rfl
          try simp only [Act.put, List.setIfInBounds_toArray, List.set_cons_zero, List.set_cons_succ]
          refine region_take 5 ?_ rfl (by kernel_rfl) (by rfl) hHeld ?_ ?_
          rotate_left
          · intro w hSw
            (try dsimp only at hSw)
            go_simp
            try with_reducible rfl
          try simp only [Act.put, List.setIfInBounds_toArray, List.set_cons_zero, List.set_cons_succ]
          refine region_take 6 ?_ rfl (by kernel_rfl) (by rfl) hHeld ?_ ?_
          rotate_left
          · intro w hSw
            (try dsimp only at hSw)
            go_simp
            try with_reducible rfl
          try simp only [Act.put, List.setIfInBounds_toArray, List.set_cons_zero, List.set_cons_succ]
          refine region_take 7 ?_ rfl (by kernel_rfl) (by rfl) hHeld ?_ ?_
          rotate_left
          · intro w hSw
            (try dsimp only at hSw)
            go_simp
            try with_reducible rfl
          try simp only [Act.put, List.setIfInBounds_toArray, List.set_cons_zero, List.set_cons_succ]
          refine region_take 8 ?_ rfl (by kernel_rfl) (by rfl) hHeld ?_ ?_
          rotate_left
          · intro w hSw
            (try dsimp only at hSw)
            go_simp
            try with_reducible rfl
          try simp only [Act.put, List.setIfInBounds_toArray, List.set_cons_zero, List.set_cons_succ]
          refine region_take 9 ?_ rfl (by kernel_rfl) (by rfl) hHeld ?_ ?_
          rotate_left
          · intro w hSw
            (try dsimp only at hSw)
            go_simp
            try with_reducible rfl
          try simp only [Act.put, List.setIfInBounds_toArray, List.set_cons_zero, List.set_cons_succ]
          refine region_take 10 ?_ rfl (by kernel_rfl) (by rfl) hHeld ?_ ?_
          rotate_left
          · intro w hSw
            (try dsimp only at hSw)
            go_simp
            try with_reducible rfl
          try simp only [Act.put, List.setIfInBounds_toArray, List.set_cons_zero, List.set_cons_succ]
          refine region_take 11 ?_ rfl (by kernel_rfl) (by rfl) hHeld ?_ ?_
          rotate_left
          · intro w hSw
            (try dsimp only at hSw)
            go_simp
            try with_reducible rfl
          try simp only [Act.put, List.setIfInBounds_toArray, List.set_cons_zero, List.set_cons_succ]
          refine region_two 1 12 rfl rfl (by kernel_rfl) (by rfl) (by rfl) (fun K hK => ?_) (fun K hK => ?_)
          · go_simp
            refine hK.out _ _ (hHeld) (fun hHeld => ?_)
            clear hK K
            try simp only [Act.put, List.setIfInBounds_toArray, List.set_cons_zero, List.set_cons_succ]
            refine region_call 12 rfl (by kernel_rfl) (by rfl) (fun K hK => ?_)
            go_simp
            refine (around_any (op, A, B) k _ (by omega) HFX.out).mono ?_
            rintro e w1 ⟨rfl, hb1⟩
            rw [HD.out]
            refine hK.out _ _ (HKEEP.out _ _ (hb1.mono HS1.out) hHeld) (fun hHeld => ?_)
            clear hK K
            have cb1 : w1.cell? ⟨w.heap.size + 1 + 1, 3, none⟩ = some (.slice Ko k cko) := (hb1.cell HS3.out).trans cb
            have HB1 := Lib.hid hb1
            have HZ1 := Lib.hid (Nat.le_trans HS1.out hb1.size)
            clear hb1
            try simp only [Act.put, List.setIfInBounds_toArray, List.set_cons_zero, List.set_cons_succ]
            refine region_take 13 ?_ rfl (by kernel_rfl) (by rfl) hHeld ?_ ?_
            rotate_left
            · intro w hSw
              (try dsimp only at hSw)
              go_simp
              try with_reducible rfl
            try simp only [Act.put, List.setIfInBounds_toArray, List.set_cons_zero, List.set_cons_succ]
            refine region_call 14 rfl (by kernel_rfl) (by rfl) (fun K hK => ?_)
            go_simp
            refine (HREC.out w1 (HBW.out.trans (HB1.out.mono HS0.out))).mono ?_
            rintro e w2 ⟨x', rfl, ht, hb2⟩
            obtain ⟨⟨yo, yA, yB⟩, yK, ynk, yck, yP, ynp, ycp, yF, ynf, ycf⟩ := x'
            dsimp only [TV.val]
            refine hK.out _ _ (HKEEP.out _ _ (hb2.mono HZ1.out) hHeld) (fun hHeld => ?_)
            clear hK K
            have cb2 : w2.cell? ⟨w.heap.size + 1 + 1, 3, none⟩ = some (.slice Ko k cko) := (hb2.cell (Nat.lt_of_lt_of_le HS3.out HB1.out.size)).trans cb1
            have HB2 := Lib.hid hb2
            have HT := Lib.hid ht
            have HZ2 := Lib.hid (Nat.le_trans HZ1.out hb2.size)
            clear hb2 ht
            have HL := Lib.hid (show Below w2.heap.size w2 (w2.alloc (.cells #[.int .i64 yo, .int .i64 yA, .int .i64 yB, .slice yK ynk yck, .slice yP ynp ycp, .slice yF ynf ycf] 59)) from (Below.refl _ _).alloc (Nat.le_refl _) _)
            have HLH := Lib.hid (holds_at w2 #[.int .i64 yo, .int .i64 yA, .int .i64 yB, .slice yK ynk yck, .slice yP ynp ycp, .slice yF ynf ycf] 59 _ rfl)
            have HB02 := Lib.hid (below_step HB1.out HB2.out)
            try simp only [Act.put, List.setIfInBounds_toArray, List.set_cons_zero, List.set_cons_succ]
            refine region_call 15 rfl (by kernel_rfl) (by rfl) (fun K hK => ?_)
            go_simp
            refine hK.out _ _ (HKEEP.out _ _ (HL.out.mono HZ2.out) hHeld) (fun hHeld => ?_)
            clear hK K
            have cb3 := (HL.out.cell (p := ⟨w.heap.size + 1 + 1, 3, none⟩) (Nat.lt_of_lt_of_le HS3.out HB02.out.size)).trans cb2
            try simp only [Act.put, List.setIfInBounds_toArray, List.set_cons_zero, List.set_cons_succ]
            refine region_call 16 rfl (by kernel_rfl) (by rfl) (fun K hK => ?_)
            refine wp_append_at (.tmp 42) (.tmp 56) 57 57 _ rfl Tryd.underlying57 59 _ 6 96 infoTree rfl (by decide) Tryd.underlying57 (.slice Ko k cko) k 1 _ _ rfl (own_below (own_below HOWN.out HB02.out) HL.out) (some ⟨w2.heap.size, 0, none⟩) 1 rfl ⟨by omega, by omega, fun h => by cases h⟩ HLH.out rfl (by intro u hu; simp only [List.mem_cons, List.not_mem_nil, or_false] at hu; rcases hu with rfl | rfl | rfl | rfl | rfl | rfl <;> rfl) (by omega) (by decide) ?_
            intro v' w3 hown3 hmv3
            refine hK.out _ _ (HKEEP.out _ _ (hmv3.below (B := w.heap.size + 1) (Nat.le_trans HZ2.out HL.out.size) (fun g hg => Nat.le_of_lt (Nat.lt_trans (by omega) (HKB.out g hg)))) hHeld) (fun hHeld => ?_)
            clear hK K
            have hw3 := (((HWH.out.below HB02.out (by have := HS3.out; exact this)).below HL.out (by have := HS3.out; have := HB02.out.size; omega)).only hmv3.only (fun e => by have := HKB.out _ e; omega))
            obtain ⟨K', ck', rfl, -, -⟩ := own_slice hown3
            have cb4 : w3.cell? ⟨w.heap.size + 1 + 1, 3, none⟩ = some (.slice Ko k cko) := hw3.cell 3
            have fb4 : w3.frozen? ⟨w.heap.size + 1 + 1, 3, none⟩ = false := hw3.frozen 3
            have HO3 := Lib.hid hown3
            have HM3 := Lib.hid hmv3
            clear hown3 hmv3 hw3 cb3
            try simp only [Act.put, List.setIfInBounds_toArray, List.set_cons_zero, List.set_cons_succ]
            refine region_take 17 ?_ rfl (by kernel_rfl) (by rfl) hHeld ?_ ?_
            rotate_left
            · intro w hSw
              (try dsimp only at hSw)
              go_simp
              try with_reducible rfl
            try simp only [Act.put, List.setIfInBounds_toArray, List.set_cons_zero, List.set_cons_succ]
            refine region_call 18 rfl (by kernel_rfl) (by rfl) (fun K hK => ?_)
            go_simp
            refine hK.out _ _ (HKEEP.out _ _ ((Only.set_ (Only.refl (fun k => k = w.heap.size + 1 + 1) w3) (.inl rfl) 3 (.slice K' (k + 1) ck')).below (Nat.le_trans HZ2.out (Nat.le_trans HL.out.size HM3.out.only.size)) (fun k hk e => by omega)) hHeld) (fun hHeld => ?_)
            clear hK K
            try simp only [Act.put, List.setIfInBounds_toArray, List.set_cons_zero, List.set_cons_succ]
            refine region_done (by kernel_rfl) ?_
            clear cb cb1 cb2 cb4 fb4
            go_wp2_with fail
            obtain ⟨hg4, hb4⟩ := HGD.out.step HLT.out HB02.out (HT.out.mono fun k hk _ => hk.imp id fun h => Nat.le_trans HB1.out.size h) HL.out (by rw [HLEN.out]; exact HO3.out) HM3.out
            have HG4 := Lib.hid hg4
            have HB4 := Lib.hid (HRD.out _ hb4)
            have HP4 := Lib.hid (HPART.out (⟨(yo, yA, yB), yK, ynk, yck, yP, ynp, ycp, yF, ynf, ycf⟩, rz by_ (u + d) ks[k].2) rfl)
            clear hg4 hb4
            go_roundw
            case rel => exact ⟨k + 1, _, os ++ [(⟨(yo, yA, yB), yK, ynk, yck, yP, ynp, ycp, yF, ynf, ycf⟩, rz by_ (u + d) ks[k].2)], by go_num, by omega, by rw [List.length_append, HLEN.out]; rfl, HP4, HG4, HB4⟩
            case measure => simp [intOf] <;> omega
          · go_simp
            refine (around_any (op, A, B) k _ (by omega) HFX.out).mono ?_
            rintro e w1 ⟨rfl, hb1⟩
            rw [HD.out]
            refine hK.out _ _ (HKEEP.out _ _ (hb1.mono HS1.out) hHeld) (fun hHeld => ?_)
            clear hK K
            have cb1 : w1.cell? ⟨w.heap.size + 1 + 1, 3, none⟩ = some (.slice Ko k cko) := (hb1.cell HS3.out).trans cb
            have HB1 := Lib.hid hb1
            have HZ1 := Lib.hid (Nat.le_trans HS1.out hb1.size)
            clear hb1
            try simp only [Act.put, List.setIfInBounds_toArray, List.set_cons_zero, List.set_cons_succ]
            refine region_take 13 ?_ rfl (by kernel_rfl) (by rfl) hHeld ?_ ?_
            rotate_left
            · intro w hSw
              (try dsimp only at hSw)
              go_simp
              try with_reducible rfl
            try simp only [Act.put, List.setIfInBounds_toArray, List.set_cons_zero, List.set_cons_succ]
            refine region_two 1 14 rfl rfl (by kernel_rfl) (by rfl) (by rfl) (fun K hK => ?_) (fun K hK => ?_)
            · go_simp
              refine hK.out _ _ (hHeld) (fun hHeld => ?_)
              clear hK K
              try simp only [Act.put, List.setIfInBounds_toArray, List.set_cons_zero, List.set_cons_succ]
              refine region_call 14 rfl (by kernel_rfl) (by rfl) (fun K hK => ?_)
              go_simp
              refine (HREC.out w1 (HBW.out.trans (HB1.out.mono HS0.out))).mono ?_
              rintro e w2 ⟨x', rfl, ht, hb2⟩
              obtain ⟨⟨yo, yA, yB⟩, yK, ynk, yck, yP, ynp, ycp, yF, ynf, ycf⟩ := x'
              dsimp only [TV.val]
              refine hK.out _ _ (HKEEP.out _ _ (hb2.mono HZ1.out) hHeld) (fun hHeld => ?_)
              clear hK K
              have cb2 : w2.cell? ⟨w.heap.size + 1 + 1, 3, none⟩ = some (.slice Ko k cko) := (hb2.cell (Nat.lt_of_lt_of_le HS3.out HB1.out.size)).trans cb1
              have HB2 := Lib.hid hb2
              have HT := Lib.hid ht
              have HZ2 := Lib.hid (Nat.le_trans HZ1.out hb2.size)
              clear hb2 ht
              have HL := Lib.hid (show Below w2.heap.size w2 (w2.alloc (.cells #[.int .i64 yo, .int .i64 yA, .int .i64 yB, .slice yK ynk yck, .slice yP ynp ycp, .slice yF ynf ycf] 59)) from (Below.refl _ _).alloc (Nat.le_refl _) _)
              have HLH := Lib.hid (holds_at w2 #[.int .i64 yo, .int .i64 yA, .int .i64 yB, .slice yK ynk yck, .slice yP ynp ycp, .slice yF ynf ycf] 59 _ rfl)
              have HB02 := Lib.hid (below_step HB1.out HB2.out)
              try simp only [Act.put, List.setIfInBounds_toArray, List.set_cons_zero, List.set_cons_succ]
              refine region_call 15 rfl (by kernel_rfl) (by rfl) (fun K hK => ?_)
              go_simp
              refine hK.out _ _ (HKEEP.out _ _ (HL.out.mono HZ2.out) hHeld) (fun hHeld => ?_)
              clear hK K
              have cb3 := (HL.out.cell (p := ⟨w.heap.size + 1 + 1, 3, none⟩) (Nat.lt_of_lt_of_le HS3.out HB02.out.size)).trans cb2
              try simp only [Act.put, List.setIfInBounds_toArray, List.set_cons_zero, List.set_cons_succ]
              refine region_call 16 rfl (by kernel_rfl) (by rfl) (fun K hK => ?_)
              refine wp_append_at (.tmp 42) (.tmp 56) 57 57 _ rfl Tryd.underlying57 59 _ 6 96 infoTree rfl (by decide) Tryd.underlying57 (.slice Ko k cko) k 1 _ _ rfl (own_below (own_below HOWN.out HB02.out) HL.out) (some ⟨w2.heap.size, 0, none⟩) 1 rfl ⟨by omega, by omega, fun h => by cases h⟩ HLH.out rfl (by intro u hu; simp only [List.mem_cons, List.not_mem_nil, or_false] at hu; rcases hu with rfl | rfl | rfl | rfl | rfl | rfl <;> rfl) (by omega) (by decide) ?_
              intro v' w3 hown3 hmv3
              refine hK.out _ _ (HKEEP.out _ _ (hmv3.below (B := w.heap.size + 1) (Nat.le_trans HZ2.out HL.out.size) (fun g hg => Nat.le_of_lt (Nat.lt_trans (by omega) (HKB.out g hg)))) hHeld) (fun hHeld => ?_)
              clear hK K
              have hw3 := (((HWH.out.below HB02.out (by have := HS3.out; exact this)).below HL.out (by have := HS3.out; have := HB02.out.size; omega)).only hmv3.only (fun e => by have := HKB.out _ e; omega))
              obtain ⟨K', ck', rfl, -, -⟩ := own_slice hown3
              have cb4 : w3.cell? ⟨w.heap.size + 1 + 1, 3, none⟩ = some (.slice Ko k cko) := hw3.cell 3
              have fb4 : w3.frozen? ⟨w.heap.size + 1 + 1, 3, none⟩ = false := hw3.frozen 3
              have HO3 := Lib.hid hown3
              have HM3 := Lib.hid hmv3
              clear hown3 hmv3 hw3 cb3
              try simp only [Act.put, List.setIfInBounds_toArray, List.set_cons_zero, List.set_cons_succ]
              refine region_take 17 ?_ rfl (by kernel_rfl) (by rfl) hHeld ?_ ?_
              rotate_left
              · intro w hSw
                (try dsimp only at hSw)
                go_simp
                try with_reducible rfl
              try simp only [Act.put, List.setIfInBounds_toArray, List.set_cons_zero, List.set_cons_succ]
              refine region_call 18 rfl (by kernel_rfl) (by rfl) (fun K hK => ?_)
              go_simp
              refine hK.out _ _ (HKEEP.out _ _ ((Only.set_ (Only.refl (fun k => k = w.heap.size + 1 + 1) w3) (.inl rfl) 3 (.slice K' (k + 1) ck')).below (Nat.le_trans HZ2.out (Nat.le_trans HL.out.size HM3.out.only.size)) (fun k hk e => by omega)) hHeld) (fun hHeld => ?_)
              clear hK K
              try simp only [Act.put, List.setIfInBounds_toArray, List.set_cons_zero, List.set_cons_succ]
              refine region_done (by kernel_rfl) ?_
              clear cb cb1 cb2 cb4 fb4
              go_wp2_with fail
              obtain ⟨hg4, hb4⟩ := HGD.out.step HLT.out HB02.out (HT.out.mono fun k hk _ => hk.imp id fun h => Nat.le_trans HB1.out.size h) HL.out (by rw [HLEN.out]; exact HO3.out) HM3.out
              have HG4 := Lib.hid hg4
              have HB4 := Lib.hid (HRD.out _ hb4)
              have HP4 := Lib.hid (HPART.out (⟨(yo, yA, yB), yK, ynk, yck, yP, ynp, ycp, yF, ynf, ycf⟩, rz by_ (u + d) ks[k].2) rfl)
              clear hg4 hb4
              go_roundw
              case rel => exact ⟨k + 1, _, os ++ [(⟨(yo, yA, yB), yK, ynk, yck, yP, ynp, ycp, yF, ynf, ycf⟩, rz by_ (u + d) ks[k].2)], by go_num, by omega, by rw [List.length_append, HLEN.out]; rfl, HP4, HG4, HB4⟩
              case measure => simp [intOf] <;> omega
            · go_simp
              refine (HREC.out w1 (HBW.out.trans (HB1.out.mono HS0.out))).mono ?_
              rintro e w2 ⟨x', rfl, ht, hb2⟩
              obtain ⟨⟨yo, yA, yB⟩, yK, ynk, yck, yP, ynp, ycp, yF, ynf, ycf⟩ := x'
              dsimp only [TV.val]
              refine hK.out _ _ (HKEEP.out _ _ (hb2.mono HZ1.out) hHeld) (fun hHeld => ?_)
              clear hK K
              have cb2 : w2.cell? ⟨w.heap.size + 1 + 1, 3, none⟩ = some (.slice Ko k cko) := (hb2.cell (Nat.lt_of_lt_of_le HS3.out HB1.out.size)).trans cb1
              have HB2 := Lib.hid hb2
              have HT := Lib.hid ht
              have HZ2 := Lib.hid (Nat.le_trans HZ1.out hb2.size)
              clear hb2 ht
              have HL := Lib.hid (show Below w2.heap.size w2 (w2.alloc (.cells #[.int .i64 yo, .int .i64 yA, .int .i64 yB, .slice yK ynk yck, .slice yP ynp ycp, .slice yF ynf ycf] 59)) from (Below.refl _ _).alloc (Nat.le_refl _) _)
              have HLH := Lib.hid (holds_at w2 #[.int .i64 yo, .int .i64 yA, .int .i64 yB, .slice yK ynk yck, .slice yP ynp ycp, .slice yF ynf ycf] 59 _ rfl)
              have HB02 := Lib.hid (below_step HB1.out HB2.out)
              try simp only [Act.put, List.setIfInBounds_toArray, List.set_cons_zero, List.set_cons_succ]
              refine region_two 1 15 rfl rfl (by kernel_rfl) (by rfl) (by rfl) (fun K hK => ?_) (fun K hK => ?_)
              · go_simp
                refine hK.out _ _ (hHeld) (fun hHeld => ?_)
                clear hK K
                try simp only [Act.put, List.setIfInBounds_toArray, List.set_cons_zero, List.set_cons_succ]
                refine region_call 15 rfl (by kernel_rfl) (by rfl) (fun K hK => ?_)
                go_simp
                refine hK.out _ _ (HKEEP.out _ _ (HL.out.mono HZ2.out) hHeld) (fun hHeld => ?_)
                clear hK K
                have cb3 := (HL.out.cell (p := ⟨w.heap.size + 1 + 1, 3, none⟩) (Nat.lt_of_lt_of_le HS3.out HB02.out.size)).trans cb2
                try simp only [Act.put, List.setIfInBounds_toArray, List.set_cons_zero, List.set_cons_succ]
                refine region_call 16 rfl (by kernel_rfl) (by rfl) (fun K hK => ?_)
                refine wp_append_at (.tmp 42) (.tmp 56) 57 57 _ rfl Tryd.underlying57 59 _ 6 96 infoTree rfl (by decide) Tryd.underlying57 (.slice Ko k cko) k 1 _ _ rfl (own_below (own_below HOWN.out HB02.out) HL.out) (some ⟨w2.heap.size, 0, none⟩) 1 rfl ⟨by omega, by omega, fun h => by cases h⟩ HLH.out rfl (by intro u hu; simp only [List.mem_cons, List.not_mem_nil, or_false] at hu; rcases hu with rfl | rfl | rfl | rfl | rfl | rfl <;> rfl) (by omega) (by decide) ?_
                intro v' w3 hown3 hmv3
                refine hK.out _ _ (HKEEP.out _ _ (hmv3.below (B := w.heap.size + 1) (Nat.le_trans HZ2.out HL.out.size) (fun g hg => Nat.le_of_lt (Nat.lt_trans (by omega) (HKB.out g hg)))) hHeld) (fun hHeld => ?_)
                clear hK K
                have hw3 := (((HWH.out.below HB02.out (by have := HS3.out; exact this)).below HL.out (by have := HS3.out; have := HB02.out.size; omega)).only hmv3.only (fun e => by have := HKB.out _ e; omega))
                obtain ⟨K', ck', rfl, -, -⟩ := own_slice hown3
                have cb4 : w3.cell? ⟨w.heap.size + 1 + 1, 3, none⟩ = some (.slice Ko k cko) := hw3.cell 3
                have fb4 : w3.frozen? ⟨w.heap.size + 1 + 1, 3, none⟩ = false := hw3.frozen 3
                have HO3 := Lib.hid hown3
                have HM3 := Lib.hid hmv3
                clear hown3 hmv3 hw3 cb3
                try simp only [Act.put, List.setIfInBounds_toArray, List.set_cons_zero, List.set_cons_succ]
                refine region_take 17 ?_ rfl (by kernel_rfl) (by rfl) hHeld ?_ ?_
                rotate_left
                · intro w hSw
                  (try dsimp only at hSw)
                  go_simp
                  try with_reducible rfl
                try simp only [Act.put, List.setIfInBounds_toArray, List.set_cons_zero, List.set_cons_succ]
                refine region_call 18 rfl (by kernel_rfl) (by rfl) (fun K hK => ?_)
                go_simp
                refine hK.out _ _ (HKEEP.out _ _ ((Only.set_ (Only.refl (fun k => k = w.heap.size + 1 + 1) w3) (.inl rfl) 3 (.slice K' (k + 1) ck')).below (Nat.le_trans HZ2.out (Nat.le_trans HL.out.size HM3.out.only.size)) (fun k hk e => by omega)) hHeld) (fun hHeld => ?_)
                clear hK K
                try simp only [Act.put, List.setIfInBounds_toArray, List.set_cons_zero, List.set_cons_succ]
                refine region_done (by kernel_rfl) ?_
                clear cb cb1 cb2 cb4 fb4
                go_wp2_with fail
                obtain ⟨hg4, hb4⟩ := HGD.out.step HLT.out HB02.out (HT.out.mono fun k hk _ => hk.imp id fun h => Nat.le_trans HB1.out.size h) HL.out (by rw [HLEN.out]; exact HO3.out) HM3.out
                have HG4 := Lib.hid hg4
                have HB4 := Lib.hid (HRD.out _ hb4)
                have HP4 := Lib.hid (HPART.out (⟨(yo, yA, yB), yK, ynk, yck, yP, ynp, ycp, yF, ynf, ycf⟩, rz by_ (u + d) ks[k].2) rfl)
                clear hg4 hb4
                go_roundw
                case rel => exact ⟨k + 1, _, os ++ [(⟨(yo, yA, yB), yK, ynk, yck, yP, ynp, ycp, yF, ynf, ycf⟩, rz by_ (u + d) ks[k].2)], by go_num, by omega, by rw [List.length_append, HLEN.out]; rfl, HP4, HG4, HB4⟩
                case measure => simp [intOf] <;> omega
              · go_simp
                refine hK.out _ _ (HKEEP.out _ _ (HL.out.mono HZ2.out) hHeld) (fun hHeld => ?_)
                clear hK K
                have cb3 := (HL.out.cell (p := ⟨w.heap.size + 1 + 1, 3, none⟩) (Nat.lt_of_lt_of_le HS3.out HB02.out.size)).trans cb2
                try simp only [Act.put, List.setIfInBounds_toArray, List.set_cons_zero, List.set_cons_succ]
                refine region_call 1 rfl (by kernel_rfl) (by rfl) (fun K hK => ?_)
                go_simp
                refine hK.out _ _ (hHeld) (fun hHeld => ?_)
                clear hK K
                try simp only [Act.put, List.setIfInBounds_toArray, List.set_cons_zero, List.set_cons_succ]
                refine region_call 16 rfl (by kernel_rfl) (by rfl) (fun K hK => ?_)
                refine wp_append_at (.tmp 42) (.tmp 56) 57 57 _ rfl Tryd.underlying57 59 _ 6 96 infoTree rfl (by decide) Tryd.underlying57 (.slice Ko k cko) k 1 _ _ rfl (own_below (own_below HOWN.out HB02.out) HL.out) (some ⟨w2.heap.size, 0, none⟩) 1 rfl ⟨by omega, by omega, fun h => by cases h⟩ HLH.out rfl (by intro u hu; simp only [List.mem_cons, List.not_mem_nil, or_false] at hu; rcases hu with rfl | rfl | rfl | rfl | rfl | rfl <;> rfl) (by omega) (by decide) ?_
                intro v' w3 hown3 hmv3
                refine hK.out _ _ (HKEEP.out _ _ (hmv3.below (B := w.heap.size + 1) (Nat.le_trans HZ2.out HL.out.size) (fun g hg => Nat.le_of_lt (Nat.lt_trans (by omega) (HKB.out g hg)))) hHeld) (fun hHeld => ?_)
                clear hK K
                have hw3 := (((HWH.out.below HB02.out (by have := HS3.out; exact this)).below HL.out (by have := HS3.out; have := HB02.out.size; omega)).only hmv3.only (fun e => by have := HKB.out _ e; omega))
                obtain ⟨K', ck', rfl, -, -⟩ := own_slice hown3
                have cb4 : w3.cell? ⟨w.heap.size + 1 + 1, 3, none⟩ = some (.slice Ko k cko) := hw3.cell 3
                have fb4 : w3.frozen? ⟨w.heap.size + 1 + 1, 3, none⟩ = false := hw3.frozen 3
                have HO3 := Lib.hid hown3
                have HM3 := Lib.hid hmv3
                clear hown3 hmv3 hw3 cb3
                try simp only [Act.put, List.setIfInBounds_toArray, List.set_cons_zero, List.set_cons_succ]
                refine region_take 17 ?_ rfl (by kernel_rfl) (by rfl) hHeld ?_ ?_
                rotate_left
                · intro w hSw
                  (try dsimp only at hSw)
                  go_simp
                  try with_reducible rfl
                try simp only [Act.put, List.setIfInBounds_toArray, List.set_cons_zero, List.set_cons_succ]
                refine region_call 18 rfl (by kernel_rfl) (by rfl) (fun K hK => ?_)
                go_simp
                refine hK.out _ _ (HKEEP.out _ _ ((Only.set_ (Only.refl (fun k => k = w.heap.size + 1 + 1) w3) (.inl rfl) 3 (.slice K' (k + 1) ck')).below (Nat.le_trans HZ2.out (Nat.le_trans HL.out.size HM3.out.only.size)) (fun k hk e => by omega)) hHeld) (fun hHeld => ?_)
                clear hK K
                try simp only [Act.put, List.setIfInBounds_toArray, List.set_cons_zero, List.set_cons_succ]
                refine region_done (by kernel_rfl) ?_
                clear cb cb1 cb2 cb4 fb4
                go_wp2_with fail
                obtain ⟨hg4, hb4⟩ := HGD.out.step HLT.out HB02.out (HT.out.mono fun k hk _ => hk.imp id fun h => Nat.le_trans HB1.out.size h) HL.out (by rw [HLEN.out]; exact HO3.out) HM3.out
                have HG4 := Lib.hid hg4
                have HB4 := Lib.hid (HRD.out _ hb4)
                have HP4 := Lib.hid (HPART.out (⟨(yo, yA, yB), yK, ynk, yck, yP, ynp, ycp, yF, ynf, ycf⟩, rz by_ (u + d) ks[k].2) rfl)
                clear hg4 hb4
                go_roundw
                case rel => exact ⟨k + 1, _, os ++ [(⟨(yo, yA, yB), yK, ynk, yck, yP, ynp, ycp, yF, ynf, ycf⟩, rz by_ (u + d) ks[k].2)], by go_num, by omega, by rw [List.length_append, HLEN.out]; rfl, HP4, HG4, HB4⟩
                case measure => simp [intOf] <;> omega
        · have hkm : k = ks.length := by omega
          have hG := HG.out
          have hown : wr.ownsRow 0 59 6 Kv k (treesV (os.map Prod.fst)) := by rw [← hlen]; exact hG.own
          obtain ⟨Ko, cko, rfl, hsl, -⟩ := own_slice hown
          have HDN := Lib.hid (HDONE.out wr Ko cko k os (HB0.out.trans (HBR.out.mono (by omega))) hG hlen hkm hsl HP.out)
          have hwo := hG.whole
          have o0 : wr.cell? ⟨w.heap.size + 1 + 1, 0, none⟩ = some (.int .i64 op) := hwo.cell 0
          have o1 : wr.cell? ⟨w.heap.size + 1 + 1, 1, none⟩ = some (.int .i64 A) := hwo.cell 1
          have o2 : wr.cell? ⟨w.heap.size + 1 + 1, 2, none⟩ = some (.int .i64 B) := hwo.cell 2
          have o3 : wr.cell? ⟨w.heap.size + 1 + 1, 3, none⟩ = some (.slice Ko k cko) := hwo.cell 3
          have o4 : wr.cell? ⟨w.heap.size + 1 + 1, 4, none⟩ = some (.slice P na ca) := hwo.cell 4
          have o5 : wr.cell? ⟨w.heap.size + 1 + 1, 5, none⟩ = some (.slice F nf cf) := hwo.cell 5
          have hwz := HZ.out.below HBR.out (by omega)
          have HBE := Lib.hid (show ∀ w2, Below w.heap.size wr w2 → Below w.heap.size w w2 from fun w2 hb => (HB0.out.trans (HBR.out.mono (by omega))).trans hb)
          have HSE : Hid (w.heap.size ≤ wr.heap.size) := Lib.hid (by have := HBR.out.size; simp only [World.size_alloc] at this; omega)
          clear hkm hG hown hwo
          have z0 := hwz.cell 0
          have f0 := hwz.frozen 0
          have z1 := hwz.cell 1
          have f1 := hwz.frozen 1
          have z2 := hwz.cell 2
          have f2 := hwz.frozen 2
          have z3 := hwz.cell 3
          have f3 := hwz.frozen 3
          have z4 := hwz.cell 4
          have f4 := hwz.frozen 4
          have z5 := hwz.cell 5
          have f5 := hwz.frozen 5
          replace z0 : wr.cell? ⟨w.heap.size + 1, 0, none⟩ = some (.int .i64 0) := z0
          replace z1 : wr.cell? ⟨w.heap.size + 1, 1, none⟩ = some (.int .i64 0) := z1
          replace z2 : wr.cell? ⟨w.heap.size + 1, 2, none⟩ = some (.int .i64 0) := z2
          replace z3 : wr.cell? ⟨w.heap.size + 1, 3, none⟩ = some (.slice none 0 0) := z3
          replace z4 : wr.cell? ⟨w.heap.size + 1, 4, none⟩ = some (.slice none 0 0) := z4
          replace z5 : wr.cell? ⟨w.heap.size + 1, 5, none⟩ = some (.slice none 0 0) := z5
          have HWZ := Lib.hid hwz
          clear hwz
          go_wp2_with fail
          have hw6 := (((((HWZ.out.set_ 0 (.int .i64 op)).set_ 1 (.int .i64 A)).set_ 2 (.int .i64 B)).set_ 3 (.slice Ko k cko)).set_ 4 (.slice P na ca)).set_ 5 (.slice F nf cf)
          have ho6 : Only (fun j => j = w.heap.size + 1) wr ((((((wr.setCell ⟨w.heap.size + 1, 0, none⟩ (.int .i64 op)).setCell ⟨w.heap.size + 1, 1, none⟩ (.int .i64 A)).setCell ⟨w.heap.size + 1, 2, none⟩ (.int .i64 B)).setCell ⟨w.heap.size + 1, 3, none⟩ (.slice Ko k cko)).setCell ⟨w.heap.size + 1, 4, none⟩ (.slice P na ca)).setCell ⟨w.heap.size + 1, 5, none⟩ (.slice F nf cf)) := ((((((Only.refl (fun j => j = w.heap.size + 1) wr).set_ (.inl rfl) 0 _).set_ (.inl rfl) 1 _).set_ (.inl rfl) 2 _).set_ (.inl rfl) 3 _).set_ (.inl rfl) 4 _).set_ (.inl rfl) 5 _
          generalize ((((((wr.setCell ⟨w.heap.size + 1, 0, none⟩ (.int .i64 op)).setCell ⟨w.heap.size + 1, 1, none⟩ (.int .i64 A)).setCell ⟨w.heap.size + 1, 2, none⟩ (.int .i64 B)).setCell ⟨w.heap.size + 1, 3, none⟩ (.slice Ko k cko)).setCell ⟨w.heap.size + 1, 4, none⟩ (.slice P na ca)).setCell ⟨w.heap.size + 1, 5, none⟩ (.slice F nf cf)) = W6 at *
          have q0 : W6.cell? ⟨w.heap.size + 1, 0, none⟩ = some (.int .i64 op) := hw6.cell 0
          have q1 : W6.cell? ⟨w.heap.size + 1, 1, none⟩ = some (.int .i64 A) := hw6.cell 1
          have q2 : W6.cell? ⟨w.heap.size + 1, 2, none⟩ = some (.int .i64 B) := hw6.cell 2
          have q3 : W6.cell? ⟨w.heap.size + 1, 3, none⟩ = some (.slice Ko k cko) := hw6.cell 3
          have q4 : W6.cell? ⟨w.heap.size + 1, 4, none⟩ = some (.slice P na ca) := hw6.cell 4
          have q5 : W6.cell? ⟨w.heap.size + 1, 5, none⟩ = some (.slice F nf cf) := hw6.cell 5
          have hb6 := HBE.out _ (ho6.below (B := w.heap.size) HSE.out fun k hk e => by omega)
          have ht6 := (HDN.out.keep fun k hk hl => ho6.block k hl (by omega)).mono (G' := fun k => G k ∨ w.heap.size ≤ k) fun k hk _ => by rcases hk with h | h; exact .inl h.1; exact .inr (by omega)
          clear hw6 ho6
          (try simp only [Exit.inBlock, Exit.then])
          refine bodyPost_ret (by simp [results, Tryd.results58, go_sem, q0, q1, q2, q3, q4, q5]; try rfl) rfl ?_
          exact TreePost.of ht6 hb6
    have e1 : (op == 1) = false := by simpa using h1
    clear hc
    go_enter Tryd.func58, Tryd.ntmps58
    go_wp2_with fail
    go_loopw [8] (fun i wr => ∃ (k : Nat) (Kv : Value) (os : List (TV × Ann)), i = .int .i64 (k : Int) ∧ k ≤ ks.length ∧ os.length = k ∧ Hid (∀ j (hj : j < os.length) (hk : j < ks.length), os[j].2 = rz by_ (u + aroundN (op, A, B) j) ks[j].2) ∧ Hid (TGrow wr (fun k => G k ∧ k < w.heap.size) (w.heap.size + 1 + 1) (op, A, B) P na ca F nf cf Kv os) ∧ Hid (Below (w.heap.size + 1 + 1) (((w.alloc (.cells #[.int .i64 op, .int .i64 A, .int .i64 B, .slice K ks.length ck, .slice P na ca, .slice F nf cf] 59)).alloc (.cells #[.int .i64 0, .int .i64 0, .int .i64 0, .slice none 0 0, .slice none 0 0, .slice none 0 0] 59)).alloc (.cells #[.int .i64 op, .int .i64 A, .int .i64 B, .slice none 0 0, .slice P na ca, .slice F nf cf] 59)) wr)) (fun i _ => ks.length - (intOf i).toNat)
    case atStart => exact ⟨0, _, [], rfl, Nat.zero_le _, rfl, Lib.hid (fun j hj => absurd hj (by simp)), HG0, Lib.hid (Below.refl _ _)⟩
    case round =>
      obtain ⟨k, Kv, os, rfl, hk, hlen, HP, HG, HBR⟩ := hrel
      have hsz := HBR.out.size
      simp only [World.size_alloc] at hsz
      have xr := HX.out.below HBR.out (by omega)
      have c0 : wr.cell? ⟨w.heap.size, 0, none⟩ = some (.int .i64 op) := xr.cell 0
      have c1 : wr.cell? ⟨w.heap.size, 1, none⟩ = some (.int .i64 A) := xr.cell 1
      have c2 : wr.cell? ⟨w.heap.size, 2, none⟩ = some (.int .i64 B) := xr.cell 2
      have c3 : wr.cell? ⟨w.heap.size, 3, none⟩ = some (.slice K ks.length ck) := xr.cell 3
      have HBW := Lib.hid (show Below w.heap.size w wr.drew from (HB0.out.trans (HBR.out.mono (by omega))).trans (below_drewN (Below.refl _ _) 1))
      have HRD := Lib.hid (show ∀ w2, Below (w.heap.size + 1 + 1) wr.drew w2 → Below (w.heap.size + 1 + 1) (((w.alloc (.cells #[.int .i64 op, .int .i64 A, .int .i64 B, .slice K ks.length ck, .slice P na ca, .slice F nf cf] 59)).alloc (.cells #[.int .i64 0, .int .i64 0, .int .i64 0, .slice none 0 0, .slice none 0 0, .slice none 0 0] 59)).alloc (.cells #[.int .i64 op, .int .i64 A, .int .i64 B, .slice none 0 0, .slice P na ca, .slice F nf cf] 59)) w2 from fun w2 hb => (HBR.out.trans (below_drewN (Below.refl _ _) 1)).trans hb)
      have HS0 : Hid (w.heap.size ≤ wr.drew.heap.size) := Lib.hid (by show w.heap.size ≤ wr.heap.size; omega)
      have HS1 : Hid (w.heap.size + 1 ≤ wr.drew.heap.size) := Lib.hid (by show w.heap.size + 1 ≤ wr.heap.size; omega)
      have HS3 : Hid (w.heap.size + 1 + 1 < wr.drew.heap.size) := Lib.hid (by show w.heap.size + 1 + 1 < wr.heap.size; omega)
      clear xr hsz
      by_cases hlt : k < ks.length
      · obtain ⟨g, o, rfl, hg, -⟩ := HK.out.at_ (by rw [treesV_len, List.length_map]; omega)
        have hcs := kid_cells (k := k) (HK.out.below HBW.out) (by rw [List.length_map]; exact hlt)
        simp only [List.getElem_map] at hcs
        have HREC := Lib.hid (HSUB.out k hlt)
        have HPART : Hid (∀ q : TV × Ann, q.2 = rz by_ (u + aroundN (op, A, B) k) ks[k].2 → ∀ j (hj : j < (os ++ [q]).length) (hk : j < ks.length), (os ++ [q])[j].2 = rz by_ (u + aroundN (op, A, B) j) ks[j].2) := Lib.hid fun q hq j hj hk' => by
          by_cases e : j < os.length
          · rw [List.getElem_append_left e]; exact HP.out j e hk'
          · have : j = k := by simp only [List.length_append, List.length_cons, List.length_nil] at hj; omega
            subst this
            rw [List.getElem_append_right (by omega)]
            simpa [hlen] using hq
        have hd4 := HAR.out k
        obtain ⟨d, hd⟩ : ∃ d, aroundN (op, A, B) k = d := ⟨_, rfl⟩
        rw [hd] at hd4 HREC HPART
        have HD := Lib.hid hd
        obtain ⟨x, hx⟩ : ∃ x, ks[k].1 = x := ⟨_, rfl⟩
        rw [hx] at hcs HREC
        clear hd hx
        obtain ⟨⟨xo, xA, xB⟩, xK, xnk, xck, xP, xnp, xcp, xF, xnf, xcf⟩ := x
        have r0 := hcs 0 _ rfl
        have r1 := hcs 1 _ rfl
        have r2 := hcs 2 _ rfl
        have r3 := hcs 3 _ rfl
        have r4 := hcs 4 _ rfl
        have r5 := hcs 5 _ rfl
        rw [Nat.add_zero] at r0
        have HKEEP : Hid (∀ W W' : World, Below (w.heap.size + 1) W W' → (fun W => W.cell? ⟨w.heap.size, 0, none⟩ = some (.int .i64 op) ∧ W.cell? ⟨w.heap.size, 1, none⟩ = some (.int .i64 A) ∧ W.cell? ⟨w.heap.size, 2, none⟩ = some (.int .i64 B) ∧ W.cell? ⟨w.heap.size, 3, none⟩ = some (.slice (some ⟨g, o, none⟩) ks.length ck) ∧ W.cell? ⟨g, o + k * 6, none⟩ = some (.int .i64 xo) ∧ W.cell? ⟨g, o + k * 6 + 1, none⟩ = some (.int .i64 xA) ∧ W.cell? ⟨g, o + k * 6 + 2, none⟩ = some (.int .i64 xB) ∧ W.cell? ⟨g, o + k * 6 + 3, none⟩ = some (.slice xK xnk xck) ∧ W.cell? ⟨g, o + k * 6 + 4, none⟩ = some (.slice xP xnp xcp) ∧ W.cell? ⟨g, o + k * 6 + 5, none⟩ = some (.slice xF xnf xcf)) W → (fun W => W.cell? ⟨w.heap.size, 0, none⟩ = some (.int .i64 op) ∧ W.cell? ⟨w.heap.size, 1, none⟩ = some (.int .i64 A) ∧ W.cell? ⟨w.heap.size, 2, none⟩ = some (.int .i64 B) ∧ W.cell? ⟨w.heap.size, 3, none⟩ = some (.slice (some ⟨g, o, none⟩) ks.length ck) ∧ W.cell? ⟨g, o + k * 6, none⟩ = some (.int .i64 xo) ∧ W.cell? ⟨g, o + k * 6 + 1, none⟩ = some (.int .i64 xA) ∧ W.cell? ⟨g, o + k * 6 + 2, none⟩ = some (.int .i64 xB) ∧ W.cell? ⟨g, o + k * 6 + 3, none⟩ = some (.slice xK xnk xck) ∧ W.cell? ⟨g, o + k * 6 + 4, none⟩ = some (.slice xP xnp xcp) ∧ W.cell? ⟨g, o + k * 6 + 5, none⟩ = some (.slice xF xnf xcf)) W') := Lib.hid fun W W' hb ⟨h0, h1, h2, h3, h4, h5, h6, h7, h8, h9⟩ => ⟨(hb.cell (by simp only; omega)).trans h0, (hb.cell (by simp only; omega)).trans h1, (hb.cell (by simp only; omega)).trans h2, (hb.cell (by simp only; omega)).trans h3, (hb.cell (by simp only; omega)).trans h4, (hb.cell (by simp only; omega)).trans h5, (hb.cell (by simp only; omega)).trans h6, (hb.cell (by simp only; omega)).trans h7, (hb.cell (by simp only; omega)).trans h8, (hb.cell (by simp only; omega)).trans h9⟩
        have HSS : Hid ((fun W => W.cell? ⟨w.heap.size, 0, none⟩ = some (.int .i64 op) ∧ W.cell? ⟨w.heap.size, 1, none⟩ = some (.int .i64 A) ∧ W.cell? ⟨w.heap.size, 2, none⟩ = some (.int .i64 B) ∧ W.cell? ⟨w.heap.size, 3, none⟩ = some (.slice (some ⟨g, o, none⟩) ks.length ck) ∧ W.cell? ⟨g, o + k * 6, none⟩ = some (.int .i64 xo) ∧ W.cell? ⟨g, o + k * 6 + 1, none⟩ = some (.int .i64 xA) ∧ W.cell? ⟨g, o + k * 6 + 2, none⟩ = some (.int .i64 xB) ∧ W.cell? ⟨g, o + k * 6 + 3, none⟩ = some (.slice xK xnk xck) ∧ W.cell? ⟨g, o + k * 6 + 4, none⟩ = some (.slice xP xnp xcp) ∧ W.cell? ⟨g, o + k * 6 + 5, none⟩ = some (.slice xF xnf xcf)) wr.drew) := Lib.hid ⟨c0, c1, c2, c3, r0, r1, r2, r3, r4, r5⟩
        have ew := IntWalk.i64_in ((u : Int) + (d : Int)) (by omega)
        have hgd := HG.out.next (w1 := wr.drew) (below_drewN (Below.refl _ _) 1)
        have hown : wr.drew.ownsRow 0 59 6 Kv k (treesV (os.map Prod.fst)) := by rw [← hlen]; exact hgd.own
        obtain ⟨Ko, cko, rfl, -, -⟩ := own_slice hown
        have HWH := Lib.hid hgd.whole
        have HKB := Lib.hid hgd.kb
        have HGD := Lib.hid hgd
        have HOWN := Lib.hid hown
        have HLEN := Lib.hid hlen
        have cb : wr.drew.cell? ⟨w.heap.size + 1 + 1, 3, none⟩ = some (.slice Ko k cko) := hgd.whole.cell 3
        clear hcs r0 r1 r2 r3 r4 r5 hgd hown hlen HP HG
        go_wp2_with fail
        refine region_begin_any (S := fun W => W.cell? ⟨w.heap.size, 0, none⟩ = some (.int .i64 op) ∧ W.cell? ⟨w.heap.size, 1, none⟩ = some (.int .i64 A) ∧ W.cell? ⟨w.heap.size, 2, none⟩ = some (.int .i64 B) ∧ W.cell? ⟨w.heap.size, 3, none⟩ = some (.slice (some ⟨g, o, none⟩) ks.length ck) ∧ W.cell? ⟨g, o + k * 6, none⟩ = some (.int .i64 xo) ∧ W.cell? ⟨g, o + k * 6 + 1, none⟩ = some (.int .i64 xA) ∧ W.cell? ⟨g, o + k * 6 + 2, none⟩ = some (.int .i64 xB) ∧ W.cell? ⟨g, o + k * 6 + 3, none⟩ = some (.slice xK xnk xck) ∧ W.cell? ⟨g, o + k * 6 + 4, none⟩ = some (.slice xP xnp xcp) ∧ W.cell? ⟨g, o + k * 6 + 5, none⟩ = some (.slice xF xnf xcf)) (by kernel_rfl) (HSS.out) (fun W hW hHeld => ?_)
        subst hW
        refine region_take 0 ?_ rfl (by kernel_rfl) (by rfl) hHeld ?_ ?_
        rotate_left
        · intro w hSw
          (try dsimp only at hSw)
          go_simp
          try with_reducible rfl
        try simp only [Act.put, List.setIfInBounds_toArray, List.set_cons_zero, List.set_cons_succ]
        refine region_take 2 ?_ rfl (by kernel_rfl) (by rfl) hHeld ?_ ?_
        rotate_left
        · intro w hSw
          (try dsimp only at hSw)
          go_simp
          try with_reducible rfl
        try simp only [Act.put, List.setIfInBounds_toArray, List.set_cons_zero, List.set_cons_succ]
        refine region_take 3 ?_ rfl (by kernel_rfl) (by rfl) hHeld ?_ ?_
        rotate_left
        · intro w hSw
          (try dsimp only at hSw)
          go_simp
          try with_reducible rfl
        try simp only [Act.put, List.setIfInBounds_toArray, List.set_cons_zero, List.set_cons_succ]
        refine region_take 4 ?_ rfl (by kernel_rfl) (by rfl) hHeld ?_ ?_
        rotate_left
        · intro w hSw
          (try dsimp only at hSw)
          go_simp
          try with_reducible rfl
        try simp only [Act.put, List.setIfInBounds_toArray, List.set_cons_zero, List.set_cons_succ]
        refine region_take 5 ?_ rfl (by kernel_rfl) (by rfl) hHeld ?_ ?_
        rotate_left
        · intro w hSw
          (try dsimp only at hSw)
          go_simp
          try with_reducible rfl
        try simp only [Act.put, List.setIfInBounds_toArray, List.set_cons_zero, List.set_cons_succ]
        refine region_take 6 ?_ rfl (by kernel_rfl) (by rfl) hHeld ?_ ?_
        rotate_left
        · intro w hSw
          (try dsimp only at hSw)
          go_simp
          try with_reducible rfl
        try simp only [Act.put, List.setIfInBounds_toArray, List.set_cons_zero, List.set_cons_succ]
        refine region_take 7 ?_ rfl (by kernel_rfl) (by rfl) hHeld ?_ ?_
        rotate_left
        · intro w hSw
          (try dsimp only at hSw)
          go_simp
          try with_reducible rfl
        try simp only [Act.put, List.setIfInBounds_toArray, List.set_cons_zero, List.set_cons_succ]
        refine region_take 8 ?_ rfl (by kernel_rfl) (by rfl) hHeld ?_ ?_
        rotate_left
        · intro w hSw
          (try dsimp only at hSw)
          go_simp
          try with_reducible rfl
        try simp only [Act.put, List.setIfInBounds_toArray, List.set_cons_zero, List.set_cons_succ]
        refine region_take 9 ?_ rfl (by kernel_rfl) (by rfl) hHeld ?_ ?_
        rotate_left
        · intro w hSw
          (try dsimp only at hSw)
          go_simp
          try with_reducible rfl
        try simp only [Act.put, List.setIfInBounds_toArray, List.set_cons_zero, List.set_cons_succ]
        refine region_take 10 ?_ rfl (by kernel_rfl) (by rfl) hHeld ?_ ?_
        rotate_left
        · intro w hSw
          (try dsimp only at hSw)
          go_simp
          try with_reducible rfl
        try simp only [Act.put, List.setIfInBounds_toArray, List.set_cons_zero, List.set_cons_succ]
        refine region_take 11 ?_ rfl (by kernel_rfl) (by rfl) hHeld ?_ ?_
        rotate_left
        · intro w hSw
          (try dsimp only at hSw)
          go_simp
          try with_reducible rfl
        try simp only [Act.put, List.setIfInBounds_toArray, List.set_cons_zero, List.set_cons_succ]
        refine region_two 1 12 rfl rfl (by kernel_rfl) (by rfl) (by rfl) (fun K hK => ?_) (fun K hK => ?_)
        · go_simp
          refine hK.out _ _ (hHeld) (fun hHeld => ?_)
          clear hK K
          try simp only [Act.put, List.setIfInBounds_toArray, List.set_cons_zero, List.set_cons_succ]
          refine region_call 12 rfl (by kernel_rfl) (by rfl) (fun K hK => ?_)
          go_simp
          refine (around_any (op, A, B) k _ (by omega) HFX.out).mono ?_
          rintro e w1 ⟨rfl, hb1⟩
          rw [HD.out]
          refine hK.out _ _ (HKEEP.out _ _ (hb1.mono HS1.out) hHeld) (fun hHeld => ?_)
          clear hK K
          have cb1 : w1.cell? ⟨w.heap.size + 1 + 1, 3, none⟩ = some (.slice Ko k cko) := (hb1.cell HS3.out).trans cb
          have HB1 := Lib.hid hb1
          have HZ1 := Lib.hid (Nat.le_trans HS1.out hb1.size)
          clear hb1
          try simp only [Act.put, List.setIfInBounds_toArray, List.set_cons_zero, List.set_cons_succ]
          refine region_take 13 ?_ rfl (by kernel_rfl) (by rfl) hHeld ?_ ?_
          rotate_left
          · intro w hSw
            (try dsimp only at hSw)
            go_simp
            try with_reducible rfl
          try simp only [Act.put, List.setIfInBounds_toArray, List.set_cons_zero, List.set_cons_succ]
          refine region_call 14 rfl (by kernel_rfl) (by rfl) (fun K hK => ?_)
          go_simp
          refine (HREC.out w1 (HBW.out.trans (HB1.out.mono HS0.out))).mono ?_
          rintro e w2 ⟨x', rfl, ht, hb2⟩
          obtain ⟨⟨yo, yA, yB⟩, yK, ynk, yck, yP, ynp, ycp, yF, ynf, ycf⟩ := x'
          dsimp only [TV.val]
          refine hK.out _ _ (HKEEP.out _ _ (hb2.mono HZ1.out) hHeld) (fun hHeld => ?_)
          clear hK K
          have cb2 : w2.cell? ⟨w.heap.size + 1 + 1, 3, none⟩ = some (.slice Ko k cko) := (hb2.cell (Nat.lt_of_lt_of_le HS3.out HB1.out.size)).trans cb1
          have HB2 := Lib.hid hb2
          have HT := Lib.hid ht
          have HZ2 := Lib.hid (Nat.le_trans HZ1.out hb2.size)
          clear hb2 ht
          have HL := Lib.hid (show Below w2.heap.size w2 (w2.alloc (.cells #[.int .i64 yo, .int .i64 yA, .int .i64 yB, .slice yK ynk yck, .slice yP ynp ycp, .slice yF ynf ycf] 59)) from (Below.refl _ _).alloc (Nat.le_refl _) _)
          have HLH := Lib.hid (holds_at w2 #[.int .i64 yo, .int .i64 yA, .int .i64 yB, .slice yK ynk yck, .slice yP ynp ycp, .slice yF ynf ycf] 59 _ rfl)
          have HB02 := Lib.hid (below_step HB1.out HB2.out)
          try simp only [Act.put, List.setIfInBounds_toArray, List.set_cons_zero, List.set_cons_succ]
          refine region_call 15 rfl (by kernel_rfl) (by rfl) (fun K hK => ?_)
          go_simp
          refine hK.out _ _ (HKEEP.out _ _ (HL.out.mono HZ2.out) hHeld) (fun hHeld => ?_)
          clear hK K
          have cb3 := (HL.out.cell (p := ⟨w.heap.size + 1 + 1, 3, none⟩) (Nat.lt_of_lt_of_le HS3.out HB02.out.size)).trans cb2
          try simp only [Act.put, List.setIfInBounds_toArray, List.set_cons_zero, List.set_cons_succ]
          refine region_call 16 rfl (by kernel_rfl) (by rfl) (fun K hK => ?_)
          refine wp_append_at (.tmp 42) (.tmp 56) 57 57 _ rfl Tryd.underlying57 59 _ 6 96 infoTree rfl (by decide) Tryd.underlying57 (.slice Ko k cko) k 1 _ _ rfl (own_below (own_below HOWN.out HB02.out) HL.out) (some ⟨w2.heap.size, 0, none⟩) 1 rfl ⟨by omega, by omega, fun h => by cases h⟩ HLH.out rfl (by intro u hu; simp only [List.mem_cons, List.not_mem_nil, or_false] at hu; rcases hu with rfl | rfl | rfl | rfl | rfl | rfl <;> rfl) (by omega) (by decide) ?_
          intro v' w3 hown3 hmv3
          refine hK.out _ _ (HKEEP.out _ _ (hmv3.below (B := w.heap.size + 1) (Nat.le_trans HZ2.out HL.out.size) (fun g hg => Nat.le_of_lt (Nat.lt_trans (by omega) (HKB.out g hg)))) hHeld) (fun hHeld => ?_)
          clear hK K
          have hw3 := (((HWH.out.below HB02.out (by have := HS3.out; exact this)).below HL.out (by have := HS3.out; have := HB02.out.size; omega)).only hmv3.only (fun e => by have := HKB.out _ e; omega))
          obtain ⟨K', ck', rfl, -, -⟩ := own_slice hown3
          have cb4 : w3.cell? ⟨w.heap.size + 1 + 1, 3, none⟩ = some (.slice Ko k cko) := hw3.cell 3
          have fb4 : w3.frozen? ⟨w.heap.size + 1 + 1, 3, none⟩ = false := hw3.frozen 3
          have HO3 := Lib.hid hown3
          have HM3 := Lib.hid hmv3
          clear hown3 hmv3 hw3 cb3
          try simp only [Act.put, List.setIfInBounds_toArray, List.set_cons_zero, List.set_cons_succ]
          refine region_take 17 ?_ rfl (by kernel_rfl) (by rfl) hHeld ?_ ?_
          rotate_left
          · intro w hSw
            (try dsimp only at hSw)
            go_simp
            try with_reducible rfl
          try simp only [Act.put, List.setIfInBounds_toArray, List.set_cons_zero, List.set_cons_succ]
          refine region_call 18 rfl (by kernel_rfl) (by rfl) (fun K hK => ?_)
          go_simp
          refine hK.out _ _ (HKEEP.out _ _ ((Only.set_ (Only.refl (fun k => k = w.heap.size + 1 + 1) w3) (.inl rfl) 3 (.slice K' (k + 1) ck')).below (Nat.le_trans HZ2.out (Nat.le_trans HL.out.size HM3.out.only.size)) (fun k hk e => by omega)) hHeld) (fun hHeld => ?_)
          clear hK K
          try simp only [Act.put, List.setIfInBounds_toArray, List.set_cons_zero, List.set_cons_succ]
          refine region_done (by kernel_rfl) ?_
          clear cb cb1 cb2 cb4 fb4
          go_wp2_with fail
          obtain ⟨hg4, hb4⟩ := HGD.out.step HLT.out HB02.out (HT.out.mono fun k hk _ => hk.imp id fun h => Nat.le_trans HB1.out.size h) HL.out (by rw [HLEN.out]; exact HO3.out) HM3.out
          have HG4 := Lib.hid hg4
          have HB4 := Lib.hid (HRD.out _ hb4)
          have HP4 := Lib.hid (HPART.out (⟨(yo, yA, yB), yK, ynk, yck, yP, ynp, ycp, yF, ynf, ycf⟩, rz by_ (u + d) ks[k].2) rfl)
          clear hg4 hb4
          go_roundw
          case rel => exact ⟨k + 1, _, os ++ [(⟨(yo, yA, yB), yK, ynk, yck, yP, ynp, ycp, yF, ynf, ycf⟩, rz by_ (u + d) ks[k].2)], by go_num, by omega, by rw [List.length_append, HLEN.out]; rfl, HP4, HG4, HB4⟩
          case measure => simp [intOf] <;> omega
        · go_simp
          refine (around_any (op, A, B) k _ (by omega) HFX.out).mono ?_
          rintro e w1 ⟨rfl, hb1⟩
          rw [HD.out]
          refine hK.out _ _ (HKEEP.out _ _ (hb1.mono HS1.out) hHeld) (fun hHeld => ?_)
          clear hK K
          have cb1 : w1.cell? ⟨w.heap.size + 1 + 1, 3, none⟩ = some (.slice Ko k cko) := (hb1.cell HS3.out).trans cb
          have HB1 := Lib.hid hb1
          have HZ1 := Lib.hid (Nat.le_trans HS1.out hb1.size)
          clear hb1
          try simp only [Act.put, List.setIfInBounds_toArray, List.set_cons_zero, List.set_cons_succ]
          refine region_take 13 ?_ rfl (by kernel_rfl) (by rfl) hHeld ?_ ?_
          rotate_left
          · intro w hSw
            (try dsimp only at hSw)
            go_simp
            try with_reducible rfl
          try simp only [Act.put, List.setIfInBounds_toArray, List.set_cons_zero, List.set_cons_succ]
          refine region_two 1 14 rfl rfl (by kernel_rfl) (by rfl) (by rfl) (fun K hK => ?_) (fun K hK => ?_)
          · go_simp
            refine hK.out _ _ (hHeld) (fun hHeld => ?_)
            clear hK K
            try simp only [Act.put, List.setIfInBounds_toArray, List.set_cons_zero, List.set_cons_succ]
            refine region_call 14 rfl (by kernel_rfl) (by rfl) (fun K hK => ?_)
            go_simp
            refine (HREC.out w1 (HBW.out.trans (HB1.out.mono HS0.out))).mono ?_
            rintro e w2 ⟨x', rfl, ht, hb2⟩
            obtain ⟨⟨yo, yA, yB⟩, yK, ynk, yck, yP, ynp, ycp, yF, ynf, ycf⟩ := x'
            dsimp only [TV.val]
            refine hK.out _ _ (HKEEP.out _ _ (hb2.mono HZ1.out) hHeld) (fun hHeld => ?_)
            clear hK K
            have cb2 : w2.cell? ⟨w.heap.size + 1 + 1, 3, none⟩ = some (.slice Ko k cko) := (hb2.cell (Nat.lt_of_lt_of_le HS3.out HB1.out.size)).trans cb1
            have HB2 := Lib.hid hb2
            have HT := Lib.hid ht
            have HZ2 := Lib.hid (Nat.le_trans HZ1.out hb2.size)
            clear hb2 ht
            have HL := Lib.hid (show Below w2.heap.size w2 (w2.alloc (.cells #[.int .i64 yo, .int .i64 yA, .int .i64 yB, .slice yK ynk yck, .slice yP ynp ycp, .slice yF ynf ycf] 59)) from (Below.refl _ _).alloc (Nat.le_refl _) _)
            have HLH := Lib.hid (holds_at w2 #[.int .i64 yo, .int .i64 yA, .int .i64 yB, .slice yK ynk yck, .slice yP ynp ycp, .slice yF ynf ycf] 59 _ rfl)
            have HB02 := Lib.hid (below_step HB1.out HB2.out)
            try simp only [Act.put, List.setIfInBounds_toArray, List.set_cons_zero, List.set_cons_succ]
            refine region_call 15 rfl (by kernel_rfl) (by rfl) (fun K hK => ?_)
            go_simp
            refine hK.out _ _ (HKEEP.out _ _ (HL.out.mono HZ2.out) hHeld) (fun hHeld => ?_)
            clear hK K
            have cb3 := (HL.out.cell (p := ⟨w.heap.size + 1 + 1, 3, none⟩) (Nat.lt_of_lt_of_le HS3.out HB02.out.size)).trans cb2
            try simp only [Act.put, List.setIfInBounds_toArray, List.set_cons_zero, List.set_cons_succ]
            refine region_call 16 rfl (by kernel_rfl) (by rfl) (fun K hK => ?_)
            refine wp_append_at (.tmp 42) (.tmp 56) 57 57 _ rfl Tryd.underlying57 59 _ 6 96 infoTree rfl (by decide) Tryd.underlying57 (.slice Ko k cko) k 1 _ _ rfl (own_below (own_below HOWN.out HB02.out) HL.out) (some ⟨w2.heap.size, 0, none⟩) 1 rfl ⟨by omega, by omega, fun h => by cases h⟩ HLH.out rfl (by intro u hu; simp only [List.mem_cons, List.not_mem_nil, or_false] at hu; rcases hu with rfl | rfl | rfl | rfl | rfl | rfl <;> rfl) (by omega) (by decide) ?_
            intro v' w3 hown3 hmv3
            refine hK.out _ _ (HKEEP.out _ _ (hmv3.below (B := w.heap.size + 1) (Nat.le_trans HZ2.out HL.out.size) (fun g hg => Nat.le_of_lt (Nat.lt_trans (by omega) (HKB.out g hg)))) hHeld) (fun hHeld => ?_)
            clear hK K
            have hw3 := (((HWH.out.below HB02.out (by have := HS3.out; exact this)).below HL.out (by have := HS3.out; have := HB02.out.size; omega)).only hmv3.only (fun e => by have := HKB.out _ e; omega))
            obtain ⟨K', ck', rfl, -, -⟩ := own_slice hown3
            have cb4 : w3.cell? ⟨w.heap.size + 1 + 1, 3, none⟩ = some (.slice Ko k cko) := hw3.cell 3
            have fb4 : w3.frozen? ⟨w.heap.size + 1 + 1, 3, none⟩ = false := hw3.frozen 3
            have HO3 := Lib.hid hown3
            have HM3 := Lib.hid hmv3
            clear hown3 hmv3 hw3 cb3
            try simp only [Act.put, List.setIfInBounds_toArray, List.set_cons_zero, List.set_cons_succ]
            refine region_take 17 ?_ rfl (by kernel_rfl) (by rfl) hHeld ?_ ?_
            rotate_left
            · intro w hSw
              (try dsimp only at hSw)
              go_simp
              try with_reducible rfl
            try simp only [Act.put, List.setIfInBounds_toArray, List.set_cons_zero, List.set_cons_succ]
            refine region_call 18 rfl (by kernel_rfl) (by rfl) (fun K hK => ?_)
            go_simp
            refine hK.out _ _ (HKEEP.out _ _ ((Only.set_ (Only.refl (fun k => k = w.heap.size + 1 + 1) w3) (.inl rfl) 3 (.slice K' (k + 1) ck')).below (Nat.le_trans HZ2.out (Nat.le_trans HL.out.size HM3.out.only.size)) (fun k hk e => by omega)) hHeld) (fun hHeld => ?_)
            clear hK K
            try simp only [Act.put, List.setIfInBounds_toArray, List.set_cons_zero, List.set_cons_succ]
            refine region_done (by kernel_rfl) ?_
            clear cb cb1 cb2 cb4 fb4
            go_wp2_with fail
            obtain ⟨hg4, hb4⟩ := HGD.out.step HLT.out HB02.out (HT.out.mono fun k hk _ => hk.imp id fun h => Nat.le_trans HB1.out.size h) HL.out (by rw [HLEN.out]; exact HO3.out) HM3.out
            have HG4 := Lib.hid hg4
            have HB4 := Lib.hid (HRD.out _ hb4)
            have HP4 := Lib.hid (HPART.out (⟨(yo, yA, yB), yK, ynk, yck, yP, ynp, ycp, yF, ynf, ycf⟩, rz by_ (u + d) ks[k].2) rfl)
            clear hg4 hb4
            go_roundw
            case rel => exact ⟨k + 1, _, os ++ [(⟨(yo, yA, yB), yK, ynk, yck, yP, ynp, ycp, yF, ynf, ycf⟩, rz by_ (u + d) ks[k].2)], by go_num, by omega, by rw [List.length_append, HLEN.out]; rfl, HP4, HG4, HB4⟩
            case measure => simp [intOf] <;> omega
          · go_simp
            refine (HREC.out w1 (HBW.out.trans (HB1.out.mono HS0.out))).mono ?_
            rintro e w2 ⟨x', rfl, ht, hb2⟩
            obtain ⟨⟨yo, yA, yB⟩, yK, ynk, yck, yP, ynp, ycp, yF, ynf, ycf⟩ := x'
            dsimp only [TV.val]
            refine hK.out _ _ (HKEEP.out _ _ (hb2.mono HZ1.out) hHeld) (fun hHeld => ?_)
            clear hK K
            have cb2 : w2.cell? ⟨w.heap.size + 1 + 1, 3, none⟩ = some (.slice Ko k cko) := (hb2.cell (Nat.lt_of_lt_of_le HS3.out HB1.out.size)).trans cb1
            have HB2 := Lib.hid hb2
            have HT := Lib.hid ht
            have HZ2 := Lib.hid (Nat.le_trans HZ1.out hb2.size)
            clear hb2 ht
            have HL := Lib.hid (show Below w2.heap.size w2 (w2.alloc (.cells #[.int .i64 yo, .int .i64 yA, .int .i64 yB, .slice yK ynk yck, .slice yP ynp ycp, .slice yF ynf ycf] 59)) from (Below.refl _ _).alloc (Nat.le_refl _) _)
            have HLH := Lib.hid (holds_at w2 #[.int .i64 yo, .int .i64 yA, .int .i64 yB, .slice yK ynk yck, .slice yP ynp ycp, .slice yF ynf ycf] 59 _ rfl)
            have HB02 := Lib.hid (below_step HB1.out HB2.out)
            try simp only [Act.put, List.setIfInBounds_toArray, List.set_cons_zero, List.set_cons_succ]
            refine region_two 1 15 rfl rfl (by kernel_rfl) (by rfl) (by rfl) (fun K hK => ?_) (fun K hK => ?_)
            · go_simp
              refine hK.out _ _ (hHeld) (fun hHeld => ?_)
              clear hK K
              try simp only [Act.put, List.setIfInBounds_toArray, List.set_cons_zero, List.set_cons_succ]
              refine region_call 15 rfl (by kernel_rfl) (by rfl) (fun K hK => ?_)
              go_simp
              refine hK.out _ _ (HKEEP.out _ _ (HL.out.mono HZ2.out) hHeld) (fun hHeld => ?_)
              clear hK K
              have cb3 := (HL.out.cell (p := ⟨w.heap.size + 1 + 1, 3, none⟩) (Nat.lt_of_lt_of_le HS3.out HB02.out.size)).trans cb2
              try simp only [Act.put, List.setIfInBounds_toArray, List.set_cons_zero, List.set_cons_succ]
              refine region_call 16 rfl (by kernel_rfl) (by rfl) (fun K hK => ?_)
              refine wp_append_at (.tmp 42) (.tmp 56) 57 57 _ rfl Tryd.underlying57 59 _ 6 96 infoTree rfl (by decide) Tryd.underlying57 (.slice Ko k cko) k 1 _ _ rfl (own_below (own_below HOWN.out HB02.out) HL.out) (some ⟨w2.heap.size, 0, none⟩) 1 rfl ⟨by omega, by omega, fun h => by cases h⟩ HLH.out rfl (by intro u hu; simp only [List.mem_cons, List.not_mem_nil, or_false] at hu; rcases hu with rfl | rfl | rfl | rfl | rfl | rfl <;> rfl) (by omega) (by decide) ?_
              intro v' w3 hown3 hmv3
              refine hK.out _ _ (HKEEP.out _ _ (hmv3.below (B := w.heap.size + 1) (Nat.le_trans HZ2.out HL.out.size) (fun g hg => Nat.le_of_lt (Nat.lt_trans (by omega) (HKB.out g hg)))) hHeld) (fun hHeld => ?_)
              clear hK K
              have hw3 := (((HWH.out.below HB02.out (by have := HS3.out; exact this)).below HL.out (by have := HS3.out; have := HB02.out.size; omega)).only hmv3.only (fun e => by have := HKB.out _ e; omega))
              obtain ⟨K', ck', rfl, -, -⟩ := own_slice hown3
              have cb4 : w3.cell? ⟨w.heap.size + 1 + 1, 3, none⟩ = some (.slice Ko k cko) := hw3.cell 3
              have fb4 : w3.frozen? ⟨w.heap.size + 1 + 1, 3, none⟩ = false := hw3.frozen 3
              have HO3 := Lib.hid hown3
              have HM3 := Lib.hid hmv3
              clear hown3 hmv3 hw3 cb3
              try simp only [Act.put, List.setIfInBounds_toArray, List.set_cons_zero, List.set_cons_succ]
              refine region_take 17 ?_ rfl (by kernel_rfl) (by rfl) hHeld ?_ ?_
              rotate_left
              · intro w hSw
                (try dsimp only at hSw)
                go_simp
                try with_reducible rfl
              try simp only [Act.put, List.setIfInBounds_toArray, List.set_cons_zero, List.set_cons_succ]
              refine region_call 18 rfl (by kernel_rfl) (by rfl) (fun K hK => ?_)
              go_simp
              refine hK.out _ _ (HKEEP.out _ _ ((Only.set_ (Only.refl (fun k => k = w.heap.size + 1 + 1) w3) (.inl rfl) 3 (.slice K' (k + 1) ck')).below (Nat.le_trans HZ2.out (Nat.le_trans HL.out.size HM3.out.only.size)) (fun k hk e => by omega)) hHeld) (fun hHeld => ?_)
              clear hK K
              try simp only [Act.put, List.setIfInBounds_toArray, List.set_cons_zero, List.set_cons_succ]
              refine region_done (by kernel_rfl) ?_
              clear cb cb1 cb2 cb4 fb4
              go_wp2_with fail
              obtain ⟨hg4, hb4⟩ := HGD.out.step HLT.out HB02.out (HT.out.mono fun k hk _ => hk.imp id fun h => Nat.le_trans HB1.out.size h) HL.out (by rw [HLEN.out]; exact HO3.out) HM3.out
              have HG4 := Lib.hid hg4
              have HB4 := Lib.hid (HRD.out _ hb4)
              have HP4 := Lib.hid (HPART.out (⟨(yo, yA, yB), yK, ynk, yck, yP, ynp, ycp, yF, ynf, ycf⟩, rz by_ (u + d) ks[k].2) rfl)
              clear hg4 hb4
              go_roundw
              case rel => exact ⟨k + 1, _, os ++ [(⟨(yo, yA, yB), yK, ynk, yck, yP, ynp, ycp, yF, ynf, ycf⟩, rz by_ (u + d) ks[k].2)], by go_num, by omega, by rw [List.length_append, HLEN.out]; rfl, HP4, HG4, HB4⟩
              case measure => simp [intOf] <;> omega
            · go_simp
              refine hK.out _ _ (HKEEP.out _ _ (HL.out.mono HZ2.out) hHeld) (fun hHeld => ?_)
              clear hK K
              have cb3 := (HL.out.cell (p := ⟨w.heap.size + 1 + 1, 3, none⟩) (Nat.lt_of_lt_of_le HS3.out HB02.out.size)).trans cb2
              try simp only [Act.put, List.setIfInBounds_toArray, List.set_cons_zero, List.set_cons_succ]
              refine region_call 1 rfl (by kernel_rfl) (by rfl) (fun K hK => ?_)
              go_simp
              refine hK.out _ _ (hHeld) (fun hHeld => ?_)
              clear hK K
              try simp only [Act.put, List.setIfInBounds_toArray, List.set_cons_zero, List.set_cons_succ]
              refine region_call 16 rfl (by kernel_rfl) (by rfl) (fun K hK => ?_)
              refine wp_append_at (.tmp 42) (.tmp 56) 57 57 _ rfl Tryd.underlying57 59 _ 6 96 infoTree rfl (by decide) Tryd.underlying57 (.slice Ko k cko) k 1 _ _ rfl (own_below (own_below HOWN.out HB02.out) HL.out) (some ⟨w2.heap.size, 0, none⟩) 1 rfl ⟨by omega, by omega, fun h => by cases h⟩ HLH.out rfl (by intro u hu; simp only [List.mem_cons, List.not_mem_nil, or_false] at hu; rcases hu with rfl | rfl | rfl | rfl | rfl | rfl <;> rfl) (by omega) (by decide) ?_
              intro v' w3 hown3 hmv3
              refine hK.out _ _ (HKEEP.out _ _ (hmv3.below (B := w.heap.size + 1) (Nat.le_trans HZ2.out HL.out.size) (fun g hg => Nat.le_of_lt (Nat.lt_trans (by omega) (HKB.out g hg)))) hHeld) (fun hHeld => ?_)
              clear hK K
              have hw3 := (((HWH.out.below HB02.out (by have := HS3.out; exact this)).below HL.out (by have := HS3.out; have := HB02.out.size; omega)).only hmv3.only (fun e => by have := HKB.out _ e; omega))
              obtain ⟨K', ck', rfl, -, -⟩ := own_slice hown3
              have cb4 : w3.cell? ⟨w.heap.size + 1 + 1, 3, none⟩ = some (.slice Ko k cko) := hw3.cell 3
              have fb4 : w3.frozen? ⟨w.heap.size + 1 + 1, 3, none⟩ = false := hw3.frozen 3
              have HO3 := Lib.hid hown3
              have HM3 := Lib.hid hmv3
              clear hown3 hmv3 hw3 cb3
              try simp only [Act.put, List.setIfInBounds_toArray, List.set_cons_zero, List.set_cons_succ]
              refine region_take 17 ?_ rfl (by kernel_rfl) (by rfl) hHeld ?_ ?_
              rotate_left
              · intro w hSw
                (try dsimp only at hSw)
                go_simp
                try with_reducible rfl
              try simp only [Act.put, List.setIfInBounds_toArray, List.set_cons_zero, List.set_cons_succ]
              refine region_call 18 rfl (by kernel_rfl) (by rfl) (fun K hK => ?_)
              go_simp
              refine hK.out _ _ (HKEEP.out _ _ ((Only.set_ (Only.refl (fun k => k = w.heap.size + 1 + 1) w3) (.inl rfl) 3 (.slice K' (k + 1) ck')).below (Nat.le_trans HZ2.out (Nat.le_trans HL.out.size HM3.out.only.size)) (fun k hk e => by omega)) hHeld) (fun hHeld => ?_)
              clear hK K
              try simp only [Act.put, List.setIfInBounds_toArray, List.set_cons_zero, List.set_cons_succ]
              refine region_done (by kernel_rfl) ?_
              clear cb cb1 cb2 cb4 fb4
              go_wp2_with fail
              obtain ⟨hg4, hb4⟩ := HGD.out.step HLT.out HB02.out (HT.out.mono fun k hk _ => hk.imp id fun h => Nat.le_trans HB1.out.size h) HL.out (by rw [HLEN.out]; exact HO3.out) HM3.out
              have HG4 := Lib.hid hg4
              have HB4 := Lib.hid (HRD.out _ hb4)
              have HP4 := Lib.hid (HPART.out (⟨(yo, yA, yB), yK, ynk, yck, yP, ynp, ycp, yF, ynf, ycf⟩, rz by_ (u + d) ks[k].2) rfl)
              clear hg4 hb4
              go_roundw
              case rel => exact ⟨k + 1, _, os ++ [(⟨(yo, yA, yB), yK, ynk, yck, yP, ynp, ycp, yF, ynf, ycf⟩, rz by_ (u + d) ks[k].2)], by go_num, by omega, by rw [List.length_append, HLEN.out]; rfl, HP4, HG4, HB4⟩
              case measure => simp [intOf] <;> omega
      · have hkm : k = ks.length := by omega
        have hG := HG.out
        have hown : wr.ownsRow 0 59 6 Kv k (treesV (os.map Prod.fst)) := by rw [← hlen]; exact hG.own
        obtain ⟨Ko, cko, rfl, hsl, -⟩ := own_slice hown
        have HDN := Lib.hid (HDONE.out wr Ko cko k os (HB0.out.trans (HBR.out.mono (by omega))) hG hlen hkm hsl HP.out)
        have hwo := hG.whole
        have o0 : wr.cell? ⟨w.heap.size + 1 + 1, 0, none⟩ = some (.int .i64 op) := hwo.cell 0
        have o1 : wr.cell? ⟨w.heap.size + 1 + 1, 1, none⟩ = some (.int .i64 A) := hwo.cell 1
        have o2 : wr.cell? ⟨w.heap.size + 1 + 1, 2, none⟩ = some (.int .i64 B) := hwo.cell 2
        have o3 : wr.cell? ⟨w.heap.size + 1 + 1, 3, none⟩ = some (.slice Ko k cko) := hwo.cell 3
        have o4 : wr.cell? ⟨w.heap.size + 1 + 1, 4, none⟩ = some (.slice P na ca) := hwo.cell 4
        have o5 : wr.cell? ⟨w.heap.size + 1 + 1, 5, none⟩ = some (.slice F nf cf) := hwo.cell 5
        have hwz := HZ.out.below HBR.out (by omega)
        have HBE := Lib.hid (show ∀ w2, Below w.heap.size wr w2 → Below w.heap.size w w2 from fun w2 hb => (HB0.out.trans (HBR.out.mono (by omega))).trans hb)
        have HSE : Hid (w.heap.size ≤ wr.heap.size) := Lib.hid (by have := HBR.out.size; simp only [World.size_alloc] at this; omega)
        clear hkm hG hown hwo
        have z0 := hwz.cell 0
        have f0 := hwz.frozen 0
        have z1 := hwz.cell 1
        have f1 := hwz.frozen 1
        have z2 := hwz.cell 2
        have f2 := hwz.frozen 2
        have z3 := hwz.cell 3
        have f3 := hwz.frozen 3
        have z4 := hwz.cell 4
        have f4 := hwz.frozen 4
        have z5 := hwz.cell 5
        have f5 := hwz.frozen 5
        replace z0 : wr.cell? ⟨w.heap.size + 1, 0, none⟩ = some (.int .i64 0) := z0
        replace z1 : wr.cell? ⟨w.heap.size + 1, 1, none⟩ = some (.int .i64 0) := z1
        replace z2 : wr.cell? ⟨w.heap.size + 1, 2, none⟩ = some (.int .i64 0) := z2
        replace z3 : wr.cell? ⟨w.heap.size + 1, 3, none⟩ = some (.slice none 0 0) := z3
        replace z4 : wr.cell? ⟨w.heap.size + 1, 4, none⟩ = some (.slice none 0 0) := z4
        replace z5 : wr.cell? ⟨w.heap.size + 1, 5, none⟩ = some (.slice none 0 0) := z5
        have HWZ := Lib.hid hwz
        clear hwz
        go_wp2_with fail
        have hw6 := (((((HWZ.out.set_ 0 (.int .i64 op)).set_ 1 (.int .i64 A)).set_ 2 (.int .i64 B)).set_ 3 (.slice Ko k cko)).set_ 4 (.slice P na ca)).set_ 5 (.slice F nf cf)
        have ho6 : Only (fun j => j = w.heap.size + 1) wr ((((((wr.setCell ⟨w.heap.size + 1, 0, none⟩ (.int .i64 op)).setCell ⟨w.heap.size + 1, 1, none⟩ (.int .i64 A)).setCell ⟨w.heap.size + 1, 2, none⟩ (.int .i64 B)).setCell ⟨w.heap.size + 1, 3, none⟩ (.slice Ko k cko)).setCell ⟨w.heap.size + 1, 4, none⟩ (.slice P na ca)).setCell ⟨w.heap.size + 1, 5, none⟩ (.slice F nf cf)) := ((((((Only.refl (fun j => j = w.heap.size + 1) wr).set_ (.inl rfl) 0 _).set_ (.inl rfl) 1 _).set_ (.inl rfl) 2 _).set_ (.inl rfl) 3 _).set_ (.inl rfl) 4 _).set_ (.inl rfl) 5 _
        generalize ((((((wr.setCell ⟨w.heap.size + 1, 0, none⟩ (.int .i64 op)).setCell ⟨w.heap.size + 1, 1, none⟩ (.int .i64 A)).setCell ⟨w.heap.size + 1, 2, none⟩ (.int .i64 B)).setCell ⟨w.heap.size + 1, 3, none⟩ (.slice Ko k cko)).setCell ⟨w.heap.size + 1, 4, none⟩ (.slice P na ca)).setCell ⟨w.heap.size + 1, 5, none⟩ (.slice F nf cf)) = W6 at *
        have q0 : W6.cell? ⟨w.heap.size + 1, 0, none⟩ = some (.int .i64 op) := hw6.cell 0
        have q1 : W6.cell? ⟨w.heap.size + 1, 1, none⟩ = some (.int .i64 A) := hw6.cell 1
        have q2 : W6.cell? ⟨w.heap.size + 1, 2, none⟩ = some (.int .i64 B) := hw6.cell 2
        have q3 : W6.cell? ⟨w.heap.size + 1, 3, none⟩ = some (.slice Ko k cko) := hw6.cell 3
        have q4 : W6.cell? ⟨w.heap.size + 1, 4, none⟩ = some (.slice P na ca) := hw6.cell 4
        have q5 : W6.cell? ⟨w.heap.size + 1, 5, none⟩ = some (.slice F nf cf) := hw6.cell 5
        have hb6 := HBE.out _ (ho6.below (B := w.heap.size) HSE.out fun k hk e => by omega)
        have ht6 := (HDN.out.keep fun k hk hl => ho6.block k hl (by omega)).mono (G' := fun k => G k ∨ w.heap.size ≤ k) fun k hk _ => by rcases hk with h | h; exact .inl h.1; exact .inr (by omega)
        clear hw6 ho6
        (try simp only [Exit.inBlock, Exit.then])
        refine bodyPost_ret (by simp [results, Tryd.results58, go_sem, q0, q1, q2, q3, q4, q5]; try rfl) rfl ?_
        exact TreePost.of ht6 hb6
end Go.Proofs.YtkkkblghihheeaaDoor
