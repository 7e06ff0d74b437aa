/- term.Free, term.Below. -/
import Derived.Test.YtkkkblghihheeaaDoorTLift
namespace Go.Proofs.YtkkkblghihheeaaDoor
open Go.RowKit

def freeB (v : Int) (l : Ann) : Bool := l.any fun x => decide (0 ≤ freeN x.1 x.2) && decide (freeN x.1 x.2 = v)
def belowB (v : Int) (l : Ann) : Bool := l.all fun x => decide (freeN x.1 x.2 < 0) || decide (freeN x.1 x.2 < v)
/-- The answers of Free and Below. -/
def freeS (t : List Node3) (v : Int) : Bool := decide (shapeOf t = 0) && freeB v (annOf t)
def belowS (t : List Node3) (v : Int) : Bool := decide (shapeOf t = 0) && belowB v (annOf t)
theorem free_snoc {v : Int} {a : Ann} {i : Nat} (h : i < a.length) : freeB v (a.take (i + 1)) = (freeB v (a.take i) || (decide (0 ≤ freeN a[i].1 a[i].2) && decide (freeN a[i].1 a[i].2 = v))) := by
  rw [take_snoc h]; unfold freeB; rw [List.any_append]; simp only [List.any_cons, List.any_nil, Bool.or_false]
theorem below_snoc {v : Int} {a : Ann} {i : Nat} (h : i < a.length) : belowB v (a.take (i + 1)) = (belowB v (a.take i) && (decide (freeN a[i].1 a[i].2 < 0) || decide (freeN a[i].1 a[i].2 < v))) := by
  rw [take_snoc h]; unfold belowB; rw [List.all_append]; simp only [List.all_cons, List.all_nil, Bool.and_true]
/-- The state of Free's visitor. -/
structure FreeIn (v : Int) (a : Ann) (bf bv : Nat) (i : Nat) (F : Nat → Prop) (W : World) : Prop where
  blk : ∀ k, F k ↔ k = bf
  found : Whole W bf #[.bool (freeB v (a.take i))] 4
  cv : W.cell? ⟨bv, 0, none⟩ = some (.int .i64 v)
set_option maxHeartbeats 1000000 in
theorem tfree1_any (b : Bool) (i : Nat) (x v : Int) (bf bv : Nat) (W : World) (cb : W.cell? ⟨bf, 0, none⟩ = some (.bool b)) (fb : W.frozen? ⟨bf, 0, none⟩ = false) (cv : W.cell? ⟨bv, 0, none⟩ = some (.int .i64 v)) :
    Calls Tryd.prog 60 #[.int .i64 (i : Int), .int .i64 x, .pointer (some ⟨bf, 0, none⟩), .pointer (some ⟨bv, 0, none⟩)] W (fun e W' => e = .returned (.tuple #[]) ∧ W' = W.setCell ⟨bf, 0, none⟩ (.bool (b || decide (x = v)))) := by
  by_cases hx : x = v
  all_goals
    cases b
    all_goals
      go_enter Tryd.func60, Tryd.ntmps60
      go_wp2_with fail
      go_end0
      refine ⟨rfl, ?_⟩
      first
        | (simp [hx]; done)
        | (simp [show ¬ x < v from by omega]; done)
        | (simp; done)
        | (have e : (x == v) = false := by simpa using hx
           simp [e, hx])
theorem tfree_vis (v : Int) (a : Ann) (bf bv B0 : Nat) (h1 : bv < B0) (h2 : bv ≠ bf) : FVis 60 #[.pointer (some ⟨bf, 0, none⟩), .pointer (some ⟨bv, 0, none⟩)] a B0 (FreeIn v a bf bv) := by
  refine ⟨fun args w => by simp [go_sem], fun i F W h k hk => by rw [(h.blk k).1 hk]; exact h.found.lt, fun i F W W' h ho => ?_, fun i F W hi hv h => ?_, fun i F W hi hv h => ?_⟩
  · exact ⟨h.blk, h.found.keep (ho.block bf h.found.lt fun hh => hh.2 ((h.blk bf).2 rfl)), (ho.cell (p := ⟨bv, 0, none⟩) (World.block_lt_of_cell? _ _ h.cv) (by simp only; omega)).trans h.cv⟩
  · refine (tfree1_any _ i _ v bf bv W (h.found.cell 0) (h.found.frozen 0) h.cv).mono fun e W' ⟨he, hw⟩ => ?_
    have ho : Only F W W' := by
      rw [hw]
      exact (Only.refl F W).set_ (.inl ((h.blk bf).2 rfl)) 0 _
    refine ⟨he, F, ⟨h.blk, ?_, (ho.cell (p := ⟨bv, 0, none⟩) (World.block_lt_of_cell? _ _ h.cv) (fun hh => h2 ((h.blk _).1 hh))).trans h.cv⟩, ho, fun _ h => .inl h⟩
    have hd : decide (0 ≤ freeN a[i].1 a[i].2) = true := decide_eq_true hv
    rw [free_snoc hi, hd, Bool.true_and, hw]
    exact h.found.set_ 0 _
  · refine ⟨h.blk, ?_, h.cv⟩
    have hd : decide (0 ≤ freeN a[i].1 a[i].2) = false := decide_eq_false (by omega)
    rw [free_snoc hi, hd, Bool.false_and, Bool.or_false]
    exact h.found
set_option maxHeartbeats 1000000 in
theorem tfree_any (A : Option Addr) (n c : Nat) (t : List Node3) (v : Int) (w : World) (hn : t.length = n) (hA : Holds w A (nodesV t)) (hL : Lim w) :
    Calls Tryd.prog 28 #[.slice A n c, .int .i64 v] w fun e w' => e = .returned (.bool (freeS t v)) ∧ Below w.heap.size w w' := by
  have hmf : ∀ (fn : Fn) (first cap : Array Value) (w : World), (Instr.makeFunc fn first cap).run Tryd.prog w = .ok (.func fn first cap) w := fun _ _ _ _ => rfl
  have hb1 : Below w.heap.size w (w.alloc (.cells #[.int .i64 v] 3)) := (Below.refl _ _).alloc (Nat.le_refl _) _
  have HSH := Lib.hid (shape_any A n c t (w.alloc (.cells #[.int .i64 v] 3)) hn (hA.below hb1) (hL.next hb1))
  unfold freeS
  have x1 := Whole.new w #[.int .i64 v] 3
  have HB1 := Lib.hid hb1
  by_cases h0 : shapeOf t = 0
  · rw [decide_eq_true h0, Bool.true_and]
    rw [h0] at HSH
    obtain ⟨hl, hp, e0, hW⟩ := right_of h0
    have HFR := Lib.hid (show ∀ w1, Below (w.heap.size + 1) (w.alloc (.cells #[.int .i64 v] 3)) w1 → Calls Tryd.prog 59 #[.slice A n c, .func (.func 60) #[] #[.pointer (some ⟨w1.heap.size, 0, none⟩), .pointer (some ⟨w.heap.size, 0, none⟩)]] (w1.alloc (.cells #[.bool false] 4))
        fun e w' => e = .returned (.tuple #[]) ∧ w'.cell? ⟨w1.heap.size, 0, none⟩ = some (.bool (freeB v (annOf t))) ∧ Below w.heap.size w w' from fun w1 hb => by
      have hz := hb.size
      rw [World.size_alloc] at hz
      have hb0 : Below w.heap.size w w1 := HB1.out.trans (hb.mono (by omega))
      have hb2 : Below w.heap.size w (w1.alloc (.cells #[.bool false] 4)) := hb0.alloc (by omega) _
      have c1 := ((x1.below hb (by omega)).below ((Below.refl w1.heap.size w1).alloc (Nat.le_refl _) (.cells #[.bool false] 4)) (by omega)).cell 0
      have hAlt : ∀ b o, A = some ⟨b, o, none⟩ → b < w.heap.size := fun b o e => by
        obtain ⟨b', o', e', hb, _⟩ := hA.at_ (by rw [nodesV_len]; omega)
        rw [e] at e'; cases e'; exact hb
      have hlp := hL.pos
      have := frees_any (FreeIn v (annOf t) w1.heap.size w.heap.size) (fun k => k = w1.heap.size) A n c t (annOf t) e0 _ _ (w1.alloc (.cells #[.bool false] 4)) (tfree_vis v (annOf t) w1.heap.size w.heap.size _ (by simp; omega) (by omega)) hn (by omega) (by omega) (hA.below hb2) (hL.next hb2) hW
        ⟨fun _ => Iff.rfl, Whole.new w1 _ _, c1⟩ (fun b o e hb => by have := hAlt b o e; omega) (by omega)
      refine this.mono fun e w' ⟨he, F', hin, ho, _⟩ => ⟨he, ?_, hb2.trans (ho.below (by simp; omega) fun k hk e => by omega)⟩
      have cm := hin.found.cell 0
      rw [List.take_length] at cm
      exact cm)
    clear hA hL hn hl hp hW h0 x1 hb1
    generalize freeB v (annOf t) = r at *
    go_enter Tryd.func28, Tryd.ntmps28
    go_wp2_with fail
    refine (HSH.out).mono ?_
    rintro e w1 ⟨rfl, hb⟩
    have HB := Lib.hid hb
    clear hb
    go_wp2_with fail
    refine (HFR.out w1 (by have h := HB.out; rw [World.size_alloc] at h; exact h)).mono ?_
    rintro e w2 ⟨rfl, cm, hb⟩
    have HB2 := Lib.hid hb
    clear hb
    go_wp2_with fail
    go_ret
    exact ⟨rfl, HB2.out⟩
  · rw [decide_eq_false h0, Bool.false_and]
    clear hA hL hn x1 hb1
    generalize shapeOf t = x at *
    have h1 : (x != 0) = true := by simpa using h0
    clear h0
    go_enter Tryd.func28, Tryd.ntmps28
    go_wp2_with fail
    refine (HSH.out).mono ?_
    rintro e w1 ⟨rfl, hb⟩
    have HB := Lib.hid (HB1.out.trans (hb.mono (by simp)))
    clear hb
    go_wp2_with fail
    go_ret
    exact ⟨rfl, HB.out⟩
/-- The state of Below's visitor. -/
structure BeneathIn (v : Int) (a : Ann) (bf bv : Nat) (i : Nat) (F : Nat → Prop) (W : World) : Prop where
  blk : ∀ k, F k ↔ k = bf
  found : Whole W bf #[.bool (belowB v (a.take i))] 4
  cv : W.cell? ⟨bv, 0, none⟩ = some (.int .i64 v)
set_option maxHeartbeats 1000000 in
theorem tbelow1_any (b : Bool) (i : Nat) (x v : Int) (bf bv : Nat) (W : World) (cb : W.cell? ⟨bf, 0, none⟩ = some (.bool b)) (fb : W.frozen? ⟨bf, 0, none⟩ = false) (cv : W.cell? ⟨bv, 0, none⟩ = some (.int .i64 v)) :
    Calls Tryd.prog 62 #[.int .i64 (i : Int), .int .i64 x, .pointer (some ⟨bf, 0, none⟩), .pointer (some ⟨bv, 0, none⟩)] W (fun e W' => e = .returned (.tuple #[]) ∧ W' = W.setCell ⟨bf, 0, none⟩ (.bool (b && decide (x < v)))) := by
  by_cases hx : x < v
  all_goals
    cases b
    all_goals
      go_enter Tryd.func62, Tryd.ntmps62
      go_wp2_with fail
      go_end0
      refine ⟨rfl, ?_⟩
      first
        | (simp [hx]; done)
        | (simp [show ¬ x < v from by omega]; done)
        | (simp; done)
        | (have e : (x == v) = false := by simpa using hx
           simp [e, hx])
theorem tbelow_vis (v : Int) (a : Ann) (bf bv B0 : Nat) (h1 : bv < B0) (h2 : bv ≠ bf) : FVis 62 #[.pointer (some ⟨bf, 0, none⟩), .pointer (some ⟨bv, 0, none⟩)] a B0 (BeneathIn v a bf bv) := by
  refine ⟨fun args w => by simp [go_sem], fun i F W h k hk => by rw [(h.blk k).1 hk]; exact h.found.lt, fun i F W W' h ho => ?_, fun i F W hi hv h => ?_, fun i F W hi hv h => ?_⟩
  · exact ⟨h.blk, h.found.keep (ho.block bf h.found.lt fun hh => hh.2 ((h.blk bf).2 rfl)), (ho.cell (p := ⟨bv, 0, none⟩) (World.block_lt_of_cell? _ _ h.cv) (by simp only; omega)).trans h.cv⟩
  · refine (tbelow1_any _ i _ v bf bv W (h.found.cell 0) (h.found.frozen 0) h.cv).mono fun e W' ⟨he, hw⟩ => ?_
    have ho : Only F W W' := by
      rw [hw]
      exact (Only.refl F W).set_ (.inl ((h.blk bf).2 rfl)) 0 _
    refine ⟨he, F, ⟨h.blk, ?_, (ho.cell (p := ⟨bv, 0, none⟩) (World.block_lt_of_cell? _ _ h.cv) (fun hh => h2 ((h.blk _).1 hh))).trans h.cv⟩, ho, fun _ h => .inl h⟩
    have hd : decide (freeN a[i].1 a[i].2 < 0) = false := decide_eq_false (by omega)
    rw [below_snoc hi, hd, Bool.false_or, hw]
    exact h.found.set_ 0 _
  · refine ⟨h.blk, ?_, h.cv⟩
    have hd : decide (freeN a[i].1 a[i].2 < 0) = true := decide_eq_true hv
    rw [below_snoc hi, hd, Bool.true_or, Bool.and_true]
    exact h.found
set_option maxHeartbeats 1000000 in
theorem tbelow_any (A : Option Addr) (n c : Nat) (t : List Node3) (v : Int) (w : World) (hn : t.length = n) (hA : Holds w A (nodesV t)) (hL : Lim w) :
    Calls Tryd.prog 30 #[.slice A n c, .int .i64 v] w fun e w' => e = .returned (.bool (belowS t v)) ∧ Below w.heap.size w w' := by
  have hmf : ∀ (fn : Fn) (first cap : Array Value) (w : World), (Instr.makeFunc fn first cap).run Tryd.prog w = .ok (.func fn first cap) w := fun _ _ _ _ => rfl
  have hb1 : Below w.heap.size w (w.alloc (.cells #[.int .i64 v] 3)) := (Below.refl _ _).alloc (Nat.le_refl _) _
  have HSH := Lib.hid (shape_any A n c t (w.alloc (.cells #[.int .i64 v] 3)) hn (hA.below hb1) (hL.next hb1))
  unfold belowS
  have x1 := Whole.new w #[.int .i64 v] 3
  have HB1 := Lib.hid hb1
  by_cases h0 : shapeOf t = 0
  · rw [decide_eq_true h0, Bool.true_and]
    rw [h0] at HSH
    obtain ⟨hl, hp, e0, hW⟩ := right_of h0
    have HFR := Lib.hid (show ∀ w1, Below (w.heap.size + 1) (w.alloc (.cells #[.int .i64 v] 3)) w1 → Calls Tryd.prog 59 #[.slice A n c, .func (.func 62) #[] #[.pointer (some ⟨w1.heap.size, 0, none⟩), .pointer (some ⟨w.heap.size, 0, none⟩)]] (w1.alloc (.cells #[.bool true] 4))
        fun e w' => e = .returned (.tuple #[]) ∧ w'.cell? ⟨w1.heap.size, 0, none⟩ = some (.bool (belowB v (annOf t))) ∧ Below w.heap.size w w' from fun w1 hb => by
      have hz := hb.size
      rw [World.size_alloc] at hz
      have hb0 : Below w.heap.size w w1 := HB1.out.trans (hb.mono (by omega))
      have hb2 : Below w.heap.size w (w1.alloc (.cells #[.bool true] 4)) := hb0.alloc (by omega) _
      have c1 := ((x1.below hb (by omega)).below ((Below.refl w1.heap.size w1).alloc (Nat.le_refl _) (.cells #[.bool true] 4)) (by omega)).cell 0
      have hAlt : ∀ b o, A = some ⟨b, o, none⟩ → b < w.heap.size := fun b o e => by
        obtain ⟨b', o', e', hb, _⟩ := hA.at_ (by rw [nodesV_len]; omega)
        rw [e] at e'; cases e'; exact hb
      have hlp := hL.pos
      have := frees_any (BeneathIn v (annOf t) w1.heap.size w.heap.size) (fun k => k = w1.heap.size) A n c t (annOf t) e0 _ _ (w1.alloc (.cells #[.bool true] 4)) (tbelow_vis v (annOf t) w1.heap.size w.heap.size _ (by simp; omega) (by omega)) hn (by omega) (by omega) (hA.below hb2) (hL.next hb2) hW
        ⟨fun _ => Iff.rfl, Whole.new w1 _ _, c1⟩ (fun b o e hb => by have := hAlt b o e; omega) (by omega)
      refine this.mono fun e w' ⟨he, F', hin, ho, _⟩ => ⟨he, ?_, hb2.trans (ho.below (by simp; omega) fun k hk e => by omega)⟩
      have cm := hin.found.cell 0
      rw [List.take_length] at cm
      exact cm)
    clear hA hL hn hl hp hW h0 x1 hb1
    generalize belowB v (annOf t) = r at *
    go_enter Tryd.func30, Tryd.ntmps30
    go_wp2_with fail
    refine (HSH.out).mono ?_
    rintro e w1 ⟨rfl, hb⟩
    have HB := Lib.hid hb
    clear hb
    go_wp2_with fail
    refine (HFR.out w1 (by have h := HB.out; rw [World.size_alloc] at h; exact h)).mono ?_
    rintro e w2 ⟨rfl, cm, hb⟩
    have HB2 := Lib.hid hb
    clear hb
    go_wp2_with fail
    go_ret
    exact ⟨rfl, HB2.out⟩
  · rw [decide_eq_false h0, Bool.false_and]
    clear hA hL hn x1 hb1
    generalize shapeOf t = x at *
    have h1 : (x != 0) = true := by simpa using h0
    clear h0
    go_enter Tryd.func30, Tryd.ntmps30
    go_wp2_with fail
    refine (HSH.out).mono ?_
    rintro e w1 ⟨rfl, hb⟩
    have HB := Lib.hid (HB1.out.trans (hb.mono (by simp)))
    clear hb
    go_wp2_with fail
    go_ret
    exact ⟨rfl, HB.out⟩
end Go.Proofs.YtkkkblghihheeaaDoor
