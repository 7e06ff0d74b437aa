/- term.Subst. -/
import Derived.Test.YtkkkblghihheeaaDoorTSub2
namespace Go.Proofs.YtkkkblghihheeaaDoor
open Go.RowKit

/-- Subst's answer. -/
def substS (t u : List Node3) (at_ : Int) : List Node3 × Int :=
  if ffS [t, u] ≠ 0 then ([], ffS [t, u]) else if at_ < 0 then ([], 1) else if (annOf t).any (fun x => decide (freeN x.1 x.2 = at_) && decide (roomN 0 (annOf u) < at_ + x.2)) = true then ([], 6) else
    if 4096 < ((annOf t).flatMap (subX at_ (annOf u))).length then ([], 9) else ((annOf t).flatMap (subX at_ (annOf u)), 0)
def SubFin (at_ rm : Int) (a b : Ann) (g : Nat) (w : World) (e : Ending) (w' : World) : Prop :=
  (e = .returned (.int .i64 0) ∧ a.any (fun x => decide (freeN x.1 x.2 = at_) && decide (rm < at_ + x.2)) = false ∧ Below w.heap.size w w' ∧ ∃ v, GrowAt w' g (a.flatMap (subX at_ b)) v ∧ ∀ k, GrowF g v k → w.heap.size ≤ k) ∨
  (e = .returned (.int .i64 6) ∧ a.any (fun x => decide (freeN x.1 x.2 = at_) && decide (rm < at_ + x.2)) = true ∧ Below w.heap.size w w')
theorem subst_caught (at_ rm : Int) (a b : Ann) (A Au : Option Addr) (n c nu cu : Nat) (t u : List Node3) (g bt bat bm bu : Nat) (w w8 : World) (v : Value) (e0 eu : Node3) (hn : t.length = n) (hn0 : 0 < n) (hnb : n ≤ 4096) (hW : W t (0, 0, 0) [⟨0, 0⟩] = some (a, [], e0))
    (hu : u.length = nu) (hu0 : 0 < nu) (hub : nu ≤ 4096) (hsu : Slice Au nu cu) (hWu : W u (0, 0, 0) [⟨0, 0⟩] = some (b, [], eu)) (hat : 0 ≤ at_) (hat2 : I64 at_) (hrm : rm = roomN 0 b)
    (hA : Holds w A (nodesV t)) (hAu : Holds w Au (nodesV u)) (hL : Lim w) (hb : Below w.heap.size w w8) (hg : GrowAt w8 g [] v) (hgb : ∀ k, GrowF g v k → w.heap.size ≤ k ∧ k ≠ bt ∧ k ≠ bat ∧ k ≠ bm ∧ k ≠ bu)
    (ct : w8.cell? ⟨bt, 0, none⟩ = some (.slice A n c)) (ca : w8.cell? ⟨bat, 0, none⟩ = some (.int .i64 at_)) (cm : w8.cell? ⟨bm, 0, none⟩ = some (.int .i64 rm)) (cu' : w8.cell? ⟨bu, 0, none⟩ = some (.slice Au nu cu)) :
    Calls Tryd.prog 43 #[.func (.func 64) #[] #[.pointer (some ⟨bt, 0, none⟩), .pointer (some ⟨bat, 0, none⟩), .pointer (some ⟨g, 0, none⟩), .pointer (some ⟨bm, 0, none⟩), .pointer (some ⟨bu, 0, none⟩)]] w8 (SubFin at_ rm a b g w) := by
  have hr : Below w8.heap.size w8 (resW w8) := (Below.refl _ _).alloc (Nat.le_refl _) _
  have hbr := below_step hb hr
  have hlt := hg.lt
  have hs8 := hb.size
  have hAlt : ∀ b o, A = some ⟨b, o, none⟩ → b < w.heap.size := fun b o e => by
    obtain ⟨b', o', e', hb, _⟩ := hA.at_ (by rw [nodesV_len]; omega)
    rw [e] at e'; cases e'; exact hb
  have hAult : ∀ b o, Au = some ⟨b, o, none⟩ → b < w.heap.size := fun b o e => by
    obtain ⟨b', o', e', hb, _⟩ := hAu.at_ (by rw [nodesV_len]; omega)
    rw [e] at e'; cases e'; exact hb
  have hI : SubIn at_ rm a b A Au n c nu cu t u g bt bat bm bu w8.heap.size w 0 (GrowF g v) (resW w8) :=
    ⟨⟨v, hg.below hr, fun _ => Iff.rfl⟩, fun k hk => (hgb k hk).1, ⟨fun h => (hgb _ h).2.1 rfl, fun h => (hgb _ h).2.2.1 rfl, fun h => (hgb _ h).2.2.2.1 rfl, fun h => (hgb _ h).2.2.2.2 rfl, fun h => by have := hlt _ h; omega⟩,
      (hr.cell (p := ⟨bt, 0, none⟩) (World.block_lt_of_cell? _ _ ct)).trans ct, (hr.cell (p := ⟨bat, 0, none⟩) (World.block_lt_of_cell? _ _ ca)).trans ca, (hr.cell (p := ⟨bm, 0, none⟩) (World.block_lt_of_cell? _ _ cm)).trans cm, (hr.cell (p := ⟨bu, 0, none⟩) (World.block_lt_of_cell? _ _ cu')).trans cu',
      Whole.new w8 _ _, hA.below hbr, hAu.below hbr, hL.next hbr, hbr, fun j hj h => absurd h (by omega)⟩
  have hdo := sub2_any at_ rm a b A Au n c nu cu t u g bt bat bm bu w8.heap.size w (resW w8) (GrowF g v) e0 eu hn hn0 hnb hW hu hu0 hub hsu hWu hat hat2 hrm hAlt hAult hL.pos hI
  refine (caught_any 64 _ w8 (fun W' => (∃ v, GrowAt W' g (a.flatMap (subX at_ b)) v ∧ ∀ k, GrowF g v k → w.heap.size ≤ k ∧ k ≠ w8.heap.size) ∧ Below w.heap.size w W' ∧ ∀ x ∈ a, freeN x.1 x.2 = at_ → at_ + x.2 ≤ rm)
    (fun f W' => f = 6 ∧ Below w.heap.size w W' ∧ ∃ x ∈ a, freeN x.1 x.2 = at_ ∧ rm < at_ + x.2) (fun args w => by simp [go_sem]) (hdo.mono fun e W' hp => ?_)).mono fun e w' hp => ?_
  · rcases hp with ⟨he, h1, h2, h3, h4⟩ | ⟨ch, he, rfl, h2, h3, h4⟩
    · exact ⟨h3, .inl ⟨he, h1, h2, h4⟩⟩
    · exact ⟨h3, .inr ⟨6, he, rfl, h2, h4⟩⟩
  · obtain ⟨f, W', rfl, hp, hwh, rfl⟩ := hp
    rcases hp with ⟨rfl, ⟨v', hg', hk⟩, hb', hf⟩ | ⟨rfl, hb', x, hx, h1, h2⟩
    · have ho : Only (fun k => k = w8.heap.size) W' (W'.setCell ⟨w8.heap.size, 0, none⟩ (.int .i64 0)) := (Only.refl (fun k => k = w8.heap.size) W').set_ (.inl rfl) 0 _
      refine .inl ⟨rfl, ?_, hb'.setCell (p := ⟨w8.heap.size, 0, none⟩) hs8 _, v', hg'.only ho fun k hk' e => (hk k hk').2 e, fun k hk' => (hk k hk').1⟩
      rw [List.any_eq_false]
      intro x hx hh
      simp only [Bool.and_eq_true, decide_eq_true_eq] at hh
      have := hf x hx hh.1
      omega
    · refine .inr ⟨rfl, ?_, hb'.setCell (p := ⟨w8.heap.size, 0, none⟩) hs8 _⟩
      rw [List.any_eq_true]
      exact ⟨x, hx, by simp [h1, h2]⟩
def mkNodes (n : Nat) : Array Value := madeCells #[.int .i64 0, .int .i64 0, .int .i64 0] (n * 3)
theorem make_nodes (n : Nat) (hn : n ≤ 100000) (w : World) : (Instr.makeSlice 23 (.int .i64 0) (.int .i64 (n : Int))).run Tryd.prog w = .ok (.slice (some ⟨w.heap.size, 0, none⟩) 0 n) (w.alloc (.cells (mkNodes n) 53)) := by
  obtain ⟨i0, hi, hz0, hz1, hz2⟩ := info_parts infoNode
  have := run_make (P := Tryd.prog) w 23 53 i0 _ Tryd.underlying23 hi hz0 .i64 .i64 0 n (by omega) (by omega) (by rw [hz2]; omega) (by omega)
  rw [hz1] at this
  exact this
theorem make_own (n : Nat) (hn : n ≤ 100000) (w : World) : (w.alloc (.cells (mkNodes n) 53)).ownsRow 0 53 3 (.slice (some ⟨w.heap.size, 0, none⟩) 0 n) 0 [] :=
  World.ownsRow_made w _ n (Nat.zero_le _) (by unfold maxLen; omega) (size_madeCells _ _)
end Go.Proofs.YtkkkblghihheeaaDoor
