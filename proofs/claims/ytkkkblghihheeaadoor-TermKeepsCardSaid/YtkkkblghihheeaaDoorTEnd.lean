/- term.End, term.Shape. -/
import Derived.Test.YtkkkblghihheeaaDoorTCaught
namespace Go.Proofs.YtkkkblghihheeaaDoor
open Go.RowKit

/-- What End's closure answers. -/
def End1Post (t : List Node3) (at0 : Int) (b3 : Nat) (W : World) (e : Ending) (W' : World) : Prop :=
  ∃ w', Below W.heap.size W w' ∧ ((e = .returned (.tuple #[]) ∧ W' = w'.setCell ⟨b3, 0, none⟩ (.int .i64 (endOf t at0))) ∨ (endOf t at0 = -1 ∧ e = .panicked (faultP 8) ∧ W' = w'))
set_option maxHeartbeats 1000000 in
theorem end1_any (A : Option Addr) (n c : Nat) (t : List Node3) (at0 : Int) (b1 b2 b3 : Nat) (W : World) (hn : t.length = n) (hnb : n ≤ 100000) (hA : Holds W A (nodesV t)) (hL : Lim W) (hat : I64 at0)
    (h1 : W.cell? ⟨b1, 0, none⟩ = some (.slice A n c)) (h2 : W.cell? ⟨b2, 0, none⟩ = some (.int .i64 at0)) (h3 : Whole W b3 #[.int .i64 (-1)] 3) :
    Calls Tryd.prog 44 #[.pointer (some ⟨b1, 0, none⟩), .pointer (some ⟨b2, 0, none⟩), .pointer (some ⟨b3, 0, none⟩)] W (End1Post t at0 b3 W) := by
  have HW := Lib.hid (walk_pass A n c t at0 W hn hnb hA hL hat)
  have H3 := Lib.hid h3
  have hlt := h3.lt
  clear hn hA hL hat h3
  go_enter Tryd.func44, Tryd.ntmps44
  go_wp2_with fail
  refine (HW.out).mono ?_
  rintro e w' ⟨hb, ⟨x, -, -, -, rfl⟩ | ⟨hx, rfl⟩⟩
  · have hh := (H3.out.below hb hlt)
    have c0 := hh.cell 0
    have f0 := hh.frozen 0
    replace c0 : w'.cell? ⟨b3, 0, none⟩ = some (.int .i64 (-1)) := c0
    have HB := Lib.hid hb
    clear hh hb h1 h2
    go_wp2_with fail
    go_end0
    exact ⟨w', HB.out, .inl ⟨rfl, rfl⟩⟩
  · have HB := Lib.hid hb
    clear hb h1 h2
    have HX := Lib.hid hx
    clear hx
    go_wp2_with fail
    exact ⟨rfl, w', HB.out, .inr ⟨HX.out, rfl, rfl⟩⟩
set_option maxHeartbeats 1000000 in
theorem end_any (A : Option Addr) (n c : Nat) (t : List Node3) (at0 : Int) (w : World) (hn : t.length = n) (hnb : n ≤ 100000) (hA : Holds w A (nodesV t)) (hL : Lim w) (hat : I64 at0) :
    Calls Tryd.prog 17 #[.slice A n c, .int .i64 at0] w fun e w' => e = .returned (.int .i64 (endOf t at0)) ∧ Below w.heap.size w w' := by
  have hmf : ∀ (fn : Fn) (first cap : Array Value) (w : World), (Instr.makeFunc fn first cap).run Tryd.prog w = .ok (.func fn first cap) w := fun _ _ _ _ => rfl
  obtain ⟨w3, hw3⟩ : ∃ w3, w3 = ((w.alloc (.cells #[.slice A n c] 23)).alloc (.cells #[.int .i64 at0] 3)).alloc (.cells #[.int .i64 (-1)] 3) := ⟨_, rfl⟩
  have hb3 : Below w.heap.size w w3 := by rw [hw3]; exact (((Below.refl _ _).alloc (Nat.le_refl _) _).alloc (by simp) _).alloc (by simp; omega) _
  have hz : w3.heap.size = w.heap.size + 1 + 1 + 1 := by rw [hw3]; simp
  have x1 : Whole w3 w.heap.size #[.slice A n c] 23 := by
    rw [hw3]
    exact ((Whole.new w _ _).below ((Below.refl _ _).alloc (Nat.le_refl _) _) (by simp)).below ((Below.refl _ _).alloc (Nat.le_refl _) _) (by simp; omega)
  have x2 : Whole w3 (w.heap.size + 1) #[.int .i64 at0] 3 := by
    rw [hw3]
    have := (Whole.new (w.alloc (.cells #[.slice A n c] 23)) #[.int .i64 at0] 3).below (((Below.refl _ _).alloc (Nat.le_refl _) (.cells #[.int .i64 (-1)] 3))) (by simp)
    rwa [World.size_alloc] at this
  have x3 : Whole w3 (w.heap.size + 1 + 1) #[.int .i64 (-1)] 3 := by
    rw [hw3]
    have := Whole.new ((w.alloc (.cells #[.slice A n c] 23)).alloc (.cells #[.int .i64 at0] 3)) #[.int .i64 (-1)] 3
    simpa using this
  have hr : Below w3.heap.size w3 (resW w3) := (Below.refl _ _).alloc (Nat.le_refl _) _
  have hdo := end1_any A n c t at0 w.heap.size (w.heap.size + 1) (w.heap.size + 1 + 1) (resW w3) hn hnb ((hA.below hb3).below hr) ((hL.next hb3).next hr) hat ((x1.below hr (by omega)).cell 0) ((x2.below hr (by omega)).cell 0) (x3.below hr (by omega))
  have hca := caught_any 44 #[.pointer (some ⟨w.heap.size, 0, none⟩), .pointer (some ⟨w.heap.size + 1, 0, none⟩), .pointer (some ⟨w.heap.size + 1 + 1, 0, none⟩)] w3
    (fun W' => Whole W' (w.heap.size + 1 + 1) #[.int .i64 (endOf t at0)] 3 ∧ Below w.heap.size w W') (fun _ W' => Whole W' (w.heap.size + 1 + 1) #[.int .i64 (endOf t at0)] 3 ∧ Below w.heap.size w W') (fun args w => by simp [go_sem]) (hdo.mono fun e W' ⟨w', hb, hp⟩ => by
      have y0 : Whole (resW w3) w3.heap.size #[.int .i64 0] 26 := Whole.new w3 _ _
      have y1 := y0.below hb y0.lt
      have y3 := (x3.below hr (by omega)).below hb (by simp; omega)
      have hbw : Below w.heap.size w w' := below_step hb3 (below_step hr hb)
      rcases hp with ⟨he, hW⟩ | ⟨hx, he, hW⟩
      · subst hW
        refine ⟨y1.keep (Below.heap_setCell _ _ _ _ (by simp only; omega)), .inl ⟨he, y3.set_ 0 _, hbw.setCell (by simp only; omega) _⟩⟩
      · subst hW
        refine ⟨y1, .inr ⟨8, he, ?_, hbw⟩⟩
        rw [hx]; exact y3)
  have HCA := Lib.hid hca
  have HB3 := Lib.hid hb3
  have HZ := Lib.hid hz
  clear hn hA hL hat hb3 hz x1 x2 x3 hr hdo hca
  go_enter Tryd.func17, Tryd.ntmps17
  go_wp2_with fail
  rw [← hw3]
  clear hw3
  refine (HCA.out).mono ?_
  rintro e w' ⟨f, W', rfl, hp, hwh, rfl⟩
  have hp' : Whole W' (w.heap.size + 1 + 1) #[.int .i64 (endOf t at0)] 3 ∧ Below w.heap.size w W' := hp.elim (fun h => h.2) id
  have x := hp'.1.keep (w' := W'.setCell ⟨w3.heap.size, 0, none⟩ (.int .i64 f)) (Below.heap_setCell _ _ _ _ (by have := HZ.out; simp only; omega))
  have c0 := x.cell 0
  have hb := hp'.2.setCell (p := ⟨w3.heap.size, 0, none⟩) (by have := HZ.out; simp only; omega) (.int .i64 f)
  replace c0 : (W'.setCell ⟨w3.heap.size, 0, none⟩ (.int .i64 f)).cell? ⟨w.heap.size + 1 + 1, 0, none⟩ = some (.int .i64 (endOf t at0)) := c0
  have HB := Lib.hid hb
  clear hp hp' x hb hwh
  go_wp2_with fail
  go_ret
  exact ⟨rfl, HB.out⟩
/-- Shape's answer. -/
def shapeOf (t : List Node3) : Int := if 4096 < t.length then 9 else if endOf t 0 = t.length then 0 else 8
theorem shape_any (A : Option Addr) (n c : Nat) (t : List Node3) (w : World) (hn : t.length = n) (hA : Holds w A (nodesV t)) (hL : Lim w) :
    Calls Tryd.prog 15 #[.slice A n c] w fun e w' => e = .returned (.int .i64 (shapeOf t)) ∧ Below w.heap.size w w' := by
  unfold shapeOf
  rw [hn]
  by_cases h : 4096 < n
  · rw [if_pos h]
    have h1 : (4096 : Int) < (n : Int) := by omega
    clear hn hA hL
    go_enter Tryd.func15, Tryd.ntmps15
    go_wp2_with fail
    go_ret
    exact ⟨rfl, Below.refl _ _⟩
  · rw [if_neg h]
    have h1 : ¬ (4096 : Int) < (n : Int) := by omega
    have HE := Lib.hid (end_any A n c t 0 w hn (by omega) hA hL (by unfold I64; omega))
    clear hn hA hL
    generalize endOf t 0 = x at *
    by_cases hx : x = (n : Int)
    · rw [if_pos hx]
      subst hx
      go_enter Tryd.func15, Tryd.ntmps15
      go_wp2_with fail
      refine (HE.out).mono ?_
      rintro e w' ⟨rfl, hb⟩
      go_wp2_with fail
      go_ret
      exact ⟨rfl, hb⟩
    · rw [if_neg hx]
      have h2 : (x != (n : Int)) = true := by simpa using hx
      go_enter Tryd.func15, Tryd.ntmps15
      go_wp2_with fail
      refine (HE.out).mono ?_
      rintro e w' ⟨rfl, hb⟩
      go_wp2_with fail
      go_ret
      exact ⟨rfl, hb⟩
end Go.Proofs.YtkkkblghihheeaaDoor
