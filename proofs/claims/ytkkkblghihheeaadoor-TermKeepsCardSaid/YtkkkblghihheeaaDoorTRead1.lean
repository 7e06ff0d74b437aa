/- The document's answer: Read: where no term begins. -/
import Derived.Test.YtkkkblghihheeaaDoorTRead0
namespace Go.Proofs.YtkkkblghihheeaaDoor
open Go.RowKit

set_option maxRecDepth 100000 in
set_option maxHeartbeats 4000000 in
theorem read_nil (A : Option Addr) (c : Nat) (w : World) : Calls Tryd.prog 42 #[.slice A 0 c] w (ReadPost [] w) := by
  have HB := Lib.hid (show Below w.heap.size w (w.alloc (.cells #[.int .i64 0, .int .i64 0, .int .i64 0, .slice none 0 0, .slice none 0 0, .slice none 0 0] 59)) from (Below.refl _ _).alloc (Nat.le_refl _) _)
  go_enter Tryd.func42, Tryd.ntmps42
  go_wp2_with fail
  go_returns
  exact ReadPost.no top0_nil HB.out
set_option maxRecDepth 100000 in
set_option maxHeartbeats 4000000 in
theorem read_topno (g o n c : Nat) (t : List Node3) (w : World) (hn : t.length = n) (h0 : 0 < n) (hA : Holds w (some ⟨g, o, none⟩) (nodesV t)) (hw : ∀ x ∈ t, Wide3 x) (h : topB (t[0]'(by omega)) = false) :
    Calls Tryd.prog 42 #[.slice (some ⟨g, o, none⟩) n c] w (ReadPost t w) := by
  have hT : top0 t = none := by
    cases t with
    | nil => simp at hn; omega
    | cons x r => exact cont_topno rfl (by simpa using h)
  have hb0 : Below w.heap.size w (w.alloc (.cells #[.int .i64 0, .int .i64 0, .int .i64 0, .slice none 0 0, .slice none 0 0, .slice none 0 0] 59)) := (Below.refl _ _).alloc (Nat.le_refl _) _
  have hA1 := hA.below hb0
  have r0 := hA1.cell (nodesV_get0 (j := 0) (by omega))
  have r1 := hA1.cell (nodesV_get1 (j := 0) (by omega))
  have r2 := hA1.cell (nodesV_get2 (j := 0) (by omega))
  have hc := count_any t[0] (w.alloc (.cells #[.int .i64 0, .int .i64 0, .int .i64 0, .slice none 0 0, .slice none 0 0, .slice none 0 0] 59)) (hw _ (List.getElem_mem _))
  obtain ⟨x, hx⟩ : ∃ x, t[0]'(by omega) = x := ⟨_, rfl⟩
  have hz := Whole.new w #[.int .i64 0, .int .i64 0, .int .i64 0, .slice none 0 0, .slice none 0 0, .slice none 0 0] 59
  rw [hx] at r0 r1 r2 hc h
  simp only [Nat.zero_mul, Nat.add_zero, Nat.zero_add] at r0 r1 r2
  have HC := Lib.hid hc
  have HB0 := Lib.hid hb0
  have HT := Lib.hid hT
  have HZ := Lib.hid hz
  have HH := Lib.hid h
  clear hc hb0 hT hA hA1 hw hx h hz
  obtain ⟨xo, xA, xB⟩ := x
  simp only at r0 r1 r2
  go_enter Tryd.func42, Tryd.ntmps42
  go_wp2_with fail
  refine (HC.out).mono ?_
  rintro e w1 ⟨k, rfl, -, hb1⟩
  rw [HH.out]
  have hz1 := HZ.out.below hb1 HZ.out.lt
  have hwz := hz1
  have z0 : w1.cell? ⟨w.heap.size, 0, none⟩ = some (.int .i64 0) := hwz.cell 0
  have f0 := hwz.frozen 0
  have z1 : w1.cell? ⟨w.heap.size, 1, none⟩ = some (.int .i64 0) := hwz.cell 1
  have f1 := hwz.frozen 1
  have z2 : w1.cell? ⟨w.heap.size, 2, none⟩ = some (.int .i64 0) := hwz.cell 2
  have f2 := hwz.frozen 2
  have z3 : w1.cell? ⟨w.heap.size, 3, none⟩ = some (.slice none 0 0) := hwz.cell 3
  have f3 := hwz.frozen 3
  have z4 : w1.cell? ⟨w.heap.size, 4, none⟩ = some (.slice none 0 0) := hwz.cell 4
  have f4 := hwz.frozen 4
  have z5 : w1.cell? ⟨w.heap.size, 5, none⟩ = some (.slice none 0 0) := hwz.cell 5
  have f5 := hwz.frozen 5
  have HWZ := Lib.hid hwz
  clear hwz
  have HB1 := Lib.hid (below_step HB0.out hb1)
  have HS1 : Hid (w.heap.size ≤ w1.heap.size) := Lib.hid (by have := HB1.out.size; exact this)
  clear hb1 hz1 r0 r1 r2
  go_wp2_with fail
  have hw6 := ((((((HWZ.out).set_ 0 (.int .i64 0)).set_ 1 (.int .i64 0)).set_ 2 (.int .i64 0)).set_ 3 (.slice none 0 0)).set_ 4 (.slice none 0 0)).set_ 5 (.slice none 0 0)
  have ho6 : Only (fun j => j = w.heap.size) w1 ((((((w1.setCell ⟨w.heap.size, 0, none⟩ (.int .i64 0)).setCell ⟨w.heap.size, 1, none⟩ (.int .i64 0)).setCell ⟨w.heap.size, 2, none⟩ (.int .i64 0)).setCell ⟨w.heap.size, 3, none⟩ (.slice none 0 0)).setCell ⟨w.heap.size, 4, none⟩ (.slice none 0 0)).setCell ⟨w.heap.size, 5, none⟩ (.slice none 0 0)) := ((((((Only.refl (fun j => j = w.heap.size) w1).set_ (.inl rfl) 0 _).set_ (.inl rfl) 1 _).set_ (.inl rfl) 2 _).set_ (.inl rfl) 3 _).set_ (.inl rfl) 4 _).set_ (.inl rfl) 5 _
  generalize ((((((w1.setCell ⟨w.heap.size, 0, none⟩ (.int .i64 0)).setCell ⟨w.heap.size, 1, none⟩ (.int .i64 0)).setCell ⟨w.heap.size, 2, none⟩ (.int .i64 0)).setCell ⟨w.heap.size, 3, none⟩ (.slice none 0 0)).setCell ⟨w.heap.size, 4, none⟩ (.slice none 0 0)).setCell ⟨w.heap.size, 5, none⟩ (.slice none 0 0)) = W6 at *
  have q0 : W6.cell? ⟨w.heap.size, 0, none⟩ = some (.int .i64 0) := hw6.cell 0
  have q1 : W6.cell? ⟨w.heap.size, 1, none⟩ = some (.int .i64 0) := hw6.cell 1
  have q2 : W6.cell? ⟨w.heap.size, 2, none⟩ = some (.int .i64 0) := hw6.cell 2
  have q3 : W6.cell? ⟨w.heap.size, 3, none⟩ = some (.slice none 0 0) := hw6.cell 3
  have q4 : W6.cell? ⟨w.heap.size, 4, none⟩ = some (.slice none 0 0) := hw6.cell 4
  have q5 : W6.cell? ⟨w.heap.size, 5, none⟩ = some (.slice none 0 0) := hw6.cell 5
  have hb6 := HB1.out.trans (ho6.below (B := w.heap.size) HS1.out fun k hk e => by omega)
  clear hw6 ho6
  (try simp only [Exit.inBlock, Exit.then])
  refine bodyPost_ret (by simp [results, Tryd.results42, go_sem, q0, q1, q2, q3, q4, q5]; try rfl) rfl ?_
  exact ReadPost.no HT.out hb6
end Go.Proofs.YtkkkblghihheeaaDoor
