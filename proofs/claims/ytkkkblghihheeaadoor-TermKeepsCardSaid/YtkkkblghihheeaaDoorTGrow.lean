/- term.growing: fits, put, row. -/
import Derived.Test.YtkkkblghihheeaaDoorTAppend
namespace Go.Proofs.YtkkkblghihheeaaDoor
open Go.RowKit

theorem nodesV_append (l r : List Node3) : nodesV (l ++ r) = nodesV l ++ nodesV r := by unfold nodesV; rw [List.flatMap_append]
/-- A growing row at block g: L has been put; what is kept is v. -/
structure GrowAt (w : World) (g : Nat) (L : List Node3) (v : Value) : Prop where
  whole : Whole w g #[v, .int .i64 (L.length : Int)] 80
  own : ∃ l, w.ownsRow 0 53 3 v l.length (nodesV l) ∧ l.length ≤ 4096 ∧ (L.length ≤ 4096 → l = L)
  ne : v.ownBlock ≠ some g
/-- The blocks of a growing row. -/
def GrowF (g : Nat) (v : Value) (k : Nat) : Prop := k = g ∨ v.ownBlock = some k
theorem GrowAt.lt {w : World} {g : Nat} {L : List Node3} {v : Value} (h : GrowAt w g L v) : ∀ k, GrowF g v k → k < w.heap.size := by
  rintro k (rfl | hk)
  · exact h.whole.lt
  · obtain ⟨l, ho, _⟩ := h.own
    exact (World.ownsRow.lt ho k hk).2
theorem own_only {w w' : World} {F : Nat → Prop} {B e sz n : Nat} {v : Value} {xs : List Value} (h : w.ownsRow B e sz v n xs) (ho : Only F w w') (hF : ∀ k, v.ownBlock = some k → ¬ F k) : w'.ownsRow B e sz v n xs := by
  refine ⟨h.1, h.2.imp id ?_⟩
  rintro ⟨g, cap, cur, rfl, hB, hg, hr⟩
  exact ⟨g, cap, cur, rfl, hB, (ho.block g (World.ownsRow.lt h _ rfl).2 (hF _ rfl)).trans hg, hr⟩
theorem GrowAt.only {w w' : World} {F : Nat → Prop} {g : Nat} {L : List Node3} {v : Value} (h : GrowAt w g L v) (ho : Only F w w') (hF : ∀ k, GrowF g v k → ¬ F k) : GrowAt w' g L v := by
  obtain ⟨l, hl, h1⟩ := h.own
  exact ⟨h.whole.only ho (hF g (.inl rfl)), ⟨l, own_only hl ho fun k hk => hF k (.inr hk), h1⟩, h.ne⟩
set_option maxHeartbeats 1000000 in
theorem fits_any (g N more : Nat) (v : Value) (w : World) (hw : Whole w g #[v, .int .i64 (N : Int)] 80) (hb : N + more ≤ 1000000000) :
    Calls Tryd.prog 81 #[.pointer (some ⟨g, 0, none⟩), .int .i64 (more : Int)] w fun e w' => e = .returned (.bool (decide (N + more ≤ 4096))) ∧ w' = w.setCell ⟨g, 1, none⟩ (.int .i64 ((N : Int) + (more : Int))) := by
  have c1 := hw.cell 1
  have f1 := hw.frozen 1
  replace c1 : w.cell? ⟨g, 1, none⟩ = some (.int .i64 (N : Int)) := c1
  clear hw
  by_cases h : N + more ≤ 4096
  · have h1 : (N : Int) + (more : Int) ≤ 4096 := by omega
    rw [decide_eq_true h]
    go_enter Tryd.func81, Tryd.ntmps81
    go_wp2_with fail
    go_ret
    exact ⟨rfl, rfl⟩
  · have h1 : ¬ (N : Int) + (more : Int) ≤ 4096 := by omega
    rw [decide_eq_false h]
    go_enter Tryd.func81, Tryd.ntmps81
    go_wp2_with fail
    go_ret
    exact ⟨rfl, rfl⟩
/-- What puts answer. -/
def PutPost (g : Nat) (L : List Node3) (v : Value) (w : World) (e : Ending) (w' : World) : Prop :=
  e = .returned (.tuple #[]) ∧ ∃ v', GrowAt w' g L v' ∧ Only (GrowF g v) w w' ∧ ∀ k, GrowF g v' k → GrowF g v k ∨ w.heap.size ≤ k
theorem put_full {w : World} {g m : Nat} {L r : List Node3} {v : Value} (h : GrowAt w g L v) (hm : r.length = m) (hf : ¬ L.length + m ≤ 4096) :
    PutPost g (L ++ r) v w (.returned (.tuple #[])) (w.setCell ⟨g, 1, none⟩ (.int .i64 ((L.length : Int) + (m : Int)))) := by
  have ho : Only (fun k => k = g) w (w.setCell ⟨g, 1, none⟩ (.int .i64 ((L.length : Int) + (m : Int)))) := (Only.refl (fun k => k = g) w).set_ (.inl rfl) 1 _
  obtain ⟨l, hl, h1, h2⟩ := h.own
  refine ⟨rfl, v, ⟨?_, ⟨l, own_only hl ho fun k hk e => h.ne (e ▸ hk), h1, fun hh => ?_⟩, h.ne⟩, ho.mono fun k e => .inl e, fun _ h => .inl h⟩
  · have := h.whole.set_ 1 (.int .i64 ((L.length : Int) + (m : Int)))
    rw [List.length_append, hm]
    exact_mod_cast this
  · rw [List.length_append] at hh; omega
theorem put_room {w w1 w2 : World} {g m : Nat} {L r : List Node3} {v v' : Value} (h : GrowAt w g L v) (hm : r.length = m) (hf : L.length + m ≤ 4096) (h1 : Below w.heap.size (w.setCell ⟨g, 1, none⟩ (.int .i64 ((L.length : Int) + (m : Int)))) w1)
    (hown : w2.ownsRow 0 53 3 v' (L.length + m) (nodesV (L ++ r))) (hmv : Moves w1 v w2 v') :
    PutPost g (L ++ r) v w (.returned (.tuple #[])) (w2.setCell ⟨g, 0, none⟩ v') := by
  have hg := h.whole.lt
  have hs1 := h1.size
  simp only [World.setCell, Array.size_modify] at hs1
  have hs2 := hmv.only.size
  have ho : Only (fun k => k = g) w (w.setCell ⟨g, 1, none⟩ (.int .i64 ((L.length : Int) + (m : Int)))) := (Only.refl (fun k => k = g) w).set_ (.inl rfl) 1 _
  have hlt : ∀ k, v.ownBlock = some k → k < w.heap.size := fun k hk => h.lt k (.inr hk)
  have ho1 : Only (GrowF g v) w w1 := (ho.mono fun k e => .inl e).trans (F2 := fun _ => False) ⟨h1.os, h1.tape, h1.output, by simpa [World.setCell] using hs1, fun k hk _ => h1.block k (by simpa [World.setCell] using hk)⟩ fun _ _ h => h.elim
  have ho2 : Only (GrowF g v) w w2 := ho1.trans hmv.only fun k _ e => .inr e
  have hw1 : Whole w1 g #[v, .int .i64 ((L.length : Int) + (m : Int))] 80 := (h.whole.set_ 1 (.int .i64 ((L.length : Int) + (m : Int)))).keep (h1.block g hg)
  have hw2 := hw1.only hmv.only h.ne
  have hv' : ∀ k, v'.ownBlock = some k → v.ownBlock = some k ∨ w.heap.size ≤ k := fun k hk => (hmv.next k hk).imp id fun h => by omega
  have hne : v'.ownBlock ≠ some g := fun e => by
    rcases hv' g e with h' | h'
    · exact h.ne h'
    · omega
  have ho3 : Only (fun k => k = g) w2 (w2.setCell ⟨g, 0, none⟩ v') := (Only.refl (fun k => k = g) w2).set_ (.inl rfl) 0 _
  refine ⟨rfl, v', ⟨?_, ⟨L ++ r, ?_, by rw [List.length_append, hm]; exact hf, fun _ => rfl⟩, hne⟩, ho2.trans ho3 fun k _ e => .inl e, ?_⟩
  · have := hw2.set_ 0 v'
    rw [List.length_append, hm]
    exact_mod_cast this
  · rw [List.length_append, hm]
    exact own_only hown ho3 fun k hk e => hne (e ▸ hk)
  · rintro k (rfl | hk)
    · exact .inl (.inl rfl)
    · exact (hv' k hk).imp .inr id
set_option maxHeartbeats 2000000 in
theorem put_any (g : Nat) (L r : List Node3) (v : Value) (A : Option Addr) (m c : Nat) (w : World) (h : GrowAt w g L v) (hm : r.length = m) (hs : Slice A m c) (hA : Holds w A (nodesV r)) (hg : ∀ b o, A = some ⟨b, o, none⟩ → b ≠ g) (hb : L.length + m ≤ 1000000000) :
    Calls Tryd.prog 67 #[.pointer (some ⟨g, 0, none⟩), .slice A m c] w (PutPost g (L ++ r) v w) := by
  have HFI := Lib.hid (fits_any g L.length m v w h.whole hb)
  by_cases hf : L.length + m ≤ 4096
  · have PR := Lib.hid fun w2 v' => put_room (w2 := w2) (v' := v') h hm hf (Below.refl _ _)
    obtain ⟨l, hl, h1, h2⟩ := h.own
    obtain rfl := h2 (by omega)
    have ho : Only (fun k => k = g) w (w.setCell ⟨g, 1, none⟩ (.int .i64 ((l.length : Int) + (m : Int)))) := (Only.refl (fun k => k = g) w).set_ (.inl rfl) 1 _
    have hw1 := h.whole.set_ 1 (.int .i64 ((l.length : Int) + (m : Int)))
    have hl1 := own_only hl ho fun k hk e => h.ne (e ▸ hk)
    have hA1 := hA.only ho hg
    have c0 := hw1.cell 0
    replace c0 : (w.setCell ⟨g, 1, none⟩ (.int .i64 ((l.length : Int) + (m : Int)))).cell? ⟨g, 0, none⟩ = some v := c0
    rw [decide_eq_true hf] at HFI
    have HX := Lib.hid hw1
    have HL := Lib.hid hl1
    have HAA := Lib.hid hA1
    have HM := Lib.hid hm
    have HNE := Lib.hid h.ne
    have hll : l.length + m ≤ 1000000000 := hb
    have HGG := Lib.hid h
    clear hw1 hl1 hA1 hA hl h hm ho h2
    go_enter Tryd.func67, Tryd.ntmps67
    go_wp2_with fail
    refine (HFI.out).mono ?_
    rintro e w1 ⟨rfl, rfl⟩
    generalize hW1 : w.setCell ⟨g, 1, none⟩ (.int .i64 ((l.length : Int) + (m : Int))) = W1 at *
    go_wp2_with (at_builtin; go_must (refine wpList_append_tx rfl (.tmp 12) (.tmp 13) _ _ _ rfl Tryd.underlying22 53 _ 3 24 infoNode rfl (by decide) Tryd.underlying23 v l.length m _ (nodesV r) rfl HL.out A c rfl hs HAA.out (by rw [nodesV_len, HM.out]) nodesV_one hll (by decide) ?_); intro v' w2 hown' hmv'; obtain ⟨A', c', rfl, -, -⟩ := own_slice hown'; have c02 : w2.cell? ⟨g, 0, none⟩ = some v := (HX.out.only hmv'.only HNE.out).cell 0; have f02 : w2.frozen? ⟨g, 0, none⟩ = false := (HX.out.only hmv'.only HNE.out).frozen 0; have HO' := Lib.hid hown'; have HM' := Lib.hid hmv'; clear hown' hmv')
    go_end0
    exact PR.out w2 _ (by rw [nodesV_append]; exact HO'.out) HM'.out
  · rw [decide_eq_false hf] at HFI
    have HP := Lib.hid (put_full h hm hf)
    clear h hm hs hA hg hf hb
    go_enter Tryd.func67, Tryd.ntmps67
    go_wp2_with fail
    refine (HFI.out).mono ?_
    rintro e w1 ⟨rfl, rfl⟩
    go_wp2_with fail
    go_end0
    exact HP.out
/-- What row answers. -/
def GRowPost (L : List Node3) (v : Value) (w : World) (e : Ending) (w' : World) : Prop :=
  w = w' ∧ ((4096 < L.length ∧ e = .returned (.tuple #[.slice none 0 0, .int .i64 9])) ∨ (L.length ≤ 4096 ∧ e = .returned (.tuple #[v, .int .i64 0])))
set_option maxHeartbeats 1000000 in
theorem grow_row (g : Nat) (L : List Node3) (v : Value) (w : World) (h : GrowAt w g L v) :
    Calls Tryd.prog 69 #[.pointer (some ⟨g, 0, none⟩)] w (GRowPost L v w) := by
  obtain ⟨l, hl, -, -⟩ := h.own
  obtain ⟨A', c', rfl, -, -⟩ := own_slice hl
  have c0 : w.cell? ⟨g, 0, none⟩ = some (.slice A' l.length c') := h.whole.cell 0
  have c1 : w.cell? ⟨g, 1, none⟩ = some (.int .i64 (L.length : Int)) := h.whole.cell 1
  clear h hl
  by_cases h1 : 4096 < L.length
  · have h2 : (4096 : Int) < (L.length : Int) := by omega
    go_enter Tryd.func69, Tryd.ntmps69
    go_wp2_with fail
    go_ret2
    exact ⟨rfl, .inl ⟨h1, rfl⟩⟩
  · have h2 : ¬ (4096 : Int) < (L.length : Int) := by omega
    go_enter Tryd.func69, Tryd.ntmps69
    go_wp2_with fail
    go_ret2
    exact ⟨rfl, .inr ⟨by omega, rfl⟩⟩
end Go.Proofs.YtkkkblghihheeaaDoor
