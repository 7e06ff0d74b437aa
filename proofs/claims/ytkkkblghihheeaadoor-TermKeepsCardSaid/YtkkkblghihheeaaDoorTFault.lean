/- term.firstFault. -/
import Derived.Test.YtkkkblghihheeaaDoorTLift
namespace Go.Proofs.YtkkkblghihheeaaDoor
open Go.RowKit

/-- A row in memory: its address, its spare room, its nodes. -/
abbrev RowT := Option Addr × Nat × List Node3
def rowV (x : RowT) : Value := .slice x.1 x.2.2.length x.2.1
def RowsOk (w : World) (l : List RowT) : Prop := ∀ x ∈ l, Slice x.1 x.2.2.length x.2.1 ∧ Holds w x.1 (nodesV x.2.2)
theorem RowsOk.below {w w' : World} {l : List RowT} (h : RowsOk w l) (hb : Below w.heap.size w w') : RowsOk w' l := fun x hx => ⟨(h x hx).1, (h x hx).2.below hb⟩
/-- The first error of rows. -/
def ffS : List (List Node3) → Int
  | [] => 0
  | t :: r => if shapeOf t ≠ 0 then shapeOf t else ffS r
theorem ff_at {l : List (List Node3)} : ∀ {k : Nat} (h : k < l.length), (∀ j (hj : j < k), shapeOf (l[j]'(by omega)) = 0) → shapeOf l[k] ≠ 0 → ffS l = shapeOf l[k] := by
  induction l with
  | nil => intro k h; simp at h
  | cons t l ih =>
    intro k h hj hk
    cases k with
    | zero =>
      simp only [List.getElem_cons_zero] at hk ⊢
      unfold ffS
      rw [if_pos hk]
    | succ k =>
      have h0 := hj 0 (by omega)
      simp only [List.getElem_cons_zero] at h0
      unfold ffS
      rw [if_neg (by simpa using h0)]
      exact ih (by simpa using h) (fun j hj' => by have := hj (j + 1) (by omega); simpa using this) (by simpa using hk)
theorem ff_none {l : List (List Node3)} (h : ∀ t ∈ l, shapeOf t = 0) : ffS l = 0 := by
  induction l with
  | nil => rfl
  | cons t l ih =>
    unfold ffS
    rw [if_neg (by simpa using h t (by simp))]
    exact ih fun t ht => h t (by simp [ht])
theorem ff_zero {l : List (List Node3)} (h : ffS l = 0) : ∀ t ∈ l, shapeOf t = 0 := by
  induction l with
  | nil => intro t ht; cases ht
  | cons t l ih =>
    unfold ffS at h
    by_cases h0 : shapeOf t = 0
    · rw [if_neg (by simpa using h0)] at h
      intro s hs
      rcases List.mem_cons.1 hs with rfl | hs
      · exact h0
      · exact ih h s hs
    · rw [if_pos h0] at h
      exact absurd h h0
theorem rowsV_get {l : List RowT} {k : Nat} (h : k < l.length) : (l.map rowV)[k]? = some (.slice l[k].1 l[k].2.2.length l[k].2.1) := by
  rw [List.getElem?_map, List.getElem?_eq_getElem h]; rfl
set_option maxHeartbeats 2000000 in
theorem firstFault_any (R : Option Addr) (m c : Nat) (l : List RowT) (w : World) (hm : l.length = m) (hmb : m ≤ 100000000) (hR : Holds w R (l.map rowV)) (hok : RowsOk w l) (hL : Lim w) :
    Calls Tryd.prog 63 #[.slice R m c] w fun e w' => e = .returned (.int .i64 (ffS (l.map fun x => x.2.2))) ∧ Below w.heap.size w w' := by
  have HSH := Lib.hid (show ∀ k (hk : k < l.length) w', Below w.heap.size w w' → _ from fun k hk w' hb => shape_any l[k].1 l[k].2.2.length l[k].2.1 l[k].2.2 w' rfl ((hok l[k] (List.getElem_mem hk)).2.below hb) (hL.next hb))
  have HM := Lib.hid hm
  have HR := Lib.hid hR
  clear hm hR hok hL
  go_enter Tryd.func63, Tryd.ntmps63
  go_wp2_with fail
  go_loopw [8] (fun i wr => ∃ k : Nat, i = .int .i64 (k : Int) ∧ k ≤ m ∧ Below w.heap.size w wr ∧ Hid (∀ j (hj : j < k) (hl : j < l.length), shapeOf l[j].2.2 = 0)) (fun i _ => m - (intOf i).toNat)
  case atStart => exact ⟨0, rfl, Nat.zero_le _, Below.refl _ _, fun j hj => absurd hj (by omega)⟩
  case round =>
    obtain ⟨k, rfl, hk, hb, hz⟩ := hrel
    by_cases hlt : k < m
    · have hkl : k < l.length := by rw [HM.out]; exact hlt
      obtain ⟨b, o, rfl, hbl, hc⟩ := (HR.out.below hb).at_ (by rw [List.length_map]; omega)
      have r0 := hc k _ (rowsV_get hkl)
      have HS := Lib.hid (HSH.out k hkl wr hb)
      have HST : Hid (shapeOf l[k].2.2 = 0 → ∀ j (hj : j < k + 1) (hl : j < l.length), shapeOf l[j].2.2 = 0) := Lib.hid fun h0 j hj hl => by
        by_cases e : j = k
        · subst e; exact h0
        · exact hz.out j (by omega) hl
      have HSF : Hid (shapeOf l[k].2.2 ≠ 0 → ffS (l.map fun x => x.2.2) = shapeOf l[k].2.2) := Lib.hid fun h0 => by
        have := ff_at (l := l.map fun x => x.2.2) (k := k) (by simpa using hkl) (fun j hj => by simpa using hz.out j hj (by omega)) (by simpa using h0)
        simpa using this
      have HB := Lib.hid hb
      clear hc hb hz
      generalize l[k].2.2.length = nk at *
      generalize shapeOf l[k].2.2 = x at *
      generalize l[k].1 = Ak at *
      generalize l[k].2.1 = ck at *
      by_cases hx : x = 0
      · subst hx
        go_wp2_with fail
        refine (HS.out).mono ?_
        rintro e w1 ⟨rfl, hb1⟩
        have HB1 := Lib.hid (below_step HB.out hb1)
        clear hb1 r0
        go_wp2_with fail
        go_roundw
        case rel => exact ⟨k + 1, by go_num, by omega, HB1.out, HST.out trivial⟩
        case measure => simp [intOf] <;> omega
      · have h1 : (x != 0) = true := by simpa using hx
        have HSF' := Lib.hid (HSF.out hx)
        clear hx HSF HST
        go_wp2_with fail
        refine (HS.out).mono ?_
        rintro e w1 ⟨rfl, hb1⟩
        have HB1 := Lib.hid (below_step HB.out hb1)
        clear hb1 r0
        go_wp2_with fail
        go_ret
        rw [HSF'.out]
        exact ⟨rfl, HB1.out⟩
    · have hkm : k = m := by omega
      have HF : Hid (ffS (l.map fun x => x.2.2) = 0) := Lib.hid (ff_none fun t ht => by
        obtain ⟨x, hx, rfl⟩ := List.mem_map.1 ht
        obtain ⟨j, hj, rfl⟩ := List.mem_iff_getElem.1 hx
        exact hz.out j (by have := HM.out; omega) hj)
      have HB := Lib.hid hb
      clear hb hz hkm
      go_wp2_with fail
      go_ret
      rw [HF.out]
      exact ⟨rfl, HB.out⟩
end Go.Proofs.YtkkkblghihheeaaDoor
