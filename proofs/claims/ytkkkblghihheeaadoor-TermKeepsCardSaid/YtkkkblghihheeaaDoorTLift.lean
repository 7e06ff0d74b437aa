/- term.Lift; Free, Below. -/
import Derived.Test.YtkkkblghihheeaaDoorTLifted
namespace Go.Proofs.YtkkkblghihheeaaDoor
open Go.RowKit

/-- The nodes of a right row, each with how many binders are around it. -/
def annOf (t : List Node3) : Ann := match W t (0, 0, 0) [⟨0, 0⟩] with
  | some x => x.1
  | none => []
theorem right_of {t : List Node3} (h : shapeOf t = 0) : t.length ≤ 4096 ∧ 0 < t.length ∧ ∃ e0, W t (0, 0, 0) [⟨0, 0⟩] = some (annOf t, [], e0) := by
  unfold shapeOf at h
  split at h
  · cases h
  split at h
  · rename_i h1 h2
    unfold endOf at h2
    rw [if_neg (by omega)] at h2
    simp only [Int.toNat_zero, List.drop_zero] at h2
    unfold annOf
    cases hW : W t (0, 0, 0) [⟨0, 0⟩] with
    | none => rw [hW] at h2; simp only at h2; omega
    | some x =>
      obtain ⟨a, s, e⟩ := x
      rw [hW] at h2
      have hr := W_row _ _ _ _ _ _ hW
      have hl := congrArg List.length hr.1
      simp only [List.length_append, List.length_map] at hl h2
      have h4 := hr.2
      simp only [List.length_cons, List.length_nil] at h4
      have hs : s = [] := List.eq_nil_of_length_eq_zero (by omega)
      subst hs
      exact ⟨by omega, by omega, e, rfl⟩
  · cases h
theorem shape_of {t : List Node3} {a : Ann} {e0 : Node3} (hl : t.length ≤ 4096) (hW : W t (0, 0, 0) [⟨0, 0⟩] = some (a, [], e0)) : shapeOf t = 0 ∧ annOf t = a := by
  have hr := (W_row _ _ _ _ _ _ hW).1
  rw [List.append_nil] at hr
  have hl2 : a.length = t.length := by rw [hr, List.length_map]
  constructor
  · have he : endOf t 0 = t.length := by
      unfold endOf
      rw [if_neg (by omega)]
      simp only [Int.toNat_zero, List.drop_zero]
      rw [hW]
      simp only; omega
    unfold shapeOf
    rw [if_neg (by omega), if_pos he]
  · unfold annOf
    rw [hW]
theorem shape_vals (t : List Node3) : shapeOf t = 0 ∨ shapeOf t = 8 ∨ shapeOf t = 9 := by
  unfold shapeOf
  split
  · exact .inr (.inr rfl)
  split
  · exact .inl rfl
  · exact .inr (.inl rfl)
/-- A row is answered, with an error: the row is new. -/
def RowAns (r : List Node3 × Int) (w : World) (e : Ending) (w' : World) : Prop :=
  ∃ A n c, e = .returned (.tuple #[.slice A n c, .int .i64 r.2]) ∧ r.1.length = n ∧ OwnN w' w.heap.size (.slice A n c) n r.1 ∧ Below w.heap.size w w'
theorem RowAns.none {w w' : World} (x : Int) (hb : Below w.heap.size w w') : RowAns ([], x) w (.returned (.tuple #[.slice none 0 0, .int .i64 x])) w' := ⟨Option.none, 0, 0, rfl, rfl, World.ownsRow_nil _ _ _ _, hb⟩
/-- Lift's answer. -/
def liftS (t : List Node3) (by_ from_ : Int) : List Node3 × Int :=
  if shapeOf t ≠ 0 then ([], shapeOf t) else if by_ < 0 ∨ from_ < 0 then ([], 1) else if roomN from_ (annOf t) < by_ then ([], 6) else ((annOf t).map (liftX by_ from_), 0)
theorem room_le {from_ : Int} {a : Ann} {m : Int} (h : m ≤ roomN from_ a) : ∀ x ∈ a, 0 ≤ freeN x.1 x.2 → from_ ≤ freeN x.1 x.2 → x.1.2.1 + m ≤ 1048576 := by
  unfold roomN at h
  suffices ∀ (l : Ann) (s : Int), m ≤ l.foldl (roomF from_) s → m ≤ s ∧ ∀ x ∈ l, 0 ≤ freeN x.1 x.2 → from_ ≤ freeN x.1 x.2 → x.1.2.1 + m ≤ 1048576 from (this a _ h).2
  intro l
  induction l with
  | nil => intro s hs; exact ⟨hs, fun x hx => by cases hx⟩
  | cons y l ih =>
    intro s hs
    rw [List.foldl_cons] at hs
    obtain ⟨h1, h2⟩ := ih _ hs
    unfold roomF at h1
    by_cases hc : 0 ≤ freeN y.1 y.2 ∧ from_ ≤ freeN y.1 y.2
    · rw [if_pos hc] at h1
      refine ⟨by split at h1 <;> omega, fun x hx ha hb => ?_⟩
      rcases List.mem_cons.1 hx with rfl | hx
      · split at h1 <;> omega
      · exact h2 x hx ha hb
    · rw [if_neg hc] at h1
      refine ⟨h1, fun x hx ha hb => ?_⟩
      rcases List.mem_cons.1 hx with rfl | hx
      · exact absurd ⟨ha, hb⟩ hc
      · exact h2 x hx ha hb
set_option maxHeartbeats 2000000 in
theorem lift_any (A : Option Addr) (n c : Nat) (t : List Node3) (by_ from_ : Int) (w : World) (hn : t.length = n) (hs : Slice A n c) (hA : Holds w A (nodesV t)) (hL : Lim w) :
    Calls Tryd.prog 25 #[.slice A n c, .int .i64 by_, .int .i64 from_] w (RowAns (liftS t by_ from_) w) := by
  have HSH := Lib.hid (shape_any A n c t w hn hA hL)
  unfold liftS
  have hsv := shape_vals t
  by_cases h0 : shapeOf t = 0
  · rw [if_neg (by simpa using h0)]
    rw [h0] at HSH
    obtain ⟨hl, hp, e0, hW⟩ := right_of h0
    clear hsv
    by_cases h1 : by_ < 0 ∨ from_ < 0
    · rw [if_pos h1]
      clear hs hA hL hn hl hp hW h0
      by_cases h2 : by_ < 0
      · clear h1
        go_enter Tryd.func25, Tryd.ntmps25
        go_wp2_with fail
        refine (HSH.out).mono ?_
        rintro e w1 ⟨rfl, hb⟩
        go_wp2_with fail
        go_ret2
        exact RowAns.none _ hb
      · have h3 : from_ < 0 := by omega
        clear h1
        go_enter Tryd.func25, Tryd.ntmps25
        go_wp2_with fail
        refine (HSH.out).mono ?_
        rintro e w1 ⟨rfl, hb⟩
        go_wp2_with fail
        go_ret2
        exact RowAns.none _ hb
    · rw [if_neg h1]
      have h2 : ¬ by_ < 0 := by omega
      have h3 : ¬ from_ < 0 := by omega
      have HRO := Lib.hid (show ∀ w1, Below w.heap.size w w1 → _ from fun w1 hb => room_any A n c t from_ (annOf t) e0 w1 hn (by omega) (by omega) (hA.below hb) (hL.next hb) hW)
      have HLI := Lib.hid (show ∀ w1, Below w.heap.size w w1 → by_ ≤ roomN from_ (annOf t) → _ from fun w1 hb hle => lifted_any A n c t by_ from_ (annOf t) e0 w1 hn hs (by omega) (by omega) (hA.below hb) (hL.next hb) hW (by omega) (room_le hle))
      have hal : ((annOf t).map (liftX by_ from_)).length = n := by
        have hr := (W_row _ _ _ _ _ _ hW).1
        rw [List.append_nil] at hr
        rw [List.length_map, ← hn]
        conv => rhs; rw [hr]
        rw [List.length_map]
      have HAL := Lib.hid hal
      clear hs hA hL hn hl hp hW h0 h1 hal
      generalize roomN from_ (annOf t) = rm at *
      generalize (annOf t).map (liftX by_ from_) = l at *
      by_cases h4 : rm < by_
      · rw [if_pos h4]
        clear HLI
        go_enter Tryd.func25, Tryd.ntmps25
        go_wp2_with fail
        refine (HSH.out).mono ?_
        rintro e w1 ⟨rfl, hb⟩
        have HB := Lib.hid hb
        clear hb
        go_wp2_with fail
        refine (HRO.out _ HB.out).mono ?_
        rintro e w2 ⟨rfl, hb2⟩
        have hb := below_step HB.out hb2
        clear hb2
        go_wp2_with fail
        go_ret2
        exact RowAns.none _ hb
      · rw [if_neg h4]
        go_enter Tryd.func25, Tryd.ntmps25
        go_wp2_with fail
        refine (HSH.out).mono ?_
        rintro e w1 ⟨rfl, hb⟩
        have HB := Lib.hid hb
        clear hb
        go_wp2_with fail
        refine (HRO.out _ HB.out).mono ?_
        rintro e w2 ⟨rfl, hb2⟩
        have HB2 := Lib.hid (below_step HB.out hb2)
        clear hb2
        go_wp2_with fail
        refine (HLI.out _ HB2.out (by omega)).mono ?_
        rintro e w3 ⟨A1, c1, rfl, hown, hb3⟩
        have H1 := Lib.hid (own_base hown HB2.out.size)
        have H2 := Lib.hid (below_step HB2.out hb3)
        clear hown hb3
        go_wp2_with fail
        go_ret2
        exact ⟨A1, n, c1, rfl, HAL.out, H1.out, H2.out⟩
  · rw [if_pos h0]
    clear hs hA hL hn
    generalize shapeOf t = x at *
    have h1 : (x != 0) = true := by simpa using h0
    clear hsv h0
    go_enter Tryd.func25, Tryd.ntmps25
    go_wp2_with fail
    refine (HSH.out).mono ?_
    rintro e w1 ⟨rfl, hb⟩
    go_wp2_with fail
    go_ret2
    exact RowAns.none _ hb
end Go.Proofs.YtkkkblghihheeaaDoor
