/- Up of the program. -/
import Derived.Test.YtdpannjnhhjicaaLMax
namespace Go.Proofs.Ytdpannjnhhjicaa
open Go.RowKit

theorem rightFrom_in {v : Int} : ∀ {l : List Atom2} {least : Int}, rightFrom v least l = true → ∀ x ∈ l, (least ≤ x.1 ∧ x.1 ≤ v) ∧ 0 ≤ x.2 ∧ x.2 ≤ 1000 := by
  intro l
  induction l with
  | nil => intro least _ x hx; cases hx
  | cons y r ih =>
    intro least h x hx
    simp only [rightFrom, withinB, Bool.and_eq_true, decide_eq_true_eq] at h
    rcases List.mem_cons.1 hx with rfl | hx
    · omega
    · have := ih h.2 x hx
      omega
theorem right_in {v : Int} {l : List Atom2} (h : rightS v l = true) : ∀ x ∈ l, (0 ≤ x.1 ∧ x.1 ≤ v) ∧ 0 ≤ x.2 ∧ x.2 ≤ 1000 := by
  simp only [rightS, Bool.and_eq_true] at h
  exact rightFrom_in h.2
theorem right_var {v : Int} {l : List Atom2} (h : rightS v l = true) : 0 ≤ v ∧ v ≤ 16 := by
  simp only [rightS, withinB, Bool.and_eq_true, decide_eq_true_eq] at h
  omega
def upS (by' : Int) (l : List Atom2) : List Atom2 := l.map fun x => (x.1, x.2 + by')
def fitsUp (by' : Int) (x : Atom2) : Bool := decide (by' ≤ 1000 - x.2)
def upErr (by' : Int) (l : List Atom2) : Int := if rightS 16 l = true then (if by' < 0 then 1 else if l.all (fitsUp by') = true then 0 else 6) else 19
/-- What Up answers. -/
inductive UpPost (by' : Int) (l : List Atom2) (w : World) : Ending → World → Prop
  | err (w' : World) : upErr by' l ≠ 0 → Below w.heap.size w w' → UpPost by' l w (.returned (.tuple #[.slice none 0 0, .int .i64 (upErr by' l)])) w'
  | ok (w' : World) (g c : Nat) : upErr by' l = 0 → w.heap.size ≤ g → OwnA w' w.heap.size (.slice (some ⟨g, 0, none⟩) l.length c) (upS by' l) → LevelAt w' (some ⟨g, 0, none⟩) l.length c (upS by' l) → Below w.heap.size w w' → UpPost by' l w (.returned (.tuple #[.slice (some ⟨g, 0, none⟩) l.length c, .int .i64 0])) w'
/-- The first k atoms are higher. -/
def upK (by' : Int) (l : List Atom2) (k : Nat) : List Atom2 := upS by' (l.take k) ++ l.drop k
theorem upK_len (by' : Int) (l : List Atom2) (k : Nat) : (upK by' l k).length = l.length := by simp [upK, upS]; omega
theorem upK_get {by' : Int} {l : List Atom2} {k : Nat} (h : k < l.length) : (upK by' l k)[k]'(by rw [upK_len]; exact h) = l[k] := by
  unfold upK
  rw [List.getElem_append_right (by simp [upS]; omega)]
  simp [upS, show k - min k l.length = 0 by omega]
theorem upK_set {by' : Int} {l : List Atom2} {k : Nat} (h : k < l.length) : (upK by' l k).set k (l[k].1, l[k].2 + by') = upK by' l (k + 1) := by
  unfold upK
  have e : k - (upS by' (l.take k)).length = 0 := by simp [upS]; omega
  rw [List.set_append_right _ _ (by simp [upS]; omega), e, List.drop_eq_getElem_cons h, List.set_cons_zero, List.take_succ_eq_append_getElem h]
  unfold upS
  rw [List.map_append]
  simp only [List.map_cons, List.map_nil, List.append_assoc, List.cons_append, List.nil_append]
theorem upK_all (by' : Int) (l : List Atom2) : upK by' l l.length = upS by' l := by simp [upK]
theorem atomsV_set {l : List Atom2} {k : Nat} (h : k < l.length) (y : Int) : (atomsV l).set (k * 2 + 1) (.int .i64 y) = atomsV (l.set k (l[k].1, y)) := by
  induction l generalizing k with
  | nil => simp at h
  | cons x r ih =>
    cases k with
    | zero => simp [atomsV_cons, atomV]
    | succ k =>
      rw [List.set_cons_succ, atomsV_cons, atomsV_cons, List.set_append_right _ _ (by simp [atomV]; omega), show (k + 1) * 2 + 1 - (atomV x).length = k * 2 + 1 by simp [atomV]; omega, ih (by simpa using h)]
      rfl
set_option maxHeartbeats 1000000 in
theorem up_any (A : Option Addr) (n c : Nat) (l : List Atom2) (by' : Int) (w : World) (hA : LevelAt w A n c l) :
    Calls Try.prog 15 #[.slice A n c, .int .i64 by'] w (UpPost by' l w) := by
  have hn : n ≤ 9223372036854775807 := by have := hA.2.1; unfold Slice at this; omega
  cases ha : rightS 16 l
  · have HE : Hid (upErr by' l = 19) := show _ = _ by simp [upErr, ha]
    have HR := Lib.hid (right_n A c n l 16 w hA.1 hA.2.2 hn false ha)
    clear ha
    go_enter Try.func15, Try.ntmps15
    go_wp2_with fail
    refine HR.out.mono ?_
    rintro e w1 ⟨rfl, hb1⟩
    go_wp2_with fail
    go_ret2
    have h := HE.out
    rw [show (19 : Int) = upErr by' l from h.symm]
    exact .err _ (by rw [h]; omega) hb1
  · have HR := Lib.hid (right_n A c n l 16 w hA.1 hA.2.2 hn true ha)
    have hin := right_in ha
    by_cases h0 : by' < 0
    · have HE : Hid (upErr by' l = 1) := show _ = _ by simp [upErr, ha, h0]
      clear ha hin
      go_enter Try.func15, Try.ntmps15
      go_wp2_with fail
      refine HR.out.mono ?_
      rintro e w1 ⟨rfl, hb1⟩
      go_wp2_with fail
      go_ret2
      have h := HE.out
      rw [show (1 : Int) = upErr by' l from h.symm]
      exact .err _ (by rw [h]; omega) hb1
    · have HE : Hid (upErr by' l = if l.all (fitsUp by') = true then 0 else 6) := show _ = _ by simp [upErr, ha, h0]
      have hnl := hA.1
      have hn4 : n ≤ 4 := by rw [← hnl]; exact right_len ha
      have hn0 : 0 < n := by rw [← hnl]; exact right_pos ha
      have HC := Lib.hid fun w (hA : LevelAt w A n c l) => clone_any A n c l w hA (by omega)
      have HN := Lib.hid hnl
      have HI := Lib.hid hin
      clear ha hin hnl
      go_enter Try.func15, Try.ntmps15
      go_wp2_with fail
      refine HR.out.mono ?_
      rintro e w1 ⟨rfl, hb1⟩
      go_wp2_with fail
      refine (HC.out _ (hA.below hb1)).mono ?_
      rintro e w2 ⟨v, rfl, hv, hb2⟩
      have hb12 := below_step hb1 hb2
      obtain ⟨g, cap, rfl, hg, hg2⟩ := hv.form (by rw [HN.out]; exact hn0)
      have hgw : w.heap.size ≤ g := by have := hb1.size; omega
      have hv' : w2.ownsRow w.heap.size 57 2 (.slice (some ⟨g, 0, none⟩) n cap) n (atomsV l) := by
        have := own_base hv hb1.size
        rw [HN.out] at this
        exact this
      rw [HN.out]
      clear hb1 hb2 hv hA
      go_wp2_with fail
      go_loopw [17] (fun i wr => ∃ k : Nat, k ≤ n ∧ i = .int .i64 k ∧ Hid ((l.take k).all (fitsUp by') = true) ∧ wr.ownsRow w.heap.size 57 2 (.slice (some ⟨g, 0, none⟩) n cap) n (atomsV (upK by' l k)) ∧ Below w.heap.size w wr) (fun i _ => n - (intOf i).toNat)
      case atStart => exact ⟨0, by omega, rfl, show _ = _ by simp, by simpa [upK, upS] using hv', hb12⟩
      case round =>
        clear hv' hb12 hg2
        obtain ⟨k, hk, rfl, HK, hown, hb⟩ := hrel
        by_cases hlt : k < n
        · have hkl : k < l.length := by rw [HN.out]; exact hlt
          have hgt := upK_get (by' := by') hkl
          have s1 := hown.cellAt (k * 2 + 1) (by omega)
          rw [atomsV_get1 (by rw [upK_len]; exact hkl), hgt] at s1
          have s2 := hown.frozenAt (k * 2 + 1)
          have hx := HI.out _ (List.getElem_mem hkl)
          have hst := (hown.stored (k * 2 + 1) (.int .i64 (l[k].2 + by'))).1
          rw [atomsV_set (by rw [upK_len]; exact hkl), hgt, upK_set hkl] at hst
          have HS := Lib.hid fun h => all_step (p := fitsUp by') hkl HK.out h
          have HX := Lib.hid fun h => all_not (p := fitsUp by') hkl h
          generalize l[k] = x at *
          obtain ⟨p, q⟩ := x
          simp only at s1 hx hst
          clear hgt hkl
          by_cases hf : by' ≤ 1000 - q
          · have HS' := Lib.hid (HS.out (by simpa [fitsUp] using hf))
            have e1 : IntKind.i64.wrap (q + by') = q + by' := IntWalk.i64_in _ (by omega)
            go_wp2_with fail
            go_roundw
            case rel => exact ⟨k + 1, by omega, by go_num, HS'.out, hst, hb.setCell (by show w.heap.size ≤ g; omega) _⟩
            case measure => simp [intOf]; omega
          · have hE2 : upErr by' l = 6 := by rw [HE.out, HX.out (by simpa [fitsUp] using hf)]; simp
            have HE2 := Lib.hid hE2
            clear hE2
            go_wp2_with fail
            go_ret2
            have h := HE2.out
            rw [show (6 : Int) = upErr by' l from h.symm]
            exact .err _ (by rw [h]; omega) hb
        · have hE2 : upErr by' l = 0 := by
            have h := HK.out
            rw [List.take_of_length_le (by rw [HN.out]; omega)] at h
            rw [HE.out, h]; simp
          have HE2 := Lib.hid hE2
          have hk' : k = l.length := by rw [HN.out]; omega
          rw [hk', upK_all] at hown
          clear hE2 hk'
          go_wp2_with fail
          go_ret2
          have hul : (upS by' l).length = n := by rw [← HN.out]; simp [upS]
          rw [← HN.out] at hown ⊢
          refine .ok _ g cap HE2.out hgw ?_ ?_ hb
          · show wr.ownsRow _ _ _ _ _ _
            rw [hul, ← HN.out]
            exact hown
          · exact ⟨by rw [hul, HN.out], by obtain ⟨A', c', e, h, _⟩ := own_slice hown; cases e; exact h, own_holds hown⟩
end Go.Proofs.Ytdpannjnhhjicaa
