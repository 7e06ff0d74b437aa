/- The document's answer: Read: a sort. -/
import Derived.Test.YtkkkblghihheeaaDoorTReadQ
namespace Go.Proofs.YtkkkblghihheeaaDoor
open Go.RowKit

theorem begB3 (n h : Node3) : begB 3 n h = decide (n.1 = 3 ∧ (0 ≤ n.2.1 ∧ n.2.1 ≤ 16) ∧ (0 ≤ n.2.2 ∧ n.2.2 ≤ 1000) ∧ (h.1 = 2 ∨ h.2.1 < n.2.1)) := by
  unfold begB
  by_cases h3 : n.1 = 3
  · rw [if_pos h3]
    by_cases hh : h.1 = 2
    · simp [holdsN, h3, hh, and_assoc]
    · simp [holdsN, h3, hh, and_assoc, Bool.and_assoc]
  · rw [if_neg h3]
    by_cases h13 : n.1 = 13
    · rw [if_pos h13]
      simp [h13]
    · rw [if_neg h13]
      simp [h3]
theorem treeA_atom (n : Node3) (ats : List Node3) (x : Node3) : treeA n (ats ++ [x]) [] [] = treeA n ats [] [] ++ [(x, 0)] := by
  simp [treeA, kidsA]
set_option maxRecDepth 100000 in
set_option maxHeartbeats 40000000 in
theorem read_sort (g o n c : Nat) (t : List Node3) (w : World) (hn : t.length = n) (h0 : 0 < n) (hnb : n ≤ 100000) (hA : Holds w (some ⟨g, o, none⟩) (nodesV t)) (hw : ∀ x ∈ t, Wide3 x) (h : topB (t[0]'(by omega)) = true) (h2 : (t[0]'(by omega)).1 = 2) :
    Calls Tryd.prog 42 #[.slice (some ⟨g, o, none⟩) n c] w (ReadPost t w) := by
  have hb0 : Below w.heap.size w (w.alloc (.cells #[.int .i64 0, .int .i64 0, .int .i64 0, .slice none 0 0, .slice none 0 0, .slice none 0 0] 59)) := (Below.refl _ _).alloc (Nat.le_refl _) _
  have hA1 := hA.below hb0
  have r0 := hA1.cell (nodesV_get0 (j := 0) (by omega))
  have r1 := hA1.cell (nodesV_get1 (j := 0) (by omega))
  have r2 := hA1.cell (nodesV_get2 (j := 0) (by omega))
  have hc := count_any t[0] (w.alloc (.cells #[.int .i64 0, .int .i64 0, .int .i64 0, .slice none 0 0, .slice none 0 0, .slice none 0 0] 59)) (hw _ (List.getElem_mem _))
  obtain ⟨x, hx⟩ : ∃ x, t[0]'(by omega) = x := ⟨_, rfl⟩
  have hz := Whole.new w #[.int .i64 0, .int .i64 0, .int .i64 0, .slice none 0 0, .slice none 0 0, .slice none 0 0] 59
  rw [hx] at r0 r1 r2 hc h h2
  simp only [Nat.zero_mul, Nat.add_zero, Nat.zero_add] at r0 r1 r2
  have HC := Lib.hid hc
  have HB0 := Lib.hid hb0
  have HZ := Lib.hid hz
  have HH := Lib.hid h
  have HA1 := Lib.hid hA1
  have HN := Lib.hid hn
  have HXX : Hid (t[0]? = some x) := Lib.hid (by rw [List.getElem?_eq_getElem (by omega), hx])
  obtain ⟨xo, xA, xB⟩ := x
  simp only at r0 r1 r2 h2
  subst h2
  have HBX : Hid (1 ≤ xB ∧ xB ≤ 4) := Lib.hid (by
    have h := (top_holds HH.out).1
    unfold holdsN at h
    simp only at h
    omega)
  clear hc hb0 hA hA1 hw hx h hz hn
  go_enter Tryd.func42, Tryd.ntmps42
  go_wp2_with fail
  refine (HC.out).mono ?_
  rintro e w1 ⟨k, rfl, hk, hb1⟩
  rw [HH.out]
  have hk' := hk HH.out
  rw [(follow_sort (n := (2, xA, xB)) rfl).2] at hk'
  have hA2 := HA1.out.below hb1
  have s0 := hA2.cell (nodesV_get0 (j := 0) (by have := HN.out; omega))
  have s1 := hA2.cell (nodesV_get1 (j := 0) (by have := HN.out; omega))
  have s2 := hA2.cell (nodesV_get2 (j := 0) (by have := HN.out; omega))
  have HX0 : Hid (t[0]'(by have := HN.out; omega) = (2, xA, xB)) := Lib.hid (by have := HXX.out; rwa [List.getElem?_eq_getElem (by have := HN.out; omega), Option.some.injEq] at this)
  rw [HX0.out] at s0 s1 s2
  simp only [Nat.zero_mul, Nat.add_zero, Nat.zero_add] at s0 s1 s2
  have HGL : Hid (g < w1.heap.size) := Lib.hid (by
    obtain ⟨b', o', e', hb', -⟩ := hA2.at_ (by rw [nodesV_len]; have := HN.out; omega)
    cases e'
    exact hb')
  have HB1 := Lib.hid (below_step HB0.out hb1)
  have HZ1 := Lib.hid (HZ.out.below hb1 HZ.out.lt)
  have HG0 := Lib.hid (RdGrow.start w1 (2, xA, xB))
  have HBO := Lib.hid (show Below w1.heap.size w1 (w1.alloc (.cells #[.int .i64 2, .int .i64 xA, .int .i64 xB, .slice none 0 0, .slice none 0 0, .slice none 0 0] 59)) from (Below.refl _ _).alloc (Nat.le_refl _) _)
  have hA3 := hA2.below HBO.out
  have u0 := hA3.cell (nodesV_get0 (j := 0) (by have := HN.out; omega))
  rw [HX0.out] at u0
  simp only [Nat.zero_mul, Nat.add_zero] at u0
  have HA2 := Lib.hid hA2
  clear hA3
  subst hk'
  clear hb1 hA2 r0 r1 r2 hk
  go_wp2_with fail
  obtain ⟨b, hb, hb4⟩ : ∃ b : Nat, (b : Int) = xB ∧ b ≤ 4 := ⟨xB.toNat, by have := HBX.out; omega, by have := HBX.out; omega⟩
  have HST : Hid (Cont t (treeA (2, xA, xB) [] [] []) 1 (List.replicate b ⟨3, 0⟩)) := Lib.hid (by
    have e := (follow_sort (n := (2, xA, xB)) rfl).1
    rw [show ((2, xA, xB) : Node3).2.2.toNat = b by show xB.toNat = b; omega] at e
    rw [← e]
    obtain ⟨r, hr⟩ : ∃ r, t = (2, xA, xB) :: r := by
      cases t with
      | nil => have := HN.out; simp at this; omega
      | cons y r => exact ⟨r, by have := HX0.out; simp at this; rw [this]⟩
    exact cont_top hr HH.out)
  have HBB := Lib.hid hb
  clear hb
  go_loopw [8, 9] (fun at_ i wr => ∃ (i' p : Nat) (Av : Value) (ats : List Node3), at_ = .int .i64 (p : Int) ∧ i = .int .i64 (i' : Int) ∧ p = i' + 1 ∧ i' ≤ b ∧ p ≤ n ∧ ats.length = i' ∧ Hid (Cont t (treeA (2, xA, xB) ats [] []) p (List.replicate (b - i') ⟨3, 0⟩)) ∧ Hid (RdGrow wr w1.heap.size (2, xA, xB) (.slice none 0 0) Av (.slice none 0 0) [] ats []) ∧ Hid (∀ x ∈ ats, x.1 = 3) ∧ Hid (0 < i' → ∃ z, t[i']? = some z ∧ z.1 = 3) ∧ Hid (Below w1.heap.size w1 wr)) (fun _ i _ => b - (intOf i).toNat)
  case atStart => exact ⟨0, 1, _, [], rfl, rfl, rfl, Nat.zero_le _, h0, rfl, HST, HG0, Lib.hid (by simp), Lib.hid (fun h => absurd h (Nat.lt_irrefl _)), HBO⟩
  case round =>
    obtain ⟨i', p, Av, ats, rfl, rfl, hp1, hi, hp, hal, HCT, HG, HFN, HLST, HBR⟩ := hrel
    have hAr := HA2.out.below HBR.out
    have s2r := hAr.cell (nodesV_get2 (j := 0) (by have := HN.out; omega))
    rw [HX0.out] at s2r
    simp only [Nat.zero_mul, Nat.zero_add] at s2r
    rw [← HBB.out] at s2r
    have HAR := Lib.hid hAr
    have HBW := Lib.hid (below_step HB1.out HBR.out)
    have HAL := Lib.hid hal
    clear hAr hal
    by_cases hlt : i' < b
    · have HC0 : Hid (Cont t (treeA (2, xA, xB) ats [] []) p (⟨3, 0⟩ :: List.replicate (b - (i' + 1)) ⟨3, 0⟩)) := Lib.hid (by
        have := HCT.out
        rw [show b - i' = (b - (i' + 1)) + 1 by omega, List.replicate_succ] at this
        exact this)
      have HBD := Lib.hid (show Below w1.heap.size w1 wr.drew from HBR.out.trans (below_drewN (w := wr) (Below.refl _ _) 1))
      by_cases hpl : p < n
      · have hAr := HAR.out.drew
        have hpt : p < t.length := by have := HN.out; omega
        have hqt : i' < t.length := by omega
        have r0 := hAr.cell (nodesV_get0 hpt)
        have r1 := hAr.cell (nodesV_get1 hpt)
        have r2 := hAr.cell (nodesV_get2 hpt)
        have r3 := hAr.cell (nodesV_get1 hqt)
        rw [← Nat.add_assoc] at r1 r2 r3
        have hq1 : t[p - 1]'(by omega) = t[i'] := by congr 1; omega
        have HTY : Hid (∀ (hb : begB 3 t[p] t[i'] = false), top0 t = none) := Lib.hid fun hb => cont_oneno HC0.out (by omega) hpt (by rw [hq1]; exact hb)
        have HCY : Hid (∀ (hb : begB 3 t[p] t[i'] = true) (h3 : (t[p]).1 = 3), Cont t (treeA (2, xA, xB) (ats ++ [t[p]]) [] []) (p + 1) (List.replicate (b - (i' + 1)) ⟨3, 0⟩)) := Lib.hid fun hb h3 => by
          rw [treeA_atom]
          exact cont_one HC0.out (by omega) hpt (follow3 (.inl h3)) (by rw [hq1]; exact hb)
        simp only [begB3] at HTY HCY
        have HZ2 : Hid (if i' = 0 then (t[i']).1 = 2 else (t[i']).1 = 3) := Lib.hid (by
          by_cases h : i' = 0
          · subst h; rw [if_pos rfl, HX0.out]
          · rw [if_neg h]
            obtain ⟨z, hz, hz3⟩ := HLST.out (by omega)
            rw [List.getElem?_eq_getElem hqt, Option.some.injEq] at hz
            rw [hz]; exact hz3)
        obtain ⟨y, hy⟩ : ∃ y, t[p] = y := ⟨_, rfl⟩
        obtain ⟨z, hz⟩ : ∃ z, t[i'] = z := ⟨_, rfl⟩
        rw [hy, hz] at HTY HCY
        rw [hy] at r0 r1 r2
        rw [hz] at r3 HZ2
        have HPY : Hid (t[i' + 1]? = some y) := Lib.hid (by rw [← hp1, List.getElem?_eq_getElem hpt, hy])
        clear hy hz hAr hq1 hpt hqt HC0
        obtain ⟨yo, yA, yB⟩ := y
        obtain ⟨zo, zA, zB⟩ := z
        simp only at r0 r1 r2 r3 HTY HCY HZ2
        have HSS : Hid ((fun W => W.cell? ⟨g, o + p * 3, none⟩ = some (.int .i64 yo) ∧ W.cell? ⟨g, o + p * 3 + 1, none⟩ = some (.int .i64 yA) ∧ W.cell? ⟨g, o + p * 3 + 2, none⟩ = some (.int .i64 yB) ∧ W.cell? ⟨g, o + i' * 3 + 1, none⟩ = some (.int .i64 zA)) wr.drew) := Lib.hid ⟨r0, r1, r2, r3⟩
        have HGW := Lib.hid (HG.out.next (w1 := wr.drew) (below_drewN (Below.refl _ _) 1))
        have eq1 : (p : Int) - 1 = ((i' : Nat) : Int) := by omega
        have HP1 := Lib.hid hp1
        have hpb : p ≤ 100000 := by omega
        clear hp1
        have ewi := IntWalk.i64_in ((i' : Nat) : Int) (by omega)
        have hin' : i' < n := by have := HP1.out; omega
        by_cases h3 : yo = 3
        · have e3 : (yo == 3) = true := by simpa using h3
          have e32 : (yo != 3) = false := by simpa using h3
          by_cases hin : 0 ≤ yA ∧ yA ≤ 16
          · by_cases hin2 : 0 ≤ yB ∧ yB ≤ 1000
            · by_cases hi0 : i' = 0
              · have HC1 := Lib.hid (HCY.out (by rw [decide_eq_true_iff]; have := HZ2.out; rw [if_pos hi0] at this; exact ⟨h3, hin, hin2, .inl this⟩) h3)
                have HI0 := Lib.hid hi0
                clear hi0
                have HC2 := HC1
                have HFN1 : Hid (∀ x ∈ ats ++ [(yo, yA, yB)], x.1 = 3) := Lib.hid fun x hx => by
                  rcases List.mem_append.1 hx with hx | hx
                  · exact HFN.out x hx
                  · rw [List.mem_singleton] at hx; subst hx; exact h3
                have HLST1 : Hid (0 < i' + 1 → ∃ z, t[i' + 1]? = some z ∧ z.1 = 3) := Lib.hid fun _ => ⟨_, HPY.out, h3⟩
                have HKEEP := HSS
                clear h3 HTY HCY HZ2 HLST
                go_wp2_with fail
                have ege0 : decide (n ≤ p) = false := by rw [decide_eq_false_iff_not]; have := hpl; omega
                have ege1 : decide ((n : Int) ≤ (p : Int)) = false := by rw [decide_eq_false_iff_not]; have := hpl; omega
                have ege2 : decide ((p : Int) ≥ (n : Int)) = false := by rw [decide_eq_false_iff_not]; have := hpl; omega
                have egt0 : decide (0 < i') = false := by rw [decide_eq_false_iff_not]; have := HI0.out; omega
                have egt1 : decide (0 < (i' : Int)) = false := by rw [decide_eq_false_iff_not]; have := HI0.out; omega
                have egt2 : decide ((i' : Int) > 0) = false := by rw [decide_eq_false_iff_not]; have := HI0.out; omega
                refine region_begin_any (S := fun W => W.cell? ⟨g, o + p * 3, none⟩ = some (.int .i64 yo) ∧ W.cell? ⟨g, o + p * 3 + 1, none⟩ = some (.int .i64 yA) ∧ W.cell? ⟨g, o + p * 3 + 2, none⟩ = some (.int .i64 yB) ∧ W.cell? ⟨g, o + i' * 3 + 1, none⟩ = some (.int .i64 zA)) (by kernel_rfl) (HSS.out) (fun W hW hHeld => ?_)
                subst hW
                refine region_take 0 ?_ rfl (by kernel_rfl) (by rfl) hHeld ?_ ?_
                rotate_left
                · intro w hSw
                  (try dsimp only at hSw)
                  go_simp
                  try with_reducible rfl
                try simp only [Act.put, List.setIfInBounds_toArray, List.set_cons_zero, List.set_cons_succ]
                refine region_take 1 ?_ rfl (by kernel_rfl) (by rfl) hHeld ?_ ?_
                rotate_left
                · intro w hSw
                  (try dsimp only at hSw)
                  go_simp
                  try with_reducible rfl
                try simp only [Act.put, List.setIfInBounds_toArray, List.set_cons_zero, List.set_cons_succ]
                refine region_take 2 ?_ rfl (by kernel_rfl) (by rfl) hHeld ?_ ?_
                rotate_left
                · intro w hSw
                  (try dsimp only at hSw)
                  go_simp
                  try with_reducible rfl
                try simp only [Act.put, List.setIfInBounds_toArray, List.set_cons_zero, List.set_cons_succ]
                refine region_take 3 ?_ rfl (by kernel_rfl) (by rfl) hHeld ?_ ?_
                rotate_left
                · intro w hSw
                  (try dsimp only at hSw)
                  go_simp
                  try with_reducible rfl
                try simp only [Act.put, List.setIfInBounds_toArray, List.set_cons_zero, List.set_cons_succ]
                refine region_take 4 ?_ rfl (by kernel_rfl) (by rfl) hHeld ?_ ?_
                rotate_left
                · intro w hSw
                  (try dsimp only at hSw)
                  go_simp
                  try with_reducible rfl
                try simp only [Act.put, List.setIfInBounds_toArray, List.set_cons_zero, List.set_cons_succ]
                refine region_take 5 ?_ rfl (by kernel_rfl) (by rfl) hHeld ?_ ?_
                rotate_left
                · intro w hSw
                  (try dsimp only at hSw)
                  go_simp
                  try with_reducible rfl
                try simp only [Act.put, List.setIfInBounds_toArray, List.set_cons_zero, List.set_cons_succ]
                refine region_take 6 ?_ rfl (by kernel_rfl) (by rfl) hHeld ?_ ?_
                rotate_left
                · intro w hSw
                  (try dsimp only at hSw)
                  go_simp
                  try with_reducible rfl
                try simp only [Act.put, List.setIfInBounds_toArray, List.set_cons_zero, List.set_cons_succ]
                refine region_take 7 ?_ rfl (by kernel_rfl) (by rfl) hHeld ?_ ?_
                rotate_left
                · intro w hSw
                  (try dsimp only at hSw)
                  go_simp
                  try with_reducible rfl
                try simp only [Act.put, List.setIfInBounds_toArray, List.set_cons_zero, List.set_cons_succ]
                refine region_take 8 ?_ rfl (by kernel_rfl) (by rfl) hHeld ?_ ?_
                rotate_left
                · intro w hSw
                  (try dsimp only at hSw)
                  go_simp
                  try with_reducible rfl
                try simp only [Act.put, List.setIfInBounds_toArray, List.set_cons_zero, List.set_cons_succ]
                refine region_take 9 ?_ rfl (by kernel_rfl) (by rfl) hHeld ?_ ?_
                rotate_left
                · intro w hSw
                  (try dsimp only at hSw)
                  go_simp
                  try with_reducible rfl
                try simp only [Act.put, List.setIfInBounds_toArray, List.set_cons_zero, List.set_cons_succ]
                refine region_take 10 ?_ rfl (by kernel_rfl) (by rfl) hHeld ?_ ?_
                rotate_left
                · intro w hSw
                  (try dsimp only at hSw)
                  go_simp
                  try with_reducible rfl
                try simp only [Act.put, List.setIfInBounds_toArray, List.set_cons_zero, List.set_cons_succ]
                refine region_take 11 ?_ rfl (by kernel_rfl) (by rfl) hHeld ?_ ?_
                rotate_left
                · intro w hSw
                  (try dsimp only at hSw)
                  go_simp
                  try with_reducible rfl
                try simp only [Act.put, List.setIfInBounds_toArray, List.set_cons_zero, List.set_cons_succ]
                refine region_take 12 ?_ rfl (by kernel_rfl) (by rfl) hHeld ?_ ?_
                rotate_left
                · intro w hSw
                  (try dsimp only at hSw)
                  go_simp
                  try with_reducible rfl
                try simp only [Act.put, List.setIfInBounds_toArray, List.set_cons_zero, List.set_cons_succ]
                refine region_take 13 ?_ rfl (by kernel_rfl) (by rfl) hHeld ?_ ?_
                rotate_left
                · intro w hSw
                  (try dsimp only at hSw)
                  go_simp
                  try with_reducible rfl
                try simp only [Act.put, List.setIfInBounds_toArray, List.set_cons_zero, List.set_cons_succ]
                refine region_take 14 ?_ rfl (by kernel_rfl) (by rfl) hHeld ?_ ?_
                rotate_left
                · intro w hSw
                  (try dsimp only at hSw)
                  go_simp
                  try with_reducible rfl
                try simp only [Act.put, List.setIfInBounds_toArray, List.set_cons_zero, List.set_cons_succ]
                refine region_take 15 ?_ rfl (by kernel_rfl) (by rfl) hHeld ?_ ?_
                rotate_left
                · intro w hSw
                  (try dsimp only at hSw)
                  go_simp
                  try with_reducible rfl
                try simp only [Act.put, List.setIfInBounds_toArray, List.set_cons_zero, List.set_cons_succ]
                refine region_take 16 ?_ rfl (by kernel_rfl) (by rfl) hHeld ?_ ?_
                rotate_left
                · intro w hSw
                  (try dsimp only at hSw)
                  go_simp
                  try with_reducible rfl
                try simp only [Act.put, List.setIfInBounds_toArray, List.set_cons_zero, List.set_cons_succ]
                refine region_take 17 ?_ rfl (by kernel_rfl) (by rfl) hHeld ?_ ?_
                rotate_left
                · intro w hSw
                  (try dsimp only at hSw)
                  go_simp
                  try with_reducible rfl
                try simp only [Act.put, List.setIfInBounds_toArray, List.set_cons_zero, List.set_cons_succ]
                refine region_call 18 rfl (by kernel_rfl) (by rfl) (fun K hK => ?_)
                go_simp
                refine (within_yes _ _ _ _ hin).mono ?_
                rintro e w5 ⟨rfl, hw5⟩
                subst hw5
                (try dsimp only)
                refine hK.out _ _ (hHeld) (fun hHeld => ?_)
                clear hK K
                try simp only [Act.put, List.setIfInBounds_toArray, List.set_cons_zero, List.set_cons_succ]
                refine region_take 19 ?_ rfl (by kernel_rfl) (by rfl) hHeld ?_ ?_
                rotate_left
                · intro w hSw
                  (try dsimp only at hSw)
                  go_simp
                  try with_reducible rfl
                try simp only [Act.put, List.setIfInBounds_toArray, List.set_cons_zero, List.set_cons_succ]
                refine region_take 20 ?_ rfl (by kernel_rfl) (by rfl) hHeld ?_ ?_
                rotate_left
                · intro w hSw
                  (try dsimp only at hSw)
                  go_simp
                  try with_reducible rfl
                try simp only [Act.put, List.setIfInBounds_toArray, List.set_cons_zero, List.set_cons_succ]
                refine region_take 21 ?_ rfl (by kernel_rfl) (by rfl) hHeld ?_ ?_
                rotate_left
                · intro w hSw
                  (try dsimp only at hSw)
                  go_simp
                  try with_reducible rfl
                try simp only [Act.put, List.setIfInBounds_toArray, List.set_cons_zero, List.set_cons_succ]
                refine region_take 22 ?_ rfl (by kernel_rfl) (by rfl) hHeld ?_ ?_
                rotate_left
                · intro w hSw
                  (try dsimp only at hSw)
                  go_simp
                  try with_reducible rfl
                try simp only [Act.put, List.setIfInBounds_toArray, List.set_cons_zero, List.set_cons_succ]
                refine region_take 23 ?_ rfl (by kernel_rfl) (by rfl) hHeld ?_ ?_
                rotate_left
                · intro w hSw
                  (try dsimp only at hSw)
                  go_simp
                  try with_reducible rfl
                try simp only [Act.put, List.setIfInBounds_toArray, List.set_cons_zero, List.set_cons_succ]
                refine region_take 24 ?_ rfl (by kernel_rfl) (by rfl) hHeld ?_ ?_
                rotate_left
                · intro w hSw
                  (try dsimp only at hSw)
                  go_simp
                  try with_reducible rfl
                try simp only [Act.put, List.setIfInBounds_toArray, List.set_cons_zero, List.set_cons_succ]
                refine region_take 25 ?_ rfl (by kernel_rfl) (by rfl) hHeld ?_ ?_
                rotate_left
                · intro w hSw
                  (try dsimp only at hSw)
                  go_simp
                  try with_reducible rfl
                try simp only [Act.put, List.setIfInBounds_toArray, List.set_cons_zero, List.set_cons_succ]
                refine region_take 26 ?_ rfl (by kernel_rfl) (by rfl) hHeld ?_ ?_
                rotate_left
                · intro w hSw
                  (try dsimp only at hSw)
                  go_simp
                  try with_reducible rfl
                try simp only [Act.put, List.setIfInBounds_toArray, List.set_cons_zero, List.set_cons_succ]
                refine region_call 27 rfl (by kernel_rfl) (by rfl) (fun K hK => ?_)
                go_simp
                refine (within_yes _ _ _ _ hin2).mono ?_
                rintro e w5 ⟨rfl, hw5⟩
                subst hw5
                (try dsimp only)
                refine hK.out _ _ (hHeld) (fun hHeld => ?_)
                clear hK K
                try simp only [Act.put, List.setIfInBounds_toArray, List.set_cons_zero, List.set_cons_succ]
                refine region_take 28 ?_ rfl (by kernel_rfl) (by rfl) hHeld ?_ ?_
                rotate_left
                · intro w hSw
                  (try dsimp only at hSw)
                  go_simp
                  try with_reducible rfl
                try simp only [Act.put, List.setIfInBounds_toArray, List.set_cons_zero, List.set_cons_succ]
                refine region_take 29 ?_ rfl (by kernel_rfl) (by rfl) hHeld ?_ ?_
                rotate_left
                · intro w hSw
                  (try dsimp only at hSw)
                  go_simp
                  try with_reducible rfl
                try simp only [Act.put, List.setIfInBounds_toArray, List.set_cons_zero, List.set_cons_succ]
                refine region_take 30 ?_ rfl (by kernel_rfl) (by rfl) hHeld ?_ ?_
                rotate_left
                · intro w hSw
                  (try dsimp only at hSw)
                  go_simp
                  try with_reducible rfl
                try simp only [Act.put, List.setIfInBounds_toArray, List.set_cons_zero, List.set_cons_succ]
                refine region_take 31 ?_ rfl (by kernel_rfl) (by rfl) hHeld ?_ ?_
                rotate_left
                · intro w hSw
                  (try dsimp only at hSw)
                  go_simp
                  try with_reducible rfl
                try simp only [Act.put, List.setIfInBounds_toArray, List.set_cons_zero, List.set_cons_succ]
                refine region_take 32 ?_ rfl (by kernel_rfl) (by rfl) hHeld ?_ ?_
                rotate_left
                · intro w hSw
                  (try dsimp only at hSw)
                  go_simp
                  try with_reducible rfl
                try simp only [Act.put, List.setIfInBounds_toArray, List.set_cons_zero, List.set_cons_succ]
                refine region_take 33 ?_ rfl (by kernel_rfl) (by rfl) hHeld ?_ ?_
                rotate_left
                · intro w hSw
                  (try dsimp only at hSw)
                  go_simp
                  try with_reducible rfl
                try simp only [Act.put, List.setIfInBounds_toArray, List.set_cons_zero, List.set_cons_succ]
                refine region_skip 34 rfl (by kernel_rfl) (by rfl) hHeld ?_
                try simp only [Act.put, List.setIfInBounds_toArray, List.set_cons_zero, List.set_cons_succ]
                refine region_skip 35 rfl (by kernel_rfl) (by rfl) hHeld ?_
                try simp only [Act.put, List.setIfInBounds_toArray, List.set_cons_zero, List.set_cons_succ]
                refine region_skip 36 rfl (by kernel_rfl) (by rfl) hHeld ?_
                try simp only [Act.put, List.setIfInBounds_toArray, List.set_cons_zero, List.set_cons_succ]
                refine region_skip 37 rfl (by kernel_rfl) (by rfl) hHeld ?_
                try simp only [Act.put, List.setIfInBounds_toArray, List.set_cons_zero, List.set_cons_succ]
                refine region_skip 38 rfl (by kernel_rfl) (by rfl) hHeld ?_
                try simp only [Act.put, List.setIfInBounds_toArray, List.set_cons_zero, List.set_cons_succ]
                refine region_skip 39 rfl (by kernel_rfl) (by rfl) hHeld ?_
                try simp only [Act.put, List.setIfInBounds_toArray, List.set_cons_zero, List.set_cons_succ]
                refine region_skip 40 rfl (by kernel_rfl) (by rfl) hHeld ?_
                try simp only [Act.put, List.setIfInBounds_toArray, List.set_cons_zero, List.set_cons_succ]
                refine region_skip 41 rfl (by kernel_rfl) (by rfl) hHeld ?_
                try simp only [Act.put, List.setIfInBounds_toArray, List.set_cons_zero, List.set_cons_succ]
                refine region_skip 42 rfl (by kernel_rfl) (by rfl) hHeld ?_
                try simp only [Act.put, List.setIfInBounds_toArray, List.set_cons_zero, List.set_cons_succ]
                refine region_skip 43 rfl (by kernel_rfl) (by rfl) hHeld ?_
                try simp only [Act.put, List.setIfInBounds_toArray, List.set_cons_zero, List.set_cons_succ]
                refine region_skip 44 rfl (by kernel_rfl) (by rfl) hHeld ?_
                try simp only [Act.put, List.setIfInBounds_toArray, List.set_cons_zero, List.set_cons_succ]
                refine region_skip 45 rfl (by kernel_rfl) (by rfl) hHeld ?_
                try simp only [Act.put, List.setIfInBounds_toArray, List.set_cons_zero, List.set_cons_succ]
                refine region_take 46 ?_ rfl (by kernel_rfl) (by rfl) hHeld ?_ ?_
                rotate_left
                · intro w hSw
                  (try dsimp only at hSw)
                  go_simp
                  try with_reducible rfl
                try simp only [Act.put, List.setIfInBounds_toArray, List.set_cons_zero, List.set_cons_succ]
                refine region_take 47 ?_ rfl (by kernel_rfl) (by rfl) hHeld ?_ ?_
                rotate_left
                · intro w hSw
                  (try dsimp only at hSw)
                  go_simp
                  try with_reducible rfl
                try simp only [Act.put, List.setIfInBounds_toArray, List.set_cons_zero, List.set_cons_succ]
                refine region_done (by kernel_rfl) ?_
                clear hHeld
                generalize wr.drew = wd at *
                clear HSS HKEEP
                have HKEEP : Hid (∀ W W' : World, Below w1.heap.size W W' → (fun W => W.cell? ⟨g, o + p * 3, none⟩ = some (.int .i64 yo) ∧ W.cell? ⟨g, o + p * 3 + 1, none⟩ = some (.int .i64 yA) ∧ W.cell? ⟨g, o + p * 3 + 2, none⟩ = some (.int .i64 yB)) W → (fun W => W.cell? ⟨g, o + p * 3, none⟩ = some (.int .i64 yo) ∧ W.cell? ⟨g, o + p * 3 + 1, none⟩ = some (.int .i64 yA) ∧ W.cell? ⟨g, o + p * 3 + 2, none⟩ = some (.int .i64 yB)) W') := Lib.hid fun W W' hb ⟨h0, h1, h2⟩ => ⟨(hb.cell (by simp only; exact HGL.out)).trans h0, (hb.cell (by simp only; exact HGL.out)).trans h1, (hb.cell (by simp only; exact HGL.out)).trans h2⟩
                have HSS : Hid ((fun W => W.cell? ⟨g, o + p * 3, none⟩ = some (.int .i64 yo) ∧ W.cell? ⟨g, o + p * 3 + 1, none⟩ = some (.int .i64 yA) ∧ W.cell? ⟨g, o + p * 3 + 2, none⟩ = some (.int .i64 yB)) wd.drew) := Lib.hid ⟨r0, r1, r2⟩
                have hgd := HGW.out.next (w1 := wd.drew) (below_drewN (Below.refl _ _) 1)
                obtain ⟨Ao, ca, rfl, -, -⟩ := own_slice hgd.ownA
                rw [HAL.out] at hgd
                have HGD := Lib.hid (show RdGrow wd.drew w1.heap.size (2, xA, xB) (.slice none 0 0) (.slice Ao i' ca) (.slice none 0 0) [] ats [] from hgd)
                have HLN := Lib.hid (show Below wd.drew.heap.size wd.drew (wd.alloc (.cells #[.int .i64 yo, .int .i64 yA, .int .i64 yB] 53)).drew from (Below.refl _ _).alloc (Nat.le_refl _) _)
                have hgl := HGD.out.next (w1 := (wd.alloc (.cells #[.int .i64 yo, .int .i64 yA, .int .i64 yB] 53)).drew) HLN.out
                have hown := hgl.ownA
                rw [HAL.out] at hown
                have HOWN := Lib.hid hown
                have HWL := Lib.hid hgl.whole
                have HKF := Lib.hid hgl.kA
                have cb : wd.drew.cell? ⟨w1.heap.size, 4, none⟩ = some (.slice Ao i' ca) := HGD.out.whole.cell 4
                have cbL : (wd.alloc (.cells #[.int .i64 yo, .int .i64 yA, .int .i64 yB] 53)).drew.cell? ⟨w1.heap.size, 4, none⟩ = some (.slice Ao i' ca) := hgl.whole.cell 4
                have HLH : Hid (Holds (wd.alloc (.cells #[.int .i64 yo, .int .i64 yA, .int .i64 yB] 53)).drew (some ⟨wd.heap.size, 0, none⟩) (nodesV [(yo, yA, yB)])) := Lib.hid (holds_at wd.drew #[.int .i64 yo, .int .i64 yA, .int .i64 yB] 53 _ rfl)
                have HZS : Hid (w1.heap.size ≤ wd.drew.heap.size) := Lib.hid HBD.out.size
                clear hgd hgl hown
                go_wp2_with fail
                clear r0 r1 r2 r3
                refine region_begin_any (S := fun W => W.cell? ⟨g, o + p * 3, none⟩ = some (.int .i64 yo) ∧ W.cell? ⟨g, o + p * 3 + 1, none⟩ = some (.int .i64 yA) ∧ W.cell? ⟨g, o + p * 3 + 2, none⟩ = some (.int .i64 yB)) (by kernel_rfl) (HSS.out) (fun W hW hHeld => ?_)
                subst hW
                refine region_take 0 ?_ rfl (by kernel_rfl) (by rfl) hHeld ?_ ?_
                rotate_left
                · intro w hSw
                  (try dsimp only at hSw)
                  go_simp
                  try with_reducible rfl
                try simp only [Act.put, List.setIfInBounds_toArray, List.set_cons_zero, List.set_cons_succ]
                refine region_take 2 ?_ rfl (by kernel_rfl) (by rfl) hHeld ?_ ?_
                rotate_left
                · intro w hSw
                  (try dsimp only at hSw)
                  go_simp
                  try with_reducible rfl
                try simp only [Act.put, List.setIfInBounds_toArray, List.set_cons_zero, List.set_cons_succ]
                refine region_take 3 ?_ rfl (by kernel_rfl) (by rfl) hHeld ?_ ?_
                rotate_left
                · intro w hSw
                  (try dsimp only at hSw)
                  go_simp
                  try with_reducible rfl
                try simp only [Act.put, List.setIfInBounds_toArray, List.set_cons_zero, List.set_cons_succ]
                refine region_take 4 ?_ rfl (by kernel_rfl) (by rfl) hHeld ?_ ?_
                rotate_left
                · intro w hSw
                  (try dsimp only at hSw)
                  go_simp
                  try with_reducible rfl
                try simp only [Act.put, List.setIfInBounds_toArray, List.set_cons_zero, List.set_cons_succ]
                refine region_take 5 ?_ rfl (by kernel_rfl) (by rfl) hHeld ?_ ?_
                rotate_left
                · intro w hSw
                  (try dsimp only at hSw)
                  go_simp
                  try with_reducible rfl
                try simp only [Act.put, List.setIfInBounds_toArray, List.set_cons_zero, List.set_cons_succ]
                refine region_two 1 6 rfl rfl (by kernel_rfl) (by rfl) (by rfl) (fun K hK => ?_) (fun K hK => ?_)
                · go_simp
                  refine hK.out _ _ (hHeld) (fun hHeld => ?_)
                  clear hK K
                  try simp only [Act.put, List.setIfInBounds_toArray, List.set_cons_zero, List.set_cons_succ]
                  refine region_call 6 rfl (by kernel_rfl) (by rfl) (fun K hK => ?_)
                  go_simp
                  refine hK.out _ _ (HKEEP.out _ _ (HLN.out.mono HZS.out) hHeld) (fun hHeld => ?_)
                  clear hK K
                  try simp only [Act.put, List.setIfInBounds_toArray, List.set_cons_zero, List.set_cons_succ]
                  refine region_call 7 rfl (by kernel_rfl) (by rfl) (fun K hK => ?_)
                  refine wp_append_at (.tmp 95) (.tmp 100) 22 22 _ rfl Tryd.underlying22 53 _ 3 24 infoNode rfl (by decide) Tryd.underlying22 (.slice Ao i' ca) i' 1 _ _ rfl HOWN.out (some ⟨wd.heap.size, 0, none⟩) 1 rfl ⟨by omega, by omega, fun h => by cases h⟩ HLH.out rfl nodesV_one (by omega) (by decide) ?_
                  intro v6 w6 hown6 hmv6
                  refine hK.out _ _ (HKEEP.out _ _ (hmv6.below (B := w1.heap.size) (Nat.le_trans HZS.out HLN.out.size) (fun g hg => Nat.le_of_lt (HKF.out g hg))) hHeld) (fun hHeld => ?_)
                  clear hK K
                  obtain ⟨F6, c6, rfl, -, -⟩ := own_slice hown6
                  have hw6 := HWL.out.only hmv6.only (fun e => by have := HKF.out _ e; omega)
                  have cb6 : w6.cell? ⟨w1.heap.size, 4, none⟩ = some (.slice Ao i' ca) := hw6.cell 4
                  have fb6 : w6.frozen? ⟨w1.heap.size, 4, none⟩ = false := hw6.frozen 4
                  have HO6 := Lib.hid hown6
                  have HM6 := Lib.hid hmv6
                  clear hown6 hmv6 hw6
                  try simp only [Act.put, List.setIfInBounds_toArray, List.set_cons_zero, List.set_cons_succ]
                  refine region_take 8 ?_ rfl (by kernel_rfl) (by rfl) hHeld ?_ ?_
                  rotate_left
                  · intro w hSw
                    (try dsimp only at hSw)
                    go_simp
                    try with_reducible rfl
                  try simp only [Act.put, List.setIfInBounds_toArray, List.set_cons_zero, List.set_cons_succ]
                  refine region_call 9 rfl (by kernel_rfl) (by rfl) (fun K hK => ?_)
                  go_simp
                  refine hK.out _ _ (HKEEP.out _ _ ((Only.set_ (Only.refl (fun k => k = w1.heap.size) w6) (.inl rfl) 4 (.slice F6 (i' + 1) c6)).below (Nat.le_trans HZS.out (Nat.le_trans HLN.out.size HM6.out.only.size)) (fun k hk e => by omega)) hHeld) (fun hHeld => ?_)
                  clear hK K
                  try simp only [Act.put, List.setIfInBounds_toArray, List.set_cons_zero, List.set_cons_succ]
                  refine region_done (by kernel_rfl) ?_
                  clear hHeld
                  obtain ⟨hg8, hb8⟩ := HGD.out.addA (x := (yo, yA, yB)) HLN.out (by rw [HAL.out]; exact HO6.out) HM6.out
                  generalize w6.setCell ⟨w1.heap.size, 4, none⟩ (.slice F6 (i' + 1) c6) = W8 at *
                  have HG8 := Lib.hid hg8
                  have HB8 := Lib.hid (HBD.out.trans ((show Below w1.heap.size wd wd.drew from below_drewN (Below.refl _ _) 1).trans hb8))
                  clear hg8 hb8 cb cbL cb6 fb6
                  have ep1 := IntWalk.i64_in ((p : Int) + 1) (by omega)
                  go_wp2_with fail
                  go_roundw
                  case rel => exact ⟨i' + 1, p + 1, _, ats ++ [(yo, yA, yB)], by go_num, by go_num, by have := HP1.out; omega, by omega, by omega, by rw [List.length_append, HAL.out]; rfl, HC2, HG8, HFN1, HLST1, HB8⟩
                  case measure => simp [intOf] <;> omega
                · go_simp
                  refine hK.out _ _ (HKEEP.out _ _ (HLN.out.mono HZS.out) hHeld) (fun hHeld => ?_)
                  clear hK K
                  try simp only [Act.put, List.setIfInBounds_toArray, List.set_cons_zero, List.set_cons_succ]
                  refine region_call 1 rfl (by kernel_rfl) (by rfl) (fun K hK => ?_)
                  go_simp
                  refine hK.out _ _ (hHeld) (fun hHeld => ?_)
                  clear hK K
                  try simp only [Act.put, List.setIfInBounds_toArray, List.set_cons_zero, List.set_cons_succ]
                  refine region_call 7 rfl (by kernel_rfl) (by rfl) (fun K hK => ?_)
                  refine wp_append_at (.tmp 95) (.tmp 100) 22 22 _ rfl Tryd.underlying22 53 _ 3 24 infoNode rfl (by decide) Tryd.underlying22 (.slice Ao i' ca) i' 1 _ _ rfl HOWN.out (some ⟨wd.heap.size, 0, none⟩) 1 rfl ⟨by omega, by omega, fun h => by cases h⟩ HLH.out rfl nodesV_one (by omega) (by decide) ?_
                  intro v6 w6 hown6 hmv6
                  refine hK.out _ _ (HKEEP.out _ _ (hmv6.below (B := w1.heap.size) (Nat.le_trans HZS.out HLN.out.size) (fun g hg => Nat.le_of_lt (HKF.out g hg))) hHeld) (fun hHeld => ?_)
                  clear hK K
                  obtain ⟨F6, c6, rfl, -, -⟩ := own_slice hown6
                  have hw6 := HWL.out.only hmv6.only (fun e => by have := HKF.out _ e; omega)
                  have cb6 : w6.cell? ⟨w1.heap.size, 4, none⟩ = some (.slice Ao i' ca) := hw6.cell 4
                  have fb6 : w6.frozen? ⟨w1.heap.size, 4, none⟩ = false := hw6.frozen 4
                  have HO6 := Lib.hid hown6
                  have HM6 := Lib.hid hmv6
                  clear hown6 hmv6 hw6
                  try simp only [Act.put, List.setIfInBounds_toArray, List.set_cons_zero, List.set_cons_succ]
                  refine region_take 8 ?_ rfl (by kernel_rfl) (by rfl) hHeld ?_ ?_
                  rotate_left
                  · intro w hSw
                    (try dsimp only at hSw)
                    go_simp
                    try with_reducible rfl
                  try simp only [Act.put, List.setIfInBounds_toArray, List.set_cons_zero, List.set_cons_succ]
                  refine region_call 9 rfl (by kernel_rfl) (by rfl) (fun K hK => ?_)
                  go_simp
                  refine hK.out _ _ (HKEEP.out _ _ ((Only.set_ (Only.refl (fun k => k = w1.heap.size) w6) (.inl rfl) 4 (.slice F6 (i' + 1) c6)).below (Nat.le_trans HZS.out (Nat.le_trans HLN.out.size HM6.out.only.size)) (fun k hk e => by omega)) hHeld) (fun hHeld => ?_)
                  clear hK K
                  try simp only [Act.put, List.setIfInBounds_toArray, List.set_cons_zero, List.set_cons_succ]
                  refine region_done (by kernel_rfl) ?_
                  clear hHeld
                  obtain ⟨hg8, hb8⟩ := HGD.out.addA (x := (yo, yA, yB)) HLN.out (by rw [HAL.out]; exact HO6.out) HM6.out
                  generalize w6.setCell ⟨w1.heap.size, 4, none⟩ (.slice F6 (i' + 1) c6) = W8 at *
                  have HG8 := Lib.hid hg8
                  have HB8 := Lib.hid (HBD.out.trans ((show Below w1.heap.size wd wd.drew from below_drewN (Below.refl _ _) 1).trans hb8))
                  clear hg8 hb8 cb cbL cb6 fb6
                  have ep1 := IntWalk.i64_in ((p : Int) + 1) (by omega)
                  go_wp2_with fail
                  go_roundw
                  case rel => exact ⟨i' + 1, p + 1, _, ats ++ [(yo, yA, yB)], by go_num, by go_num, by have := HP1.out; omega, by omega, by omega, by rw [List.length_append, HAL.out]; rfl, HC2, HG8, HFN1, HLST1, HB8⟩
                  case measure => simp [intOf] <;> omega
              · by_cases hzy : yA ≤ zA
                · have HTN := Lib.hid (HTY.out (by rw [decide_eq_false_iff_not]; have := HZ2.out; rw [if_neg hi0] at this; rintro ⟨-, -, -, h | h⟩; omega; omega))
                  have HI0 := Lib.hid hi0
                  have HZY := Lib.hid hzy
                  clear hi0 hzy
                  clear h3 HTY HCY
                  go_wp2_with fail
                  have ege0 : decide (n ≤ p) = false := by rw [decide_eq_false_iff_not]; have := hpl; omega
                  have ege1 : decide ((n : Int) ≤ (p : Int)) = false := by rw [decide_eq_false_iff_not]; have := hpl; omega
                  have ege2 : decide ((p : Int) ≥ (n : Int)) = false := by rw [decide_eq_false_iff_not]; have := hpl; omega
                  have egt0 : decide (0 < i') = true := by rw [decide_eq_true_iff]; have := HI0.out; omega
                  have egt1 : decide (0 < (i' : Int)) = true := by rw [decide_eq_true_iff]; have := HI0.out; omega
                  have egt2 : decide ((i' : Int) > 0) = true := by rw [decide_eq_true_iff]; have := HI0.out; omega
                  have ele0 : decide (yA ≤ zA) = true := by rw [decide_eq_true_iff]; have := HZY.out; omega
                  refine region_begin_any (S := fun W => W.cell? ⟨g, o + p * 3, none⟩ = some (.int .i64 yo) ∧ W.cell? ⟨g, o + p * 3 + 1, none⟩ = some (.int .i64 yA) ∧ W.cell? ⟨g, o + p * 3 + 2, none⟩ = some (.int .i64 yB) ∧ W.cell? ⟨g, o + i' * 3 + 1, none⟩ = some (.int .i64 zA)) (by kernel_rfl) (HSS.out) (fun W hW hHeld => ?_)
                  subst hW
                  refine region_take 0 ?_ rfl (by kernel_rfl) (by rfl) hHeld ?_ ?_
                  rotate_left
                  · intro w hSw
                    (try dsimp only at hSw)
                    go_simp
                    try with_reducible rfl
                  try simp only [Act.put, List.setIfInBounds_toArray, List.set_cons_zero, List.set_cons_succ]
                  refine region_take 1 ?_ rfl (by kernel_rfl) (by rfl) hHeld ?_ ?_
                  rotate_left
                  · intro w hSw
                    (try dsimp only at hSw)
                    go_simp
                    try with_reducible rfl
                  try simp only [Act.put, List.setIfInBounds_toArray, List.set_cons_zero, List.set_cons_succ]
                  refine region_take 2 ?_ rfl (by kernel_rfl) (by rfl) hHeld ?_ ?_
                  rotate_left
                  · intro w hSw
                    (try dsimp only at hSw)
                    go_simp
                    try with_reducible rfl
                  try simp only [Act.put, List.setIfInBounds_toArray, List.set_cons_zero, List.set_cons_succ]
                  refine region_take 3 ?_ rfl (by kernel_rfl) (by rfl) hHeld ?_ ?_
                  rotate_left
                  · intro w hSw
                    (try dsimp only at hSw)
                    go_simp
                    try with_reducible rfl
                  try simp only [Act.put, List.setIfInBounds_toArray, List.set_cons_zero, List.set_cons_succ]
                  refine region_take 4 ?_ rfl (by kernel_rfl) (by rfl) hHeld ?_ ?_
                  rotate_left
                  · intro w hSw
                    (try dsimp only at hSw)
                    go_simp
                    try with_reducible rfl
                  try simp only [Act.put, List.setIfInBounds_toArray, List.set_cons_zero, List.set_cons_succ]
                  refine region_take 5 ?_ rfl (by kernel_rfl) (by rfl) hHeld ?_ ?_
                  rotate_left
                  · intro w hSw
                    (try dsimp only at hSw)
                    go_simp
                    try with_reducible rfl
                  try simp only [Act.put, List.setIfInBounds_toArray, List.set_cons_zero, List.set_cons_succ]
                  refine region_take 6 ?_ rfl (by kernel_rfl) (by rfl) hHeld ?_ ?_
                  rotate_left
                  · intro w hSw
                    (try dsimp only at hSw)
                    go_simp
                    try with_reducible rfl
                  try simp only [Act.put, List.setIfInBounds_toArray, List.set_cons_zero, List.set_cons_succ]
                  refine region_take 7 ?_ rfl (by kernel_rfl) (by rfl) hHeld ?_ ?_
                  rotate_left
                  · intro w hSw
                    (try dsimp only at hSw)
                    go_simp
                    try with_reducible rfl
                  try simp only [Act.put, List.setIfInBounds_toArray, List.set_cons_zero, List.set_cons_succ]
                  refine region_take 8 ?_ rfl (by kernel_rfl) (by rfl) hHeld ?_ ?_
                  rotate_left
                  · intro w hSw
                    (try dsimp only at hSw)
                    go_simp
                    try with_reducible rfl
                  try simp only [Act.put, List.setIfInBounds_toArray, List.set_cons_zero, List.set_cons_succ]
                  refine region_take 9 ?_ rfl (by kernel_rfl) (by rfl) hHeld ?_ ?_
                  rotate_left
                  · intro w hSw
                    (try dsimp only at hSw)
                    go_simp
                    try with_reducible rfl
                  try simp only [Act.put, List.setIfInBounds_toArray, List.set_cons_zero, List.set_cons_succ]
                  refine region_take 10 ?_ rfl (by kernel_rfl) (by rfl) hHeld ?_ ?_
                  rotate_left
                  · intro w hSw
                    (try dsimp only at hSw)
                    go_simp
                    try with_reducible rfl
                  try simp only [Act.put, List.setIfInBounds_toArray, List.set_cons_zero, List.set_cons_succ]
                  refine region_take 11 ?_ rfl (by kernel_rfl) (by rfl) hHeld ?_ ?_
                  rotate_left
                  · intro w hSw
                    (try dsimp only at hSw)
                    go_simp
                    try with_reducible rfl
                  try simp only [Act.put, List.setIfInBounds_toArray, List.set_cons_zero, List.set_cons_succ]
                  refine region_take 12 ?_ rfl (by kernel_rfl) (by rfl) hHeld ?_ ?_
                  rotate_left
                  · intro w hSw
                    (try dsimp only at hSw)
                    go_simp
                    try with_reducible rfl
                  try simp only [Act.put, List.setIfInBounds_toArray, List.set_cons_zero, List.set_cons_succ]
                  refine region_take 13 ?_ rfl (by kernel_rfl) (by rfl) hHeld ?_ ?_
                  rotate_left
                  · intro w hSw
                    (try dsimp only at hSw)
                    go_simp
                    try with_reducible rfl
                  try simp only [Act.put, List.setIfInBounds_toArray, List.set_cons_zero, List.set_cons_succ]
                  refine region_take 14 ?_ rfl (by kernel_rfl) (by rfl) hHeld ?_ ?_
                  rotate_left
                  · intro w hSw
                    (try dsimp only at hSw)
                    go_simp
                    try with_reducible rfl
                  try simp only [Act.put, List.setIfInBounds_toArray, List.set_cons_zero, List.set_cons_succ]
                  refine region_take 15 ?_ rfl (by kernel_rfl) (by rfl) hHeld ?_ ?_
                  rotate_left
                  · intro w hSw
                    (try dsimp only at hSw)
                    go_simp
                    try with_reducible rfl
                  try simp only [Act.put, List.setIfInBounds_toArray, List.set_cons_zero, List.set_cons_succ]
                  refine region_take 16 ?_ rfl (by kernel_rfl) (by rfl) hHeld ?_ ?_
                  rotate_left
                  · intro w hSw
                    (try dsimp only at hSw)
                    go_simp
                    try with_reducible rfl
                  try simp only [Act.put, List.setIfInBounds_toArray, List.set_cons_zero, List.set_cons_succ]
                  refine region_take 17 ?_ rfl (by kernel_rfl) (by rfl) hHeld ?_ ?_
                  rotate_left
                  · intro w hSw
                    (try dsimp only at hSw)
                    go_simp
                    try with_reducible rfl
                  try simp only [Act.put, List.setIfInBounds_toArray, List.set_cons_zero, List.set_cons_succ]
                  refine region_call 18 rfl (by kernel_rfl) (by rfl) (fun K hK => ?_)
                  go_simp
                  refine (within_yes _ _ _ _ hin).mono ?_
                  rintro e w5 ⟨rfl, hw5⟩
                  subst hw5
                  (try dsimp only)
                  refine hK.out _ _ (hHeld) (fun hHeld => ?_)
                  clear hK K
                  try simp only [Act.put, List.setIfInBounds_toArray, List.set_cons_zero, List.set_cons_succ]
                  refine region_take 19 ?_ rfl (by kernel_rfl) (by rfl) hHeld ?_ ?_
                  rotate_left
                  · intro w hSw
                    (try dsimp only at hSw)
                    go_simp
                    try with_reducible rfl
                  try simp only [Act.put, List.setIfInBounds_toArray, List.set_cons_zero, List.set_cons_succ]
                  refine region_take 20 ?_ rfl (by kernel_rfl) (by rfl) hHeld ?_ ?_
                  rotate_left
                  · intro w hSw
                    (try dsimp only at hSw)
                    go_simp
                    try with_reducible rfl
                  try simp only [Act.put, List.setIfInBounds_toArray, List.set_cons_zero, List.set_cons_succ]
                  refine region_take 21 ?_ rfl (by kernel_rfl) (by rfl) hHeld ?_ ?_
                  rotate_left
                  · intro w hSw
                    (try dsimp only at hSw)
                    go_simp
                    try with_reducible rfl
                  try simp only [Act.put, List.setIfInBounds_toArray, List.set_cons_zero, List.set_cons_succ]
                  refine region_take 22 ?_ rfl (by kernel_rfl) (by rfl) hHeld ?_ ?_
                  rotate_left
                  · intro w hSw
                    (try dsimp only at hSw)
                    go_simp
                    try with_reducible rfl
                  try simp only [Act.put, List.setIfInBounds_toArray, List.set_cons_zero, List.set_cons_succ]
                  refine region_take 23 ?_ rfl (by kernel_rfl) (by rfl) hHeld ?_ ?_
                  rotate_left
                  · intro w hSw
                    (try dsimp only at hSw)
                    go_simp
                    try with_reducible rfl
                  try simp only [Act.put, List.setIfInBounds_toArray, List.set_cons_zero, List.set_cons_succ]
                  refine region_take 24 ?_ rfl (by kernel_rfl) (by rfl) hHeld ?_ ?_
                  rotate_left
                  · intro w hSw
                    (try dsimp only at hSw)
                    go_simp
                    try with_reducible rfl
                  try simp only [Act.put, List.setIfInBounds_toArray, List.set_cons_zero, List.set_cons_succ]
                  refine region_take 25 ?_ rfl (by kernel_rfl) (by rfl) hHeld ?_ ?_
                  rotate_left
                  · intro w hSw
                    (try dsimp only at hSw)
                    go_simp
                    try with_reducible rfl
                  try simp only [Act.put, List.setIfInBounds_toArray, List.set_cons_zero, List.set_cons_succ]
                  refine region_take 26 ?_ rfl (by kernel_rfl) (by rfl) hHeld ?_ ?_
                  rotate_left
                  · intro w hSw
                    (try dsimp only at hSw)
                    go_simp
                    try with_reducible rfl
                  try simp only [Act.put, List.setIfInBounds_toArray, List.set_cons_zero, List.set_cons_succ]
                  refine region_call 27 rfl (by kernel_rfl) (by rfl) (fun K hK => ?_)
                  go_simp
                  refine (within_yes _ _ _ _ hin2).mono ?_
                  rintro e w5 ⟨rfl, hw5⟩
                  subst hw5
                  (try dsimp only)
                  refine hK.out _ _ (hHeld) (fun hHeld => ?_)
                  clear hK K
                  try simp only [Act.put, List.setIfInBounds_toArray, List.set_cons_zero, List.set_cons_succ]
                  refine region_take 28 ?_ rfl (by kernel_rfl) (by rfl) hHeld ?_ ?_
                  rotate_left
                  · intro w hSw
                    (try dsimp only at hSw)
                    go_simp
                    try with_reducible rfl
                  try simp only [Act.put, List.setIfInBounds_toArray, List.set_cons_zero, List.set_cons_succ]
                  refine region_take 29 ?_ rfl (by kernel_rfl) (by rfl) hHeld ?_ ?_
                  rotate_left
                  · intro w hSw
                    (try dsimp only at hSw)
                    go_simp
                    try with_reducible rfl
                  try simp only [Act.put, List.setIfInBounds_toArray, List.set_cons_zero, List.set_cons_succ]
                  refine region_take 30 ?_ rfl (by kernel_rfl) (by rfl) hHeld ?_ ?_
                  rotate_left
                  · intro w hSw
                    (try dsimp only at hSw)
                    go_simp
                    try with_reducible rfl
                  try simp only [Act.put, List.setIfInBounds_toArray, List.set_cons_zero, List.set_cons_succ]
                  refine region_take 31 ?_ rfl (by kernel_rfl) (by rfl) hHeld ?_ ?_
                  rotate_left
                  · intro w hSw
                    (try dsimp only at hSw)
                    go_simp
                    try with_reducible rfl
                  try simp only [Act.put, List.setIfInBounds_toArray, List.set_cons_zero, List.set_cons_succ]
                  refine region_take 32 ?_ rfl (by kernel_rfl) (by rfl) hHeld ?_ ?_
                  rotate_left
                  · intro w hSw
                    (try dsimp only at hSw)
                    go_simp
                    try with_reducible rfl
                  try simp only [Act.put, List.setIfInBounds_toArray, List.set_cons_zero, List.set_cons_succ]
                  refine region_take 33 ?_ rfl (by kernel_rfl) (by rfl) hHeld ?_ ?_
                  rotate_left
                  · intro w hSw
                    (try dsimp only at hSw)
                    go_simp
                    try with_reducible rfl
                  try simp only [Act.put, List.setIfInBounds_toArray, List.set_cons_zero, List.set_cons_succ]
                  refine region_take 34 ?_ rfl (by kernel_rfl) (by rfl) hHeld ?_ ?_
                  rotate_left
                  · intro w hSw
                    (try dsimp only at hSw)
                    go_simp
                    try with_reducible rfl
                  try simp only [Act.put, List.setIfInBounds_toArray, List.set_cons_zero, List.set_cons_succ]
                  refine region_take 35 ?_ rfl (by kernel_rfl) (by rfl) hHeld ?_ ?_
                  rotate_left
                  · intro w hSw
                    (try dsimp only at hSw)
                    go_simp
                    try with_reducible rfl
                  try simp only [Act.put, List.setIfInBounds_toArray, List.set_cons_zero, List.set_cons_succ]
                  refine region_take 36 ?_ rfl (by kernel_rfl) (by rfl) hHeld ?_ ?_
                  rotate_left
                  · intro w hSw
                    (try dsimp only at hSw)
                    go_simp
                    try with_reducible rfl
                  try simp only [Act.put, List.setIfInBounds_toArray, List.set_cons_zero, List.set_cons_succ]
                  refine region_take 37 ?_ rfl (by kernel_rfl) (by rfl) hHeld ?_ ?_
                  rotate_left
                  · intro w hSw
                    (try dsimp only at hSw)
                    go_simp
                    try with_reducible rfl
                  try simp only [Act.put, List.setIfInBounds_toArray, List.set_cons_zero, List.set_cons_succ]
                  refine region_take 38 ?_ rfl (by kernel_rfl) (by rfl) hHeld ?_ ?_
                  rotate_left
                  · intro w hSw
                    (try dsimp only at hSw)
                    go_simp
                    try with_reducible rfl
                  try simp only [Act.put, List.setIfInBounds_toArray, List.set_cons_zero, List.set_cons_succ]
                  refine region_take 39 ?_ rfl (by kernel_rfl) (by rfl) hHeld ?_ ?_
                  rotate_left
                  · intro w hSw
                    (try dsimp only at hSw)
                    go_simp
                    try with_reducible rfl
                  try simp only [Act.put, List.setIfInBounds_toArray, List.set_cons_zero, List.set_cons_succ]
                  refine region_take 40 ?_ rfl (by kernel_rfl) (by rfl) hHeld ?_ ?_
                  rotate_left
                  · intro w hSw
                    (try dsimp only at hSw)
                    go_simp
                    try with_reducible rfl
                  try simp only [Act.put, List.setIfInBounds_toArray, List.set_cons_zero, List.set_cons_succ]
                  refine region_take 41 ?_ rfl (by kernel_rfl) (by rfl) hHeld ?_ ?_
                  rotate_left
                  · intro w hSw
                    (try dsimp only at hSw)
                    go_simp
                    try with_reducible rfl
                  try simp only [Act.put, List.setIfInBounds_toArray, List.set_cons_zero, List.set_cons_succ]
                  refine region_take 42 ?_ rfl (by kernel_rfl) (by rfl) hHeld ?_ ?_
                  rotate_left
                  · intro w hSw
                    (try dsimp only at hSw)
                    go_simp
                    try with_reducible rfl
                  try simp only [Act.put, List.setIfInBounds_toArray, List.set_cons_zero, List.set_cons_succ]
                  refine region_take 43 ?_ rfl (by kernel_rfl) (by rfl) hHeld ?_ ?_
                  rotate_left
                  · intro w hSw
                    (try dsimp only at hSw)
                    go_simp
                    try with_reducible rfl
                  try simp only [Act.put, List.setIfInBounds_toArray, List.set_cons_zero, List.set_cons_succ]
                  refine region_take 44 ?_ rfl (by kernel_rfl) (by rfl) hHeld ?_ ?_
                  rotate_left
                  · intro w hSw
                    (try dsimp only at hSw)
                    go_simp
                    try with_reducible rfl
                  try simp only [Act.put, List.setIfInBounds_toArray, List.set_cons_zero, List.set_cons_succ]
                  refine region_take 45 ?_ rfl (by kernel_rfl) (by rfl) hHeld ?_ ?_
                  rotate_left
                  · intro w hSw
                    (try dsimp only at hSw)
                    go_simp
                    try with_reducible rfl
                  try simp only [Act.put, List.setIfInBounds_toArray, List.set_cons_zero, List.set_cons_succ]
                  refine region_take 46 ?_ rfl (by kernel_rfl) (by rfl) hHeld ?_ ?_
                  rotate_left
                  · intro w hSw
                    (try dsimp only at hSw)
                    go_simp
                    try with_reducible rfl
                  try simp only [Act.put, List.setIfInBounds_toArray, List.set_cons_zero, List.set_cons_succ]
                  refine region_take 47 ?_ rfl (by kernel_rfl) (by rfl) hHeld ?_ ?_
                  rotate_left
                  · intro w hSw
                    (try dsimp only at hSw)
                    go_simp
                    try with_reducible rfl
                  try simp only [Act.put, List.setIfInBounds_toArray, List.set_cons_zero, List.set_cons_succ]
                  refine region_done (by kernel_rfl) ?_
                  clear hHeld
                  generalize wr.drew = wd at *
                  have hwz := HZ1.out.below HBD.out HZ1.out.lt
                  have z0 : wd.cell? ⟨w.heap.size, 0, none⟩ = some (.int .i64 0) := hwz.cell 0
                  have f0 := hwz.frozen 0
                  have z1 : wd.cell? ⟨w.heap.size, 1, none⟩ = some (.int .i64 0) := hwz.cell 1
                  have f1 := hwz.frozen 1
                  have z2 : wd.cell? ⟨w.heap.size, 2, none⟩ = some (.int .i64 0) := hwz.cell 2
                  have f2 := hwz.frozen 2
                  have z3 : wd.cell? ⟨w.heap.size, 3, none⟩ = some (.slice none 0 0) := hwz.cell 3
                  have f3 := hwz.frozen 3
                  have z4 : wd.cell? ⟨w.heap.size, 4, none⟩ = some (.slice none 0 0) := hwz.cell 4
                  have f4 := hwz.frozen 4
                  have z5 : wd.cell? ⟨w.heap.size, 5, none⟩ = some (.slice none 0 0) := hwz.cell 5
                  have f5 := hwz.frozen 5
                  have HWZ := Lib.hid hwz
                  clear hwz
                  have HBF := Lib.hid (HBD.out)
                  have HTF : Hid (top0 t = none) := Lib.hid (HTN.out)
                  go_wp2_with fail
                  have hw6 := ((((((HWZ.out).set_ 0 (.int .i64 0)).set_ 1 (.int .i64 0)).set_ 2 (.int .i64 0)).set_ 3 (.slice none 0 0)).set_ 4 (.slice none 0 0)).set_ 5 (.slice none 0 0)
                  have ho6 : Only (fun j => j = w.heap.size) wd ((((((wd.setCell ⟨w.heap.size, 0, none⟩ (.int .i64 0)).setCell ⟨w.heap.size, 1, none⟩ (.int .i64 0)).setCell ⟨w.heap.size, 2, none⟩ (.int .i64 0)).setCell ⟨w.heap.size, 3, none⟩ (.slice none 0 0)).setCell ⟨w.heap.size, 4, none⟩ (.slice none 0 0)).setCell ⟨w.heap.size, 5, none⟩ (.slice none 0 0)) := ((((((Only.refl (fun j => j = w.heap.size) wd).set_ (.inl rfl) 0 _).set_ (.inl rfl) 1 _).set_ (.inl rfl) 2 _).set_ (.inl rfl) 3 _).set_ (.inl rfl) 4 _).set_ (.inl rfl) 5 _
                  generalize ((((((wd.setCell ⟨w.heap.size, 0, none⟩ (.int .i64 0)).setCell ⟨w.heap.size, 1, none⟩ (.int .i64 0)).setCell ⟨w.heap.size, 2, none⟩ (.int .i64 0)).setCell ⟨w.heap.size, 3, none⟩ (.slice none 0 0)).setCell ⟨w.heap.size, 4, none⟩ (.slice none 0 0)).setCell ⟨w.heap.size, 5, none⟩ (.slice none 0 0)) = W6 at *
                  have q0 : W6.cell? ⟨w.heap.size, 0, none⟩ = some (.int .i64 0) := hw6.cell 0
                  have q1 : W6.cell? ⟨w.heap.size, 1, none⟩ = some (.int .i64 0) := hw6.cell 1
                  have q2 : W6.cell? ⟨w.heap.size, 2, none⟩ = some (.int .i64 0) := hw6.cell 2
                  have q3 : W6.cell? ⟨w.heap.size, 3, none⟩ = some (.slice none 0 0) := hw6.cell 3
                  have q4 : W6.cell? ⟨w.heap.size, 4, none⟩ = some (.slice none 0 0) := hw6.cell 4
                  have q5 : W6.cell? ⟨w.heap.size, 5, none⟩ = some (.slice none 0 0) := hw6.cell 5
                  have hb6 := ((HB1.out.trans (HBF.out.mono HB1.out.size))).trans (ho6.below (B := w.heap.size) (Nat.le_trans HB1.out.size HBF.out.size) fun k hk e => by omega)
                  clear hw6 ho6
                  (try simp only [Exit.inBlock, Exit.then])
                  refine bodyPost_ret (by simp [results, Tryd.results42, go_sem, q0, q1, q2, q3, q4, q5]; try rfl) rfl ?_
                  exact ReadPost.no HTF.out hb6
                · have HC1 := Lib.hid (HCY.out (by rw [decide_eq_true_iff]; exact ⟨h3, hin, hin2, .inr (by omega)⟩) h3)
                  have HI0 := Lib.hid hi0
                  have HZY := Lib.hid hzy
                  clear hi0 hzy
                  have HC2 := HC1
                  have HFN1 : Hid (∀ x ∈ ats ++ [(yo, yA, yB)], x.1 = 3) := Lib.hid fun x hx => by
                    rcases List.mem_append.1 hx with hx | hx
                    · exact HFN.out x hx
                    · rw [List.mem_singleton] at hx; subst hx; exact h3
                  have HLST1 : Hid (0 < i' + 1 → ∃ z, t[i' + 1]? = some z ∧ z.1 = 3) := Lib.hid fun _ => ⟨_, HPY.out, h3⟩
                  have HKEEP := HSS
                  clear h3 HTY HCY HZ2 HLST
                  go_wp2_with fail
                  have ege0 : decide (n ≤ p) = false := by rw [decide_eq_false_iff_not]; have := hpl; omega
                  have ege1 : decide ((n : Int) ≤ (p : Int)) = false := by rw [decide_eq_false_iff_not]; have := hpl; omega
                  have ege2 : decide ((p : Int) ≥ (n : Int)) = false := by rw [decide_eq_false_iff_not]; have := hpl; omega
                  have egt0 : decide (0 < i') = true := by rw [decide_eq_true_iff]; have := HI0.out; omega
                  have egt1 : decide (0 < (i' : Int)) = true := by rw [decide_eq_true_iff]; have := HI0.out; omega
                  have egt2 : decide ((i' : Int) > 0) = true := by rw [decide_eq_true_iff]; have := HI0.out; omega
                  have ele0 : decide (yA ≤ zA) = false := by rw [decide_eq_false_iff_not]; have := HZY.out; omega
                  refine region_begin_any (S := fun W => W.cell? ⟨g, o + p * 3, none⟩ = some (.int .i64 yo) ∧ W.cell? ⟨g, o + p * 3 + 1, none⟩ = some (.int .i64 yA) ∧ W.cell? ⟨g, o + p * 3 + 2, none⟩ = some (.int .i64 yB) ∧ W.cell? ⟨g, o + i' * 3 + 1, none⟩ = some (.int .i64 zA)) (by kernel_rfl) (HSS.out) (fun W hW hHeld => ?_)
                  subst hW
                  refine region_take 0 ?_ rfl (by kernel_rfl) (by rfl) hHeld ?_ ?_
                  rotate_left
                  · intro w hSw
                    (try dsimp only at hSw)
                    go_simp
                    try with_reducible rfl
                  try simp only [Act.put, List.setIfInBounds_toArray, List.set_cons_zero, List.set_cons_succ]
                  refine region_take 1 ?_ rfl (by kernel_rfl) (by rfl) hHeld ?_ ?_
                  rotate_left
                  · intro w hSw
                    (try dsimp only at hSw)
                    go_simp
                    try with_reducible rfl
                  try simp only [Act.put, List.setIfInBounds_toArray, List.set_cons_zero, List.set_cons_succ]
                  refine region_take 2 ?_ rfl (by kernel_rfl) (by rfl) hHeld ?_ ?_
                  rotate_left
                  · intro w hSw
                    (try dsimp only at hSw)
                    go_simp
                    try with_reducible rfl
                  try simp only [Act.put, List.setIfInBounds_toArray, List.set_cons_zero, List.set_cons_succ]
                  refine region_take 3 ?_ rfl (by kernel_rfl) (by rfl) hHeld ?_ ?_
                  rotate_left
                  · intro w hSw
                    (try dsimp only at hSw)
                    go_simp
                    try with_reducible rfl
                  try simp only [Act.put, List.setIfInBounds_toArray, List.set_cons_zero, List.set_cons_succ]
                  refine region_take 4 ?_ rfl (by kernel_rfl) (by rfl) hHeld ?_ ?_
                  rotate_left
                  · intro w hSw
                    (try dsimp only at hSw)
                    go_simp
                    try with_reducible rfl
                  try simp only [Act.put, List.setIfInBounds_toArray, List.set_cons_zero, List.set_cons_succ]
                  refine region_take 5 ?_ rfl (by kernel_rfl) (by rfl) hHeld ?_ ?_
                  rotate_left
                  · intro w hSw
                    (try dsimp only at hSw)
                    go_simp
                    try with_reducible rfl
                  try simp only [Act.put, List.setIfInBounds_toArray, List.set_cons_zero, List.set_cons_succ]
                  refine region_take 6 ?_ rfl (by kernel_rfl) (by rfl) hHeld ?_ ?_
                  rotate_left
                  · intro w hSw
                    (try dsimp only at hSw)
                    go_simp
                    try with_reducible rfl
                  try simp only [Act.put, List.setIfInBounds_toArray, List.set_cons_zero, List.set_cons_succ]
                  refine region_take 7 ?_ rfl (by kernel_rfl) (by rfl) hHeld ?_ ?_
                  rotate_left
                  · intro w hSw
                    (try dsimp only at hSw)
                    go_simp
                    try with_reducible rfl
                  try simp only [Act.put, List.setIfInBounds_toArray, List.set_cons_zero, List.set_cons_succ]
                  refine region_take 8 ?_ rfl (by kernel_rfl) (by rfl) hHeld ?_ ?_
                  rotate_left
                  · intro w hSw
                    (try dsimp only at hSw)
                    go_simp
                    try with_reducible rfl
                  try simp only [Act.put, List.setIfInBounds_toArray, List.set_cons_zero, List.set_cons_succ]
                  refine region_take 9 ?_ rfl (by kernel_rfl) (by rfl) hHeld ?_ ?_
                  rotate_left
                  · intro w hSw
                    (try dsimp only at hSw)
                    go_simp
                    try with_reducible rfl
                  try simp only [Act.put, List.setIfInBounds_toArray, List.set_cons_zero, List.set_cons_succ]
                  refine region_take 10 ?_ rfl (by kernel_rfl) (by rfl) hHeld ?_ ?_
                  rotate_left
                  · intro w hSw
                    (try dsimp only at hSw)
                    go_simp
                    try with_reducible rfl
                  try simp only [Act.put, List.setIfInBounds_toArray, List.set_cons_zero, List.set_cons_succ]
                  refine region_take 11 ?_ rfl (by kernel_rfl) (by rfl) hHeld ?_ ?_
                  rotate_left
                  · intro w hSw
                    (try dsimp only at hSw)
                    go_simp
                    try with_reducible rfl
                  try simp only [Act.put, List.setIfInBounds_toArray, List.set_cons_zero, List.set_cons_succ]
                  refine region_take 12 ?_ rfl (by kernel_rfl) (by rfl) hHeld ?_ ?_
                  rotate_left
                  · intro w hSw
                    (try dsimp only at hSw)
                    go_simp
                    try with_reducible rfl
                  try simp only [Act.put, List.setIfInBounds_toArray, List.set_cons_zero, List.set_cons_succ]
                  refine region_take 13 ?_ rfl (by kernel_rfl) (by rfl) hHeld ?_ ?_
                  rotate_left
                  · intro w hSw
                    (try dsimp only at hSw)
                    go_simp
                    try with_reducible rfl
                  try simp only [Act.put, List.setIfInBounds_toArray, List.set_cons_zero, List.set_cons_succ]
                  refine region_take 14 ?_ rfl (by kernel_rfl) (by rfl) hHeld ?_ ?_
                  rotate_left
                  · intro w hSw
                    (try dsimp only at hSw)
                    go_simp
                    try with_reducible rfl
                  try simp only [Act.put, List.setIfInBounds_toArray, List.set_cons_zero, List.set_cons_succ]
                  refine region_take 15 ?_ rfl (by kernel_rfl) (by rfl) hHeld ?_ ?_
                  rotate_left
                  · intro w hSw
                    (try dsimp only at hSw)
                    go_simp
                    try with_reducible rfl
                  try simp only [Act.put, List.setIfInBounds_toArray, List.set_cons_zero, List.set_cons_succ]
                  refine region_take 16 ?_ rfl (by kernel_rfl) (by rfl) hHeld ?_ ?_
                  rotate_left
                  · intro w hSw
                    (try dsimp only at hSw)
                    go_simp
                    try with_reducible rfl
                  try simp only [Act.put, List.setIfInBounds_toArray, List.set_cons_zero, List.set_cons_succ]
                  refine region_take 17 ?_ rfl (by kernel_rfl) (by rfl) hHeld ?_ ?_
                  rotate_left
                  · intro w hSw
                    (try dsimp only at hSw)
                    go_simp
                    try with_reducible rfl
                  try simp only [Act.put, List.setIfInBounds_toArray, List.set_cons_zero, List.set_cons_succ]
                  refine region_call 18 rfl (by kernel_rfl) (by rfl) (fun K hK => ?_)
                  go_simp
                  refine (within_yes _ _ _ _ hin).mono ?_
                  rintro e w5 ⟨rfl, hw5⟩
                  subst hw5
                  (try dsimp only)
                  refine hK.out _ _ (hHeld) (fun hHeld => ?_)
                  clear hK K
                  try simp only [Act.put, List.setIfInBounds_toArray, List.set_cons_zero, List.set_cons_succ]
                  refine region_take 19 ?_ rfl (by kernel_rfl) (by rfl) hHeld ?_ ?_
                  rotate_left
                  · intro w hSw
                    (try dsimp only at hSw)
                    go_simp
                    try with_reducible rfl
                  try simp only [Act.put, List.setIfInBounds_toArray, List.set_cons_zero, List.set_cons_succ]
                  refine region_take 20 ?_ rfl (by kernel_rfl) (by rfl) hHeld ?_ ?_
                  rotate_left
                  · intro w hSw
                    (try dsimp only at hSw)
                    go_simp
                    try with_reducible rfl
                  try simp only [Act.put, List.setIfInBounds_toArray, List.set_cons_zero, List.set_cons_succ]
                  refine region_take 21 ?_ rfl (by kernel_rfl) (by rfl) hHeld ?_ ?_
                  rotate_left
                  · intro w hSw
                    (try dsimp only at hSw)
                    go_simp
                    try with_reducible rfl
                  try simp only [Act.put, List.setIfInBounds_toArray, List.set_cons_zero, List.set_cons_succ]
                  refine region_take 22 ?_ rfl (by kernel_rfl) (by rfl) hHeld ?_ ?_
                  rotate_left
                  · intro w hSw
                    (try dsimp only at hSw)
                    go_simp
                    try with_reducible rfl
                  try simp only [Act.put, List.setIfInBounds_toArray, List.set_cons_zero, List.set_cons_succ]
                  refine region_take 23 ?_ rfl (by kernel_rfl) (by rfl) hHeld ?_ ?_
                  rotate_left
                  · intro w hSw
                    (try dsimp only at hSw)
                    go_simp
                    try with_reducible rfl
                  try simp only [Act.put, List.setIfInBounds_toArray, List.set_cons_zero, List.set_cons_succ]
                  refine region_take 24 ?_ rfl (by kernel_rfl) (by rfl) hHeld ?_ ?_
                  rotate_left
                  · intro w hSw
                    (try dsimp only at hSw)
                    go_simp
                    try with_reducible rfl
                  try simp only [Act.put, List.setIfInBounds_toArray, List.set_cons_zero, List.set_cons_succ]
                  refine region_take 25 ?_ rfl (by kernel_rfl) (by rfl) hHeld ?_ ?_
                  rotate_left
                  · intro w hSw
                    (try dsimp only at hSw)
                    go_simp
                    try with_reducible rfl
                  try simp only [Act.put, List.setIfInBounds_toArray, List.set_cons_zero, List.set_cons_succ]
                  refine region_take 26 ?_ rfl (by kernel_rfl) (by rfl) hHeld ?_ ?_
                  rotate_left
                  · intro w hSw
                    (try dsimp only at hSw)
                    go_simp
                    try with_reducible rfl
                  try simp only [Act.put, List.setIfInBounds_toArray, List.set_cons_zero, List.set_cons_succ]
                  refine region_call 27 rfl (by kernel_rfl) (by rfl) (fun K hK => ?_)
                  go_simp
                  refine (within_yes _ _ _ _ hin2).mono ?_
                  rintro e w5 ⟨rfl, hw5⟩
                  subst hw5
                  (try dsimp only)
                  refine hK.out _ _ (hHeld) (fun hHeld => ?_)
                  clear hK K
                  try simp only [Act.put, List.setIfInBounds_toArray, List.set_cons_zero, List.set_cons_succ]
                  refine region_take 28 ?_ rfl (by kernel_rfl) (by rfl) hHeld ?_ ?_
                  rotate_left
                  · intro w hSw
                    (try dsimp only at hSw)
                    go_simp
                    try with_reducible rfl
                  try simp only [Act.put, List.setIfInBounds_toArray, List.set_cons_zero, List.set_cons_succ]
                  refine region_take 29 ?_ rfl (by kernel_rfl) (by rfl) hHeld ?_ ?_
                  rotate_left
                  · intro w hSw
                    (try dsimp only at hSw)
                    go_simp
                    try with_reducible rfl
                  try simp only [Act.put, List.setIfInBounds_toArray, List.set_cons_zero, List.set_cons_succ]
                  refine region_take 30 ?_ rfl (by kernel_rfl) (by rfl) hHeld ?_ ?_
                  rotate_left
                  · intro w hSw
                    (try dsimp only at hSw)
                    go_simp
                    try with_reducible rfl
                  try simp only [Act.put, List.setIfInBounds_toArray, List.set_cons_zero, List.set_cons_succ]
                  refine region_take 31 ?_ rfl (by kernel_rfl) (by rfl) hHeld ?_ ?_
                  rotate_left
                  · intro w hSw
                    (try dsimp only at hSw)
                    go_simp
                    try with_reducible rfl
                  try simp only [Act.put, List.setIfInBounds_toArray, List.set_cons_zero, List.set_cons_succ]
                  refine region_take 32 ?_ rfl (by kernel_rfl) (by rfl) hHeld ?_ ?_
                  rotate_left
                  · intro w hSw
                    (try dsimp only at hSw)
                    go_simp
                    try with_reducible rfl
                  try simp only [Act.put, List.setIfInBounds_toArray, List.set_cons_zero, List.set_cons_succ]
                  refine region_take 33 ?_ rfl (by kernel_rfl) (by rfl) hHeld ?_ ?_
                  rotate_left
                  · intro w hSw
                    (try dsimp only at hSw)
                    go_simp
                    try with_reducible rfl
                  try simp only [Act.put, List.setIfInBounds_toArray, List.set_cons_zero, List.set_cons_succ]
                  refine region_take 34 ?_ rfl (by kernel_rfl) (by rfl) hHeld ?_ ?_
                  rotate_left
                  · intro w hSw
                    (try dsimp only at hSw)
                    go_simp
                    try with_reducible rfl
                  try simp only [Act.put, List.setIfInBounds_toArray, List.set_cons_zero, List.set_cons_succ]
                  refine region_take 35 ?_ rfl (by kernel_rfl) (by rfl) hHeld ?_ ?_
                  rotate_left
                  · intro w hSw
                    (try dsimp only at hSw)
                    go_simp
                    try with_reducible rfl
                  try simp only [Act.put, List.setIfInBounds_toArray, List.set_cons_zero, List.set_cons_succ]
                  refine region_take 36 ?_ rfl (by kernel_rfl) (by rfl) hHeld ?_ ?_
                  rotate_left
                  · intro w hSw
                    (try dsimp only at hSw)
                    go_simp
                    try with_reducible rfl
                  try simp only [Act.put, List.setIfInBounds_toArray, List.set_cons_zero, List.set_cons_succ]
                  refine region_take 37 ?_ rfl (by kernel_rfl) (by rfl) hHeld ?_ ?_
                  rotate_left
                  · intro w hSw
                    (try dsimp only at hSw)
                    go_simp
                    try with_reducible rfl
                  try simp only [Act.put, List.setIfInBounds_toArray, List.set_cons_zero, List.set_cons_succ]
                  refine region_take 38 ?_ rfl (by kernel_rfl) (by rfl) hHeld ?_ ?_
                  rotate_left
                  · intro w hSw
                    (try dsimp only at hSw)
                    go_simp
                    try with_reducible rfl
                  try simp only [Act.put, List.setIfInBounds_toArray, List.set_cons_zero, List.set_cons_succ]
                  refine region_take 39 ?_ rfl (by kernel_rfl) (by rfl) hHeld ?_ ?_
                  rotate_left
                  · intro w hSw
                    (try dsimp only at hSw)
                    go_simp
                    try with_reducible rfl
                  try simp only [Act.put, List.setIfInBounds_toArray, List.set_cons_zero, List.set_cons_succ]
                  refine region_take 40 ?_ rfl (by kernel_rfl) (by rfl) hHeld ?_ ?_
                  rotate_left
                  · intro w hSw
                    (try dsimp only at hSw)
                    go_simp
                    try with_reducible rfl
                  try simp only [Act.put, List.setIfInBounds_toArray, List.set_cons_zero, List.set_cons_succ]
                  refine region_take 41 ?_ rfl (by kernel_rfl) (by rfl) hHeld ?_ ?_
                  rotate_left
                  · intro w hSw
                    (try dsimp only at hSw)
                    go_simp
                    try with_reducible rfl
                  try simp only [Act.put, List.setIfInBounds_toArray, List.set_cons_zero, List.set_cons_succ]
                  refine region_take 42 ?_ rfl (by kernel_rfl) (by rfl) hHeld ?_ ?_
                  rotate_left
                  · intro w hSw
                    (try dsimp only at hSw)
                    go_simp
                    try with_reducible rfl
                  try simp only [Act.put, List.setIfInBounds_toArray, List.set_cons_zero, List.set_cons_succ]
                  refine region_take 43 ?_ rfl (by kernel_rfl) (by rfl) hHeld ?_ ?_
                  rotate_left
                  · intro w hSw
                    (try dsimp only at hSw)
                    go_simp
                    try with_reducible rfl
                  try simp only [Act.put, List.setIfInBounds_toArray, List.set_cons_zero, List.set_cons_succ]
                  refine region_take 44 ?_ rfl (by kernel_rfl) (by rfl) hHeld ?_ ?_
                  rotate_left
                  · intro w hSw
                    (try dsimp only at hSw)
                    go_simp
                    try with_reducible rfl
                  try simp only [Act.put, List.setIfInBounds_toArray, List.set_cons_zero, List.set_cons_succ]
                  refine region_take 45 ?_ rfl (by kernel_rfl) (by rfl) hHeld ?_ ?_
                  rotate_left
                  · intro w hSw
                    (try dsimp only at hSw)
                    go_simp
                    try with_reducible rfl
                  try simp only [Act.put, List.setIfInBounds_toArray, List.set_cons_zero, List.set_cons_succ]
                  refine region_take 46 ?_ rfl (by kernel_rfl) (by rfl) hHeld ?_ ?_
                  rotate_left
                  · intro w hSw
                    (try dsimp only at hSw)
                    go_simp
                    try with_reducible rfl
                  try simp only [Act.put, List.setIfInBounds_toArray, List.set_cons_zero, List.set_cons_succ]
                  refine region_take 47 ?_ rfl (by kernel_rfl) (by rfl) hHeld ?_ ?_
                  rotate_left
                  · intro w hSw
                    (try dsimp only at hSw)
                    go_simp
                    try with_reducible rfl
                  try simp only [Act.put, List.setIfInBounds_toArray, List.set_cons_zero, List.set_cons_succ]
                  refine region_done (by kernel_rfl) ?_
                  clear hHeld
                  generalize wr.drew = wd at *
                  clear HSS HKEEP
                  have HKEEP : Hid (∀ W W' : World, Below w1.heap.size W W' → (fun W => W.cell? ⟨g, o + p * 3, none⟩ = some (.int .i64 yo) ∧ W.cell? ⟨g, o + p * 3 + 1, none⟩ = some (.int .i64 yA) ∧ W.cell? ⟨g, o + p * 3 + 2, none⟩ = some (.int .i64 yB)) W → (fun W => W.cell? ⟨g, o + p * 3, none⟩ = some (.int .i64 yo) ∧ W.cell? ⟨g, o + p * 3 + 1, none⟩ = some (.int .i64 yA) ∧ W.cell? ⟨g, o + p * 3 + 2, none⟩ = some (.int .i64 yB)) W') := Lib.hid fun W W' hb ⟨h0, h1, h2⟩ => ⟨(hb.cell (by simp only; exact HGL.out)).trans h0, (hb.cell (by simp only; exact HGL.out)).trans h1, (hb.cell (by simp only; exact HGL.out)).trans h2⟩
                  have HSS : Hid ((fun W => W.cell? ⟨g, o + p * 3, none⟩ = some (.int .i64 yo) ∧ W.cell? ⟨g, o + p * 3 + 1, none⟩ = some (.int .i64 yA) ∧ W.cell? ⟨g, o + p * 3 + 2, none⟩ = some (.int .i64 yB)) wd.drew) := Lib.hid ⟨r0, r1, r2⟩
                  have hgd := HGW.out.next (w1 := wd.drew) (below_drewN (Below.refl _ _) 1)
                  obtain ⟨Ao, ca, rfl, -, -⟩ := own_slice hgd.ownA
                  rw [HAL.out] at hgd
                  have HGD := Lib.hid (show RdGrow wd.drew w1.heap.size (2, xA, xB) (.slice none 0 0) (.slice Ao i' ca) (.slice none 0 0) [] ats [] from hgd)
                  have HLN := Lib.hid (show Below wd.drew.heap.size wd.drew (wd.alloc (.cells #[.int .i64 yo, .int .i64 yA, .int .i64 yB] 53)).drew from (Below.refl _ _).alloc (Nat.le_refl _) _)
                  have hgl := HGD.out.next (w1 := (wd.alloc (.cells #[.int .i64 yo, .int .i64 yA, .int .i64 yB] 53)).drew) HLN.out
                  have hown := hgl.ownA
                  rw [HAL.out] at hown
                  have HOWN := Lib.hid hown
                  have HWL := Lib.hid hgl.whole
                  have HKF := Lib.hid hgl.kA
                  have cb : wd.drew.cell? ⟨w1.heap.size, 4, none⟩ = some (.slice Ao i' ca) := HGD.out.whole.cell 4
                  have cbL : (wd.alloc (.cells #[.int .i64 yo, .int .i64 yA, .int .i64 yB] 53)).drew.cell? ⟨w1.heap.size, 4, none⟩ = some (.slice Ao i' ca) := hgl.whole.cell 4
                  have HLH : Hid (Holds (wd.alloc (.cells #[.int .i64 yo, .int .i64 yA, .int .i64 yB] 53)).drew (some ⟨wd.heap.size, 0, none⟩) (nodesV [(yo, yA, yB)])) := Lib.hid (holds_at wd.drew #[.int .i64 yo, .int .i64 yA, .int .i64 yB] 53 _ rfl)
                  have HZS : Hid (w1.heap.size ≤ wd.drew.heap.size) := Lib.hid HBD.out.size
                  clear hgd hgl hown
                  go_wp2_with fail
                  clear r0 r1 r2 r3
                  refine region_begin_any (S := fun W => W.cell? ⟨g, o + p * 3, none⟩ = some (.int .i64 yo) ∧ W.cell? ⟨g, o + p * 3 + 1, none⟩ = some (.int .i64 yA) ∧ W.cell? ⟨g, o + p * 3 + 2, none⟩ = some (.int .i64 yB)) (by kernel_rfl) (HSS.out) (fun W hW hHeld => ?_)
                  subst hW
                  refine region_take 0 ?_ rfl (by kernel_rfl) (by rfl) hHeld ?_ ?_
                  rotate_left
                  · intro w hSw
                    (try dsimp only at hSw)
                    go_simp
                    try with_reducible rfl
                  try simp only [Act.put, List.setIfInBounds_toArray, List.set_cons_zero, List.set_cons_succ]
                  refine region_take 2 ?_ rfl (by kernel_rfl) (by rfl) hHeld ?_ ?_
                  rotate_left
                  · intro w hSw
                    (try dsimp only at hSw)
                    go_simp
                    try with_reducible rfl
                  try simp only [Act.put, List.setIfInBounds_toArray, List.set_cons_zero, List.set_cons_succ]
                  refine region_take 3 ?_ rfl (by kernel_rfl) (by rfl) hHeld ?_ ?_
                  rotate_left
                  · intro w hSw
                    (try dsimp only at hSw)
                    go_simp
                    try with_reducible rfl
                  try simp only [Act.put, List.setIfInBounds_toArray, List.set_cons_zero, List.set_cons_succ]
                  refine region_take 4 ?_ rfl (by kernel_rfl) (by rfl) hHeld ?_ ?_
                  rotate_left
                  · intro w hSw
                    (try dsimp only at hSw)
                    go_simp
                    try with_reducible rfl
                  try simp only [Act.put, List.setIfInBounds_toArray, List.set_cons_zero, List.set_cons_succ]
                  refine region_take 5 ?_ rfl (by kernel_rfl) (by rfl) hHeld ?_ ?_
                  rotate_left
                  · intro w hSw
                    (try dsimp only at hSw)
                    go_simp
                    try with_reducible rfl
                  try simp only [Act.put, List.setIfInBounds_toArray, List.set_cons_zero, List.set_cons_succ]
                  refine region_two 1 6 rfl rfl (by kernel_rfl) (by rfl) (by rfl) (fun K hK => ?_) (fun K hK => ?_)
                  · go_simp
                    refine hK.out _ _ (hHeld) (fun hHeld => ?_)
                    clear hK K
                    try simp only [Act.put, List.setIfInBounds_toArray, List.set_cons_zero, List.set_cons_succ]
                    refine region_call 6 rfl (by kernel_rfl) (by rfl) (fun K hK => ?_)
                    go_simp
                    refine hK.out _ _ (HKEEP.out _ _ (HLN.out.mono HZS.out) hHeld) (fun hHeld => ?_)
                    clear hK K
                    try simp only [Act.put, List.setIfInBounds_toArray, List.set_cons_zero, List.set_cons_succ]
                    refine region_call 7 rfl (by kernel_rfl) (by rfl) (fun K hK => ?_)
                    refine wp_append_at (.tmp 95) (.tmp 100) 22 22 _ rfl Tryd.underlying22 53 _ 3 24 infoNode rfl (by decide) Tryd.underlying22 (.slice Ao i' ca) i' 1 _ _ rfl HOWN.out (some ⟨wd.heap.size, 0, none⟩) 1 rfl ⟨by omega, by omega, fun h => by cases h⟩ HLH.out rfl nodesV_one (by omega) (by decide) ?_
                    intro v6 w6 hown6 hmv6
                    refine hK.out _ _ (HKEEP.out _ _ (hmv6.below (B := w1.heap.size) (Nat.le_trans HZS.out HLN.out.size) (fun g hg => Nat.le_of_lt (HKF.out g hg))) hHeld) (fun hHeld => ?_)
                    clear hK K
                    obtain ⟨F6, c6, rfl, -, -⟩ := own_slice hown6
                    have hw6 := HWL.out.only hmv6.only (fun e => by have := HKF.out _ e; omega)
                    have cb6 : w6.cell? ⟨w1.heap.size, 4, none⟩ = some (.slice Ao i' ca) := hw6.cell 4
                    have fb6 : w6.frozen? ⟨w1.heap.size, 4, none⟩ = false := hw6.frozen 4
                    have HO6 := Lib.hid hown6
                    have HM6 := Lib.hid hmv6
                    clear hown6 hmv6 hw6
                    try simp only [Act.put, List.setIfInBounds_toArray, List.set_cons_zero, List.set_cons_succ]
                    refine region_take 8 ?_ rfl (by kernel_rfl) (by rfl) hHeld ?_ ?_
                    rotate_left
                    · intro w hSw
                      (try dsimp only at hSw)
                      go_simp
                      try with_reducible rfl
                    try simp only [Act.put, List.setIfInBounds_toArray, List.set_cons_zero, List.set_cons_succ]
                    refine region_call 9 rfl (by kernel_rfl) (by rfl) (fun K hK => ?_)
                    go_simp
                    refine hK.out _ _ (HKEEP.out _ _ ((Only.set_ (Only.refl (fun k => k = w1.heap.size) w6) (.inl rfl) 4 (.slice F6 (i' + 1) c6)).below (Nat.le_trans HZS.out (Nat.le_trans HLN.out.size HM6.out.only.size)) (fun k hk e => by omega)) hHeld) (fun hHeld => ?_)
                    clear hK K
                    try simp only [Act.put, List.setIfInBounds_toArray, List.set_cons_zero, List.set_cons_succ]
                    refine region_done (by kernel_rfl) ?_
                    clear hHeld
                    obtain ⟨hg8, hb8⟩ := HGD.out.addA (x := (yo, yA, yB)) HLN.out (by rw [HAL.out]; exact HO6.out) HM6.out
                    generalize w6.setCell ⟨w1.heap.size, 4, none⟩ (.slice F6 (i' + 1) c6) = W8 at *
                    have HG8 := Lib.hid hg8
                    have HB8 := Lib.hid (HBD.out.trans ((show Below w1.heap.size wd wd.drew from below_drewN (Below.refl _ _) 1).trans hb8))
                    clear hg8 hb8 cb cbL cb6 fb6
                    have ep1 := IntWalk.i64_in ((p : Int) + 1) (by omega)
                    go_wp2_with fail
                    go_roundw
                    case rel => exact ⟨i' + 1, p + 1, _, ats ++ [(yo, yA, yB)], by go_num, by go_num, by have := HP1.out; omega, by omega, by omega, by rw [List.length_append, HAL.out]; rfl, HC2, HG8, HFN1, HLST1, HB8⟩
                    case measure => simp [intOf] <;> omega
                  · go_simp
                    refine hK.out _ _ (HKEEP.out _ _ (HLN.out.mono HZS.out) hHeld) (fun hHeld => ?_)
                    clear hK K
                    try simp only [Act.put, List.setIfInBounds_toArray, List.set_cons_zero, List.set_cons_succ]
                    refine region_call 1 rfl (by kernel_rfl) (by rfl) (fun K hK => ?_)
                    go_simp
                    refine hK.out _ _ (hHeld) (fun hHeld => ?_)
                    clear hK K
                    try simp only [Act.put, List.setIfInBounds_toArray, List.set_cons_zero, List.set_cons_succ]
                    refine region_call 7 rfl (by kernel_rfl) (by rfl) (fun K hK => ?_)
                    refine wp_append_at (.tmp 95) (.tmp 100) 22 22 _ rfl Tryd.underlying22 53 _ 3 24 infoNode rfl (by decide) Tryd.underlying22 (.slice Ao i' ca) i' 1 _ _ rfl HOWN.out (some ⟨wd.heap.size, 0, none⟩) 1 rfl ⟨by omega, by omega, fun h => by cases h⟩ HLH.out rfl nodesV_one (by omega) (by decide) ?_
                    intro v6 w6 hown6 hmv6
                    refine hK.out _ _ (HKEEP.out _ _ (hmv6.below (B := w1.heap.size) (Nat.le_trans HZS.out HLN.out.size) (fun g hg => Nat.le_of_lt (HKF.out g hg))) hHeld) (fun hHeld => ?_)
                    clear hK K
                    obtain ⟨F6, c6, rfl, -, -⟩ := own_slice hown6
                    have hw6 := HWL.out.only hmv6.only (fun e => by have := HKF.out _ e; omega)
                    have cb6 : w6.cell? ⟨w1.heap.size, 4, none⟩ = some (.slice Ao i' ca) := hw6.cell 4
                    have fb6 : w6.frozen? ⟨w1.heap.size, 4, none⟩ = false := hw6.frozen 4
                    have HO6 := Lib.hid hown6
                    have HM6 := Lib.hid hmv6
                    clear hown6 hmv6 hw6
                    try simp only [Act.put, List.setIfInBounds_toArray, List.set_cons_zero, List.set_cons_succ]
                    refine region_take 8 ?_ rfl (by kernel_rfl) (by rfl) hHeld ?_ ?_
                    rotate_left
                    · intro w hSw
                      (try dsimp only at hSw)
                      go_simp
                      try with_reducible rfl
                    try simp only [Act.put, List.setIfInBounds_toArray, List.set_cons_zero, List.set_cons_succ]
                    refine region_call 9 rfl (by kernel_rfl) (by rfl) (fun K hK => ?_)
                    go_simp
                    refine hK.out _ _ (HKEEP.out _ _ ((Only.set_ (Only.refl (fun k => k = w1.heap.size) w6) (.inl rfl) 4 (.slice F6 (i' + 1) c6)).below (Nat.le_trans HZS.out (Nat.le_trans HLN.out.size HM6.out.only.size)) (fun k hk e => by omega)) hHeld) (fun hHeld => ?_)
                    clear hK K
                    try simp only [Act.put, List.setIfInBounds_toArray, List.set_cons_zero, List.set_cons_succ]
                    refine region_done (by kernel_rfl) ?_
                    clear hHeld
                    obtain ⟨hg8, hb8⟩ := HGD.out.addA (x := (yo, yA, yB)) HLN.out (by rw [HAL.out]; exact HO6.out) HM6.out
                    generalize w6.setCell ⟨w1.heap.size, 4, none⟩ (.slice F6 (i' + 1) c6) = W8 at *
                    have HG8 := Lib.hid hg8
                    have HB8 := Lib.hid (HBD.out.trans ((show Below w1.heap.size wd wd.drew from below_drewN (Below.refl _ _) 1).trans hb8))
                    clear hg8 hb8 cb cbL cb6 fb6
                    have ep1 := IntWalk.i64_in ((p : Int) + 1) (by omega)
                    go_wp2_with fail
                    go_roundw
                    case rel => exact ⟨i' + 1, p + 1, _, ats ++ [(yo, yA, yB)], by go_num, by go_num, by have := HP1.out; omega, by omega, by omega, by rw [List.length_append, HAL.out]; rfl, HC2, HG8, HFN1, HLST1, HB8⟩
                    case measure => simp [intOf] <;> omega
            · have HTN := Lib.hid (HTY.out (by rw [decide_eq_false_iff_not]; exact fun h => hin2 h.2.2.1))
              clear h3 HTY HCY
              go_wp2_with fail
              have ege0 : decide (n ≤ p) = false := by rw [decide_eq_false_iff_not]; have := hpl; omega
              have ege1 : decide ((n : Int) ≤ (p : Int)) = false := by rw [decide_eq_false_iff_not]; have := hpl; omega
              have ege2 : decide ((p : Int) ≥ (n : Int)) = false := by rw [decide_eq_false_iff_not]; have := hpl; omega
              refine region_begin_any (S := fun W => W.cell? ⟨g, o + p * 3, none⟩ = some (.int .i64 yo) ∧ W.cell? ⟨g, o + p * 3 + 1, none⟩ = some (.int .i64 yA) ∧ W.cell? ⟨g, o + p * 3 + 2, none⟩ = some (.int .i64 yB) ∧ W.cell? ⟨g, o + i' * 3 + 1, none⟩ = some (.int .i64 zA)) (by kernel_rfl) (HSS.out) (fun W hW hHeld => ?_)
              subst hW
              refine region_take 0 ?_ rfl (by kernel_rfl) (by rfl) hHeld ?_ ?_
              rotate_left
              · intro w hSw
                (try dsimp only at hSw)
                go_simp
                try with_reducible rfl
              try simp only [Act.put, List.setIfInBounds_toArray, List.set_cons_zero, List.set_cons_succ]
              refine region_take 1 ?_ rfl (by kernel_rfl) (by rfl) hHeld ?_ ?_
              rotate_left
              · intro w hSw
                (try dsimp only at hSw)
                go_simp
                try with_reducible rfl
              try simp only [Act.put, List.setIfInBounds_toArray, List.set_cons_zero, List.set_cons_succ]
              refine region_take 2 ?_ rfl (by kernel_rfl) (by rfl) hHeld ?_ ?_
              rotate_left
              · intro w hSw
                (try dsimp only at hSw)
                go_simp
                try with_reducible rfl
              try simp only [Act.put, List.setIfInBounds_toArray, List.set_cons_zero, List.set_cons_succ]
              refine region_take 3 ?_ rfl (by kernel_rfl) (by rfl) hHeld ?_ ?_
              rotate_left
              · intro w hSw
                (try dsimp only at hSw)
                go_simp
                try with_reducible rfl
              try simp only [Act.put, List.setIfInBounds_toArray, List.set_cons_zero, List.set_cons_succ]
              refine region_take 4 ?_ rfl (by kernel_rfl) (by rfl) hHeld ?_ ?_
              rotate_left
              · intro w hSw
                (try dsimp only at hSw)
                go_simp
                try with_reducible rfl
              try simp only [Act.put, List.setIfInBounds_toArray, List.set_cons_zero, List.set_cons_succ]
              refine region_take 5 ?_ rfl (by kernel_rfl) (by rfl) hHeld ?_ ?_
              rotate_left
              · intro w hSw
                (try dsimp only at hSw)
                go_simp
                try with_reducible rfl
              try simp only [Act.put, List.setIfInBounds_toArray, List.set_cons_zero, List.set_cons_succ]
              refine region_take 6 ?_ rfl (by kernel_rfl) (by rfl) hHeld ?_ ?_
              rotate_left
              · intro w hSw
                (try dsimp only at hSw)
                go_simp
                try with_reducible rfl
              try simp only [Act.put, List.setIfInBounds_toArray, List.set_cons_zero, List.set_cons_succ]
              refine region_take 7 ?_ rfl (by kernel_rfl) (by rfl) hHeld ?_ ?_
              rotate_left
              · intro w hSw
                (try dsimp only at hSw)
                go_simp
                try with_reducible rfl
              try simp only [Act.put, List.setIfInBounds_toArray, List.set_cons_zero, List.set_cons_succ]
              refine region_take 8 ?_ rfl (by kernel_rfl) (by rfl) hHeld ?_ ?_
              rotate_left
              · intro w hSw
                (try dsimp only at hSw)
                go_simp
                try with_reducible rfl
              try simp only [Act.put, List.setIfInBounds_toArray, List.set_cons_zero, List.set_cons_succ]
              refine region_take 9 ?_ rfl (by kernel_rfl) (by rfl) hHeld ?_ ?_
              rotate_left
              · intro w hSw
                (try dsimp only at hSw)
                go_simp
                try with_reducible rfl
              try simp only [Act.put, List.setIfInBounds_toArray, List.set_cons_zero, List.set_cons_succ]
              refine region_take 10 ?_ rfl (by kernel_rfl) (by rfl) hHeld ?_ ?_
              rotate_left
              · intro w hSw
                (try dsimp only at hSw)
                go_simp
                try with_reducible rfl
              try simp only [Act.put, List.setIfInBounds_toArray, List.set_cons_zero, List.set_cons_succ]
              refine region_take 11 ?_ rfl (by kernel_rfl) (by rfl) hHeld ?_ ?_
              rotate_left
              · intro w hSw
                (try dsimp only at hSw)
                go_simp
                try with_reducible rfl
              try simp only [Act.put, List.setIfInBounds_toArray, List.set_cons_zero, List.set_cons_succ]
              refine region_take 12 ?_ rfl (by kernel_rfl) (by rfl) hHeld ?_ ?_
              rotate_left
              · intro w hSw
                (try dsimp only at hSw)
                go_simp
                try with_reducible rfl
              try simp only [Act.put, List.setIfInBounds_toArray, List.set_cons_zero, List.set_cons_succ]
              refine region_take 13 ?_ rfl (by kernel_rfl) (by rfl) hHeld ?_ ?_
              rotate_left
              · intro w hSw
                (try dsimp only at hSw)
                go_simp
                try with_reducible rfl
              try simp only [Act.put, List.setIfInBounds_toArray, List.set_cons_zero, List.set_cons_succ]
              refine region_take 14 ?_ rfl (by kernel_rfl) (by rfl) hHeld ?_ ?_
              rotate_left
              · intro w hSw
                (try dsimp only at hSw)
                go_simp
                try with_reducible rfl
              try simp only [Act.put, List.setIfInBounds_toArray, List.set_cons_zero, List.set_cons_succ]
              refine region_take 15 ?_ rfl (by kernel_rfl) (by rfl) hHeld ?_ ?_
              rotate_left
              · intro w hSw
                (try dsimp only at hSw)
                go_simp
                try with_reducible rfl
              try simp only [Act.put, List.setIfInBounds_toArray, List.set_cons_zero, List.set_cons_succ]
              refine region_take 16 ?_ rfl (by kernel_rfl) (by rfl) hHeld ?_ ?_
              rotate_left
              · intro w hSw
                (try dsimp only at hSw)
                go_simp
                try with_reducible rfl
              try simp only [Act.put, List.setIfInBounds_toArray, List.set_cons_zero, List.set_cons_succ]
              refine region_take 17 ?_ rfl (by kernel_rfl) (by rfl) hHeld ?_ ?_
              rotate_left
              · intro w hSw
                (try dsimp only at hSw)
                go_simp
                try with_reducible rfl
              try simp only [Act.put, List.setIfInBounds_toArray, List.set_cons_zero, List.set_cons_succ]
              refine region_call 18 rfl (by kernel_rfl) (by rfl) (fun K hK => ?_)
              go_simp
              refine (within_yes _ _ _ _ hin).mono ?_
              rintro e w5 ⟨rfl, hw5⟩
              subst hw5
              (try dsimp only)
              refine hK.out _ _ (hHeld) (fun hHeld => ?_)
              clear hK K
              try simp only [Act.put, List.setIfInBounds_toArray, List.set_cons_zero, List.set_cons_succ]
              refine region_take 19 ?_ rfl (by kernel_rfl) (by rfl) hHeld ?_ ?_
              rotate_left
              · intro w hSw
                (try dsimp only at hSw)
                go_simp
                try with_reducible rfl
              try simp only [Act.put, List.setIfInBounds_toArray, List.set_cons_zero, List.set_cons_succ]
              refine region_take 20 ?_ rfl (by kernel_rfl) (by rfl) hHeld ?_ ?_
              rotate_left
              · intro w hSw
                (try dsimp only at hSw)
                go_simp
                try with_reducible rfl
              try simp only [Act.put, List.setIfInBounds_toArray, List.set_cons_zero, List.set_cons_succ]
              refine region_take 21 ?_ rfl (by kernel_rfl) (by rfl) hHeld ?_ ?_
              rotate_left
              · intro w hSw
                (try dsimp only at hSw)
                go_simp
                try with_reducible rfl
              try simp only [Act.put, List.setIfInBounds_toArray, List.set_cons_zero, List.set_cons_succ]
              refine region_take 22 ?_ rfl (by kernel_rfl) (by rfl) hHeld ?_ ?_
              rotate_left
              · intro w hSw
                (try dsimp only at hSw)
                go_simp
                try with_reducible rfl
              try simp only [Act.put, List.setIfInBounds_toArray, List.set_cons_zero, List.set_cons_succ]
              refine region_take 23 ?_ rfl (by kernel_rfl) (by rfl) hHeld ?_ ?_
              rotate_left
              · intro w hSw
                (try dsimp only at hSw)
                go_simp
                try with_reducible rfl
              try simp only [Act.put, List.setIfInBounds_toArray, List.set_cons_zero, List.set_cons_succ]
              refine region_take 24 ?_ rfl (by kernel_rfl) (by rfl) hHeld ?_ ?_
              rotate_left
              · intro w hSw
                (try dsimp only at hSw)
                go_simp
                try with_reducible rfl
              try simp only [Act.put, List.setIfInBounds_toArray, List.set_cons_zero, List.set_cons_succ]
              refine region_take 25 ?_ rfl (by kernel_rfl) (by rfl) hHeld ?_ ?_
              rotate_left
              · intro w hSw
                (try dsimp only at hSw)
                go_simp
                try with_reducible rfl
              try simp only [Act.put, List.setIfInBounds_toArray, List.set_cons_zero, List.set_cons_succ]
              refine region_take 26 ?_ rfl (by kernel_rfl) (by rfl) hHeld ?_ ?_
              rotate_left
              · intro w hSw
                (try dsimp only at hSw)
                go_simp
                try with_reducible rfl
              try simp only [Act.put, List.setIfInBounds_toArray, List.set_cons_zero, List.set_cons_succ]
              refine region_call 27 rfl (by kernel_rfl) (by rfl) (fun K hK => ?_)
              go_simp
              refine (within_no _ _ _ _ hin2).mono ?_
              rintro e w5 ⟨rfl, hw5⟩
              subst hw5
              (try dsimp only)
              refine hK.out _ _ (hHeld) (fun hHeld => ?_)
              clear hK K
              try simp only [Act.put, List.setIfInBounds_toArray, List.set_cons_zero, List.set_cons_succ]
              refine region_take 28 ?_ rfl (by kernel_rfl) (by rfl) hHeld ?_ ?_
              rotate_left
              · intro w hSw
                (try dsimp only at hSw)
                go_simp
                try with_reducible rfl
              try simp only [Act.put, List.setIfInBounds_toArray, List.set_cons_zero, List.set_cons_succ]
              refine region_take 29 ?_ rfl (by kernel_rfl) (by rfl) hHeld ?_ ?_
              rotate_left
              · intro w hSw
                (try dsimp only at hSw)
                go_simp
                try with_reducible rfl
              try simp only [Act.put, List.setIfInBounds_toArray, List.set_cons_zero, List.set_cons_succ]
              refine region_take 30 ?_ rfl (by kernel_rfl) (by rfl) hHeld ?_ ?_
              rotate_left
              · intro w hSw
                (try dsimp only at hSw)
                go_simp
                try with_reducible rfl
              try simp only [Act.put, List.setIfInBounds_toArray, List.set_cons_zero, List.set_cons_succ]
              refine region_skip 31 rfl (by kernel_rfl) (by rfl) hHeld ?_
              try simp only [Act.put, List.setIfInBounds_toArray, List.set_cons_zero, List.set_cons_succ]
              refine region_skip 32 rfl (by kernel_rfl) (by rfl) hHeld ?_
              try simp only [Act.put, List.setIfInBounds_toArray, List.set_cons_zero, List.set_cons_succ]
              refine region_skip 33 rfl (by kernel_rfl) (by rfl) hHeld ?_
              try simp only [Act.put, List.setIfInBounds_toArray, List.set_cons_zero, List.set_cons_succ]
              refine region_skip 34 rfl (by kernel_rfl) (by rfl) hHeld ?_
              try simp only [Act.put, List.setIfInBounds_toArray, List.set_cons_zero, List.set_cons_succ]
              refine region_skip 35 rfl (by kernel_rfl) (by rfl) hHeld ?_
              try simp only [Act.put, List.setIfInBounds_toArray, List.set_cons_zero, List.set_cons_succ]
              refine region_skip 36 rfl (by kernel_rfl) (by rfl) hHeld ?_
              try simp only [Act.put, List.setIfInBounds_toArray, List.set_cons_zero, List.set_cons_succ]
              refine region_skip 37 rfl (by kernel_rfl) (by rfl) hHeld ?_
              try simp only [Act.put, List.setIfInBounds_toArray, List.set_cons_zero, List.set_cons_succ]
              refine region_skip 38 rfl (by kernel_rfl) (by rfl) hHeld ?_
              try simp only [Act.put, List.setIfInBounds_toArray, List.set_cons_zero, List.set_cons_succ]
              refine region_skip 39 rfl (by kernel_rfl) (by rfl) hHeld ?_
              try simp only [Act.put, List.setIfInBounds_toArray, List.set_cons_zero, List.set_cons_succ]
              refine region_skip 40 rfl (by kernel_rfl) (by rfl) hHeld ?_
              try simp only [Act.put, List.setIfInBounds_toArray, List.set_cons_zero, List.set_cons_succ]
              refine region_skip 41 rfl (by kernel_rfl) (by rfl) hHeld ?_
              try simp only [Act.put, List.setIfInBounds_toArray, List.set_cons_zero, List.set_cons_succ]
              refine region_skip 42 rfl (by kernel_rfl) (by rfl) hHeld ?_
              try simp only [Act.put, List.setIfInBounds_toArray, List.set_cons_zero, List.set_cons_succ]
              refine region_skip 43 rfl (by kernel_rfl) (by rfl) hHeld ?_
              try simp only [Act.put, List.setIfInBounds_toArray, List.set_cons_zero, List.set_cons_succ]
              refine region_skip 44 rfl (by kernel_rfl) (by rfl) hHeld ?_
              try simp only [Act.put, List.setIfInBounds_toArray, List.set_cons_zero, List.set_cons_succ]
              refine region_skip 45 rfl (by kernel_rfl) (by rfl) hHeld ?_
              try simp only [Act.put, List.setIfInBounds_toArray, List.set_cons_zero, List.set_cons_succ]
              refine region_skip 46 rfl (by kernel_rfl) (by rfl) hHeld ?_
              try simp only [Act.put, List.setIfInBounds_toArray, List.set_cons_zero, List.set_cons_succ]
              refine region_take 47 ?_ rfl (by kernel_rfl) (by rfl) hHeld ?_ ?_
              rotate_left
              · intro w hSw
                (try dsimp only at hSw)
                go_simp
                try with_reducible rfl
              try simp only [Act.put, List.setIfInBounds_toArray, List.set_cons_zero, List.set_cons_succ]
              refine region_done (by kernel_rfl) ?_
              clear hHeld
              generalize wr.drew = wd at *
              have hwz := HZ1.out.below HBD.out HZ1.out.lt
              have z0 : wd.cell? ⟨w.heap.size, 0, none⟩ = some (.int .i64 0) := hwz.cell 0
              have f0 := hwz.frozen 0
              have z1 : wd.cell? ⟨w.heap.size, 1, none⟩ = some (.int .i64 0) := hwz.cell 1
              have f1 := hwz.frozen 1
              have z2 : wd.cell? ⟨w.heap.size, 2, none⟩ = some (.int .i64 0) := hwz.cell 2
              have f2 := hwz.frozen 2
              have z3 : wd.cell? ⟨w.heap.size, 3, none⟩ = some (.slice none 0 0) := hwz.cell 3
              have f3 := hwz.frozen 3
              have z4 : wd.cell? ⟨w.heap.size, 4, none⟩ = some (.slice none 0 0) := hwz.cell 4
              have f4 := hwz.frozen 4
              have z5 : wd.cell? ⟨w.heap.size, 5, none⟩ = some (.slice none 0 0) := hwz.cell 5
              have f5 := hwz.frozen 5
              have HWZ := Lib.hid hwz
              clear hwz
              have HBF := Lib.hid (HBD.out)
              have HTF : Hid (top0 t = none) := Lib.hid (HTN.out)
              go_wp2_with fail
              have hw6 := ((((((HWZ.out).set_ 0 (.int .i64 0)).set_ 1 (.int .i64 0)).set_ 2 (.int .i64 0)).set_ 3 (.slice none 0 0)).set_ 4 (.slice none 0 0)).set_ 5 (.slice none 0 0)
              have ho6 : Only (fun j => j = w.heap.size) wd ((((((wd.setCell ⟨w.heap.size, 0, none⟩ (.int .i64 0)).setCell ⟨w.heap.size, 1, none⟩ (.int .i64 0)).setCell ⟨w.heap.size, 2, none⟩ (.int .i64 0)).setCell ⟨w.heap.size, 3, none⟩ (.slice none 0 0)).setCell ⟨w.heap.size, 4, none⟩ (.slice none 0 0)).setCell ⟨w.heap.size, 5, none⟩ (.slice none 0 0)) := ((((((Only.refl (fun j => j = w.heap.size) wd).set_ (.inl rfl) 0 _).set_ (.inl rfl) 1 _).set_ (.inl rfl) 2 _).set_ (.inl rfl) 3 _).set_ (.inl rfl) 4 _).set_ (.inl rfl) 5 _
              generalize ((((((wd.setCell ⟨w.heap.size, 0, none⟩ (.int .i64 0)).setCell ⟨w.heap.size, 1, none⟩ (.int .i64 0)).setCell ⟨w.heap.size, 2, none⟩ (.int .i64 0)).setCell ⟨w.heap.size, 3, none⟩ (.slice none 0 0)).setCell ⟨w.heap.size, 4, none⟩ (.slice none 0 0)).setCell ⟨w.heap.size, 5, none⟩ (.slice none 0 0)) = W6 at *
              have q0 : W6.cell? ⟨w.heap.size, 0, none⟩ = some (.int .i64 0) := hw6.cell 0
              have q1 : W6.cell? ⟨w.heap.size, 1, none⟩ = some (.int .i64 0) := hw6.cell 1
              have q2 : W6.cell? ⟨w.heap.size, 2, none⟩ = some (.int .i64 0) := hw6.cell 2
              have q3 : W6.cell? ⟨w.heap.size, 3, none⟩ = some (.slice none 0 0) := hw6.cell 3
              have q4 : W6.cell? ⟨w.heap.size, 4, none⟩ = some (.slice none 0 0) := hw6.cell 4
              have q5 : W6.cell? ⟨w.heap.size, 5, none⟩ = some (.slice none 0 0) := hw6.cell 5
              have hb6 := ((HB1.out.trans (HBF.out.mono HB1.out.size))).trans (ho6.below (B := w.heap.size) (Nat.le_trans HB1.out.size HBF.out.size) fun k hk e => by omega)
              clear hw6 ho6
              (try simp only [Exit.inBlock, Exit.then])
              refine bodyPost_ret (by simp [results, Tryd.results42, go_sem, q0, q1, q2, q3, q4, q5]; try rfl) rfl ?_
              exact ReadPost.no HTF.out hb6
          · have HTN := Lib.hid (HTY.out (by rw [decide_eq_false_iff_not]; exact fun h => hin h.2.1))
            clear h3 HTY HCY
            go_wp2_with fail
            have ege0 : decide (n ≤ p) = false := by rw [decide_eq_false_iff_not]; have := hpl; omega
            have ege1 : decide ((n : Int) ≤ (p : Int)) = false := by rw [decide_eq_false_iff_not]; have := hpl; omega
            have ege2 : decide ((p : Int) ≥ (n : Int)) = false := by rw [decide_eq_false_iff_not]; have := hpl; omega
            refine region_begin_any (S := fun W => W.cell? ⟨g, o + p * 3, none⟩ = some (.int .i64 yo) ∧ W.cell? ⟨g, o + p * 3 + 1, none⟩ = some (.int .i64 yA) ∧ W.cell? ⟨g, o + p * 3 + 2, none⟩ = some (.int .i64 yB) ∧ W.cell? ⟨g, o + i' * 3 + 1, none⟩ = some (.int .i64 zA)) (by kernel_rfl) (HSS.out) (fun W hW hHeld => ?_)
            subst hW
            refine region_take 0 ?_ rfl (by kernel_rfl) (by rfl) hHeld ?_ ?_
            rotate_left
            · intro w hSw
              (try dsimp only at hSw)
              go_simp
              try with_reducible rfl
            try simp only [Act.put, List.setIfInBounds_toArray, List.set_cons_zero, List.set_cons_succ]
            refine region_take 1 ?_ rfl (by kernel_rfl) (by rfl) hHeld ?_ ?_
            rotate_left
            · intro w hSw
              (try dsimp only at hSw)
              go_simp
              try with_reducible rfl
            try simp only [Act.put, List.setIfInBounds_toArray, List.set_cons_zero, List.set_cons_succ]
            refine region_take 2 ?_ rfl (by kernel_rfl) (by rfl) hHeld ?_ ?_
            rotate_left
            · intro w hSw
              (try dsimp only at hSw)
              go_simp
              try with_reducible rfl
            try simp only [Act.put, List.setIfInBounds_toArray, List.set_cons_zero, List.set_cons_succ]
            refine region_take 3 ?_ rfl (by kernel_rfl) (by rfl) hHeld ?_ ?_
            rotate_left
            · intro w hSw
              (try dsimp only at hSw)
              go_simp
              try with_reducible rfl
            try simp only [Act.put, List.setIfInBounds_toArray, List.set_cons_zero, List.set_cons_succ]
            refine region_take 4 ?_ rfl (by kernel_rfl) (by rfl) hHeld ?_ ?_
            rotate_left
            · intro w hSw
              (try dsimp only at hSw)
              go_simp
              try with_reducible rfl
            try simp only [Act.put, List.setIfInBounds_toArray, List.set_cons_zero, List.set_cons_succ]
            refine region_take 5 ?_ rfl (by kernel_rfl) (by rfl) hHeld ?_ ?_
            rotate_left
            · intro w hSw
              (try dsimp only at hSw)
              go_simp
              try with_reducible rfl
            try simp only [Act.put, List.setIfInBounds_toArray, List.set_cons_zero, List.set_cons_succ]
            refine region_take 6 ?_ rfl (by kernel_rfl) (by rfl) hHeld ?_ ?_
            rotate_left
            · intro w hSw
              (try dsimp only at hSw)
              go_simp
              try with_reducible rfl
            try simp only [Act.put, List.setIfInBounds_toArray, List.set_cons_zero, List.set_cons_succ]
            refine region_take 7 ?_ rfl (by kernel_rfl) (by rfl) hHeld ?_ ?_
            rotate_left
            · intro w hSw
              (try dsimp only at hSw)
              go_simp
              try with_reducible rfl
            try simp only [Act.put, List.setIfInBounds_toArray, List.set_cons_zero, List.set_cons_succ]
            refine region_take 8 ?_ rfl (by kernel_rfl) (by rfl) hHeld ?_ ?_
            rotate_left
            · intro w hSw
              (try dsimp only at hSw)
              go_simp
              try with_reducible rfl
            try simp only [Act.put, List.setIfInBounds_toArray, List.set_cons_zero, List.set_cons_succ]
            refine region_take 9 ?_ rfl (by kernel_rfl) (by rfl) hHeld ?_ ?_
            rotate_left
            · intro w hSw
              (try dsimp only at hSw)
              go_simp
              try with_reducible rfl
            try simp only [Act.put, List.setIfInBounds_toArray, List.set_cons_zero, List.set_cons_succ]
            refine region_take 10 ?_ rfl (by kernel_rfl) (by rfl) hHeld ?_ ?_
            rotate_left
            · intro w hSw
              (try dsimp only at hSw)
              go_simp
              try with_reducible rfl
            try simp only [Act.put, List.setIfInBounds_toArray, List.set_cons_zero, List.set_cons_succ]
            refine region_take 11 ?_ rfl (by kernel_rfl) (by rfl) hHeld ?_ ?_
            rotate_left
            · intro w hSw
              (try dsimp only at hSw)
              go_simp
              try with_reducible rfl
            try simp only [Act.put, List.setIfInBounds_toArray, List.set_cons_zero, List.set_cons_succ]
            refine region_take 12 ?_ rfl (by kernel_rfl) (by rfl) hHeld ?_ ?_
            rotate_left
            · intro w hSw
              (try dsimp only at hSw)
              go_simp
              try with_reducible rfl
            try simp only [Act.put, List.setIfInBounds_toArray, List.set_cons_zero, List.set_cons_succ]
            refine region_take 13 ?_ rfl (by kernel_rfl) (by rfl) hHeld ?_ ?_
            rotate_left
            · intro w hSw
              (try dsimp only at hSw)
              go_simp
              try with_reducible rfl
            try simp only [Act.put, List.setIfInBounds_toArray, List.set_cons_zero, List.set_cons_succ]
            refine region_take 14 ?_ rfl (by kernel_rfl) (by rfl) hHeld ?_ ?_
            rotate_left
            · intro w hSw
              (try dsimp only at hSw)
              go_simp
              try with_reducible rfl
            try simp only [Act.put, List.setIfInBounds_toArray, List.set_cons_zero, List.set_cons_succ]
            refine region_take 15 ?_ rfl (by kernel_rfl) (by rfl) hHeld ?_ ?_
            rotate_left
            · intro w hSw
              (try dsimp only at hSw)
              go_simp
              try with_reducible rfl
            try simp only [Act.put, List.setIfInBounds_toArray, List.set_cons_zero, List.set_cons_succ]
            refine region_take 16 ?_ rfl (by kernel_rfl) (by rfl) hHeld ?_ ?_
            rotate_left
            · intro w hSw
              (try dsimp only at hSw)
              go_simp
              try with_reducible rfl
            try simp only [Act.put, List.setIfInBounds_toArray, List.set_cons_zero, List.set_cons_succ]
            refine region_take 17 ?_ rfl (by kernel_rfl) (by rfl) hHeld ?_ ?_
            rotate_left
            · intro w hSw
              (try dsimp only at hSw)
              go_simp
              try with_reducible rfl
            try simp only [Act.put, List.setIfInBounds_toArray, List.set_cons_zero, List.set_cons_succ]
            refine region_call 18 rfl (by kernel_rfl) (by rfl) (fun K hK => ?_)
            go_simp
            refine (within_no _ _ _ _ hin).mono ?_
            rintro e w5 ⟨rfl, hw5⟩
            subst hw5
            (try dsimp only)
            refine hK.out _ _ (hHeld) (fun hHeld => ?_)
            clear hK K
            try simp only [Act.put, List.setIfInBounds_toArray, List.set_cons_zero, List.set_cons_succ]
            refine region_take 19 ?_ rfl (by kernel_rfl) (by rfl) hHeld ?_ ?_
            rotate_left
            · intro w hSw
              (try dsimp only at hSw)
              go_simp
              try with_reducible rfl
            try simp only [Act.put, List.setIfInBounds_toArray, List.set_cons_zero, List.set_cons_succ]
            refine region_take 20 ?_ rfl (by kernel_rfl) (by rfl) hHeld ?_ ?_
            rotate_left
            · intro w hSw
              (try dsimp only at hSw)
              go_simp
              try with_reducible rfl
            try simp only [Act.put, List.setIfInBounds_toArray, List.set_cons_zero, List.set_cons_succ]
            refine region_take 21 ?_ rfl (by kernel_rfl) (by rfl) hHeld ?_ ?_
            rotate_left
            · intro w hSw
              (try dsimp only at hSw)
              go_simp
              try with_reducible rfl
            try simp only [Act.put, List.setIfInBounds_toArray, List.set_cons_zero, List.set_cons_succ]
            refine region_skip 22 rfl (by kernel_rfl) (by rfl) hHeld ?_
            try simp only [Act.put, List.setIfInBounds_toArray, List.set_cons_zero, List.set_cons_succ]
            refine region_skip 23 rfl (by kernel_rfl) (by rfl) hHeld ?_
            try simp only [Act.put, List.setIfInBounds_toArray, List.set_cons_zero, List.set_cons_succ]
            refine region_skip 24 rfl (by kernel_rfl) (by rfl) hHeld ?_
            try simp only [Act.put, List.setIfInBounds_toArray, List.set_cons_zero, List.set_cons_succ]
            refine region_skip 25 rfl (by kernel_rfl) (by rfl) hHeld ?_
            try simp only [Act.put, List.setIfInBounds_toArray, List.set_cons_zero, List.set_cons_succ]
            refine region_skip 26 rfl (by kernel_rfl) (by rfl) hHeld ?_
            try simp only [Act.put, List.setIfInBounds_toArray, List.set_cons_zero, List.set_cons_succ]
            refine region_skip 27 rfl (by kernel_rfl) (by rfl) hHeld ?_
            try simp only [Act.put, List.setIfInBounds_toArray, List.set_cons_zero, List.set_cons_succ]
            refine region_skip 28 rfl (by kernel_rfl) (by rfl) hHeld ?_
            try simp only [Act.put, List.setIfInBounds_toArray, List.set_cons_zero, List.set_cons_succ]
            refine region_take 29 ?_ rfl (by kernel_rfl) (by rfl) hHeld ?_ ?_
            rotate_left
            · intro w hSw
              (try dsimp only at hSw)
              go_simp
              try with_reducible rfl
            try simp only [Act.put, List.setIfInBounds_toArray, List.set_cons_zero, List.set_cons_succ]
            refine region_take 30 ?_ rfl (by kernel_rfl) (by rfl) hHeld ?_ ?_
            rotate_left
            · intro w hSw
              (try dsimp only at hSw)
              go_simp
              try with_reducible rfl
            try simp only [Act.put, List.setIfInBounds_toArray, List.set_cons_zero, List.set_cons_succ]
            refine region_skip 31 rfl (by kernel_rfl) (by rfl) hHeld ?_
            try simp only [Act.put, List.setIfInBounds_toArray, List.set_cons_zero, List.set_cons_succ]
            refine region_skip 32 rfl (by kernel_rfl) (by rfl) hHeld ?_
            try simp only [Act.put, List.setIfInBounds_toArray, List.set_cons_zero, List.set_cons_succ]
            refine region_skip 33 rfl (by kernel_rfl) (by rfl) hHeld ?_
            try simp only [Act.put, List.setIfInBounds_toArray, List.set_cons_zero, List.set_cons_succ]
            refine region_skip 34 rfl (by kernel_rfl) (by rfl) hHeld ?_
            try simp only [Act.put, List.setIfInBounds_toArray, List.set_cons_zero, List.set_cons_succ]
            refine region_skip 35 rfl (by kernel_rfl) (by rfl) hHeld ?_
            try simp only [Act.put, List.setIfInBounds_toArray, List.set_cons_zero, List.set_cons_succ]
            refine region_skip 36 rfl (by kernel_rfl) (by rfl) hHeld ?_
            try simp only [Act.put, List.setIfInBounds_toArray, List.set_cons_zero, List.set_cons_succ]
            refine region_skip 37 rfl (by kernel_rfl) (by rfl) hHeld ?_
            try simp only [Act.put, List.setIfInBounds_toArray, List.set_cons_zero, List.set_cons_succ]
            refine region_skip 38 rfl (by kernel_rfl) (by rfl) hHeld ?_
            try simp only [Act.put, List.setIfInBounds_toArray, List.set_cons_zero, List.set_cons_succ]
            refine region_skip 39 rfl (by kernel_rfl) (by rfl) hHeld ?_
            try simp only [Act.put, List.setIfInBounds_toArray, List.set_cons_zero, List.set_cons_succ]
            refine region_skip 40 rfl (by kernel_rfl) (by rfl) hHeld ?_
            try simp only [Act.put, List.setIfInBounds_toArray, List.set_cons_zero, List.set_cons_succ]
            refine region_skip 41 rfl (by kernel_rfl) (by rfl) hHeld ?_
            try simp only [Act.put, List.setIfInBounds_toArray, List.set_cons_zero, List.set_cons_succ]
            refine region_skip 42 rfl (by kernel_rfl) (by rfl) hHeld ?_
            try simp only [Act.put, List.setIfInBounds_toArray, List.set_cons_zero, List.set_cons_succ]
            refine region_skip 43 rfl (by kernel_rfl) (by rfl) hHeld ?_
            try simp only [Act.put, List.setIfInBounds_toArray, List.set_cons_zero, List.set_cons_succ]
            refine region_skip 44 rfl (by kernel_rfl) (by rfl) hHeld ?_
            try simp only [Act.put, List.setIfInBounds_toArray, List.set_cons_zero, List.set_cons_succ]
            refine region_skip 45 rfl (by kernel_rfl) (by rfl) hHeld ?_
            try simp only [Act.put, List.setIfInBounds_toArray, List.set_cons_zero, List.set_cons_succ]
            refine region_skip 46 rfl (by kernel_rfl) (by rfl) hHeld ?_
            try simp only [Act.put, List.setIfInBounds_toArray, List.set_cons_zero, List.set_cons_succ]
            refine region_take 47 ?_ rfl (by kernel_rfl) (by rfl) hHeld ?_ ?_
            rotate_left
            · intro w hSw
              (try dsimp only at hSw)
              go_simp
              try with_reducible rfl
            try simp only [Act.put, List.setIfInBounds_toArray, List.set_cons_zero, List.set_cons_succ]
            refine region_done (by kernel_rfl) ?_
            clear hHeld
            generalize wr.drew = wd at *
            have hwz := HZ1.out.below HBD.out HZ1.out.lt
            have z0 : wd.cell? ⟨w.heap.size, 0, none⟩ = some (.int .i64 0) := hwz.cell 0
            have f0 := hwz.frozen 0
            have z1 : wd.cell? ⟨w.heap.size, 1, none⟩ = some (.int .i64 0) := hwz.cell 1
            have f1 := hwz.frozen 1
            have z2 : wd.cell? ⟨w.heap.size, 2, none⟩ = some (.int .i64 0) := hwz.cell 2
            have f2 := hwz.frozen 2
            have z3 : wd.cell? ⟨w.heap.size, 3, none⟩ = some (.slice none 0 0) := hwz.cell 3
            have f3 := hwz.frozen 3
            have z4 : wd.cell? ⟨w.heap.size, 4, none⟩ = some (.slice none 0 0) := hwz.cell 4
            have f4 := hwz.frozen 4
            have z5 : wd.cell? ⟨w.heap.size, 5, none⟩ = some (.slice none 0 0) := hwz.cell 5
            have f5 := hwz.frozen 5
            have HWZ := Lib.hid hwz
            clear hwz
            have HBF := Lib.hid (HBD.out)
            have HTF : Hid (top0 t = none) := Lib.hid (HTN.out)
            go_wp2_with fail
            have hw6 := ((((((HWZ.out).set_ 0 (.int .i64 0)).set_ 1 (.int .i64 0)).set_ 2 (.int .i64 0)).set_ 3 (.slice none 0 0)).set_ 4 (.slice none 0 0)).set_ 5 (.slice none 0 0)
            have ho6 : Only (fun j => j = w.heap.size) wd ((((((wd.setCell ⟨w.heap.size, 0, none⟩ (.int .i64 0)).setCell ⟨w.heap.size, 1, none⟩ (.int .i64 0)).setCell ⟨w.heap.size, 2, none⟩ (.int .i64 0)).setCell ⟨w.heap.size, 3, none⟩ (.slice none 0 0)).setCell ⟨w.heap.size, 4, none⟩ (.slice none 0 0)).setCell ⟨w.heap.size, 5, none⟩ (.slice none 0 0)) := ((((((Only.refl (fun j => j = w.heap.size) wd).set_ (.inl rfl) 0 _).set_ (.inl rfl) 1 _).set_ (.inl rfl) 2 _).set_ (.inl rfl) 3 _).set_ (.inl rfl) 4 _).set_ (.inl rfl) 5 _
            generalize ((((((wd.setCell ⟨w.heap.size, 0, none⟩ (.int .i64 0)).setCell ⟨w.heap.size, 1, none⟩ (.int .i64 0)).setCell ⟨w.heap.size, 2, none⟩ (.int .i64 0)).setCell ⟨w.heap.size, 3, none⟩ (.slice none 0 0)).setCell ⟨w.heap.size, 4, none⟩ (.slice none 0 0)).setCell ⟨w.heap.size, 5, none⟩ (.slice none 0 0)) = W6 at *
            have q0 : W6.cell? ⟨w.heap.size, 0, none⟩ = some (.int .i64 0) := hw6.cell 0
            have q1 : W6.cell? ⟨w.heap.size, 1, none⟩ = some (.int .i64 0) := hw6.cell 1
            have q2 : W6.cell? ⟨w.heap.size, 2, none⟩ = some (.int .i64 0) := hw6.cell 2
            have q3 : W6.cell? ⟨w.heap.size, 3, none⟩ = some (.slice none 0 0) := hw6.cell 3
            have q4 : W6.cell? ⟨w.heap.size, 4, none⟩ = some (.slice none 0 0) := hw6.cell 4
            have q5 : W6.cell? ⟨w.heap.size, 5, none⟩ = some (.slice none 0 0) := hw6.cell 5
            have hb6 := ((HB1.out.trans (HBF.out.mono HB1.out.size))).trans (ho6.below (B := w.heap.size) (Nat.le_trans HB1.out.size HBF.out.size) fun k hk e => by omega)
            clear hw6 ho6
            (try simp only [Exit.inBlock, Exit.then])
            refine bodyPost_ret (by simp [results, Tryd.results42, go_sem, q0, q1, q2, q3, q4, q5]; try rfl) rfl ?_
            exact ReadPost.no HTF.out hb6
        · have HTN := Lib.hid (HTY.out (by rw [decide_eq_false_iff_not]; exact fun h => h3 h.1))
          have e3 : (yo == 3) = false := by simpa using h3
          have e32 : (yo != 3) = true := by simpa using h3
          clear HTY HCY
          go_wp2_with fail
          have ege0 : decide (n ≤ p) = false := by rw [decide_eq_false_iff_not]; have := hpl; omega
          have ege1 : decide ((n : Int) ≤ (p : Int)) = false := by rw [decide_eq_false_iff_not]; have := hpl; omega
          have ege2 : decide ((p : Int) ≥ (n : Int)) = false := by rw [decide_eq_false_iff_not]; have := hpl; omega
          refine region_begin_any (S := fun W => W.cell? ⟨g, o + p * 3, none⟩ = some (.int .i64 yo) ∧ W.cell? ⟨g, o + p * 3 + 1, none⟩ = some (.int .i64 yA) ∧ W.cell? ⟨g, o + p * 3 + 2, none⟩ = some (.int .i64 yB) ∧ W.cell? ⟨g, o + i' * 3 + 1, none⟩ = some (.int .i64 zA)) (by kernel_rfl) (HSS.out) (fun W hW hHeld => ?_)
          subst hW
          refine region_take 0 ?_ rfl (by kernel_rfl) (by rfl) hHeld ?_ ?_
          rotate_left
          · intro w hSw
            (try dsimp only at hSw)
            go_simp
            try with_reducible rfl
          try simp only [Act.put, List.setIfInBounds_toArray, List.set_cons_zero, List.set_cons_succ]
          refine region_take 1 ?_ rfl (by kernel_rfl) (by rfl) hHeld ?_ ?_
          rotate_left
          · intro w hSw
            (try dsimp only at hSw)
            go_simp
            try with_reducible rfl
          try simp only [Act.put, List.setIfInBounds_toArray, List.set_cons_zero, List.set_cons_succ]
          refine region_take 2 ?_ rfl (by kernel_rfl) (by rfl) hHeld ?_ ?_
          rotate_left
          · intro w hSw
            (try dsimp only at hSw)
            go_simp
            try with_reducible rfl
          try simp only [Act.put, List.setIfInBounds_toArray, List.set_cons_zero, List.set_cons_succ]
          refine region_take 3 ?_ rfl (by kernel_rfl) (by rfl) hHeld ?_ ?_
          rotate_left
          · intro w hSw
            (try dsimp only at hSw)
            go_simp
            try with_reducible rfl
          try simp only [Act.put, List.setIfInBounds_toArray, List.set_cons_zero, List.set_cons_succ]
          refine region_take 4 ?_ rfl (by kernel_rfl) (by rfl) hHeld ?_ ?_
          rotate_left
          · intro w hSw
            (try dsimp only at hSw)
            go_simp
            try with_reducible rfl
          try simp only [Act.put, List.setIfInBounds_toArray, List.set_cons_zero, List.set_cons_succ]
          refine region_take 5 ?_ rfl (by kernel_rfl) (by rfl) hHeld ?_ ?_
          rotate_left
          · intro w hSw
            (try dsimp only at hSw)
            go_simp
            try with_reducible rfl
          try simp only [Act.put, List.setIfInBounds_toArray, List.set_cons_zero, List.set_cons_succ]
          refine region_take 6 ?_ rfl (by kernel_rfl) (by rfl) hHeld ?_ ?_
          rotate_left
          · intro w hSw
            (try dsimp only at hSw)
            go_simp
            try with_reducible rfl
          try simp only [Act.put, List.setIfInBounds_toArray, List.set_cons_zero, List.set_cons_succ]
          refine region_take 7 ?_ rfl (by kernel_rfl) (by rfl) hHeld ?_ ?_
          rotate_left
          · intro w hSw
            (try dsimp only at hSw)
            go_simp
            try with_reducible rfl
          try simp only [Act.put, List.setIfInBounds_toArray, List.set_cons_zero, List.set_cons_succ]
          refine region_take 8 ?_ rfl (by kernel_rfl) (by rfl) hHeld ?_ ?_
          rotate_left
          · intro w hSw
            (try dsimp only at hSw)
            go_simp
            try with_reducible rfl
          try simp only [Act.put, List.setIfInBounds_toArray, List.set_cons_zero, List.set_cons_succ]
          refine region_take 9 ?_ rfl (by kernel_rfl) (by rfl) hHeld ?_ ?_
          rotate_left
          · intro w hSw
            (try dsimp only at hSw)
            go_simp
            try with_reducible rfl
          try simp only [Act.put, List.setIfInBounds_toArray, List.set_cons_zero, List.set_cons_succ]
          refine region_take 10 ?_ rfl (by kernel_rfl) (by rfl) hHeld ?_ ?_
          rotate_left
          · intro w hSw
            (try dsimp only at hSw)
            go_simp
            try with_reducible rfl
          try simp only [Act.put, List.setIfInBounds_toArray, List.set_cons_zero, List.set_cons_succ]
          refine region_take 11 ?_ rfl (by kernel_rfl) (by rfl) hHeld ?_ ?_
          rotate_left
          · intro w hSw
            (try dsimp only at hSw)
            go_simp
            try with_reducible rfl
          try simp only [Act.put, List.setIfInBounds_toArray, List.set_cons_zero, List.set_cons_succ]
          refine region_take 12 ?_ rfl (by kernel_rfl) (by rfl) hHeld ?_ ?_
          rotate_left
          · intro w hSw
            (try dsimp only at hSw)
            go_simp
            try with_reducible rfl
          try simp only [Act.put, List.setIfInBounds_toArray, List.set_cons_zero, List.set_cons_succ]
          refine region_skip 13 rfl (by kernel_rfl) (by rfl) hHeld ?_
          try simp only [Act.put, List.setIfInBounds_toArray, List.set_cons_zero, List.set_cons_succ]
          refine region_skip 14 rfl (by kernel_rfl) (by rfl) hHeld ?_
          try simp only [Act.put, List.setIfInBounds_toArray, List.set_cons_zero, List.set_cons_succ]
          refine region_skip 15 rfl (by kernel_rfl) (by rfl) hHeld ?_
          try simp only [Act.put, List.setIfInBounds_toArray, List.set_cons_zero, List.set_cons_succ]
          refine region_skip 16 rfl (by kernel_rfl) (by rfl) hHeld ?_
          try simp only [Act.put, List.setIfInBounds_toArray, List.set_cons_zero, List.set_cons_succ]
          refine region_skip 17 rfl (by kernel_rfl) (by rfl) hHeld ?_
          try simp only [Act.put, List.setIfInBounds_toArray, List.set_cons_zero, List.set_cons_succ]
          refine region_skip 18 rfl (by kernel_rfl) (by rfl) hHeld ?_
          try simp only [Act.put, List.setIfInBounds_toArray, List.set_cons_zero, List.set_cons_succ]
          refine region_skip 19 rfl (by kernel_rfl) (by rfl) hHeld ?_
          try simp only [Act.put, List.setIfInBounds_toArray, List.set_cons_zero, List.set_cons_succ]
          refine region_take 20 ?_ rfl (by kernel_rfl) (by rfl) hHeld ?_ ?_
          rotate_left
          · intro w hSw
            (try dsimp only at hSw)
            go_simp
            try with_reducible rfl
          try simp only [Act.put, List.setIfInBounds_toArray, List.set_cons_zero, List.set_cons_succ]
          refine region_take 21 ?_ rfl (by kernel_rfl) (by rfl) hHeld ?_ ?_
          rotate_left
          · intro w hSw
            (try dsimp only at hSw)
            go_simp
            try with_reducible rfl
          try simp only [Act.put, List.setIfInBounds_toArray, List.set_cons_zero, List.set_cons_succ]
          refine region_skip 22 rfl (by kernel_rfl) (by rfl) hHeld ?_
          try simp only [Act.put, List.setIfInBounds_toArray, List.set_cons_zero, List.set_cons_succ]
          refine region_skip 23 rfl (by kernel_rfl) (by rfl) hHeld ?_
          try simp only [Act.put, List.setIfInBounds_toArray, List.set_cons_zero, List.set_cons_succ]
          refine region_skip 24 rfl (by kernel_rfl) (by rfl) hHeld ?_
          try simp only [Act.put, List.setIfInBounds_toArray, List.set_cons_zero, List.set_cons_succ]
          refine region_skip 25 rfl (by kernel_rfl) (by rfl) hHeld ?_
          try simp only [Act.put, List.setIfInBounds_toArray, List.set_cons_zero, List.set_cons_succ]
          refine region_skip 26 rfl (by kernel_rfl) (by rfl) hHeld ?_
          try simp only [Act.put, List.setIfInBounds_toArray, List.set_cons_zero, List.set_cons_succ]
          refine region_skip 27 rfl (by kernel_rfl) (by rfl) hHeld ?_
          try simp only [Act.put, List.setIfInBounds_toArray, List.set_cons_zero, List.set_cons_succ]
          refine region_skip 28 rfl (by kernel_rfl) (by rfl) hHeld ?_
          try simp only [Act.put, List.setIfInBounds_toArray, List.set_cons_zero, List.set_cons_succ]
          refine region_take 29 ?_ rfl (by kernel_rfl) (by rfl) hHeld ?_ ?_
          rotate_left
          · intro w hSw
            (try dsimp only at hSw)
            go_simp
            try with_reducible rfl
          try simp only [Act.put, List.setIfInBounds_toArray, List.set_cons_zero, List.set_cons_succ]
          refine region_take 30 ?_ rfl (by kernel_rfl) (by rfl) hHeld ?_ ?_
          rotate_left
          · intro w hSw
            (try dsimp only at hSw)
            go_simp
            try with_reducible rfl
          try simp only [Act.put, List.setIfInBounds_toArray, List.set_cons_zero, List.set_cons_succ]
          refine region_skip 31 rfl (by kernel_rfl) (by rfl) hHeld ?_
          try simp only [Act.put, List.setIfInBounds_toArray, List.set_cons_zero, List.set_cons_succ]
          refine region_skip 32 rfl (by kernel_rfl) (by rfl) hHeld ?_
          try simp only [Act.put, List.setIfInBounds_toArray, List.set_cons_zero, List.set_cons_succ]
          refine region_skip 33 rfl (by kernel_rfl) (by rfl) hHeld ?_
          try simp only [Act.put, List.setIfInBounds_toArray, List.set_cons_zero, List.set_cons_succ]
          refine region_skip 34 rfl (by kernel_rfl) (by rfl) hHeld ?_
          try simp only [Act.put, List.setIfInBounds_toArray, List.set_cons_zero, List.set_cons_succ]
          refine region_skip 35 rfl (by kernel_rfl) (by rfl) hHeld ?_
          try simp only [Act.put, List.setIfInBounds_toArray, List.set_cons_zero, List.set_cons_succ]
          refine region_skip 36 rfl (by kernel_rfl) (by rfl) hHeld ?_
          try simp only [Act.put, List.setIfInBounds_toArray, List.set_cons_zero, List.set_cons_succ]
          refine region_skip 37 rfl (by kernel_rfl) (by rfl) hHeld ?_
          try simp only [Act.put, List.setIfInBounds_toArray, List.set_cons_zero, List.set_cons_succ]
          refine region_skip 38 rfl (by kernel_rfl) (by rfl) hHeld ?_
          try simp only [Act.put, List.setIfInBounds_toArray, List.set_cons_zero, List.set_cons_succ]
          refine region_skip 39 rfl (by kernel_rfl) (by rfl) hHeld ?_
          try simp only [Act.put, List.setIfInBounds_toArray, List.set_cons_zero, List.set_cons_succ]
          refine region_skip 40 rfl (by kernel_rfl) (by rfl) hHeld ?_
          try simp only [Act.put, List.setIfInBounds_toArray, List.set_cons_zero, List.set_cons_succ]
          refine region_skip 41 rfl (by kernel_rfl) (by rfl) hHeld ?_
          try simp only [Act.put, List.setIfInBounds_toArray, List.set_cons_zero, List.set_cons_succ]
          refine region_skip 42 rfl (by kernel_rfl) (by rfl) hHeld ?_
          try simp only [Act.put, List.setIfInBounds_toArray, List.set_cons_zero, List.set_cons_succ]
          refine region_skip 43 rfl (by kernel_rfl) (by rfl) hHeld ?_
          try simp only [Act.put, List.setIfInBounds_toArray, List.set_cons_zero, List.set_cons_succ]
          refine region_skip 44 rfl (by kernel_rfl) (by rfl) hHeld ?_
          try simp only [Act.put, List.setIfInBounds_toArray, List.set_cons_zero, List.set_cons_succ]
          refine region_skip 45 rfl (by kernel_rfl) (by rfl) hHeld ?_
          try simp only [Act.put, List.setIfInBounds_toArray, List.set_cons_zero, List.set_cons_succ]
          refine region_skip 46 rfl (by kernel_rfl) (by rfl) hHeld ?_
          try simp only [Act.put, List.setIfInBounds_toArray, List.set_cons_zero, List.set_cons_succ]
          refine region_take 47 ?_ rfl (by kernel_rfl) (by rfl) hHeld ?_ ?_
          rotate_left
          · intro w hSw
            (try dsimp only at hSw)
            go_simp
            try with_reducible rfl
          try simp only [Act.put, List.setIfInBounds_toArray, List.set_cons_zero, List.set_cons_succ]
          refine region_done (by kernel_rfl) ?_
          clear hHeld
          generalize wr.drew = wd at *
          have hwz := HZ1.out.below HBD.out HZ1.out.lt
          have z0 : wd.cell? ⟨w.heap.size, 0, none⟩ = some (.int .i64 0) := hwz.cell 0
          have f0 := hwz.frozen 0
          have z1 : wd.cell? ⟨w.heap.size, 1, none⟩ = some (.int .i64 0) := hwz.cell 1
          have f1 := hwz.frozen 1
          have z2 : wd.cell? ⟨w.heap.size, 2, none⟩ = some (.int .i64 0) := hwz.cell 2
          have f2 := hwz.frozen 2
          have z3 : wd.cell? ⟨w.heap.size, 3, none⟩ = some (.slice none 0 0) := hwz.cell 3
          have f3 := hwz.frozen 3
          have z4 : wd.cell? ⟨w.heap.size, 4, none⟩ = some (.slice none 0 0) := hwz.cell 4
          have f4 := hwz.frozen 4
          have z5 : wd.cell? ⟨w.heap.size, 5, none⟩ = some (.slice none 0 0) := hwz.cell 5
          have f5 := hwz.frozen 5
          have HWZ := Lib.hid hwz
          clear hwz
          have HBF := Lib.hid (HBD.out)
          have HTF : Hid (top0 t = none) := Lib.hid (HTN.out)
          go_wp2_with fail
          have hw6 := ((((((HWZ.out).set_ 0 (.int .i64 0)).set_ 1 (.int .i64 0)).set_ 2 (.int .i64 0)).set_ 3 (.slice none 0 0)).set_ 4 (.slice none 0 0)).set_ 5 (.slice none 0 0)
          have ho6 : Only (fun j => j = w.heap.size) wd ((((((wd.setCell ⟨w.heap.size, 0, none⟩ (.int .i64 0)).setCell ⟨w.heap.size, 1, none⟩ (.int .i64 0)).setCell ⟨w.heap.size, 2, none⟩ (.int .i64 0)).setCell ⟨w.heap.size, 3, none⟩ (.slice none 0 0)).setCell ⟨w.heap.size, 4, none⟩ (.slice none 0 0)).setCell ⟨w.heap.size, 5, none⟩ (.slice none 0 0)) := ((((((Only.refl (fun j => j = w.heap.size) wd).set_ (.inl rfl) 0 _).set_ (.inl rfl) 1 _).set_ (.inl rfl) 2 _).set_ (.inl rfl) 3 _).set_ (.inl rfl) 4 _).set_ (.inl rfl) 5 _
          generalize ((((((wd.setCell ⟨w.heap.size, 0, none⟩ (.int .i64 0)).setCell ⟨w.heap.size, 1, none⟩ (.int .i64 0)).setCell ⟨w.heap.size, 2, none⟩ (.int .i64 0)).setCell ⟨w.heap.size, 3, none⟩ (.slice none 0 0)).setCell ⟨w.heap.size, 4, none⟩ (.slice none 0 0)).setCell ⟨w.heap.size, 5, none⟩ (.slice none 0 0)) = W6 at *
          have q0 : W6.cell? ⟨w.heap.size, 0, none⟩ = some (.int .i64 0) := hw6.cell 0
          have q1 : W6.cell? ⟨w.heap.size, 1, none⟩ = some (.int .i64 0) := hw6.cell 1
          have q2 : W6.cell? ⟨w.heap.size, 2, none⟩ = some (.int .i64 0) := hw6.cell 2
          have q3 : W6.cell? ⟨w.heap.size, 3, none⟩ = some (.slice none 0 0) := hw6.cell 3
          have q4 : W6.cell? ⟨w.heap.size, 4, none⟩ = some (.slice none 0 0) := hw6.cell 4
          have q5 : W6.cell? ⟨w.heap.size, 5, none⟩ = some (.slice none 0 0) := hw6.cell 5
          have hb6 := ((HB1.out.trans (HBF.out.mono HB1.out.size))).trans (ho6.below (B := w.heap.size) (Nat.le_trans HB1.out.size HBF.out.size) fun k hk e => by omega)
          clear hw6 ho6
          (try simp only [Exit.inBlock, Exit.then])
          refine bodyPost_ret (by simp [results, Tryd.results42, go_sem, q0, q1, q2, q3, q4, q5]; try rfl) rfl ?_
          exact ReadPost.no HTF.out hb6
      · have HTN := Lib.hid (cont_end HC0.out (by have := HN.out; omega))
        clear hp1
        go_wp2_with fail
        have ege0 : decide (n ≤ p) = true := by rw [decide_eq_true_iff]; have := hpl; omega
        have ege1 : decide ((n : Int) ≤ (p : Int)) = true := by rw [decide_eq_true_iff]; have := hpl; omega
        have ege2 : decide ((p : Int) ≥ (n : Int)) = true := by rw [decide_eq_true_iff]; have := hpl; omega
        refine region_begin_any (S := fun _ => True) (by kernel_rfl) (trivial) (fun W hW hHeld => ?_)
        subst hW
        refine region_take 0 ?_ rfl (by kernel_rfl) (by rfl) hHeld ?_ ?_
        rotate_left
        · intro w hSw
          (try dsimp only at hSw)
          go_simp
          try with_reducible rfl
        try simp only [Act.put, List.setIfInBounds_toArray, List.set_cons_zero, List.set_cons_succ]
        refine region_take 1 ?_ rfl (by kernel_rfl) (by rfl) hHeld ?_ ?_
        rotate_left
        · intro w hSw
          (try dsimp only at hSw)
          go_simp
          try with_reducible rfl
        try simp only [Act.put, List.setIfInBounds_toArray, List.set_cons_zero, List.set_cons_succ]
        refine region_take 2 ?_ rfl (by kernel_rfl) (by rfl) hHeld ?_ ?_
        rotate_left
        · intro w hSw
          (try dsimp only at hSw)
          go_simp
          try with_reducible rfl
        try simp only [Act.put, List.setIfInBounds_toArray, List.set_cons_zero, List.set_cons_succ]
        refine region_take 3 ?_ rfl (by kernel_rfl) (by rfl) hHeld ?_ ?_
        rotate_left
        · intro w hSw
          (try dsimp only at hSw)
          go_simp
          try with_reducible rfl
        try simp only [Act.put, List.setIfInBounds_toArray, List.set_cons_zero, List.set_cons_succ]
        refine region_take 4 ?_ rfl (by kernel_rfl) (by rfl) hHeld ?_ ?_
        rotate_left
        · intro w hSw
          (try dsimp only at hSw)
          go_simp
          try with_reducible rfl
        try simp only [Act.put, List.setIfInBounds_toArray, List.set_cons_zero, List.set_cons_succ]
        refine region_skip 5 rfl (by kernel_rfl) (by rfl) hHeld ?_
        try simp only [Act.put, List.setIfInBounds_toArray, List.set_cons_zero, List.set_cons_succ]
        refine region_skip 6 rfl (by kernel_rfl) (by rfl) hHeld ?_
        try simp only [Act.put, List.setIfInBounds_toArray, List.set_cons_zero, List.set_cons_succ]
        refine region_skip 7 rfl (by kernel_rfl) (by rfl) hHeld ?_
        try simp only [Act.put, List.setIfInBounds_toArray, List.set_cons_zero, List.set_cons_succ]
        refine region_skip 8 rfl (by kernel_rfl) (by rfl) hHeld ?_
        try simp only [Act.put, List.setIfInBounds_toArray, List.set_cons_zero, List.set_cons_succ]
        refine region_skip 9 rfl (by kernel_rfl) (by rfl) hHeld ?_
        try simp only [Act.put, List.setIfInBounds_toArray, List.set_cons_zero, List.set_cons_succ]
        refine region_skip 10 rfl (by kernel_rfl) (by rfl) hHeld ?_
        try simp only [Act.put, List.setIfInBounds_toArray, List.set_cons_zero, List.set_cons_succ]
        refine region_take 11 ?_ rfl (by kernel_rfl) (by rfl) hHeld ?_ ?_
        rotate_left
        · intro w hSw
          (try dsimp only at hSw)
          go_simp
          try with_reducible rfl
        try simp only [Act.put, List.setIfInBounds_toArray, List.set_cons_zero, List.set_cons_succ]
        refine region_take 12 ?_ rfl (by kernel_rfl) (by rfl) hHeld ?_ ?_
        rotate_left
        · intro w hSw
          (try dsimp only at hSw)
          go_simp
          try with_reducible rfl
        try simp only [Act.put, List.setIfInBounds_toArray, List.set_cons_zero, List.set_cons_succ]
        refine region_skip 13 rfl (by kernel_rfl) (by rfl) hHeld ?_
        try simp only [Act.put, List.setIfInBounds_toArray, List.set_cons_zero, List.set_cons_succ]
        refine region_skip 14 rfl (by kernel_rfl) (by rfl) hHeld ?_
        try simp only [Act.put, List.setIfInBounds_toArray, List.set_cons_zero, List.set_cons_succ]
        refine region_skip 15 rfl (by kernel_rfl) (by rfl) hHeld ?_
        try simp only [Act.put, List.setIfInBounds_toArray, List.set_cons_zero, List.set_cons_succ]
        refine region_skip 16 rfl (by kernel_rfl) (by rfl) hHeld ?_
        try simp only [Act.put, List.setIfInBounds_toArray, List.set_cons_zero, List.set_cons_succ]
        refine region_skip 17 rfl (by kernel_rfl) (by rfl) hHeld ?_
        try simp only [Act.put, List.setIfInBounds_toArray, List.set_cons_zero, List.set_cons_succ]
        refine region_skip 18 rfl (by kernel_rfl) (by rfl) hHeld ?_
        try simp only [Act.put, List.setIfInBounds_toArray, List.set_cons_zero, List.set_cons_succ]
        refine region_skip 19 rfl (by kernel_rfl) (by rfl) hHeld ?_
        try simp only [Act.put, List.setIfInBounds_toArray, List.set_cons_zero, List.set_cons_succ]
        refine region_take 20 ?_ rfl (by kernel_rfl) (by rfl) hHeld ?_ ?_
        rotate_left
        · intro w hSw
          (try dsimp only at hSw)
          go_simp
          try with_reducible rfl
        try simp only [Act.put, List.setIfInBounds_toArray, List.set_cons_zero, List.set_cons_succ]
        refine region_take 21 ?_ rfl (by kernel_rfl) (by rfl) hHeld ?_ ?_
        rotate_left
        · intro w hSw
          (try dsimp only at hSw)
          go_simp
          try with_reducible rfl
        try simp only [Act.put, List.setIfInBounds_toArray, List.set_cons_zero, List.set_cons_succ]
        refine region_skip 22 rfl (by kernel_rfl) (by rfl) hHeld ?_
        try simp only [Act.put, List.setIfInBounds_toArray, List.set_cons_zero, List.set_cons_succ]
        refine region_skip 23 rfl (by kernel_rfl) (by rfl) hHeld ?_
        try simp only [Act.put, List.setIfInBounds_toArray, List.set_cons_zero, List.set_cons_succ]
        refine region_skip 24 rfl (by kernel_rfl) (by rfl) hHeld ?_
        try simp only [Act.put, List.setIfInBounds_toArray, List.set_cons_zero, List.set_cons_succ]
        refine region_skip 25 rfl (by kernel_rfl) (by rfl) hHeld ?_
        try simp only [Act.put, List.setIfInBounds_toArray, List.set_cons_zero, List.set_cons_succ]
        refine region_skip 26 rfl (by kernel_rfl) (by rfl) hHeld ?_
        try simp only [Act.put, List.setIfInBounds_toArray, List.set_cons_zero, List.set_cons_succ]
        refine region_skip 27 rfl (by kernel_rfl) (by rfl) hHeld ?_
        try simp only [Act.put, List.setIfInBounds_toArray, List.set_cons_zero, List.set_cons_succ]
        refine region_skip 28 rfl (by kernel_rfl) (by rfl) hHeld ?_
        try simp only [Act.put, List.setIfInBounds_toArray, List.set_cons_zero, List.set_cons_succ]
        refine region_take 29 ?_ rfl (by kernel_rfl) (by rfl) hHeld ?_ ?_
        rotate_left
        · intro w hSw
          (try dsimp only at hSw)
          go_simp
          try with_reducible rfl
        try simp only [Act.put, List.setIfInBounds_toArray, List.set_cons_zero, List.set_cons_succ]
        refine region_take 30 ?_ rfl (by kernel_rfl) (by rfl) hHeld ?_ ?_
        rotate_left
        · intro w hSw
          (try dsimp only at hSw)
          go_simp
          try with_reducible rfl
        try simp only [Act.put, List.setIfInBounds_toArray, List.set_cons_zero, List.set_cons_succ]
        refine region_skip 31 rfl (by kernel_rfl) (by rfl) hHeld ?_
        try simp only [Act.put, List.setIfInBounds_toArray, List.set_cons_zero, List.set_cons_succ]
        refine region_skip 32 rfl (by kernel_rfl) (by rfl) hHeld ?_
        try simp only [Act.put, List.setIfInBounds_toArray, List.set_cons_zero, List.set_cons_succ]
        refine region_skip 33 rfl (by kernel_rfl) (by rfl) hHeld ?_
        try simp only [Act.put, List.setIfInBounds_toArray, List.set_cons_zero, List.set_cons_succ]
        refine region_skip 34 rfl (by kernel_rfl) (by rfl) hHeld ?_
        try simp only [Act.put, List.setIfInBounds_toArray, List.set_cons_zero, List.set_cons_succ]
        refine region_skip 35 rfl (by kernel_rfl) (by rfl) hHeld ?_
        try simp only [Act.put, List.setIfInBounds_toArray, List.set_cons_zero, List.set_cons_succ]
        refine region_skip 36 rfl (by kernel_rfl) (by rfl) hHeld ?_
        try simp only [Act.put, List.setIfInBounds_toArray, List.set_cons_zero, List.set_cons_succ]
        refine region_skip 37 rfl (by kernel_rfl) (by rfl) hHeld ?_
        try simp only [Act.put, List.setIfInBounds_toArray, List.set_cons_zero, List.set_cons_succ]
        refine region_skip 38 rfl (by kernel_rfl) (by rfl) hHeld ?_
        try simp only [Act.put, List.setIfInBounds_toArray, List.set_cons_zero, List.set_cons_succ]
        refine region_skip 39 rfl (by kernel_rfl) (by rfl) hHeld ?_
        try simp only [Act.put, List.setIfInBounds_toArray, List.set_cons_zero, List.set_cons_succ]
        refine region_skip 40 rfl (by kernel_rfl) (by rfl) hHeld ?_
        try simp only [Act.put, List.setIfInBounds_toArray, List.set_cons_zero, List.set_cons_succ]
        refine region_skip 41 rfl (by kernel_rfl) (by rfl) hHeld ?_
        try simp only [Act.put, List.setIfInBounds_toArray, List.set_cons_zero, List.set_cons_succ]
        refine region_skip 42 rfl (by kernel_rfl) (by rfl) hHeld ?_
        try simp only [Act.put, List.setIfInBounds_toArray, List.set_cons_zero, List.set_cons_succ]
        refine region_skip 43 rfl (by kernel_rfl) (by rfl) hHeld ?_
        try simp only [Act.put, List.setIfInBounds_toArray, List.set_cons_zero, List.set_cons_succ]
        refine region_skip 44 rfl (by kernel_rfl) (by rfl) hHeld ?_
        try simp only [Act.put, List.setIfInBounds_toArray, List.set_cons_zero, List.set_cons_succ]
        refine region_skip 45 rfl (by kernel_rfl) (by rfl) hHeld ?_
        try simp only [Act.put, List.setIfInBounds_toArray, List.set_cons_zero, List.set_cons_succ]
        refine region_skip 46 rfl (by kernel_rfl) (by rfl) hHeld ?_
        try simp only [Act.put, List.setIfInBounds_toArray, List.set_cons_zero, List.set_cons_succ]
        refine region_take 47 ?_ rfl (by kernel_rfl) (by rfl) hHeld ?_ ?_
        rotate_left
        · intro w hSw
          (try dsimp only at hSw)
          go_simp
          try with_reducible rfl
        try simp only [Act.put, List.setIfInBounds_toArray, List.set_cons_zero, List.set_cons_succ]
        refine region_done (by kernel_rfl) ?_
        clear hHeld
        generalize wr.drew = wd at *
        have hwz := HZ1.out.below HBD.out HZ1.out.lt
        have z0 : wd.cell? ⟨w.heap.size, 0, none⟩ = some (.int .i64 0) := hwz.cell 0
        have f0 := hwz.frozen 0
        have z1 : wd.cell? ⟨w.heap.size, 1, none⟩ = some (.int .i64 0) := hwz.cell 1
        have f1 := hwz.frozen 1
        have z2 : wd.cell? ⟨w.heap.size, 2, none⟩ = some (.int .i64 0) := hwz.cell 2
        have f2 := hwz.frozen 2
        have z3 : wd.cell? ⟨w.heap.size, 3, none⟩ = some (.slice none 0 0) := hwz.cell 3
        have f3 := hwz.frozen 3
        have z4 : wd.cell? ⟨w.heap.size, 4, none⟩ = some (.slice none 0 0) := hwz.cell 4
        have f4 := hwz.frozen 4
        have z5 : wd.cell? ⟨w.heap.size, 5, none⟩ = some (.slice none 0 0) := hwz.cell 5
        have f5 := hwz.frozen 5
        have HWZ := Lib.hid hwz
        clear hwz
        have HBF := Lib.hid (HBD.out)
        have HTF : Hid (top0 t = none) := Lib.hid (HTN.out)
        go_wp2_with fail
        have hw6 := ((((((HWZ.out).set_ 0 (.int .i64 0)).set_ 1 (.int .i64 0)).set_ 2 (.int .i64 0)).set_ 3 (.slice none 0 0)).set_ 4 (.slice none 0 0)).set_ 5 (.slice none 0 0)
        have ho6 : Only (fun j => j = w.heap.size) wd ((((((wd.setCell ⟨w.heap.size, 0, none⟩ (.int .i64 0)).setCell ⟨w.heap.size, 1, none⟩ (.int .i64 0)).setCell ⟨w.heap.size, 2, none⟩ (.int .i64 0)).setCell ⟨w.heap.size, 3, none⟩ (.slice none 0 0)).setCell ⟨w.heap.size, 4, none⟩ (.slice none 0 0)).setCell ⟨w.heap.size, 5, none⟩ (.slice none 0 0)) := ((((((Only.refl (fun j => j = w.heap.size) wd).set_ (.inl rfl) 0 _).set_ (.inl rfl) 1 _).set_ (.inl rfl) 2 _).set_ (.inl rfl) 3 _).set_ (.inl rfl) 4 _).set_ (.inl rfl) 5 _
        generalize ((((((wd.setCell ⟨w.heap.size, 0, none⟩ (.int .i64 0)).setCell ⟨w.heap.size, 1, none⟩ (.int .i64 0)).setCell ⟨w.heap.size, 2, none⟩ (.int .i64 0)).setCell ⟨w.heap.size, 3, none⟩ (.slice none 0 0)).setCell ⟨w.heap.size, 4, none⟩ (.slice none 0 0)).setCell ⟨w.heap.size, 5, none⟩ (.slice none 0 0)) = W6 at *
        have q0 : W6.cell? ⟨w.heap.size, 0, none⟩ = some (.int .i64 0) := hw6.cell 0
        have q1 : W6.cell? ⟨w.heap.size, 1, none⟩ = some (.int .i64 0) := hw6.cell 1
        have q2 : W6.cell? ⟨w.heap.size, 2, none⟩ = some (.int .i64 0) := hw6.cell 2
        have q3 : W6.cell? ⟨w.heap.size, 3, none⟩ = some (.slice none 0 0) := hw6.cell 3
        have q4 : W6.cell? ⟨w.heap.size, 4, none⟩ = some (.slice none 0 0) := hw6.cell 4
        have q5 : W6.cell? ⟨w.heap.size, 5, none⟩ = some (.slice none 0 0) := hw6.cell 5
        have hb6 := ((HB1.out.trans (HBF.out.mono HB1.out.size))).trans (ho6.below (B := w.heap.size) (Nat.le_trans HB1.out.size HBF.out.size) fun k hk e => by omega)
        clear hw6 ho6
        (try simp only [Exit.inBlock, Exit.then])
        refine bodyPost_ret (by simp [results, Tryd.results42, go_sem, q0, q1, q2, q3, q4, q5]; try rfl) rfl ?_
        exact ReadPost.no HTF.out hb6
    · have hnl : ¬ i' < b := hlt
      have HTP : Hid (top0 t = some (treeA (2, xA, xB) ats [] [], t.drop p)) := Lib.hid (by
        have := HCT.out
        rw [show b - i' = 0 by omega] at this
        exact cont_done this)
      have HPL : Hid ((treeA (2, xA, xB) ats [] []).length = p) := Lib.hid (by
        unfold treeA
        simp only [kidsA, List.length_cons, List.length_append, List.length_map, List.length_nil]
        rw [HAL.out]
        omega)
      obtain ⟨Ao, ca, rfl, -, -⟩ := own_slice HG.out.ownA
      have HDN := Lib.hid (HG.out.done rfl rfl rfl (fun h1 => by simp at h1) (fun h12 => by simp at h12) (fun x hx => by
        rcases hx with hx | hx
        · rw [HFN.out x hx]; decide
        · cases hx) (follow_sort (n := (2, xA, xB)) rfl).2.symm (fun h => absurd rfl h))
      obtain ⟨wo, rfl⟩ : ∃ wo : World, wo = wr := ⟨_, rfl⟩
      clear hp1
      go_wp2_with fail
      go_loopw [8, 10] (fun at_ i wr => at_ = .int .i64 (p : Int) ∧ i = .int .i64 0 ∧ wr = wo) (fun _ _ _ => 0)
      case atStart => exact ⟨rfl, rfl, rfl⟩
      case round =>
        obtain ⟨rfl, rfl, rfl⟩ := hrel
        have hwo := HG.out.whole
        have o0 : wr.cell? ⟨w1.heap.size, 0, none⟩ = some (.int .i64 2) := hwo.cell 0
        have o1 : wr.cell? ⟨w1.heap.size, 1, none⟩ = some (.int .i64 xA) := hwo.cell 1
        have o2 : wr.cell? ⟨w1.heap.size, 2, none⟩ = some (.int .i64 xB) := hwo.cell 2
        have o3 : wr.cell? ⟨w1.heap.size, 3, none⟩ = some (.slice none 0 0) := hwo.cell 3
        have o4 : wr.cell? ⟨w1.heap.size, 4, none⟩ = some (.slice Ao ats.length ca) := hwo.cell 4
        have o5 : wr.cell? ⟨w1.heap.size, 5, none⟩ = some (.slice none 0 0) := hwo.cell 5
        clear hwo
        have hwz := HZ1.out.below HBR.out HZ1.out.lt
        have z0 : wr.cell? ⟨w.heap.size, 0, none⟩ = some (.int .i64 0) := hwz.cell 0
        have f0 := hwz.frozen 0
        have z1 : wr.cell? ⟨w.heap.size, 1, none⟩ = some (.int .i64 0) := hwz.cell 1
        have f1 := hwz.frozen 1
        have z2 : wr.cell? ⟨w.heap.size, 2, none⟩ = some (.int .i64 0) := hwz.cell 2
        have f2 := hwz.frozen 2
        have z3 : wr.cell? ⟨w.heap.size, 3, none⟩ = some (.slice none 0 0) := hwz.cell 3
        have f3 := hwz.frozen 3
        have z4 : wr.cell? ⟨w.heap.size, 4, none⟩ = some (.slice none 0 0) := hwz.cell 4
        have f4 := hwz.frozen 4
        have z5 : wr.cell? ⟨w.heap.size, 5, none⟩ = some (.slice none 0 0) := hwz.cell 5
        have f5 := hwz.frozen 5
        have HWZ := Lib.hid hwz
        clear hwz
        go_wp2_with fail
        have hw6 := ((((((HWZ.out).set_ 0 (.int .i64 2)).set_ 1 (.int .i64 xA)).set_ 2 (.int .i64 xB)).set_ 3 (.slice none 0 0)).set_ 4 (.slice Ao ats.length ca)).set_ 5 (.slice none 0 0)
        have ho6 : Only (fun j => j = w.heap.size) wr ((((((wr.setCell ⟨w.heap.size, 0, none⟩ (.int .i64 2)).setCell ⟨w.heap.size, 1, none⟩ (.int .i64 xA)).setCell ⟨w.heap.size, 2, none⟩ (.int .i64 xB)).setCell ⟨w.heap.size, 3, none⟩ (.slice none 0 0)).setCell ⟨w.heap.size, 4, none⟩ (.slice Ao ats.length ca)).setCell ⟨w.heap.size, 5, none⟩ (.slice none 0 0)) := ((((((Only.refl (fun j => j = w.heap.size) wr).set_ (.inl rfl) 0 _).set_ (.inl rfl) 1 _).set_ (.inl rfl) 2 _).set_ (.inl rfl) 3 _).set_ (.inl rfl) 4 _).set_ (.inl rfl) 5 _
        generalize ((((((wr.setCell ⟨w.heap.size, 0, none⟩ (.int .i64 2)).setCell ⟨w.heap.size, 1, none⟩ (.int .i64 xA)).setCell ⟨w.heap.size, 2, none⟩ (.int .i64 xB)).setCell ⟨w.heap.size, 3, none⟩ (.slice none 0 0)).setCell ⟨w.heap.size, 4, none⟩ (.slice Ao ats.length ca)).setCell ⟨w.heap.size, 5, none⟩ (.slice none 0 0)) = W6 at *
        have q0 : W6.cell? ⟨w.heap.size, 0, none⟩ = some (.int .i64 2) := hw6.cell 0
        have q1 : W6.cell? ⟨w.heap.size, 1, none⟩ = some (.int .i64 xA) := hw6.cell 1
        have q2 : W6.cell? ⟨w.heap.size, 2, none⟩ = some (.int .i64 xB) := hw6.cell 2
        have q3 : W6.cell? ⟨w.heap.size, 3, none⟩ = some (.slice none 0 0) := hw6.cell 3
        have q4 : W6.cell? ⟨w.heap.size, 4, none⟩ = some (.slice Ao ats.length ca) := hw6.cell 4
        have q5 : W6.cell? ⟨w.heap.size, 5, none⟩ = some (.slice none 0 0) := hw6.cell 5
        have hb6 := HBW.out.trans (ho6.below (B := w.heap.size) (HBW.out.size) fun k hk e => by omega)
        have ht6 := (HDN.out.keep fun k hk hl => ho6.block k hl (by have := HZ1.out.lt; omega)).mono (G' := fun k => w.heap.size ≤ k) fun k hk _ => by have := HZ1.out.lt; omega
        clear hw6 ho6
        (try simp only [Exit.inBlock, Exit.then])
        refine bodyPost_ret (by simp [results, Tryd.results42, go_sem, q0, q1, q2, q3, q4, q5]; try rfl) rfl ?_
        exact ReadPost.yes HTP.out HPL.out ht6 hb6
end Go.Proofs.YtkkkblghihheeaaDoor
