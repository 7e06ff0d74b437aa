/- LevelJoins: the greater of two levels is above both, and under what both are under; a level is under itself, and under what is higher. -/
import Derived.Test.YtdpannjnhhjicaaLJoinsA
import Derived.Test.YtdpannjnhhjicaaLTightK
import Derived.Test.YtdpannjnhhjicaaLOrdersLaw
namespace Go.Proofs.Ytdpannjnhhjicaa
open Go.RowKit

theorem below_stepJ0 {B : Nat} {w w1 w2 : World} (h : Below B w w1) (k : Below w1.heap.size w1 w2) (hB : B ≤ w1.heap.size) : Below B w w2 := h.trans (k.mono hB)
set_option maxRecDepth 100000 in
set_option maxHeartbeats 8000000 in
theorem ljoins_main (A B C D F : Option Addr) (n c k f nb b' nd d' nf f' : Nat) (lo hi : Int) (E : List Ord3) (a b cc : List Atom2) (m : Nat) (w : World) (hn : E.length = n) (hA : Holds w A (ordsV E)) (h1 : ¬ 100 < n) (hB : LevelAt w B nb b' a) (hD : LevelAt w D nd d' b) (hF : LevelAt w F nf f' cc) (dd : Dist) (hd : distS m E = some dd) (r0 : rightS m a = true) (r1 : rightS m b = true) (r2 : rightS m cc = true) :
    Calls Try.prog 9 #[ordAgg (m : Int) A C n c k f lo hi, .slice B nb b', .slice D nd d', .slice F nf f'] w fun e w' => e = .returned (.bool true) ∧ Below w.heap.size w w' := by
  have hb0 := (Below.refl w.heap.size w).alloc (Nat.le_refl _) (ordBox (m : Int) A C n c k f lo hi)
  have hx := holds_at w #[.int .i64 (m : Int), .slice A n c, .slice C k f, .int .i64 lo, .int .i64 hi] 39 _ rfl
  have t1 : ¬ (100 : Int) < (n : Int) := by omega
  have l0 := right_len r0
  have l1 := right_len r1
  have l2 := right_len r2
  rw [hB.1] at l0
  rw [hD.1] at l1
  rw [hF.1] at l2
  have e1 : wrap64 ((nb : Int) + (nd : Int)) = (nb : Int) + (nd : Int) := IntWalk.wrap64_in _ (by omega)
  have e2 : wrap64 ((nb : Int) + (nd : Int) + (nf : Int)) = (nb : Int) + (nd : Int) + (nf : Int) := IntWalk.wrap64_in _ (by omega)
  have t2 : ¬ (50 : Int) < (nb : Int) + (nd : Int) + (nf : Int) := by omega
  have he : errS m E = 0 := ((err_right (dist_some hd).1).1 dd hd).1
  have CK := Lib.hid fun w hA => check_n m A c n E w hn hA (by omega) 0 he
  have R0 := Lib.hid fun w (h : LevelAt w B nb b' a) => pright_n B b' nb a m w h (by omega) _ r0
  have R1 := Lib.hid fun w (h : LevelAt w D nd d' b) => pright_n D d' nd b m w h (by omega) _ r1
  have R2 := Lib.hid fun w (h : LevelAt w F nf f' cc) => pright_n F f' nf cc m w h (by omega) _ r2
  have Wa := right_wide r0
  have Wb := right_wide r1
  have Wc := right_wide r2
  obtain ⟨haa, hT, hU, hM⟩ := joins_facts hd r0 r1 r2
  rw [hB.1, hD.1] at hM
  obtain ⟨uab, hab⟩ : ∃ r, underS m E a b = r := ⟨_, rfl⟩
  obtain ⟨ubc, hbc⟩ : ∃ r, underS m E b cc = r := ⟨_, rfl⟩
  obtain ⟨uac, hac⟩ : ∃ r, underS m E a cc = r := ⟨_, rfl⟩
  rw [hab, hbc, hac] at hT
  rw [hbc, hac] at hM
  have UAA := Lib.hid fun w hA (hB : LevelAt w B nb b' a) => under_l m A B B c n nb b' nb b' E a a w hn hA (by omega) hB hB Wa Wa _ haa
  have UAB := Lib.hid fun w hA (hB : LevelAt w B nb b' a) (hD : LevelAt w D nd d' b) => under_l m A B D c n nb b' nd d' E a b w hn hA (by omega) hB hD Wa Wb _ hab
  have UBC := Lib.hid fun w hA (hD : LevelAt w D nd d' b) (hF : LevelAt w F nf f' cc) => under_l m A D F c n nd d' nf f' E b cc w hn hA (by omega) hD hF Wb Wc _ hbc
  have UAC := Lib.hid fun w hA (hB : LevelAt w B nb b' a) (hF : LevelAt w F nf f' cc) => under_l m A B F c n nb b' nf f' E a cc w hn hA (by omega) hB hF Wa Wc _ hac
  have UP := Lib.hid fun w (hB : LevelAt w B nb b' a) => (up_any B nb b' a 1 w hB).mono fun _ _ => upPost_le
  have MX := Lib.hid fun w (hB : LevelAt w B nb b' a) (hD : LevelAt w D nd d' b) => (max_any B D nb nd b' d' a b w hB hD).mono fun _ _ => maxPost_le
  have UAU := Lib.hid fun (hu : upErr 1 a = 0) w A1 n1 k1 hA (hB : LevelAt w B nb b' a) (hX : LevelAt w A1 n1 k1 (upRes 1 a)) => under_l m A B A1 c n nb b' n1 k1 E a (upRes 1 a) w hn hA (by omega) hB hX Wa (hU hu).2 _ (hU hu).1
  have UAM := Lib.hid fun (hu : underS m E a (maxRes a b) = true) (Wm : WideA (maxRes a b)) w A1 n1 k1 hA (hB : LevelAt w B nb b' a) (hX : LevelAt w A1 n1 k1 (maxRes a b)) => under_l m A B A1 c n nb b' n1 k1 E a (maxRes a b) w hn hA (by omega) hB hX Wa Wm _ hu
  have UBM := Lib.hid fun (hu : underS m E b (maxRes a b) = true) (Wm : WideA (maxRes a b)) w A1 n1 k1 hA (hD : LevelAt w D nd d' b) (hX : LevelAt w A1 n1 k1 (maxRes a b)) => under_l m A D A1 c n nd d' n1 k1 E b (maxRes a b) w hn hA (by omega) hD hX Wb Wm _ hu
  have UMC := Lib.hid fun r (hu : underS m E (maxRes a b) cc = r) (Wm : WideA (maxRes a b)) w A1 n1 k1 hA (hX : LevelAt w A1 n1 k1 (maxRes a b)) (hF : LevelAt w F nf f' cc) => under_l m A A1 F c n n1 k1 nf f' E (maxRes a b) cc w hn hA (by omega) hX hF Wm Wc r hu
  clear he r0 r1 r2 hU haa hab hbc hac hd hn Wa Wb Wc
  generalize upRes 1 a = ur at *
  generalize upErr 1 a = ue at *
  replace hM := Lib.hid hM
  go_enter Try.func9, Try.ntmps9
  go_wp2_with fail
  refine (awake_any _).mono ?_
  rintro e w1 ⟨rfl, hb1⟩
  have hb := below_step hb0 hb1
  have HX := hx.below hb1
  clear hb0 hb1 hx
  have c0 : w1.cell? ⟨w.heap.size, 0, none⟩ = some (.int .i64 (m : Int)) := HX.cell (j := 0) rfl
  have c1 : w1.cell? ⟨w.heap.size, 1, none⟩ = some (.slice A n c) := HX.cell (j := 1) rfl
  have c2 : w1.cell? ⟨w.heap.size, 2, none⟩ = some (.slice C k f) := HX.cell (j := 2) rfl
  have c3 : w1.cell? ⟨w.heap.size, 3, none⟩ = some (.int .i64 lo) := HX.cell (j := 3) rfl
  have c4 : w1.cell? ⟨w.heap.size, 4, none⟩ = some (.int .i64 hi) := HX.cell (j := 4) rfl
  replace hA := hA.below hb
  replace hB := hB.below hb
  replace hD := hD.below hb
  replace hF := hF.below hb
  go_wp2_with fail
  refine (CK.out _ hA).mono ?_
  rintro e w2 ⟨rfl, g⟩
  clear c0 c1 c2 c3 c4
  replace HX := HX.below g
  replace hA := hA.below g
  replace hB := hB.below g
  replace hD := hD.below g
  replace hF := hF.below g
  replace hb := below_step hb g
  clear g
  have c0 : w2.cell? ⟨w.heap.size, 0, none⟩ = some (.int .i64 (m : Int)) := HX.cell (j := 0) rfl
  have c1 : w2.cell? ⟨w.heap.size, 1, none⟩ = some (.slice A n c) := HX.cell (j := 1) rfl
  have c2 : w2.cell? ⟨w.heap.size, 2, none⟩ = some (.slice C k f) := HX.cell (j := 2) rfl
  have c3 : w2.cell? ⟨w.heap.size, 3, none⟩ = some (.int .i64 lo) := HX.cell (j := 3) rfl
  have c4 : w2.cell? ⟨w.heap.size, 4, none⟩ = some (.int .i64 hi) := HX.cell (j := 4) rfl
  go_wp2_with fail
  refine (R0.out _ hB).mono ?_
  rintro e w3 ⟨rfl, g⟩
  clear c0 c1 c2 c3 c4
  replace HX := HX.below g
  replace hA := hA.below g
  replace hB := hB.below g
  replace hD := hD.below g
  replace hF := hF.below g
  replace hb := below_step hb g
  clear g
  have c0 : w3.cell? ⟨w.heap.size, 0, none⟩ = some (.int .i64 (m : Int)) := HX.cell (j := 0) rfl
  have c1 : w3.cell? ⟨w.heap.size, 1, none⟩ = some (.slice A n c) := HX.cell (j := 1) rfl
  have c2 : w3.cell? ⟨w.heap.size, 2, none⟩ = some (.slice C k f) := HX.cell (j := 2) rfl
  have c3 : w3.cell? ⟨w.heap.size, 3, none⟩ = some (.int .i64 lo) := HX.cell (j := 3) rfl
  have c4 : w3.cell? ⟨w.heap.size, 4, none⟩ = some (.int .i64 hi) := HX.cell (j := 4) rfl
  go_wp2_with fail
  refine (R1.out _ hD).mono ?_
  rintro e w4 ⟨rfl, g⟩
  clear c0 c1 c2 c3 c4
  replace HX := HX.below g
  replace hA := hA.below g
  replace hB := hB.below g
  replace hD := hD.below g
  replace hF := hF.below g
  replace hb := below_step hb g
  clear g
  have c0 : w4.cell? ⟨w.heap.size, 0, none⟩ = some (.int .i64 (m : Int)) := HX.cell (j := 0) rfl
  have c1 : w4.cell? ⟨w.heap.size, 1, none⟩ = some (.slice A n c) := HX.cell (j := 1) rfl
  have c2 : w4.cell? ⟨w.heap.size, 2, none⟩ = some (.slice C k f) := HX.cell (j := 2) rfl
  have c3 : w4.cell? ⟨w.heap.size, 3, none⟩ = some (.int .i64 lo) := HX.cell (j := 3) rfl
  have c4 : w4.cell? ⟨w.heap.size, 4, none⟩ = some (.int .i64 hi) := HX.cell (j := 4) rfl
  go_wp2_with fail
  refine (R2.out _ hF).mono ?_
  rintro e w5 ⟨rfl, g⟩
  clear c0 c1 c2 c3 c4
  replace HX := HX.below g
  replace hA := hA.below g
  replace hB := hB.below g
  replace hD := hD.below g
  replace hF := hF.below g
  replace hb := below_step hb g
  clear g
  have c0 : w5.cell? ⟨w.heap.size, 0, none⟩ = some (.int .i64 (m : Int)) := HX.cell (j := 0) rfl
  have c1 : w5.cell? ⟨w.heap.size, 1, none⟩ = some (.slice A n c) := HX.cell (j := 1) rfl
  have c2 : w5.cell? ⟨w.heap.size, 2, none⟩ = some (.slice C k f) := HX.cell (j := 2) rfl
  have c3 : w5.cell? ⟨w.heap.size, 3, none⟩ = some (.int .i64 lo) := HX.cell (j := 3) rfl
  have c4 : w5.cell? ⟨w.heap.size, 4, none⟩ = some (.int .i64 hi) := HX.cell (j := 4) rfl
  have hc := Below.refl w5.heap.size w5
  go_upto_region 5 with fail
  go_cut [94] from 59 to 94 (fun s wx => s = .bool false ∧ Below w5.heap.size w5 wx)
  case first =>
    cases uab
    · go_wp2_with fail
      refine (UAA.out _ hA hB).mono ?_
      rintro e w6 ⟨rfl, g⟩
      clear c0 c1 c2 c3 c4
      replace HX := HX.below g
      replace hA := hA.below g
      replace hB := hB.below g
      replace hD := hD.below g
      replace hF := hF.below g
      replace hb := below_step hb g
      replace hc := below_stepJ hc g hc.size
      clear g
      have c0 : w6.cell? ⟨w.heap.size, 0, none⟩ = some (.int .i64 (m : Int)) := HX.cell (j := 0) rfl
      have c1 : w6.cell? ⟨w.heap.size, 1, none⟩ = some (.slice A n c) := HX.cell (j := 1) rfl
      have c2 : w6.cell? ⟨w.heap.size, 2, none⟩ = some (.slice C k f) := HX.cell (j := 2) rfl
      have c3 : w6.cell? ⟨w.heap.size, 3, none⟩ = some (.int .i64 lo) := HX.cell (j := 3) rfl
      have c4 : w6.cell? ⟨w.heap.size, 4, none⟩ = some (.int .i64 hi) := HX.cell (j := 4) rfl
      go_wp2_with fail
      refine (UAB.out _ hA hB hD).mono ?_
      rintro e w7 ⟨rfl, g⟩
      clear c0 c1 c2 c3 c4
      replace HX := HX.below g
      replace hA := hA.below g
      replace hB := hB.below g
      replace hD := hD.below g
      replace hF := hF.below g
      replace hb := below_step hb g
      replace hc := below_stepJ hc g hc.size
      clear g
      have c0 : w7.cell? ⟨w.heap.size, 0, none⟩ = some (.int .i64 (m : Int)) := HX.cell (j := 0) rfl
      have c1 : w7.cell? ⟨w.heap.size, 1, none⟩ = some (.slice A n c) := HX.cell (j := 1) rfl
      have c2 : w7.cell? ⟨w.heap.size, 2, none⟩ = some (.slice C k f) := HX.cell (j := 2) rfl
      have c3 : w7.cell? ⟨w.heap.size, 3, none⟩ = some (.int .i64 lo) := HX.cell (j := 3) rfl
      have c4 : w7.cell? ⟨w.heap.size, 4, none⟩ = some (.int .i64 hi) := HX.cell (j := 4) rfl
      go_wp2_with fail
      go_meet
      exact ⟨rfl, hc⟩
    · cases ubc
      · go_wp2_with fail
        refine (UAA.out _ hA hB).mono ?_
        rintro e w6 ⟨rfl, g⟩
        clear c0 c1 c2 c3 c4
        replace HX := HX.below g
        replace hA := hA.below g
        replace hB := hB.below g
        replace hD := hD.below g
        replace hF := hF.below g
        replace hb := below_step hb g
        replace hc := below_stepJ hc g hc.size
        clear g
        have c0 : w6.cell? ⟨w.heap.size, 0, none⟩ = some (.int .i64 (m : Int)) := HX.cell (j := 0) rfl
        have c1 : w6.cell? ⟨w.heap.size, 1, none⟩ = some (.slice A n c) := HX.cell (j := 1) rfl
        have c2 : w6.cell? ⟨w.heap.size, 2, none⟩ = some (.slice C k f) := HX.cell (j := 2) rfl
        have c3 : w6.cell? ⟨w.heap.size, 3, none⟩ = some (.int .i64 lo) := HX.cell (j := 3) rfl
        have c4 : w6.cell? ⟨w.heap.size, 4, none⟩ = some (.int .i64 hi) := HX.cell (j := 4) rfl
        go_wp2_with fail
        refine (UAB.out _ hA hB hD).mono ?_
        rintro e w7 ⟨rfl, g⟩
        clear c0 c1 c2 c3 c4
        replace HX := HX.below g
        replace hA := hA.below g
        replace hB := hB.below g
        replace hD := hD.below g
        replace hF := hF.below g
        replace hb := below_step hb g
        replace hc := below_stepJ hc g hc.size
        clear g
        have c0 : w7.cell? ⟨w.heap.size, 0, none⟩ = some (.int .i64 (m : Int)) := HX.cell (j := 0) rfl
        have c1 : w7.cell? ⟨w.heap.size, 1, none⟩ = some (.slice A n c) := HX.cell (j := 1) rfl
        have c2 : w7.cell? ⟨w.heap.size, 2, none⟩ = some (.slice C k f) := HX.cell (j := 2) rfl
        have c3 : w7.cell? ⟨w.heap.size, 3, none⟩ = some (.int .i64 lo) := HX.cell (j := 3) rfl
        have c4 : w7.cell? ⟨w.heap.size, 4, none⟩ = some (.int .i64 hi) := HX.cell (j := 4) rfl
        go_wp2_with fail
        refine (UBC.out _ hA hD hF).mono ?_
        rintro e w8 ⟨rfl, g⟩
        clear c0 c1 c2 c3 c4
        replace HX := HX.below g
        replace hA := hA.below g
        replace hB := hB.below g
        replace hD := hD.below g
        replace hF := hF.below g
        replace hb := below_step hb g
        replace hc := below_stepJ hc g hc.size
        clear g
        have c0 : w8.cell? ⟨w.heap.size, 0, none⟩ = some (.int .i64 (m : Int)) := HX.cell (j := 0) rfl
        have c1 : w8.cell? ⟨w.heap.size, 1, none⟩ = some (.slice A n c) := HX.cell (j := 1) rfl
        have c2 : w8.cell? ⟨w.heap.size, 2, none⟩ = some (.slice C k f) := HX.cell (j := 2) rfl
        have c3 : w8.cell? ⟨w.heap.size, 3, none⟩ = some (.int .i64 lo) := HX.cell (j := 3) rfl
        have c4 : w8.cell? ⟨w.heap.size, 4, none⟩ = some (.int .i64 hi) := HX.cell (j := 4) rfl
        go_wp2_with fail
        go_meet
        exact ⟨rfl, hc⟩
      · obtain rfl := hT rfl rfl
        go_wp2_with fail
        refine (UAA.out _ hA hB).mono ?_
        rintro e w6 ⟨rfl, g⟩
        clear c0 c1 c2 c3 c4
        replace HX := HX.below g
        replace hA := hA.below g
        replace hB := hB.below g
        replace hD := hD.below g
        replace hF := hF.below g
        replace hb := below_step hb g
        replace hc := below_stepJ hc g hc.size
        clear g
        have c0 : w6.cell? ⟨w.heap.size, 0, none⟩ = some (.int .i64 (m : Int)) := HX.cell (j := 0) rfl
        have c1 : w6.cell? ⟨w.heap.size, 1, none⟩ = some (.slice A n c) := HX.cell (j := 1) rfl
        have c2 : w6.cell? ⟨w.heap.size, 2, none⟩ = some (.slice C k f) := HX.cell (j := 2) rfl
        have c3 : w6.cell? ⟨w.heap.size, 3, none⟩ = some (.int .i64 lo) := HX.cell (j := 3) rfl
        have c4 : w6.cell? ⟨w.heap.size, 4, none⟩ = some (.int .i64 hi) := HX.cell (j := 4) rfl
        go_wp2_with fail
        refine (UAB.out _ hA hB hD).mono ?_
        rintro e w7 ⟨rfl, g⟩
        clear c0 c1 c2 c3 c4
        replace HX := HX.below g
        replace hA := hA.below g
        replace hB := hB.below g
        replace hD := hD.below g
        replace hF := hF.below g
        replace hb := below_step hb g
        replace hc := below_stepJ hc g hc.size
        clear g
        have c0 : w7.cell? ⟨w.heap.size, 0, none⟩ = some (.int .i64 (m : Int)) := HX.cell (j := 0) rfl
        have c1 : w7.cell? ⟨w.heap.size, 1, none⟩ = some (.slice A n c) := HX.cell (j := 1) rfl
        have c2 : w7.cell? ⟨w.heap.size, 2, none⟩ = some (.slice C k f) := HX.cell (j := 2) rfl
        have c3 : w7.cell? ⟨w.heap.size, 3, none⟩ = some (.int .i64 lo) := HX.cell (j := 3) rfl
        have c4 : w7.cell? ⟨w.heap.size, 4, none⟩ = some (.int .i64 hi) := HX.cell (j := 4) rfl
        go_wp2_with fail
        refine (UBC.out _ hA hD hF).mono ?_
        rintro e w8 ⟨rfl, g⟩
        clear c0 c1 c2 c3 c4
        replace HX := HX.below g
        replace hA := hA.below g
        replace hB := hB.below g
        replace hD := hD.below g
        replace hF := hF.below g
        replace hb := below_step hb g
        replace hc := below_stepJ hc g hc.size
        clear g
        have c0 : w8.cell? ⟨w.heap.size, 0, none⟩ = some (.int .i64 (m : Int)) := HX.cell (j := 0) rfl
        have c1 : w8.cell? ⟨w.heap.size, 1, none⟩ = some (.slice A n c) := HX.cell (j := 1) rfl
        have c2 : w8.cell? ⟨w.heap.size, 2, none⟩ = some (.slice C k f) := HX.cell (j := 2) rfl
        have c3 : w8.cell? ⟨w.heap.size, 3, none⟩ = some (.int .i64 lo) := HX.cell (j := 3) rfl
        have c4 : w8.cell? ⟨w.heap.size, 4, none⟩ = some (.int .i64 hi) := HX.cell (j := 4) rfl
        go_wp2_with fail
        refine (UAC.out _ hA hB hF).mono ?_
        rintro e w9 ⟨rfl, g⟩
        clear c0 c1 c2 c3 c4
        replace HX := HX.below g
        replace hA := hA.below g
        replace hB := hB.below g
        replace hD := hD.below g
        replace hF := hF.below g
        replace hb := below_step hb g
        replace hc := below_stepJ hc g hc.size
        clear g
        have c0 : w9.cell? ⟨w.heap.size, 0, none⟩ = some (.int .i64 (m : Int)) := HX.cell (j := 0) rfl
        have c1 : w9.cell? ⟨w.heap.size, 1, none⟩ = some (.slice A n c) := HX.cell (j := 1) rfl
        have c2 : w9.cell? ⟨w.heap.size, 2, none⟩ = some (.slice C k f) := HX.cell (j := 2) rfl
        have c3 : w9.cell? ⟨w.heap.size, 3, none⟩ = some (.int .i64 lo) := HX.cell (j := 3) rfl
        have c4 : w9.cell? ⟨w.heap.size, 4, none⟩ = some (.int .i64 hi) := HX.cell (j := 4) rfl
        go_wp2_with fail
        go_meet
        exact ⟨rfl, hc⟩
  case rest =>
    obtain ⟨rfl, g⟩ := hcut
    obtain ⟨w6, rfl⟩ : ∃ z : World, z = wc := ⟨_, rfl⟩
    clear c0 c1 c2 c3 c4
    replace HX := HX.below g
    replace hA := hA.below g
    replace hB := hB.below g
    replace hD := hD.below g
    replace hF := hF.below g
    replace hb := below_step hb g
    clear g
    have c0 : w6.cell? ⟨w.heap.size, 0, none⟩ = some (.int .i64 (m : Int)) := HX.cell (j := 0) rfl
    have c1 : w6.cell? ⟨w.heap.size, 1, none⟩ = some (.slice A n c) := HX.cell (j := 1) rfl
    have c2 : w6.cell? ⟨w.heap.size, 2, none⟩ = some (.slice C k f) := HX.cell (j := 2) rfl
    have c3 : w6.cell? ⟨w.heap.size, 3, none⟩ = some (.int .i64 lo) := HX.cell (j := 3) rfl
    have c4 : w6.cell? ⟨w.heap.size, 4, none⟩ = some (.int .i64 hi) := HX.cell (j := 4) rfl
    clear hc hT
    go_wp2_with fail
    refine (UP.out _ hB).mono ?_
    rintro e w7 ⟨A1, n1, k1, rfl, hu1, _, g⟩
    clear c0 c1 c2 c3 c4
    replace HX := HX.below g
    replace hA := hA.below g
    replace hB := hB.below g
    replace hD := hD.below g
    replace hF := hF.below g
    replace hb := below_step hb g
    clear g
    have c0 : w7.cell? ⟨w.heap.size, 0, none⟩ = some (.int .i64 (m : Int)) := HX.cell (j := 0) rfl
    have c1 : w7.cell? ⟨w.heap.size, 1, none⟩ = some (.slice A n c) := HX.cell (j := 1) rfl
    have c2 : w7.cell? ⟨w.heap.size, 2, none⟩ = some (.slice C k f) := HX.cell (j := 2) rfl
    have c3 : w7.cell? ⟨w.heap.size, 3, none⟩ = some (.int .i64 lo) := HX.cell (j := 3) rfl
    have c4 : w7.cell? ⟨w.heap.size, 4, none⟩ = some (.int .i64 hi) := HX.cell (j := 4) rfl
    have hc := Below.refl w7.heap.size w7
    go_upto_region 8 with fail
    go_cut [111] from 100 to 111 (fun s wx => s = .bool false ∧ Below w7.heap.size w7 wx)
    case first =>
      by_cases hz : ue = 0
      · subst hz
        go_wp2_with fail
        refine (UAU.out (by trivial) _ _ _ _ hA hB hu1).mono ?_
        rintro e w8 ⟨rfl, g⟩
        clear c0 c1 c2 c3 c4
        replace HX := HX.below g
        replace hA := hA.below g
        replace hB := hB.below g
        replace hD := hD.below g
        replace hF := hF.below g
        replace hu1 := hu1.below g
        replace hb := below_step hb g
        replace hc := below_stepJ hc g hc.size
        clear g
        have c0 : w8.cell? ⟨w.heap.size, 0, none⟩ = some (.int .i64 (m : Int)) := HX.cell (j := 0) rfl
        have c1 : w8.cell? ⟨w.heap.size, 1, none⟩ = some (.slice A n c) := HX.cell (j := 1) rfl
        have c2 : w8.cell? ⟨w.heap.size, 2, none⟩ = some (.slice C k f) := HX.cell (j := 2) rfl
        have c3 : w8.cell? ⟨w.heap.size, 3, none⟩ = some (.int .i64 lo) := HX.cell (j := 3) rfl
        have c4 : w8.cell? ⟨w.heap.size, 4, none⟩ = some (.int .i64 hi) := HX.cell (j := 4) rfl
        go_wp2_with fail
        go_meet
        exact ⟨rfl, hc⟩
      · have hz' : (ue == 0) = false := by simpa using hz
        go_wp2_with fail
        go_meet
        exact ⟨rfl, hc⟩
    case rest =>
      obtain ⟨rfl, g⟩ := hcut
      obtain ⟨w8, rfl⟩ : ∃ z : World, z = wc := ⟨_, rfl⟩
      clear c0 c1 c2 c3 c4
      replace HX := HX.below g
      replace hA := hA.below g
      replace hB := hB.below g
      replace hD := hD.below g
      replace hF := hF.below g
      replace hu1 := hu1.below g
      replace hb := below_step hb g
      clear g
      have c0 : w8.cell? ⟨w.heap.size, 0, none⟩ = some (.int .i64 (m : Int)) := HX.cell (j := 0) rfl
      have c1 : w8.cell? ⟨w.heap.size, 1, none⟩ = some (.slice A n c) := HX.cell (j := 1) rfl
      have c2 : w8.cell? ⟨w.heap.size, 2, none⟩ = some (.slice C k f) := HX.cell (j := 2) rfl
      have c3 : w8.cell? ⟨w.heap.size, 3, none⟩ = some (.int .i64 lo) := HX.cell (j := 3) rfl
      have c4 : w8.cell? ⟨w.heap.size, 4, none⟩ = some (.int .i64 hi) := HX.cell (j := 4) rfl
      clear hc hu1 UAU
      replace hM := hM.out
      generalize maxErr a b = me at *
      rcases hM with ⟨rfl, m1, m2, m3, Wm⟩ | ⟨rfl, hl⟩
      · go_wp2_with fail
        refine (MX.out _ hB hD).mono ?_
        rintro e w9 ⟨A2, n2, k2, rfl, hm, _, g⟩
        clear c0 c1 c2 c3 c4
        replace HX := HX.below g
        replace hA := hA.below g
        replace hB := hB.below g
        replace hD := hD.below g
        replace hF := hF.below g
        replace hb := below_step hb g
        clear g
        have c0 : w9.cell? ⟨w.heap.size, 0, none⟩ = some (.int .i64 (m : Int)) := HX.cell (j := 0) rfl
        have c1 : w9.cell? ⟨w.heap.size, 1, none⟩ = some (.slice A n c) := HX.cell (j := 1) rfl
        have c2 : w9.cell? ⟨w.heap.size, 2, none⟩ = some (.slice C k f) := HX.cell (j := 2) rfl
        have c3 : w9.cell? ⟨w.heap.size, 3, none⟩ = some (.int .i64 lo) := HX.cell (j := 3) rfl
        have c4 : w9.cell? ⟨w.heap.size, 4, none⟩ = some (.int .i64 hi) := HX.cell (j := 4) rfl
        go_wp2_with fail
        refine (UAM.out m1 Wm _ _ _ _ hA hB hm).mono ?_
        rintro e w10 ⟨rfl, g⟩
        clear c0 c1 c2 c3 c4
        replace HX := HX.below g
        replace hA := hA.below g
        replace hB := hB.below g
        replace hD := hD.below g
        replace hF := hF.below g
        replace hm := hm.below g
        replace hb := below_step hb g
        clear g
        have c0 : w10.cell? ⟨w.heap.size, 0, none⟩ = some (.int .i64 (m : Int)) := HX.cell (j := 0) rfl
        have c1 : w10.cell? ⟨w.heap.size, 1, none⟩ = some (.slice A n c) := HX.cell (j := 1) rfl
        have c2 : w10.cell? ⟨w.heap.size, 2, none⟩ = some (.slice C k f) := HX.cell (j := 2) rfl
        have c3 : w10.cell? ⟨w.heap.size, 3, none⟩ = some (.int .i64 lo) := HX.cell (j := 3) rfl
        have c4 : w10.cell? ⟨w.heap.size, 4, none⟩ = some (.int .i64 hi) := HX.cell (j := 4) rfl
        go_wp2_with fail
        refine (UBM.out m2 Wm _ _ _ _ hA hD hm).mono ?_
        rintro e w11 ⟨rfl, g⟩
        clear c0 c1 c2 c3 c4
        replace HX := HX.below g
        replace hA := hA.below g
        replace hB := hB.below g
        replace hD := hD.below g
        replace hF := hF.below g
        replace hm := hm.below g
        replace hb := below_step hb g
        clear g
        have c0 : w11.cell? ⟨w.heap.size, 0, none⟩ = some (.int .i64 (m : Int)) := HX.cell (j := 0) rfl
        have c1 : w11.cell? ⟨w.heap.size, 1, none⟩ = some (.slice A n c) := HX.cell (j := 1) rfl
        have c2 : w11.cell? ⟨w.heap.size, 2, none⟩ = some (.slice C k f) := HX.cell (j := 2) rfl
        have c3 : w11.cell? ⟨w.heap.size, 3, none⟩ = some (.int .i64 lo) := HX.cell (j := 3) rfl
        have c4 : w11.cell? ⟨w.heap.size, 4, none⟩ = some (.int .i64 hi) := HX.cell (j := 4) rfl
        cases uac
        · have MC := Lib.hid (UMC.out _ m3 Wm)
          simp only [Bool.false_and] at MC
          have HKS := Lib.hid fun (w' : World) (g : Below w11.heap.size w11 w') => (show w'.cell? ⟨w.heap.size, 0, none⟩ = some (.int .i64 m) ∧ w'.cell? ⟨w.heap.size, 1, none⟩ = some (.slice A n c) from ⟨(HX.below g).cell (j := 0) rfl, (HX.below g).cell (j := 1) rfl⟩)
          go_wp2_with fail
          clear c0 c1 c2 c3 c4
          refine region_begin_any (S := fun w' => w'.cell? ⟨w.heap.size, 0, none⟩ = some (.int .i64 m) ∧ w'.cell? ⟨w.heap.size, 1, none⟩ = some (.slice A n c)) (by kernel_rfl) (HKS.out _ (below_drewN (Below.refl _ _) 1)) (fun W hW hHeld => ?_)
          have h0 : Below w11.heap.size w11 W := by rw [hW]; exact below_drewN (Below.refl _ _) 1
          clear hW
          obtain ⟨W0, rfl⟩ : ∃ W0 : World, W0 = W := ⟨_, rfl⟩
          refine region_take 0 ?_ rfl (by kernel_rfl) (by rfl) hHeld ?_ ?_
          rotate_left
          · intro w hSw
            (try dsimp only at hSw)
            go_simp
            try with_reducible rfl
          try simp only [Act.put, List.setIfInBounds_toArray, List.set_cons_zero, List.set_cons_succ]
          refine region_take 1 ?_ rfl (by kernel_rfl) (by rfl) hHeld ?_ ?_
          rotate_left
          · intro w hSw
            (try dsimp only at hSw)
            go_simp
            try with_reducible rfl
          try simp only [Act.put, List.setIfInBounds_toArray, List.set_cons_zero, List.set_cons_succ]
          refine region_take 2 ?_ rfl (by kernel_rfl) (by rfl) hHeld ?_ ?_
          rotate_left
          · intro w hSw
            (try dsimp only at hSw)
            go_simp
            try with_reducible rfl
          try simp only [Act.put, List.setIfInBounds_toArray, List.set_cons_zero, List.set_cons_succ]
          refine region_take 3 ?_ rfl (by kernel_rfl) (by rfl) hHeld ?_ ?_
          rotate_left
          · intro w hSw
            (try dsimp only at hSw)
            go_simp
            try with_reducible rfl
          try simp only [Act.put, List.setIfInBounds_toArray, List.set_cons_zero, List.set_cons_succ]
          refine region_take 4 ?_ rfl (by kernel_rfl) (by rfl) hHeld ?_ ?_
          rotate_left
          · intro w hSw
            (try dsimp only at hSw)
            go_simp
            try with_reducible rfl
          try simp only [Act.put, List.setIfInBounds_toArray, List.set_cons_zero, List.set_cons_succ]
          refine region_take 5 ?_ rfl (by kernel_rfl) (by rfl) hHeld ?_ ?_
          rotate_left
          · intro w hSw
            (try dsimp only at hSw)
            go_simp
            try with_reducible rfl
          try simp only [Act.put, List.setIfInBounds_toArray, List.set_cons_zero, List.set_cons_succ]
          refine region_take 7 ?_ rfl (by kernel_rfl) (by rfl) hHeld ?_ ?_
          rotate_left
          · intro w hSw
            (try dsimp only at hSw)
            go_simp
            try with_reducible rfl
          try simp only [Act.put, List.setIfInBounds_toArray, List.set_cons_zero, List.set_cons_succ]
          refine region_take 8 ?_ rfl (by kernel_rfl) (by rfl) hHeld ?_ ?_
          rotate_left
          · intro w hSw
            (try dsimp only at hSw)
            go_simp
            try with_reducible rfl
          try simp only [Act.put, List.setIfInBounds_toArray, List.set_cons_zero, List.set_cons_succ]
          refine region_take 9 ?_ rfl (by kernel_rfl) (by rfl) hHeld ?_ ?_
          rotate_left
          · intro w hSw
            (try dsimp only at hSw)
            go_simp
            try with_reducible rfl
          try simp only [Act.put, List.setIfInBounds_toArray, List.set_cons_zero, List.set_cons_succ]
          refine region_take 10 ?_ rfl (by kernel_rfl) (by rfl) hHeld ?_ ?_
          rotate_left
          · intro w hSw
            (try dsimp only at hSw)
            go_simp
            try with_reducible rfl
          try simp only [Act.put, List.setIfInBounds_toArray, List.set_cons_zero, List.set_cons_succ]
          refine region_take 11 ?_ rfl (by kernel_rfl) (by rfl) hHeld ?_ ?_
          rotate_left
          · intro w hSw
            (try dsimp only at hSw)
            go_simp
            try with_reducible rfl
          try simp only [Act.put, List.setIfInBounds_toArray, List.set_cons_zero, List.set_cons_succ]
          refine region_take 12 ?_ rfl (by kernel_rfl) (by rfl) hHeld ?_ ?_
          rotate_left
          · intro w hSw
            (try dsimp only at hSw)
            go_simp
            try with_reducible rfl
          try simp only [Act.put, List.setIfInBounds_toArray, List.set_cons_zero, List.set_cons_succ]
          refine region_call 6 rfl (by kernel_rfl) (by rfl) (fun K hK => ?_)
          go_simp
          (with_reducible refine (MC.out _ _ _ _ (hA.below h0) (hm.below h0) (hF.below h0)).mono ?_)
          rintro e W1 ⟨rfl, g⟩
          have h1 := below_stepJ h0 g h0.size
          clear g
          refine hK.out _ _ (HKS.out _ h1) (fun hHeld => ?_)
          clear hK K
          try simp only [Act.put, List.setIfInBounds_toArray, List.set_cons_zero, List.set_cons_succ]
          refine region_call 13 rfl (by kernel_rfl) (by rfl) (fun K hK => ?_)
          go_simp
          (with_reducible refine (UAC.out _ (hA.below h1) (hB.below h1) (hF.below h1)).mono ?_)
          rintro e W2 ⟨rfl, g⟩
          have h2 := below_stepJ h1 g h1.size
          clear g
          refine hK.out _ _ (HKS.out _ h2) (fun hHeld => ?_)
          clear hK K
          try simp only [Act.put, List.setIfInBounds_toArray, List.set_cons_zero, List.set_cons_succ]
          refine region_take 14 ?_ rfl (by kernel_rfl) (by rfl) hHeld ?_ ?_
          rotate_left
          · intro w hSw
            (try dsimp only at hSw)
            go_simp
            try with_reducible rfl
          try simp only [Act.put, List.setIfInBounds_toArray, List.set_cons_zero, List.set_cons_succ]
          refine region_skip 15 rfl (by kernel_rfl) (by rfl) hHeld ?_
          try simp only [Act.put, List.setIfInBounds_toArray, List.set_cons_zero, List.set_cons_succ]
          refine region_skip 16 rfl (by kernel_rfl) (by rfl) hHeld ?_
          try simp only [Act.put, List.setIfInBounds_toArray, List.set_cons_zero, List.set_cons_succ]
          refine region_skip 17 rfl (by kernel_rfl) (by rfl) hHeld ?_
          try simp only [Act.put, List.setIfInBounds_toArray, List.set_cons_zero, List.set_cons_succ]
          refine region_skip 18 rfl (by kernel_rfl) (by rfl) hHeld ?_
          try simp only [Act.put, List.setIfInBounds_toArray, List.set_cons_zero, List.set_cons_succ]
          refine region_skip 19 rfl (by kernel_rfl) (by rfl) hHeld ?_
          try simp only [Act.put, List.setIfInBounds_toArray, List.set_cons_zero, List.set_cons_succ]
          refine region_skip 20 rfl (by kernel_rfl) (by rfl) hHeld ?_
          try simp only [Act.put, List.setIfInBounds_toArray, List.set_cons_zero, List.set_cons_succ]
          refine region_skip 21 rfl (by kernel_rfl) (by rfl) hHeld ?_
          try simp only [Act.put, List.setIfInBounds_toArray, List.set_cons_zero, List.set_cons_succ]
          refine region_take 22 ?_ rfl (by kernel_rfl) (by rfl) hHeld ?_ ?_
          rotate_left
          · intro w hSw
            (try dsimp only at hSw)
            go_simp
            try with_reducible rfl
          try simp only [Act.put, List.setIfInBounds_toArray, List.set_cons_zero, List.set_cons_succ]
          refine region_take 23 ?_ rfl (by kernel_rfl) (by rfl) hHeld ?_ ?_
          rotate_left
          · intro w hSw
            (try dsimp only at hSw)
            go_simp
            try with_reducible rfl
          try simp only [Act.put, List.setIfInBounds_toArray, List.set_cons_zero, List.set_cons_succ]
          refine region_take 24 ?_ rfl (by kernel_rfl) (by rfl) hHeld ?_ ?_
          rotate_left
          · intro w hSw
            (try dsimp only at hSw)
            go_simp
            try with_reducible rfl
          try simp only [Act.put, List.setIfInBounds_toArray, List.set_cons_zero, List.set_cons_succ]
          refine region_done (by kernel_rfl) ?_
          clear hHeld
          go_wp2_with fail
          go_ret
          exact ⟨by simp, below_stepJ hb h2 hb.size⟩
        · have MC := Lib.hid (UMC.out _ m3 Wm)
          simp only [Bool.true_and] at MC
          have HKS := Lib.hid fun (w' : World) (g : Below w11.heap.size w11 w') => (show w'.cell? ⟨w.heap.size, 0, none⟩ = some (.int .i64 m) ∧ w'.cell? ⟨w.heap.size, 1, none⟩ = some (.slice A n c) from ⟨(HX.below g).cell (j := 0) rfl, (HX.below g).cell (j := 1) rfl⟩)
          go_wp2_with fail
          clear c0 c1 c2 c3 c4
          refine region_begin_any (S := fun w' => w'.cell? ⟨w.heap.size, 0, none⟩ = some (.int .i64 m) ∧ w'.cell? ⟨w.heap.size, 1, none⟩ = some (.slice A n c)) (by kernel_rfl) (HKS.out _ (below_drewN (Below.refl _ _) 1)) (fun W hW hHeld => ?_)
          have h0 : Below w11.heap.size w11 W := by rw [hW]; exact below_drewN (Below.refl _ _) 1
          clear hW
          obtain ⟨W0, rfl⟩ : ∃ W0 : World, W0 = W := ⟨_, rfl⟩
          refine region_take 0 ?_ rfl (by kernel_rfl) (by rfl) hHeld ?_ ?_
          rotate_left
          · intro w hSw
            (try dsimp only at hSw)
            go_simp
            try with_reducible rfl
          try simp only [Act.put, List.setIfInBounds_toArray, List.set_cons_zero, List.set_cons_succ]
          refine region_take 1 ?_ rfl (by kernel_rfl) (by rfl) hHeld ?_ ?_
          rotate_left
          · intro w hSw
            (try dsimp only at hSw)
            go_simp
            try with_reducible rfl
          try simp only [Act.put, List.setIfInBounds_toArray, List.set_cons_zero, List.set_cons_succ]
          refine region_take 2 ?_ rfl (by kernel_rfl) (by rfl) hHeld ?_ ?_
          rotate_left
          · intro w hSw
            (try dsimp only at hSw)
            go_simp
            try with_reducible rfl
          try simp only [Act.put, List.setIfInBounds_toArray, List.set_cons_zero, List.set_cons_succ]
          refine region_take 3 ?_ rfl (by kernel_rfl) (by rfl) hHeld ?_ ?_
          rotate_left
          · intro w hSw
            (try dsimp only at hSw)
            go_simp
            try with_reducible rfl
          try simp only [Act.put, List.setIfInBounds_toArray, List.set_cons_zero, List.set_cons_succ]
          refine region_take 4 ?_ rfl (by kernel_rfl) (by rfl) hHeld ?_ ?_
          rotate_left
          · intro w hSw
            (try dsimp only at hSw)
            go_simp
            try with_reducible rfl
          try simp only [Act.put, List.setIfInBounds_toArray, List.set_cons_zero, List.set_cons_succ]
          refine region_take 5 ?_ rfl (by kernel_rfl) (by rfl) hHeld ?_ ?_
          rotate_left
          · intro w hSw
            (try dsimp only at hSw)
            go_simp
            try with_reducible rfl
          try simp only [Act.put, List.setIfInBounds_toArray, List.set_cons_zero, List.set_cons_succ]
          refine region_take 7 ?_ rfl (by kernel_rfl) (by rfl) hHeld ?_ ?_
          rotate_left
          · intro w hSw
            (try dsimp only at hSw)
            go_simp
            try with_reducible rfl
          try simp only [Act.put, List.setIfInBounds_toArray, List.set_cons_zero, List.set_cons_succ]
          refine region_take 8 ?_ rfl (by kernel_rfl) (by rfl) hHeld ?_ ?_
          rotate_left
          · intro w hSw
            (try dsimp only at hSw)
            go_simp
            try with_reducible rfl
          try simp only [Act.put, List.setIfInBounds_toArray, List.set_cons_zero, List.set_cons_succ]
          refine region_take 9 ?_ rfl (by kernel_rfl) (by rfl) hHeld ?_ ?_
          rotate_left
          · intro w hSw
            (try dsimp only at hSw)
            go_simp
            try with_reducible rfl
          try simp only [Act.put, List.setIfInBounds_toArray, List.set_cons_zero, List.set_cons_succ]
          refine region_take 10 ?_ rfl (by kernel_rfl) (by rfl) hHeld ?_ ?_
          rotate_left
          · intro w hSw
            (try dsimp only at hSw)
            go_simp
            try with_reducible rfl
          try simp only [Act.put, List.setIfInBounds_toArray, List.set_cons_zero, List.set_cons_succ]
          refine region_take 11 ?_ rfl (by kernel_rfl) (by rfl) hHeld ?_ ?_
          rotate_left
          · intro w hSw
            (try dsimp only at hSw)
            go_simp
            try with_reducible rfl
          try simp only [Act.put, List.setIfInBounds_toArray, List.set_cons_zero, List.set_cons_succ]
          refine region_take 12 ?_ rfl (by kernel_rfl) (by rfl) hHeld ?_ ?_
          rotate_left
          · intro w hSw
            (try dsimp only at hSw)
            go_simp
            try with_reducible rfl
          try simp only [Act.put, List.setIfInBounds_toArray, List.set_cons_zero, List.set_cons_succ]
          refine region_call 6 rfl (by kernel_rfl) (by rfl) (fun K hK => ?_)
          go_simp
          (with_reducible refine (MC.out _ _ _ _ (hA.below h0) (hm.below h0) (hF.below h0)).mono ?_)
          rintro e W1 ⟨rfl, g⟩
          have h1 := below_stepJ h0 g h0.size
          clear g
          refine hK.out _ _ (HKS.out _ h1) (fun hHeld => ?_)
          clear hK K
          try simp only [Act.put, List.setIfInBounds_toArray, List.set_cons_zero, List.set_cons_succ]
          refine region_call 13 rfl (by kernel_rfl) (by rfl) (fun K hK => ?_)
          go_simp
          (with_reducible refine (UAC.out _ (hA.below h1) (hB.below h1) (hF.below h1)).mono ?_)
          rintro e W2 ⟨rfl, g⟩
          have h2 := below_stepJ h1 g h1.size
          clear g
          refine hK.out _ _ (HKS.out _ h2) (fun hHeld => ?_)
          clear hK K
          try simp only [Act.put, List.setIfInBounds_toArray, List.set_cons_zero, List.set_cons_succ]
          refine region_take 14 ?_ rfl (by kernel_rfl) (by rfl) hHeld ?_ ?_
          rotate_left
          · intro w hSw
            (try dsimp only at hSw)
            go_simp
            try with_reducible rfl
          try simp only [Act.put, List.setIfInBounds_toArray, List.set_cons_zero, List.set_cons_succ]
          refine region_take 15 ?_ rfl (by kernel_rfl) (by rfl) hHeld ?_ ?_
          rotate_left
          · intro w hSw
            (try dsimp only at hSw)
            go_simp
            try with_reducible rfl
          try simp only [Act.put, List.setIfInBounds_toArray, List.set_cons_zero, List.set_cons_succ]
          refine region_take 16 ?_ rfl (by kernel_rfl) (by rfl) hHeld ?_ ?_
          rotate_left
          · intro w hSw
            (try dsimp only at hSw)
            go_simp
            try with_reducible rfl
          try simp only [Act.put, List.setIfInBounds_toArray, List.set_cons_zero, List.set_cons_succ]
          refine region_take 17 ?_ rfl (by kernel_rfl) (by rfl) hHeld ?_ ?_
          rotate_left
          · intro w hSw
            (try dsimp only at hSw)
            go_simp
            try with_reducible rfl
          try simp only [Act.put, List.setIfInBounds_toArray, List.set_cons_zero, List.set_cons_succ]
          refine region_take 18 ?_ rfl (by kernel_rfl) (by rfl) hHeld ?_ ?_
          rotate_left
          · intro w hSw
            (try dsimp only at hSw)
            go_simp
            try with_reducible rfl
          try simp only [Act.put, List.setIfInBounds_toArray, List.set_cons_zero, List.set_cons_succ]
          refine region_take 19 ?_ rfl (by kernel_rfl) (by rfl) hHeld ?_ ?_
          rotate_left
          · intro w hSw
            (try dsimp only at hSw)
            go_simp
            try with_reducible rfl
          try simp only [Act.put, List.setIfInBounds_toArray, List.set_cons_zero, List.set_cons_succ]
          refine region_take 20 ?_ rfl (by kernel_rfl) (by rfl) hHeld ?_ ?_
          rotate_left
          · intro w hSw
            (try dsimp only at hSw)
            go_simp
            try with_reducible rfl
          try simp only [Act.put, List.setIfInBounds_toArray, List.set_cons_zero, List.set_cons_succ]
          refine region_call 21 rfl (by kernel_rfl) (by rfl) (fun K hK => ?_)
          go_simp
          (with_reducible refine (UBC.out _ (hA.below h2) (hD.below h2) (hF.below h2)).mono ?_)
          rintro e W3 ⟨rfl, g⟩
          have h3 := below_stepJ h2 g h2.size
          clear g
          refine hK.out _ _ (HKS.out _ h3) (fun hHeld => ?_)
          clear hK K
          try simp only [Act.put, List.setIfInBounds_toArray, List.set_cons_zero, List.set_cons_succ]
          refine region_take 22 ?_ rfl (by kernel_rfl) (by rfl) hHeld ?_ ?_
          rotate_left
          · intro w hSw
            (try dsimp only at hSw)
            go_simp
            try with_reducible rfl
          try simp only [Act.put, List.setIfInBounds_toArray, List.set_cons_zero, List.set_cons_succ]
          refine region_take 23 ?_ rfl (by kernel_rfl) (by rfl) hHeld ?_ ?_
          rotate_left
          · intro w hSw
            (try dsimp only at hSw)
            go_simp
            try with_reducible rfl
          try simp only [Act.put, List.setIfInBounds_toArray, List.set_cons_zero, List.set_cons_succ]
          refine region_take 24 ?_ rfl (by kernel_rfl) (by rfl) hHeld ?_ ?_
          rotate_left
          · intro w hSw
            (try dsimp only at hSw)
            go_simp
            try with_reducible rfl
          try simp only [Act.put, List.setIfInBounds_toArray, List.set_cons_zero, List.set_cons_succ]
          refine region_done (by kernel_rfl) ?_
          clear hHeld
          go_wp2_with fail
          go_ret
          exact ⟨by simp, below_stepJ hb h3 hb.size⟩
      · have t3 : (4 : Int) < (nb : Int) + (nd : Int) := by omega
        go_wp2_with fail
        refine (MX.out _ hB hD).mono ?_
        rintro e w9 ⟨A2, n2, k2, rfl, hm, _, g⟩
        clear c0 c1 c2 c3 c4
        replace HX := HX.below g
        replace hA := hA.below g
        replace hB := hB.below g
        replace hD := hD.below g
        replace hF := hF.below g
        replace hb := below_step hb g
        clear g
        have c0 : w9.cell? ⟨w.heap.size, 0, none⟩ = some (.int .i64 (m : Int)) := HX.cell (j := 0) rfl
        have c1 : w9.cell? ⟨w.heap.size, 1, none⟩ = some (.slice A n c) := HX.cell (j := 1) rfl
        have c2 : w9.cell? ⟨w.heap.size, 2, none⟩ = some (.slice C k f) := HX.cell (j := 2) rfl
        have c3 : w9.cell? ⟨w.heap.size, 3, none⟩ = some (.int .i64 lo) := HX.cell (j := 3) rfl
        have c4 : w9.cell? ⟨w.heap.size, 4, none⟩ = some (.int .i64 hi) := HX.cell (j := 4) rfl
        go_wp2_with fail
        go_ret
        exact ⟨rfl, hb⟩
theorem ljoins_any (A B C D F : Option Addr) (n c k f nb b' nd d' nf f' : Nat) (x lo hi : Int) (E : List Ord3) (a b cc : List Atom2) (w : World) (hn : E.length = n) (hA : Holds w A (ordsV E)) (hB : LevelAt w B nb b' a) (_ : WideA a) (hD : LevelAt w D nd d' b) (_ : WideA b) (hF : LevelAt w F nf f' cc) (_ : WideA cc) :
    Calls Try.prog 9 #[ordAgg x A C n c k f lo hi, .slice B nb b', .slice D nd d', .slice F nf f'] w fun e w' => e = .returned (.bool true) ∧ Below w.heap.size w w' := by
  by_cases h1 : 100 < n
  · exact ljoins_long A B C D F n c k f nb b' nd d' nf f' x lo hi w h1
  · by_cases h : 50 < wrap64 (wrap64 ((nb : Int) + (nd : Int)) + (nf : Int))
    · exact ljoins_many A B C D F n c k f nb b' nd d' nf f' x lo hi w h1 h
    · by_cases he : errS x E = 0
      · cases r0 : rightS x a
        · exact ljoins_not0 A B C D F n c k f nb b' nd d' nf f' x lo hi E a w hn hA h1 h he hB r0
        · cases r1 : rightS x b
          · exact ljoins_not1 A B C D F n c k f nb b' nd d' nf f' x lo hi E a b w hn hA h1 h he hB r0 hD r1
          · cases r2 : rightS x cc
            · exact ljoins_not2 A B C D F n c k f nb b' nd d' nf f' x lo hi E a b cc w hn hA h1 h he hB r0 hD r1 hF r2
            · obtain ⟨dd, hd⟩ := err_zero he
              obtain ⟨m, rfl⟩ := dist_nat hd
              exact ljoins_main A B C D F n c k f nb b' nd d' nf f' lo hi E a b cc m w hn hA h1 hB hD hF dd hd r0 r1 r2
      · exact ljoins_err A B C D F n c k f nb b' nd d' nf f' x lo hi E w hn hA h1 h he
end Go.Proofs.Ytdpannjnhhjicaa
