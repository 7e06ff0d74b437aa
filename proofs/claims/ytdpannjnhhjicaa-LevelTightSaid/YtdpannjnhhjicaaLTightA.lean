/- LevelTight, where it looks at nothing. -/
import Derived.Test.YtdpannjnhhjicaaLTightK
namespace Go.Proofs.Ytdpannjnhhjicaa
open Go.RowKit

set_option maxHeartbeats 4000000 in
theorem ltight_long (A C : Option Addr) (n c k f : Nat) (x lo hi : Int) (far : Int) (w : World) (h : 63 < n) :
    Calls Try.prog 8 #[ordAgg x A C n c k f lo hi, .int .u16 far] w fun e w' => e = .returned (.bool true) ∧ Below w.heap.size w w' := by
  have hb0 := (Below.refl w.heap.size w).alloc (Nat.le_refl _) (ordBox x A C n c k f lo hi)
  have hx := holds_at w #[.int .i64 x, .slice A n c, .slice C k f, .int .i64 lo, .int .i64 hi] 39 _ rfl
  have t1 : (63 : Int) < (n : Int) := by omega
  go_enter Try.func8, Try.ntmps8
  go_wp2_with fail
  refine (awake_any _).mono ?_
  rintro e w1 ⟨rfl, hb1⟩
  have hb := below_step hb0 hb1
  have HX := hx.below hb1
  clear hb0 hb1 hx
  have c0 : w1.cell? ⟨w.heap.size, 0, none⟩ = some (.int .i64 x) := HX.cell (j := 0) rfl
  have c1 : w1.cell? ⟨w.heap.size, 1, none⟩ = some (.slice A n c) := HX.cell (j := 1) rfl
  have c2 : w1.cell? ⟨w.heap.size, 2, none⟩ = some (.slice C k f) := HX.cell (j := 2) rfl
  have c3 : w1.cell? ⟨w.heap.size, 3, none⟩ = some (.int .i64 lo) := HX.cell (j := 3) rfl
  have c4 : w1.cell? ⟨w.heap.size, 4, none⟩ = some (.int .i64 hi) := HX.cell (j := 4) rfl
  go_wp2_with fail
  go_ret
  exact ⟨rfl, hb⟩
set_option maxHeartbeats 4000000 in
theorem ltight_err (A C : Option Addr) (n c k f : Nat) (E : List Ord3) (x lo hi : Int) (far : Int) (w : World) (hn : E.length = n) (hA : Holds w A (ordsV E)) (h63 : n ≤ 63) (he : errS x E ≠ 0) :
    Calls Try.prog 8 #[ordAgg x A C n c k f lo hi, .int .u16 far] w fun e w' => e = .returned (.bool true) ∧ Below w.heap.size w w' := by
  have hb0 := (Below.refl w.heap.size w).alloc (Nat.le_refl _) (ordBox x A C n c k f lo hi)
  have hx := holds_at w #[.int .i64 x, .slice A n c, .slice C k f, .int .i64 lo, .int .i64 hi] 39 _ rfl
  have CK := Lib.hid fun w hA => check_n x A c n E w hn hA (by omega) _ rfl
  have t1 : ¬ (63 : Int) < (n : Int) := by omega
  have hz : (errS x E != 0) = true := by simpa using he
  clear he hn
  go_enter Try.func8, Try.ntmps8
  go_wp2_with fail
  refine (awake_any _).mono ?_
  rintro e w1 ⟨rfl, hb1⟩
  have hb := below_step hb0 hb1
  have HX := hx.below hb1
  clear hb0 hb1 hx
  have c0 : w1.cell? ⟨w.heap.size, 0, none⟩ = some (.int .i64 x) := HX.cell (j := 0) rfl
  have c1 : w1.cell? ⟨w.heap.size, 1, none⟩ = some (.slice A n c) := HX.cell (j := 1) rfl
  have c2 : w1.cell? ⟨w.heap.size, 2, none⟩ = some (.slice C k f) := HX.cell (j := 2) rfl
  have c3 : w1.cell? ⟨w.heap.size, 3, none⟩ = some (.int .i64 lo) := HX.cell (j := 3) rfl
  have c4 : w1.cell? ⟨w.heap.size, 4, none⟩ = some (.int .i64 hi) := HX.cell (j := 4) rfl
  replace hA := hA.below hb
  go_wp2_with fail
  refine (CK.out _ hA).mono ?_
  rintro e w2 ⟨rfl, g⟩
  clear c0 c1 c2 c3 c4
  replace HX := HX.below g
  replace hA := hA.below g
  replace hb := below_step hb g
  clear g
  have c0 : w2.cell? ⟨w.heap.size, 0, none⟩ = some (.int .i64 x) := HX.cell (j := 0) rfl
  have c1 : w2.cell? ⟨w.heap.size, 1, none⟩ = some (.slice A n c) := HX.cell (j := 1) rfl
  have c2 : w2.cell? ⟨w.heap.size, 2, none⟩ = some (.slice C k f) := HX.cell (j := 2) rfl
  have c3 : w2.cell? ⟨w.heap.size, 3, none⟩ = some (.int .i64 lo) := HX.cell (j := 3) rfl
  have c4 : w2.cell? ⟨w.heap.size, 4, none⟩ = some (.int .i64 hi) := HX.cell (j := 4) rfl
  go_wp2_with fail
  go_ret
  exact ⟨rfl, hb⟩
set_option maxHeartbeats 4000000 in
theorem ltight_out0 (A C : Option Addr) (n c k f : Nat) (E : List Ord3) (m : Nat) (lo hi : Int) (far : Int) (w : World) (hn : E.length = n) (hA : Holds w A (ordsV E)) (h63 : n ≤ 63) (he : errS m E = 0)  (o0 : lo < 0) :
    Calls Try.prog 8 #[ordAgg m A C n c k f lo hi, .int .u16 far] w fun e w' => e = .returned (.bool true) ∧ Below w.heap.size w w' := by
  have hb0 := (Below.refl w.heap.size w).alloc (Nat.le_refl _) (ordBox m A C n c k f lo hi)
  have hx := holds_at w #[.int .i64 m, .slice A n c, .slice C k f, .int .i64 lo, .int .i64 hi] 39 _ rfl
  have CK := Lib.hid fun w hA => check_n m A c n E w hn hA (by omega) _ rfl
  have t1 : ¬ (63 : Int) < (n : Int) := by omega
  have hz : (errS m E != 0) = false := by simp [he]
  clear he hn
  go_enter Try.func8, Try.ntmps8
  go_wp2_with fail
  refine (awake_any _).mono ?_
  rintro e w1 ⟨rfl, hb1⟩
  have hb := below_step hb0 hb1
  have HX := hx.below hb1
  clear hb0 hb1 hx
  have c0 : w1.cell? ⟨w.heap.size, 0, none⟩ = some (.int .i64 (m : Int)) := HX.cell (j := 0) rfl
  have c1 : w1.cell? ⟨w.heap.size, 1, none⟩ = some (.slice A n c) := HX.cell (j := 1) rfl
  have c2 : w1.cell? ⟨w.heap.size, 2, none⟩ = some (.slice C k f) := HX.cell (j := 2) rfl
  have c3 : w1.cell? ⟨w.heap.size, 3, none⟩ = some (.int .i64 lo) := HX.cell (j := 3) rfl
  have c4 : w1.cell? ⟨w.heap.size, 4, none⟩ = some (.int .i64 hi) := HX.cell (j := 4) rfl
  replace hA := hA.below hb
  go_wp2_with fail
  refine (CK.out _ hA).mono ?_
  rintro e w2 ⟨rfl, g⟩
  clear c0 c1 c2 c3 c4
  replace HX := HX.below g
  replace hA := hA.below g
  replace hb := below_step hb g
  clear g
  have c0 : w2.cell? ⟨w.heap.size, 0, none⟩ = some (.int .i64 (m : Int)) := HX.cell (j := 0) rfl
  have c1 : w2.cell? ⟨w.heap.size, 1, none⟩ = some (.slice A n c) := HX.cell (j := 1) rfl
  have c2 : w2.cell? ⟨w.heap.size, 2, none⟩ = some (.slice C k f) := HX.cell (j := 2) rfl
  have c3 : w2.cell? ⟨w.heap.size, 3, none⟩ = some (.int .i64 lo) := HX.cell (j := 3) rfl
  have c4 : w2.cell? ⟨w.heap.size, 4, none⟩ = some (.int .i64 hi) := HX.cell (j := 4) rfl
  go_wp2_with fail
  go_ret
  exact ⟨rfl, hb⟩
set_option maxHeartbeats 4000000 in
theorem ltight_out1 (A C : Option Addr) (n c k f : Nat) (E : List Ord3) (m : Nat) (lo hi : Int) (far : Int) (w : World) (hn : E.length = n) (hA : Holds w A (ordsV E)) (h63 : n ≤ 63) (he : errS m E = 0) (o0 : ¬ lo < 0) (o1 : (m : Int) < lo) :
    Calls Try.prog 8 #[ordAgg m A C n c k f lo hi, .int .u16 far] w fun e w' => e = .returned (.bool true) ∧ Below w.heap.size w w' := by
  have hb0 := (Below.refl w.heap.size w).alloc (Nat.le_refl _) (ordBox m A C n c k f lo hi)
  have hx := holds_at w #[.int .i64 m, .slice A n c, .slice C k f, .int .i64 lo, .int .i64 hi] 39 _ rfl
  have CK := Lib.hid fun w hA => check_n m A c n E w hn hA (by omega) _ rfl
  have t1 : ¬ (63 : Int) < (n : Int) := by omega
  have hz : (errS m E != 0) = false := by simp [he]
  clear he hn
  go_enter Try.func8, Try.ntmps8
  go_wp2_with fail
  refine (awake_any _).mono ?_
  rintro e w1 ⟨rfl, hb1⟩
  have hb := below_step hb0 hb1
  have HX := hx.below hb1
  clear hb0 hb1 hx
  have c0 : w1.cell? ⟨w.heap.size, 0, none⟩ = some (.int .i64 (m : Int)) := HX.cell (j := 0) rfl
  have c1 : w1.cell? ⟨w.heap.size, 1, none⟩ = some (.slice A n c) := HX.cell (j := 1) rfl
  have c2 : w1.cell? ⟨w.heap.size, 2, none⟩ = some (.slice C k f) := HX.cell (j := 2) rfl
  have c3 : w1.cell? ⟨w.heap.size, 3, none⟩ = some (.int .i64 lo) := HX.cell (j := 3) rfl
  have c4 : w1.cell? ⟨w.heap.size, 4, none⟩ = some (.int .i64 hi) := HX.cell (j := 4) rfl
  replace hA := hA.below hb
  go_wp2_with fail
  refine (CK.out _ hA).mono ?_
  rintro e w2 ⟨rfl, g⟩
  clear c0 c1 c2 c3 c4
  replace HX := HX.below g
  replace hA := hA.below g
  replace hb := below_step hb g
  clear g
  have c0 : w2.cell? ⟨w.heap.size, 0, none⟩ = some (.int .i64 (m : Int)) := HX.cell (j := 0) rfl
  have c1 : w2.cell? ⟨w.heap.size, 1, none⟩ = some (.slice A n c) := HX.cell (j := 1) rfl
  have c2 : w2.cell? ⟨w.heap.size, 2, none⟩ = some (.slice C k f) := HX.cell (j := 2) rfl
  have c3 : w2.cell? ⟨w.heap.size, 3, none⟩ = some (.int .i64 lo) := HX.cell (j := 3) rfl
  have c4 : w2.cell? ⟨w.heap.size, 4, none⟩ = some (.int .i64 hi) := HX.cell (j := 4) rfl
  go_wp2_with fail
  go_ret
  exact ⟨rfl, hb⟩
set_option maxHeartbeats 4000000 in
theorem ltight_out2 (A C : Option Addr) (n c k f : Nat) (E : List Ord3) (m : Nat) (lo hi : Int) (far : Int) (w : World) (hn : E.length = n) (hA : Holds w A (ordsV E)) (h63 : n ≤ 63) (he : errS m E = 0) (o0 : ¬ lo < 0) (o1 : ¬ (m : Int) < lo) (o2 : hi < 0) :
    Calls Try.prog 8 #[ordAgg m A C n c k f lo hi, .int .u16 far] w fun e w' => e = .returned (.bool true) ∧ Below w.heap.size w w' := by
  have hb0 := (Below.refl w.heap.size w).alloc (Nat.le_refl _) (ordBox m A C n c k f lo hi)
  have hx := holds_at w #[.int .i64 m, .slice A n c, .slice C k f, .int .i64 lo, .int .i64 hi] 39 _ rfl
  have CK := Lib.hid fun w hA => check_n m A c n E w hn hA (by omega) _ rfl
  have t1 : ¬ (63 : Int) < (n : Int) := by omega
  have hz : (errS m E != 0) = false := by simp [he]
  clear he hn
  go_enter Try.func8, Try.ntmps8
  go_wp2_with fail
  refine (awake_any _).mono ?_
  rintro e w1 ⟨rfl, hb1⟩
  have hb := below_step hb0 hb1
  have HX := hx.below hb1
  clear hb0 hb1 hx
  have c0 : w1.cell? ⟨w.heap.size, 0, none⟩ = some (.int .i64 (m : Int)) := HX.cell (j := 0) rfl
  have c1 : w1.cell? ⟨w.heap.size, 1, none⟩ = some (.slice A n c) := HX.cell (j := 1) rfl
  have c2 : w1.cell? ⟨w.heap.size, 2, none⟩ = some (.slice C k f) := HX.cell (j := 2) rfl
  have c3 : w1.cell? ⟨w.heap.size, 3, none⟩ = some (.int .i64 lo) := HX.cell (j := 3) rfl
  have c4 : w1.cell? ⟨w.heap.size, 4, none⟩ = some (.int .i64 hi) := HX.cell (j := 4) rfl
  replace hA := hA.below hb
  go_wp2_with fail
  refine (CK.out _ hA).mono ?_
  rintro e w2 ⟨rfl, g⟩
  clear c0 c1 c2 c3 c4
  replace HX := HX.below g
  replace hA := hA.below g
  replace hb := below_step hb g
  clear g
  have c0 : w2.cell? ⟨w.heap.size, 0, none⟩ = some (.int .i64 (m : Int)) := HX.cell (j := 0) rfl
  have c1 : w2.cell? ⟨w.heap.size, 1, none⟩ = some (.slice A n c) := HX.cell (j := 1) rfl
  have c2 : w2.cell? ⟨w.heap.size, 2, none⟩ = some (.slice C k f) := HX.cell (j := 2) rfl
  have c3 : w2.cell? ⟨w.heap.size, 3, none⟩ = some (.int .i64 lo) := HX.cell (j := 3) rfl
  have c4 : w2.cell? ⟨w.heap.size, 4, none⟩ = some (.int .i64 hi) := HX.cell (j := 4) rfl
  go_wp2_with fail
  go_ret
  exact ⟨rfl, hb⟩
set_option maxHeartbeats 4000000 in
theorem ltight_out3 (A C : Option Addr) (n c k f : Nat) (E : List Ord3) (m : Nat) (lo hi : Int) (far : Int) (w : World) (hn : E.length = n) (hA : Holds w A (ordsV E)) (h63 : n ≤ 63) (he : errS m E = 0) (o0 : ¬ lo < 0) (o1 : ¬ (m : Int) < lo) (o2 : ¬ hi < 0) (o3 : (m : Int) < hi) :
    Calls Try.prog 8 #[ordAgg m A C n c k f lo hi, .int .u16 far] w fun e w' => e = .returned (.bool true) ∧ Below w.heap.size w w' := by
  have hb0 := (Below.refl w.heap.size w).alloc (Nat.le_refl _) (ordBox m A C n c k f lo hi)
  have hx := holds_at w #[.int .i64 m, .slice A n c, .slice C k f, .int .i64 lo, .int .i64 hi] 39 _ rfl
  have CK := Lib.hid fun w hA => check_n m A c n E w hn hA (by omega) _ rfl
  have t1 : ¬ (63 : Int) < (n : Int) := by omega
  have hz : (errS m E != 0) = false := by simp [he]
  clear he hn
  go_enter Try.func8, Try.ntmps8
  go_wp2_with fail
  refine (awake_any _).mono ?_
  rintro e w1 ⟨rfl, hb1⟩
  have hb := below_step hb0 hb1
  have HX := hx.below hb1
  clear hb0 hb1 hx
  have c0 : w1.cell? ⟨w.heap.size, 0, none⟩ = some (.int .i64 (m : Int)) := HX.cell (j := 0) rfl
  have c1 : w1.cell? ⟨w.heap.size, 1, none⟩ = some (.slice A n c) := HX.cell (j := 1) rfl
  have c2 : w1.cell? ⟨w.heap.size, 2, none⟩ = some (.slice C k f) := HX.cell (j := 2) rfl
  have c3 : w1.cell? ⟨w.heap.size, 3, none⟩ = some (.int .i64 lo) := HX.cell (j := 3) rfl
  have c4 : w1.cell? ⟨w.heap.size, 4, none⟩ = some (.int .i64 hi) := HX.cell (j := 4) rfl
  replace hA := hA.below hb
  go_wp2_with fail
  refine (CK.out _ hA).mono ?_
  rintro e w2 ⟨rfl, g⟩
  clear c0 c1 c2 c3 c4
  replace HX := HX.below g
  replace hA := hA.below g
  replace hb := below_step hb g
  clear g
  have c0 : w2.cell? ⟨w.heap.size, 0, none⟩ = some (.int .i64 (m : Int)) := HX.cell (j := 0) rfl
  have c1 : w2.cell? ⟨w.heap.size, 1, none⟩ = some (.slice A n c) := HX.cell (j := 1) rfl
  have c2 : w2.cell? ⟨w.heap.size, 2, none⟩ = some (.slice C k f) := HX.cell (j := 2) rfl
  have c3 : w2.cell? ⟨w.heap.size, 3, none⟩ = some (.int .i64 lo) := HX.cell (j := 3) rfl
  have c4 : w2.cell? ⟨w.heap.size, 4, none⟩ = some (.int .i64 hi) := HX.cell (j := 4) rfl
  go_wp2_with fail
  go_ret
  exact ⟨rfl, hb⟩
set_option maxHeartbeats 4000000 in
theorem ltight_big (A C : Option Addr) (n c k f : Nat) (E : List Ord3) (m i j : Nat) (far : Int) (w : World) (hn : E.length = n) (hA : Holds w A (ordsV E)) (h63 : n ≤ 63) (hi : i ≤ m) (hj : j ≤ m) (d : Dist) (hd : distS m E = some d) (gg : Int) (hg : gapS m E i j = some gg) (g0 : gg < -1000 ∨ 1000 < gg) :
    Calls Try.prog 8 #[ordAgg m A C n c k f i j, .int .u16 far] w fun e w' => e = .returned (.bool true) ∧ Below w.heap.size w w' := by
  have hb0 := (Below.refl w.heap.size w).alloc (Nat.le_refl _) (ordBox m A C n c k f i j)
  have hx := holds_at w #[.int .i64 m, .slice A n c, .slice C k f, .int .i64 i, .int .i64 j] 39 _ rfl
  have CK := Lib.hid fun w hA => check_n m A c n E w hn hA (by omega) _ rfl
  have t1 : ¬ (63 : Int) < (n : Int) := by omega
  have he : errS m E = 0 := ((err_right (dist_some hd).1).1 d hd).1
  have hz : (errS m E != 0) = false := by simp [he]
  have hm16 := (dist_some hd).2.1
  have q0 : ¬ (i : Int) < 0 := by omega
  have q1 : ¬ (m : Int) < (i : Int) := by omega
  have q2 : ¬ (j : Int) < 0 := by omega
  have q3 : ¬ (m : Int) < (j : Int) := by omega
  have HN := Lib.hid hn
  have GP := Lib.hid fun w hA => gap_n m A c n E i j w hn hA (by omega) ⟨by omega, by omega⟩ ⟨by omega, by omega⟩ gg true (by rw [hg]; rfl) (by rw [hg]; rfl)
  have hgb := (dist_bd hd).2.2 i j gg (by rw [← hg]; simp [gapS, hd])
  have e1 : IntKind.i64.wrap (-gg) = -gg := IntWalk.i64_in _ (by omega)
  clear he hn hg hd hi hj
  go_enter Try.func8, Try.ntmps8
  go_wp2_with fail
  refine (awake_any _).mono ?_
  rintro e w1 ⟨rfl, hb1⟩
  have hb := below_step hb0 hb1
  have HX := hx.below hb1
  clear hb0 hb1 hx
  have c0 : w1.cell? ⟨w.heap.size, 0, none⟩ = some (.int .i64 (m : Int)) := HX.cell (j := 0) rfl
  have c1 : w1.cell? ⟨w.heap.size, 1, none⟩ = some (.slice A n c) := HX.cell (j := 1) rfl
  have c2 : w1.cell? ⟨w.heap.size, 2, none⟩ = some (.slice C k f) := HX.cell (j := 2) rfl
  have c3 : w1.cell? ⟨w.heap.size, 3, none⟩ = some (.int .i64 (i : Int)) := HX.cell (j := 3) rfl
  have c4 : w1.cell? ⟨w.heap.size, 4, none⟩ = some (.int .i64 (j : Int)) := HX.cell (j := 4) rfl
  replace hA := hA.below hb
  go_wp2_with fail
  refine (CK.out _ hA).mono ?_
  rintro e w2 ⟨rfl, g⟩
  clear c0 c1 c2 c3 c4
  replace HX := HX.below g
  replace hA := hA.below g
  replace hb := below_step hb g
  clear g
  have c0 : w2.cell? ⟨w.heap.size, 0, none⟩ = some (.int .i64 (m : Int)) := HX.cell (j := 0) rfl
  have c1 : w2.cell? ⟨w.heap.size, 1, none⟩ = some (.slice A n c) := HX.cell (j := 1) rfl
  have c2 : w2.cell? ⟨w.heap.size, 2, none⟩ = some (.slice C k f) := HX.cell (j := 2) rfl
  have c3 : w2.cell? ⟨w.heap.size, 3, none⟩ = some (.int .i64 (i : Int)) := HX.cell (j := 3) rfl
  have c4 : w2.cell? ⟨w.heap.size, 4, none⟩ = some (.int .i64 (j : Int)) := HX.cell (j := 4) rfl
  go_wp2_with fail
  refine (GP.out _ hA).mono ?_
  rintro e w3 ⟨rfl, g⟩
  clear c0 c1 c2 c3 c4
  replace HX := HX.below g
  replace hA := hA.below g
  replace hb := below_step hb g
  clear g
  have c0 : w3.cell? ⟨w.heap.size, 0, none⟩ = some (.int .i64 (m : Int)) := HX.cell (j := 0) rfl
  have c1 : w3.cell? ⟨w.heap.size, 1, none⟩ = some (.slice A n c) := HX.cell (j := 1) rfl
  have c2 : w3.cell? ⟨w.heap.size, 2, none⟩ = some (.slice C k f) := HX.cell (j := 2) rfl
  have c3 : w3.cell? ⟨w.heap.size, 3, none⟩ = some (.int .i64 (i : Int)) := HX.cell (j := 3) rfl
  have c4 : w3.cell? ⟨w.heap.size, 4, none⟩ = some (.int .i64 (j : Int)) := HX.cell (j := 4) rfl
  rcases g0 with g0 | g0
  · have g1 : ¬ 1000 < gg := by omega
    go_wp2_with fail
    go_ret
    exact ⟨rfl, below_alloc hb _⟩
  · clear hgb
    go_wp2_with fail
    go_ret
    exact ⟨rfl, below_alloc hb _⟩
end Go.Proofs.Ytdpannjnhhjicaa
