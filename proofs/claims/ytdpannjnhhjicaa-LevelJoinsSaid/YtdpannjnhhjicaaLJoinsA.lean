/- LevelJoins, where it looks at nothing: the greater of two levels is above both, and under what both are under; a level is under itself, and under what is higher. -/
import Derived.Test.YtdpannjnhhjicaaLJoinsP
import Derived.Test.YtdpannjnhhjicaaLTightK
import Derived.Test.YtdpannjnhhjicaaLOrdersLaw
namespace Go.Proofs.Ytdpannjnhhjicaa
open Go.RowKit

theorem below_stepJ {B : Nat} {w w1 w2 : World} (h : Below B w w1) (k : Below w1.heap.size w1 w2) (hB : B ≤ w1.heap.size) : Below B w w2 := h.trans (k.mono hB)
set_option maxRecDepth 100000 in
set_option maxHeartbeats 8000000 in
theorem ljoins_long (A B C D F : Option Addr) (n c k f nb b' nd d' nf f' : Nat) (x lo hi : Int) (w : World) (h : 100 < n) :
    Calls Try.prog 9 #[ordAgg x A C n c k f lo hi, .slice B nb b', .slice D nd d', .slice F nf f'] w fun e w' => e = .returned (.bool true) ∧ Below w.heap.size w w' := by
  have hb0 := (Below.refl w.heap.size w).alloc (Nat.le_refl _) (ordBox x A C n c k f lo hi)
  have hx := holds_at w #[.int .i64 x, .slice A n c, .slice C k f, .int .i64 lo, .int .i64 hi] 39 _ rfl
  have t1 : (100 : Int) < (n : Int) := by omega
  go_enter Try.func9, Try.ntmps9
  go_wp2_with fail
  refine (awake_any _).mono ?_
  rintro e w1 ⟨rfl, hb1⟩
  have hb := below_step hb0 hb1
  have HX := hx.below hb1
  clear hb0 hb1 hx
  have c0 : w1.cell? ⟨w.heap.size, 0, none⟩ = some (.int .i64 x) := HX.cell (j := 0) rfl
  have c1 : w1.cell? ⟨w.heap.size, 1, none⟩ = some (.slice A n c) := HX.cell (j := 1) rfl
  have c2 : w1.cell? ⟨w.heap.size, 2, none⟩ = some (.slice C k f) := HX.cell (j := 2) rfl
  have c3 : w1.cell? ⟨w.heap.size, 3, none⟩ = some (.int .i64 lo) := HX.cell (j := 3) rfl
  have c4 : w1.cell? ⟨w.heap.size, 4, none⟩ = some (.int .i64 hi) := HX.cell (j := 4) rfl
  go_wp2_with fail
  go_ret
  exact ⟨rfl, hb⟩
set_option maxRecDepth 100000 in
set_option maxHeartbeats 8000000 in
theorem ljoins_many (A B C D F : Option Addr) (n c k f nb b' nd d' nf f' : Nat) (x lo hi : Int) (w : World) (hn : ¬ 100 < n) (h : 50 < wrap64 (wrap64 ((nb : Int) + (nd : Int)) + (nf : Int))) :
    Calls Try.prog 9 #[ordAgg x A C n c k f lo hi, .slice B nb b', .slice D nd d', .slice F nf f'] w fun e w' => e = .returned (.bool true) ∧ Below w.heap.size w w' := by
  have hb0 := (Below.refl w.heap.size w).alloc (Nat.le_refl _) (ordBox x A C n c k f lo hi)
  have hx := holds_at w #[.int .i64 x, .slice A n c, .slice C k f, .int .i64 lo, .int .i64 hi] 39 _ rfl
  have t1 : ¬ (100 : Int) < (n : Int) := by omega
  go_enter Try.func9, Try.ntmps9
  go_wp2_with fail
  refine (awake_any _).mono ?_
  rintro e w1 ⟨rfl, hb1⟩
  have hb := below_step hb0 hb1
  have HX := hx.below hb1
  clear hb0 hb1 hx
  have c0 : w1.cell? ⟨w.heap.size, 0, none⟩ = some (.int .i64 x) := HX.cell (j := 0) rfl
  have c1 : w1.cell? ⟨w.heap.size, 1, none⟩ = some (.slice A n c) := HX.cell (j := 1) rfl
  have c2 : w1.cell? ⟨w.heap.size, 2, none⟩ = some (.slice C k f) := HX.cell (j := 2) rfl
  have c3 : w1.cell? ⟨w.heap.size, 3, none⟩ = some (.int .i64 lo) := HX.cell (j := 3) rfl
  have c4 : w1.cell? ⟨w.heap.size, 4, none⟩ = some (.int .i64 hi) := HX.cell (j := 4) rfl
  go_wp2_with fail
  go_ret
  exact ⟨rfl, hb⟩
set_option maxRecDepth 100000 in
set_option maxHeartbeats 8000000 in
theorem ljoins_err (A B C D F : Option Addr) (n c k f nb b' nd d' nf f' : Nat) (x lo hi : Int) (E : List Ord3) (w : World) (hn : E.length = n) (hA : Holds w A (ordsV E)) (h1 : ¬ 100 < n) (h : ¬ 50 < wrap64 (wrap64 ((nb : Int) + (nd : Int)) + (nf : Int))) (he : errS x E ≠ 0) :
    Calls Try.prog 9 #[ordAgg x A C n c k f lo hi, .slice B nb b', .slice D nd d', .slice F nf f'] w fun e w' => e = .returned (.bool true) ∧ Below w.heap.size w w' := by
  have hb0 := (Below.refl w.heap.size w).alloc (Nat.le_refl _) (ordBox x A C n c k f lo hi)
  have hx := holds_at w #[.int .i64 x, .slice A n c, .slice C k f, .int .i64 lo, .int .i64 hi] 39 _ rfl
  have t1 : ¬ (100 : Int) < (n : Int) := by omega
  have CK := Lib.hid fun w hA => check_n x A c n E w hn hA (by omega) _ rfl
  have hz : (errS x E != 0) = true := by simpa using he
  clear he hn
  go_enter Try.func9, Try.ntmps9
  go_wp2_with fail
  refine (awake_any _).mono ?_
  rintro e w1 ⟨rfl, hb1⟩
  have hb := below_step hb0 hb1
  have HX := hx.below hb1
  clear hb0 hb1 hx
  have c0 : w1.cell? ⟨w.heap.size, 0, none⟩ = some (.int .i64 x) := HX.cell (j := 0) rfl
  have c1 : w1.cell? ⟨w.heap.size, 1, none⟩ = some (.slice A n c) := HX.cell (j := 1) rfl
  have c2 : w1.cell? ⟨w.heap.size, 2, none⟩ = some (.slice C k f) := HX.cell (j := 2) rfl
  have c3 : w1.cell? ⟨w.heap.size, 3, none⟩ = some (.int .i64 lo) := HX.cell (j := 3) rfl
  have c4 : w1.cell? ⟨w.heap.size, 4, none⟩ = some (.int .i64 hi) := HX.cell (j := 4) rfl
  replace hA := hA.below hb
  go_wp2_with fail
  refine (CK.out _ hA).mono ?_
  rintro e w2 ⟨rfl, g⟩
  clear c0 c1 c2 c3 c4
  replace HX := HX.below g
  replace hA := hA.below g
  replace hb := below_step hb g
  clear g
  have c0 : w2.cell? ⟨w.heap.size, 0, none⟩ = some (.int .i64 x) := HX.cell (j := 0) rfl
  have c1 : w2.cell? ⟨w.heap.size, 1, none⟩ = some (.slice A n c) := HX.cell (j := 1) rfl
  have c2 : w2.cell? ⟨w.heap.size, 2, none⟩ = some (.slice C k f) := HX.cell (j := 2) rfl
  have c3 : w2.cell? ⟨w.heap.size, 3, none⟩ = some (.int .i64 lo) := HX.cell (j := 3) rfl
  have c4 : w2.cell? ⟨w.heap.size, 4, none⟩ = some (.int .i64 hi) := HX.cell (j := 4) rfl
  go_wp2_with fail
  go_ret
  exact ⟨rfl, hb⟩
set_option maxRecDepth 100000 in
set_option maxHeartbeats 8000000 in
theorem ljoins_not0 (A B C D F : Option Addr) (n c k f nb b' nd d' nf f' : Nat) (x lo hi : Int) (E : List Ord3) (a : List Atom2) (w : World) (hn : E.length = n) (hA : Holds w A (ordsV E)) (h1 : ¬ 100 < n) (h : ¬ 50 < wrap64 (wrap64 ((nb : Int) + (nd : Int)) + (nf : Int))) (he : errS x E = 0) (hB : LevelAt w B nb b' a) (r0 : rightS x a = false) :
    Calls Try.prog 9 #[ordAgg x A C n c k f lo hi, .slice B nb b', .slice D nd d', .slice F nf f'] w fun e w' => e = .returned (.bool true) ∧ Below w.heap.size w w' := by
  have hb0 := (Below.refl w.heap.size w).alloc (Nat.le_refl _) (ordBox x A C n c k f lo hi)
  have hx := holds_at w #[.int .i64 x, .slice A n c, .slice C k f, .int .i64 lo, .int .i64 hi] 39 _ rfl
  have t1 : ¬ (100 : Int) < (n : Int) := by omega
  have CK := Lib.hid fun w hA => check_n x A c n E w hn hA (by omega) _ rfl
  have hz : (errS x E != 0) = false := by simp [he]
  have R0 := Lib.hid fun w (h : LevelAt w B nb b' a) => pright_n B b' nb a x w h (by have := h.2.1; unfold Slice at this; omega) _ r0
  clear he hn r0
  go_enter Try.func9, Try.ntmps9
  go_wp2_with fail
  refine (awake_any _).mono ?_
  rintro e w1 ⟨rfl, hb1⟩
  have hb := below_step hb0 hb1
  have HX := hx.below hb1
  clear hb0 hb1 hx
  have c0 : w1.cell? ⟨w.heap.size, 0, none⟩ = some (.int .i64 x) := HX.cell (j := 0) rfl
  have c1 : w1.cell? ⟨w.heap.size, 1, none⟩ = some (.slice A n c) := HX.cell (j := 1) rfl
  have c2 : w1.cell? ⟨w.heap.size, 2, none⟩ = some (.slice C k f) := HX.cell (j := 2) rfl
  have c3 : w1.cell? ⟨w.heap.size, 3, none⟩ = some (.int .i64 lo) := HX.cell (j := 3) rfl
  have c4 : w1.cell? ⟨w.heap.size, 4, none⟩ = some (.int .i64 hi) := HX.cell (j := 4) rfl
  replace hA := hA.below hb
  replace hB := hB.below hb
  go_wp2_with fail
  refine (CK.out _ hA).mono ?_
  rintro e w2 ⟨rfl, g⟩
  clear c0 c1 c2 c3 c4
  replace HX := HX.below g
  replace hA := hA.below g
  replace hB := hB.below g
  replace hb := below_step hb g
  clear g
  have c0 : w2.cell? ⟨w.heap.size, 0, none⟩ = some (.int .i64 x) := HX.cell (j := 0) rfl
  have c1 : w2.cell? ⟨w.heap.size, 1, none⟩ = some (.slice A n c) := HX.cell (j := 1) rfl
  have c2 : w2.cell? ⟨w.heap.size, 2, none⟩ = some (.slice C k f) := HX.cell (j := 2) rfl
  have c3 : w2.cell? ⟨w.heap.size, 3, none⟩ = some (.int .i64 lo) := HX.cell (j := 3) rfl
  have c4 : w2.cell? ⟨w.heap.size, 4, none⟩ = some (.int .i64 hi) := HX.cell (j := 4) rfl
  go_wp2_with fail
  refine (R0.out _ hB).mono ?_
  rintro e w3 ⟨rfl, g⟩
  clear c0 c1 c2 c3 c4
  replace HX := HX.below g
  replace hA := hA.below g
  replace hB := hB.below g
  replace hb := below_step hb g
  clear g
  have c0 : w3.cell? ⟨w.heap.size, 0, none⟩ = some (.int .i64 x) := HX.cell (j := 0) rfl
  have c1 : w3.cell? ⟨w.heap.size, 1, none⟩ = some (.slice A n c) := HX.cell (j := 1) rfl
  have c2 : w3.cell? ⟨w.heap.size, 2, none⟩ = some (.slice C k f) := HX.cell (j := 2) rfl
  have c3 : w3.cell? ⟨w.heap.size, 3, none⟩ = some (.int .i64 lo) := HX.cell (j := 3) rfl
  have c4 : w3.cell? ⟨w.heap.size, 4, none⟩ = some (.int .i64 hi) := HX.cell (j := 4) rfl
  go_wp2_with fail
  go_ret
  exact ⟨rfl, hb⟩
set_option maxRecDepth 100000 in
set_option maxHeartbeats 8000000 in
theorem ljoins_not1 (A B C D F : Option Addr) (n c k f nb b' nd d' nf f' : Nat) (x lo hi : Int) (E : List Ord3) (a b : List Atom2) (w : World) (hn : E.length = n) (hA : Holds w A (ordsV E)) (h1 : ¬ 100 < n) (h : ¬ 50 < wrap64 (wrap64 ((nb : Int) + (nd : Int)) + (nf : Int))) (he : errS x E = 0) (hB : LevelAt w B nb b' a) (r0 : rightS x a = true) (hD : LevelAt w D nd d' b) (r1 : rightS x b = false) :
    Calls Try.prog 9 #[ordAgg x A C n c k f lo hi, .slice B nb b', .slice D nd d', .slice F nf f'] w fun e w' => e = .returned (.bool true) ∧ Below w.heap.size w w' := by
  have hb0 := (Below.refl w.heap.size w).alloc (Nat.le_refl _) (ordBox x A C n c k f lo hi)
  have hx := holds_at w #[.int .i64 x, .slice A n c, .slice C k f, .int .i64 lo, .int .i64 hi] 39 _ rfl
  have t1 : ¬ (100 : Int) < (n : Int) := by omega
  have CK := Lib.hid fun w hA => check_n x A c n E w hn hA (by omega) _ rfl
  have hz : (errS x E != 0) = false := by simp [he]
  have R0 := Lib.hid fun w (h : LevelAt w B nb b' a) => pright_n B b' nb a x w h (by have := h.2.1; unfold Slice at this; omega) _ r0
  have R1 := Lib.hid fun w (h : LevelAt w D nd d' b) => pright_n D d' nd b x w h (by have := h.2.1; unfold Slice at this; omega) _ r1
  clear he hn r0 r1
  go_enter Try.func9, Try.ntmps9
  go_wp2_with fail
  refine (awake_any _).mono ?_
  rintro e w1 ⟨rfl, hb1⟩
  have hb := below_step hb0 hb1
  have HX := hx.below hb1
  clear hb0 hb1 hx
  have c0 : w1.cell? ⟨w.heap.size, 0, none⟩ = some (.int .i64 x) := HX.cell (j := 0) rfl
  have c1 : w1.cell? ⟨w.heap.size, 1, none⟩ = some (.slice A n c) := HX.cell (j := 1) rfl
  have c2 : w1.cell? ⟨w.heap.size, 2, none⟩ = some (.slice C k f) := HX.cell (j := 2) rfl
  have c3 : w1.cell? ⟨w.heap.size, 3, none⟩ = some (.int .i64 lo) := HX.cell (j := 3) rfl
  have c4 : w1.cell? ⟨w.heap.size, 4, none⟩ = some (.int .i64 hi) := HX.cell (j := 4) rfl
  replace hA := hA.below hb
  replace hB := hB.below hb
  replace hD := hD.below hb
  go_wp2_with fail
  refine (CK.out _ hA).mono ?_
  rintro e w2 ⟨rfl, g⟩
  clear c0 c1 c2 c3 c4
  replace HX := HX.below g
  replace hA := hA.below g
  replace hB := hB.below g
  replace hD := hD.below g
  replace hb := below_step hb g
  clear g
  have c0 : w2.cell? ⟨w.heap.size, 0, none⟩ = some (.int .i64 x) := HX.cell (j := 0) rfl
  have c1 : w2.cell? ⟨w.heap.size, 1, none⟩ = some (.slice A n c) := HX.cell (j := 1) rfl
  have c2 : w2.cell? ⟨w.heap.size, 2, none⟩ = some (.slice C k f) := HX.cell (j := 2) rfl
  have c3 : w2.cell? ⟨w.heap.size, 3, none⟩ = some (.int .i64 lo) := HX.cell (j := 3) rfl
  have c4 : w2.cell? ⟨w.heap.size, 4, none⟩ = some (.int .i64 hi) := HX.cell (j := 4) rfl
  go_wp2_with fail
  refine (R0.out _ hB).mono ?_
  rintro e w3 ⟨rfl, g⟩
  clear c0 c1 c2 c3 c4
  replace HX := HX.below g
  replace hA := hA.below g
  replace hB := hB.below g
  replace hD := hD.below g
  replace hb := below_step hb g
  clear g
  have c0 : w3.cell? ⟨w.heap.size, 0, none⟩ = some (.int .i64 x) := HX.cell (j := 0) rfl
  have c1 : w3.cell? ⟨w.heap.size, 1, none⟩ = some (.slice A n c) := HX.cell (j := 1) rfl
  have c2 : w3.cell? ⟨w.heap.size, 2, none⟩ = some (.slice C k f) := HX.cell (j := 2) rfl
  have c3 : w3.cell? ⟨w.heap.size, 3, none⟩ = some (.int .i64 lo) := HX.cell (j := 3) rfl
  have c4 : w3.cell? ⟨w.heap.size, 4, none⟩ = some (.int .i64 hi) := HX.cell (j := 4) rfl
  go_wp2_with fail
  refine (R1.out _ hD).mono ?_
  rintro e w4 ⟨rfl, g⟩
  clear c0 c1 c2 c3 c4
  replace HX := HX.below g
  replace hA := hA.below g
  replace hB := hB.below g
  replace hD := hD.below g
  replace hb := below_step hb g
  clear g
  have c0 : w4.cell? ⟨w.heap.size, 0, none⟩ = some (.int .i64 x) := HX.cell (j := 0) rfl
  have c1 : w4.cell? ⟨w.heap.size, 1, none⟩ = some (.slice A n c) := HX.cell (j := 1) rfl
  have c2 : w4.cell? ⟨w.heap.size, 2, none⟩ = some (.slice C k f) := HX.cell (j := 2) rfl
  have c3 : w4.cell? ⟨w.heap.size, 3, none⟩ = some (.int .i64 lo) := HX.cell (j := 3) rfl
  have c4 : w4.cell? ⟨w.heap.size, 4, none⟩ = some (.int .i64 hi) := HX.cell (j := 4) rfl
  go_wp2_with fail
  go_ret
  exact ⟨rfl, hb⟩
set_option maxRecDepth 100000 in
set_option maxHeartbeats 8000000 in
theorem ljoins_not2 (A B C D F : Option Addr) (n c k f nb b' nd d' nf f' : Nat) (x lo hi : Int) (E : List Ord3) (a b cc : List Atom2) (w : World) (hn : E.length = n) (hA : Holds w A (ordsV E)) (h1 : ¬ 100 < n) (h : ¬ 50 < wrap64 (wrap64 ((nb : Int) + (nd : Int)) + (nf : Int))) (he : errS x E = 0) (hB : LevelAt w B nb b' a) (r0 : rightS x a = true) (hD : LevelAt w D nd d' b) (r1 : rightS x b = true) (hF : LevelAt w F nf f' cc) (r2 : rightS x cc = false) :
    Calls Try.prog 9 #[ordAgg x A C n c k f lo hi, .slice B nb b', .slice D nd d', .slice F nf f'] w fun e w' => e = .returned (.bool true) ∧ Below w.heap.size w w' := by
  have hb0 := (Below.refl w.heap.size w).alloc (Nat.le_refl _) (ordBox x A C n c k f lo hi)
  have hx := holds_at w #[.int .i64 x, .slice A n c, .slice C k f, .int .i64 lo, .int .i64 hi] 39 _ rfl
  have t1 : ¬ (100 : Int) < (n : Int) := by omega
  have CK := Lib.hid fun w hA => check_n x A c n E w hn hA (by omega) _ rfl
  have hz : (errS x E != 0) = false := by simp [he]
  have R0 := Lib.hid fun w (h : LevelAt w B nb b' a) => pright_n B b' nb a x w h (by have := h.2.1; unfold Slice at this; omega) _ r0
  have R1 := Lib.hid fun w (h : LevelAt w D nd d' b) => pright_n D d' nd b x w h (by have := h.2.1; unfold Slice at this; omega) _ r1
  have R2 := Lib.hid fun w (h : LevelAt w F nf f' cc) => pright_n F f' nf cc x w h (by have := h.2.1; unfold Slice at this; omega) _ r2
  clear he hn r0 r1 r2
  go_enter Try.func9, Try.ntmps9
  go_wp2_with fail
  refine (awake_any _).mono ?_
  rintro e w1 ⟨rfl, hb1⟩
  have hb := below_step hb0 hb1
  have HX := hx.below hb1
  clear hb0 hb1 hx
  have c0 : w1.cell? ⟨w.heap.size, 0, none⟩ = some (.int .i64 x) := HX.cell (j := 0) rfl
  have c1 : w1.cell? ⟨w.heap.size, 1, none⟩ = some (.slice A n c) := HX.cell (j := 1) rfl
  have c2 : w1.cell? ⟨w.heap.size, 2, none⟩ = some (.slice C k f) := HX.cell (j := 2) rfl
  have c3 : w1.cell? ⟨w.heap.size, 3, none⟩ = some (.int .i64 lo) := HX.cell (j := 3) rfl
  have c4 : w1.cell? ⟨w.heap.size, 4, none⟩ = some (.int .i64 hi) := HX.cell (j := 4) rfl
  replace hA := hA.below hb
  replace hB := hB.below hb
  replace hD := hD.below hb
  replace hF := hF.below hb
  go_wp2_with fail
  refine (CK.out _ hA).mono ?_
  rintro e w2 ⟨rfl, g⟩
  clear c0 c1 c2 c3 c4
  replace HX := HX.below g
  replace hA := hA.below g
  replace hB := hB.below g
  replace hD := hD.below g
  replace hF := hF.below g
  replace hb := below_step hb g
  clear g
  have c0 : w2.cell? ⟨w.heap.size, 0, none⟩ = some (.int .i64 x) := HX.cell (j := 0) rfl
  have c1 : w2.cell? ⟨w.heap.size, 1, none⟩ = some (.slice A n c) := HX.cell (j := 1) rfl
  have c2 : w2.cell? ⟨w.heap.size, 2, none⟩ = some (.slice C k f) := HX.cell (j := 2) rfl
  have c3 : w2.cell? ⟨w.heap.size, 3, none⟩ = some (.int .i64 lo) := HX.cell (j := 3) rfl
  have c4 : w2.cell? ⟨w.heap.size, 4, none⟩ = some (.int .i64 hi) := HX.cell (j := 4) rfl
  go_wp2_with fail
  refine (R0.out _ hB).mono ?_
  rintro e w3 ⟨rfl, g⟩
  clear c0 c1 c2 c3 c4
  replace HX := HX.below g
  replace hA := hA.below g
  replace hB := hB.below g
  replace hD := hD.below g
  replace hF := hF.below g
  replace hb := below_step hb g
  clear g
  have c0 : w3.cell? ⟨w.heap.size, 0, none⟩ = some (.int .i64 x) := HX.cell (j := 0) rfl
  have c1 : w3.cell? ⟨w.heap.size, 1, none⟩ = some (.slice A n c) := HX.cell (j := 1) rfl
  have c2 : w3.cell? ⟨w.heap.size, 2, none⟩ = some (.slice C k f) := HX.cell (j := 2) rfl
  have c3 : w3.cell? ⟨w.heap.size, 3, none⟩ = some (.int .i64 lo) := HX.cell (j := 3) rfl
  have c4 : w3.cell? ⟨w.heap.size, 4, none⟩ = some (.int .i64 hi) := HX.cell (j := 4) rfl
  go_wp2_with fail
  refine (R1.out _ hD).mono ?_
  rintro e w4 ⟨rfl, g⟩
  clear c0 c1 c2 c3 c4
  replace HX := HX.below g
  replace hA := hA.below g
  replace hB := hB.below g
  replace hD := hD.below g
  replace hF := hF.below g
  replace hb := below_step hb g
  clear g
  have c0 : w4.cell? ⟨w.heap.size, 0, none⟩ = some (.int .i64 x) := HX.cell (j := 0) rfl
  have c1 : w4.cell? ⟨w.heap.size, 1, none⟩ = some (.slice A n c) := HX.cell (j := 1) rfl
  have c2 : w4.cell? ⟨w.heap.size, 2, none⟩ = some (.slice C k f) := HX.cell (j := 2) rfl
  have c3 : w4.cell? ⟨w.heap.size, 3, none⟩ = some (.int .i64 lo) := HX.cell (j := 3) rfl
  have c4 : w4.cell? ⟨w.heap.size, 4, none⟩ = some (.int .i64 hi) := HX.cell (j := 4) rfl
  go_wp2_with fail
  refine (R2.out _ hF).mono ?_
  rintro e w5 ⟨rfl, g⟩
  clear c0 c1 c2 c3 c4
  replace HX := HX.below g
  replace hA := hA.below g
  replace hB := hB.below g
  replace hD := hD.below g
  replace hF := hF.below g
  replace hb := below_step hb g
  clear g
  have c0 : w5.cell? ⟨w.heap.size, 0, none⟩ = some (.int .i64 x) := HX.cell (j := 0) rfl
  have c1 : w5.cell? ⟨w.heap.size, 1, none⟩ = some (.slice A n c) := HX.cell (j := 1) rfl
  have c2 : w5.cell? ⟨w.heap.size, 2, none⟩ = some (.slice C k f) := HX.cell (j := 2) rfl
  have c3 : w5.cell? ⟨w.heap.size, 3, none⟩ = some (.int .i64 lo) := HX.cell (j := 3) rfl
  have c4 : w5.cell? ⟨w.heap.size, 4, none⟩ = some (.int .i64 hi) := HX.cell (j := 4) rfl
  go_wp2_with fail
  go_ret
  exact ⟨rfl, hb⟩
end Go.Proofs.Ytdpannjnhhjicaa
