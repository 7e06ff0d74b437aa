/- LevelSays: which levels are right, the greater of two, a higher one, and values are as the document says. -/
import Derived.Test.YtdpannjnhhjicaaLUnderLaw
namespace Go.Proofs.Ytdpannjnhhjicaa
open Go.RowKit

abbrev twoAgg (A B C : Option Addr) (n m k c e f : Nat) (z : Int) : Value := .agg #[.slice A n c, .slice B m e, .int .i64 z, .slice C k f]
abbrev twoBox (A B C : Option Addr) (n m k c e f : Nat) (z : Int) : Obj := .cells #[.slice A n c, .slice B m e, .int .i64 z, .slice C k f] 26
theorem long_no (A B C : Option Addr) (n m k c e f : Nat) (z : Int) (w : World) (h1 : n ≤ 50) (h2 : m ≤ 50) (h3 : k ≤ 50) :
    Calls Try.prog 12 #[twoAgg A B C n m k c e f z] w fun e w' => e = .returned (.bool false) ∧ Below w.heap.size w w' := by
  have t1 : ¬ (50 : Int) < (n : Int) := by omega
  have t2 : ¬ (50 : Int) < (m : Int) := by omega
  have t3 : ¬ (50 : Int) < (k : Int) := by omega
  have t3' : decide ((50 : Int) < (k : Int)) = false := by simpa using t3
  go_enter Try.func12, Try.ntmps12
  go_wp2_with fail
  go_ret
  exact ⟨rfl, (Below.refl _ _).alloc (Nat.le_refl _) _⟩
theorem long_yes (A B C : Option Addr) (n m k c e f : Nat) (z : Int) (w : World) (h : 50 < n ∨ 50 < m ∨ 50 < k) :
    Calls Try.prog 12 #[twoAgg A B C n m k c e f z] w fun e w' => e = .returned (.bool true) ∧ Below w.heap.size w w' := by
  by_cases h1 : 50 < n
  · have t1 : (50 : Int) < (n : Int) := by omega
    clear h
    go_enter Try.func12, Try.ntmps12
    go_wp2_with fail
    go_ret
    exact ⟨rfl, (Below.refl _ _).alloc (Nat.le_refl _) _⟩
  · have t1 : ¬ (50 : Int) < (n : Int) := by omega
    by_cases h2 : 50 < m
    · have t2 : (50 : Int) < (m : Int) := by omega
      clear h
      go_enter Try.func12, Try.ntmps12
      go_wp2_with fail
      go_ret
      exact ⟨rfl, (Below.refl _ _).alloc (Nat.le_refl _) _⟩
    · have t2 : ¬ (50 : Int) < (m : Int) := by omega
      have h3 : 50 < k := by omega
      have t3 : (50 : Int) < (k : Int) := by omega
      clear h
      go_enter Try.func12, Try.ntmps12
      go_wp2_with fail
      go_ret
      exact ⟨rfl, (Below.refl _ _).alloc (Nat.le_refl _) _⟩
def maxRes (a b : List Atom2) : List Atom2 := if maxErr a b = 0 then mergeS a b else []
def upRes (z : Int) (a : List Atom2) : List Atom2 := if upErr z a = 0 then upS z a else []
/-- A level and an error are answered. -/
def LevErr (l : List Atom2) (x : Int) (w : World) (e : Ending) (w' : World) : Prop := ∃ A n c, e = .returned (.tuple #[.slice A n c, .int .i64 x]) ∧ LevelAt w' A n c l ∧ OwnA w' w.heap.size (.slice A n c) l ∧ Below w.heap.size w w'
theorem nil_level (w : World) : LevelAt w none 0 0 [] := ⟨rfl, ⟨Nat.le_refl _, by omega, fun _ => ⟨rfl, rfl⟩⟩, Holds.nil _ _⟩
theorem maxPost_le {a b : List Atom2} {w : World} {e : Ending} {w' : World} (h : MaxPost a b w e w') : LevErr (maxRes a b) (maxErr a b) w e w' := by
  rcases h with ⟨_, h1, h2⟩ | ⟨_, A, c, h1, h2, h3, h4⟩
  · exact ⟨none, 0, 0, rfl, by unfold maxRes; rw [if_neg h1]; exact nil_level _, by unfold maxRes; rw [if_neg h1]; exact OwnA.nil _ _, h2⟩
  · exact ⟨A, _, c, by rw [h1], by unfold maxRes; rw [if_pos h1]; exact h3, by unfold maxRes; rw [if_pos h1]; exact h2, h4⟩
theorem upPost_le {z : Int} {a : List Atom2} {w : World} {e : Ending} {w' : World} (h : UpPost z a w e w') : LevErr (upRes z a) (upErr z a) w e w' := by
  rcases h with ⟨_, h1, h2⟩ | ⟨_, g, c, h1, h2, h3, h4, h5⟩
  · exact ⟨none, 0, 0, rfl, by unfold upRes; rw [if_neg h1]; exact nil_level _, by unfold upRes; rw [if_neg h1]; exact OwnA.nil _ _, h2⟩
  · exact ⟨_, _, c, by rw [h1], by unfold upRes; rw [if_pos h1]; exact h4, by unfold upRes; rw [if_pos h1]; exact h3, h5⟩
theorem same_yes (A B : Option Addr) (n m c d : Nat) (l : List Atom2) (w : World) (hA : LevelAt w A n c l) (hB : LevelAt w B m d l) :
    Calls Try.prog 19 #[.slice A n c, .slice B m d] w fun e w' => e = .returned (.bool true) ∧ Below w.heap.size w w' := same_atoms A B n m c d l l w hA hB true (by simp)
theorem value_n (A B : Option Addr) (n c m d : Nat) (vals : List Int) (l : List Atom2) (w : World) (hA : LevelAt w A n c l) (hB : Holds w B (intsV vals)) (hW : WideA l) (hm : vals.length = m) (hl : m ≤ 9223372036854775807) (y : Int) (hy : valueS vals l = y) :
    Calls Try.prog 20 #[.slice A n c, .slice B m d] w fun e w' => e = .returned (.int .i64 y) ∧ Below w.heap.size w w' := by
  obtain ⟨rfl, h2, h3⟩ := hA
  subst hm hy
  exact value_any A B c d vals l w h2 h3 hB hW hl
theorem rvalue_n (A B : Option Addr) (n c m d : Nat) (vals : List Int) (l : List Atom2) (w : World) (hA : LevelAt w A n c l) (hB : Holds w B (intsV vals)) (hm : vals.length = m) (hl : m ≤ 9223372036854775807) (y : Int) (hy : valueS vals l = y) :
    Calls Try.prog 21 #[.slice A n c, .slice B m d] w fun e w' => e = .returned (.int .i64 y) ∧ Below w.heap.size w w' := by
  subst hy
  exact rvalue_any A B n c m d vals l w hA hB hm hl
theorem pright_n (A : Option Addr) (c n : Nat) (l : List Atom2) (v : Int) (w : World) (hA : LevelAt w A n c l) (hn : n ≤ 9223372036854775807) (r : Bool) (hr : rightS v l = r) :
    Calls Try.prog 17 #[.slice A n c, .int .i64 v] w fun e w' => e = .returned (.bool r) ∧ Below w.heap.size w w' := right_n A c n l v w hA.1 hA.2.2 hn r hr
set_option maxHeartbeats 4000000 in
theorem lsays_some (A B C : Option Addr) (n m k c e f : Nat) (a b : List Atom2) (z v : Int) (vals : List Int) (w : World) (hA : LevelAt w A n c a) (hWa : WideA a) (hB : LevelAt w B m e b) (hk : vals.length = k) (hV : Holds w C (intsV vals)) (h1 : n ≤ 50) (h2 : m ≤ 50) (h3 : k ≤ 50) :
    Calls Try.prog 3 #[twoAgg A B C n m k c e f z, .int .i64 v] w fun e w' => e = .returned (.bool true) ∧ Below w.heap.size w w' := by
  have hb0 := (Below.refl w.heap.size w).alloc (Nat.le_refl _) (twoBox A B C n m k c e f z)
  have hx := holds_at w #[.slice A n c, .slice B m e, .int .i64 z, .slice C k f] 26 _ rfl
  obtain ⟨y, hy⟩ : ∃ y, valueS vals a = y := ⟨_, rfl⟩
  obtain ⟨r, hr⟩ : ∃ r, rightS v a = r := ⟨_, rfl⟩
  have M1 := Lib.hid fun w (hA : LevelAt w A n c a) (hB : LevelAt w B m e b) => (max_any A B n m c e a b w hA hB).mono fun _ _ => maxPost_le
  have M2 := Lib.hid fun w (hA : LevelAt w A n c a) (hB : LevelAt w B m e b) => (rmax_any A B n m c e a b w hA hB).mono fun _ _ => maxPost_le
  have P1 := Lib.hid fun w (hA : LevelAt w A n c a) => (up_any A n c a z w hA).mono fun _ _ => upPost_le
  have P2 := Lib.hid fun w (hA : LevelAt w A n c a) => (rup_any A n c a z w hA).mono fun _ _ => upPost_le
  have V1 := Lib.hid fun w (hA : LevelAt w A n c a) (hV : Holds w C (intsV vals)) => value_n A C n c k f vals a w hA hV hWa hk (by omega) y hy
  have V2 := Lib.hid fun w (hA : LevelAt w A n c a) (hV : Holds w C (intsV vals)) => rvalue_n A C n c k f vals a w hA hV hk (by omega) y hy
  have R1 := Lib.hid fun w (hA : LevelAt w A n c a) => pright_n A c n a v w hA (by omega) r hr
  have R2 := Lib.hid fun w (hA : LevelAt w A n c a) => rright_n A c n a v w hA r hr
  clear hy hr hk hWa
  generalize maxRes a b = mr at *
  generalize maxErr a b = me at *
  generalize upRes z a = ur at *
  generalize upErr z a = ue at *
  go_enter Try.func3, Try.ntmps3
  go_wp2_with fail
  refine (awake_any _).mono ?_
  rintro e w1 ⟨rfl, hb1⟩
  have hb := below_step hb0 hb1
  have HX := hx.below hb1
  clear hb0 hb1 hx
  have c0 : w1.cell? ⟨w.heap.size, 0, none⟩ = some (.slice A n c) := HX.cell (j := 0) rfl
  have c1 : w1.cell? ⟨w.heap.size, 1, none⟩ = some (.slice B m e) := HX.cell (j := 1) rfl
  have c2 : w1.cell? ⟨w.heap.size, 2, none⟩ = some (.int .i64 z) := HX.cell (j := 2) rfl
  have c3 : w1.cell? ⟨w.heap.size, 3, none⟩ = some (.slice C k f) := HX.cell (j := 3) rfl
  replace hA := hA.below hb
  replace hB := hB.below hb
  replace hV := hV.below hb
  go_wp2_with fail
  refine (long_no A B C n m k c e f z _ h1 h2 h3).mono ?_
  rintro e w2 ⟨rfl, g⟩
  clear c0 c1 c2 c3
  replace HX := HX.below g
  replace hA := hA.below g
  replace hB := hB.below g
  replace hV := hV.below g
  replace hb := below_step hb g
  clear g
  have c0 : w2.cell? ⟨w.heap.size, 0, none⟩ = some (.slice A n c) := HX.cell (j := 0) rfl
  have c1 : w2.cell? ⟨w.heap.size, 1, none⟩ = some (.slice B m e) := HX.cell (j := 1) rfl
  have c2 : w2.cell? ⟨w.heap.size, 2, none⟩ = some (.int .i64 z) := HX.cell (j := 2) rfl
  have c3 : w2.cell? ⟨w.heap.size, 3, none⟩ = some (.slice C k f) := HX.cell (j := 3) rfl
  go_wp2_with fail
  refine (M1.out _ hA hB).mono ?_
  rintro e w3 ⟨A1, n1, k1, rfl, hm1, _, g⟩
  clear c0 c1 c2 c3
  replace HX := HX.below g
  replace hA := hA.below g
  replace hB := hB.below g
  replace hV := hV.below g
  replace hb := below_step hb g
  clear g
  have c0 : w3.cell? ⟨w.heap.size, 0, none⟩ = some (.slice A n c) := HX.cell (j := 0) rfl
  have c1 : w3.cell? ⟨w.heap.size, 1, none⟩ = some (.slice B m e) := HX.cell (j := 1) rfl
  have c2 : w3.cell? ⟨w.heap.size, 2, none⟩ = some (.int .i64 z) := HX.cell (j := 2) rfl
  have c3 : w3.cell? ⟨w.heap.size, 3, none⟩ = some (.slice C k f) := HX.cell (j := 3) rfl
  go_wp2_with fail
  refine (M2.out _ hA hB).mono ?_
  rintro e w4 ⟨A2, n2, k2, rfl, hm2, _, g⟩
  clear c0 c1 c2 c3
  replace HX := HX.below g
  replace hA := hA.below g
  replace hB := hB.below g
  replace hV := hV.below g
  replace hm1 := hm1.below g
  replace hb := below_step hb g
  clear g
  have c0 : w4.cell? ⟨w.heap.size, 0, none⟩ = some (.slice A n c) := HX.cell (j := 0) rfl
  have c1 : w4.cell? ⟨w.heap.size, 1, none⟩ = some (.slice B m e) := HX.cell (j := 1) rfl
  have c2 : w4.cell? ⟨w.heap.size, 2, none⟩ = some (.int .i64 z) := HX.cell (j := 2) rfl
  have c3 : w4.cell? ⟨w.heap.size, 3, none⟩ = some (.slice C k f) := HX.cell (j := 3) rfl
  go_wp2_with fail
  refine (P1.out _ hA).mono ?_
  rintro e w5 ⟨A3, n3, k3, rfl, hu1, _, g⟩
  clear c0 c1 c2 c3
  replace HX := HX.below g
  replace hA := hA.below g
  replace hB := hB.below g
  replace hV := hV.below g
  replace hm1 := hm1.below g
  replace hm2 := hm2.below g
  replace hb := below_step hb g
  clear g
  have c0 : w5.cell? ⟨w.heap.size, 0, none⟩ = some (.slice A n c) := HX.cell (j := 0) rfl
  have c1 : w5.cell? ⟨w.heap.size, 1, none⟩ = some (.slice B m e) := HX.cell (j := 1) rfl
  have c2 : w5.cell? ⟨w.heap.size, 2, none⟩ = some (.int .i64 z) := HX.cell (j := 2) rfl
  have c3 : w5.cell? ⟨w.heap.size, 3, none⟩ = some (.slice C k f) := HX.cell (j := 3) rfl
  go_wp2_with fail
  refine (P2.out _ hA).mono ?_
  rintro e w6 ⟨A4, n4, k4, rfl, hu2, _, g⟩
  clear c0 c1 c2 c3
  replace HX := HX.below g
  replace hA := hA.below g
  replace hB := hB.below g
  replace hV := hV.below g
  replace hm1 := hm1.below g
  replace hm2 := hm2.below g
  replace hu1 := hu1.below g
  replace hb := below_step hb g
  clear g
  have c0 : w6.cell? ⟨w.heap.size, 0, none⟩ = some (.slice A n c) := HX.cell (j := 0) rfl
  have c1 : w6.cell? ⟨w.heap.size, 1, none⟩ = some (.slice B m e) := HX.cell (j := 1) rfl
  have c2 : w6.cell? ⟨w.heap.size, 2, none⟩ = some (.int .i64 z) := HX.cell (j := 2) rfl
  have c3 : w6.cell? ⟨w.heap.size, 3, none⟩ = some (.slice C k f) := HX.cell (j := 3) rfl
  go_wp2_with fail
  have hgl : w.heap.size < w6.drew.heap.size := World.block_lt_of_cell? _ _ c0
  replace hA := hA.drew
  replace hV := hV.drew
  replace hm1 := hm1.drew
  replace hm2 := hm2.drew
  replace hu1 := hu1.drew
  replace hu2 := hu2.drew
  clear HX hB
  go_region_held3 (fun w' => w'.cell? ⟨w.heap.size, 0, none⟩ = some (.slice A n c) ∧ w'.cell? ⟨w.heap.size, 3, none⟩ = some (.slice C k f))
    (first
      | go_keep
      | (exact ⟨((g1.cell hgl).trans c0), ((g1.cell hgl).trans c3)⟩)
      | (exact ⟨((g2.cell (Nat.lt_of_lt_of_le hgl g1.size)).trans ((g1.cell hgl).trans c0)), ((g2.cell (Nat.lt_of_lt_of_le hgl g1.size)).trans ((g1.cell hgl).trans c3))⟩)
      | (exact ⟨((g3.cell (Nat.lt_of_lt_of_le (Nat.lt_of_lt_of_le hgl g1.size) g2.size)).trans ((g2.cell (Nat.lt_of_lt_of_le hgl g1.size)).trans ((g1.cell hgl).trans c0))), ((g3.cell (Nat.lt_of_lt_of_le (Nat.lt_of_lt_of_le hgl g1.size) g2.size)).trans ((g2.cell (Nat.lt_of_lt_of_le hgl g1.size)).trans ((g1.cell hgl).trans c3)))⟩)
      | (exact ⟨((g4.cell (Nat.lt_of_lt_of_le (Nat.lt_of_lt_of_le (Nat.lt_of_lt_of_le hgl g1.size) g2.size) g3.size)).trans ((g3.cell (Nat.lt_of_lt_of_le (Nat.lt_of_lt_of_le hgl g1.size) g2.size)).trans ((g2.cell (Nat.lt_of_lt_of_le hgl g1.size)).trans ((g1.cell hgl).trans c0)))), ((g4.cell (Nat.lt_of_lt_of_le (Nat.lt_of_lt_of_le (Nat.lt_of_lt_of_le hgl g1.size) g2.size) g3.size)).trans ((g3.cell (Nat.lt_of_lt_of_le (Nat.lt_of_lt_of_le hgl g1.size) g2.size)).trans ((g2.cell (Nat.lt_of_lt_of_le hgl g1.size)).trans ((g1.cell hgl).trans c3))))⟩)
      | (exact ⟨((g5.cell (Nat.lt_of_lt_of_le (Nat.lt_of_lt_of_le (Nat.lt_of_lt_of_le (Nat.lt_of_lt_of_le hgl g1.size) g2.size) g3.size) g4.size)).trans ((g4.cell (Nat.lt_of_lt_of_le (Nat.lt_of_lt_of_le (Nat.lt_of_lt_of_le hgl g1.size) g2.size) g3.size)).trans ((g3.cell (Nat.lt_of_lt_of_le (Nat.lt_of_lt_of_le hgl g1.size) g2.size)).trans ((g2.cell (Nat.lt_of_lt_of_le hgl g1.size)).trans ((g1.cell hgl).trans c0))))), ((g5.cell (Nat.lt_of_lt_of_le (Nat.lt_of_lt_of_le (Nat.lt_of_lt_of_le (Nat.lt_of_lt_of_le hgl g1.size) g2.size) g3.size) g4.size)).trans ((g4.cell (Nat.lt_of_lt_of_le (Nat.lt_of_lt_of_le (Nat.lt_of_lt_of_le hgl g1.size) g2.size) g3.size)).trans ((g3.cell (Nat.lt_of_lt_of_le (Nat.lt_of_lt_of_le hgl g1.size) g2.size)).trans ((g2.cell (Nat.lt_of_lt_of_le hgl g1.size)).trans ((g1.cell hgl).trans c3)))))⟩)
      | (exact ⟨((g6.cell (Nat.lt_of_lt_of_le (Nat.lt_of_lt_of_le (Nat.lt_of_lt_of_le (Nat.lt_of_lt_of_le (Nat.lt_of_lt_of_le hgl g1.size) g2.size) g3.size) g4.size) g5.size)).trans ((g5.cell (Nat.lt_of_lt_of_le (Nat.lt_of_lt_of_le (Nat.lt_of_lt_of_le (Nat.lt_of_lt_of_le hgl g1.size) g2.size) g3.size) g4.size)).trans ((g4.cell (Nat.lt_of_lt_of_le (Nat.lt_of_lt_of_le (Nat.lt_of_lt_of_le hgl g1.size) g2.size) g3.size)).trans ((g3.cell (Nat.lt_of_lt_of_le (Nat.lt_of_lt_of_le hgl g1.size) g2.size)).trans ((g2.cell (Nat.lt_of_lt_of_le hgl g1.size)).trans ((g1.cell hgl).trans c0)))))), ((g6.cell (Nat.lt_of_lt_of_le (Nat.lt_of_lt_of_le (Nat.lt_of_lt_of_le (Nat.lt_of_lt_of_le (Nat.lt_of_lt_of_le hgl g1.size) g2.size) g3.size) g4.size) g5.size)).trans ((g5.cell (Nat.lt_of_lt_of_le (Nat.lt_of_lt_of_le (Nat.lt_of_lt_of_le (Nat.lt_of_lt_of_le hgl g1.size) g2.size) g3.size) g4.size)).trans ((g4.cell (Nat.lt_of_lt_of_le (Nat.lt_of_lt_of_le (Nat.lt_of_lt_of_le hgl g1.size) g2.size) g3.size)).trans ((g3.cell (Nat.lt_of_lt_of_le (Nat.lt_of_lt_of_le hgl g1.size) g2.size)).trans ((g2.cell (Nat.lt_of_lt_of_le hgl g1.size)).trans ((g1.cell hgl).trans c3))))))⟩))
    (first
      | (go_at_call 17; (with_reducible refine (R1.out w6.drew hA).mono ?_); rintro e v1 ⟨rfl, g1⟩)
      | (go_at_call 18; (with_reducible refine (R2.out _ (hA.below g1)).mono ?_); rintro e v2 ⟨rfl, g2⟩)
      | (go_at_call 19; (with_reducible refine (same_yes A1 A2 n1 n2 k1 k2 mr _ ((hm1.below g1).below g2) ((hm2.below g1).below g2)).mono ?_); rintro e v3 ⟨rfl, g3⟩)
      | (go_at_call 19; (with_reducible refine (same_yes A3 A4 n3 n4 k3 k4 ur _ (((hu1.below g1).below g2).below g3) (((hu2.below g1).below g2).below g3)).mono ?_); rintro e v4 ⟨rfl, g4⟩)
      | (go_at_call 20; (with_reducible refine (V1.out _ ((((hA.below g1).below g2).below g3).below g4) ((((hV.below g1).below g2).below g3).below g4)).mono ?_); rintro e v5 ⟨rfl, g5⟩)
      | (go_at_call 21; (with_reducible refine (V2.out _ (((((hA.below g1).below g2).below g3).below g4).below g5) (((((hV.below g1).below g2).below g3).below g4).below g5)).mono ?_); rintro e v6 ⟨rfl, g6⟩))
  go_wp2_with fail
  go_ret
  exact ⟨rfl, below_step (below_step (below_step (below_step (below_step (below_step (below_drewN hb 1) g1) g2) g3) g4) g5) g6⟩
theorem lsays_long (A B C : Option Addr) (n m k c e f : Nat) (z v : Int) (w : World) (h : 50 < n ∨ 50 < m ∨ 50 < k) :
    Calls Try.prog 3 #[twoAgg A B C n m k c e f z, .int .i64 v] w fun e w' => e = .returned (.bool true) ∧ Below w.heap.size w w' := by
  have hb0 := (Below.refl w.heap.size w).alloc (Nat.le_refl _) (twoBox A B C n m k c e f z)
  have hx := holds_at w #[.slice A n c, .slice B m e, .int .i64 z, .slice C k f] 26 _ rfl
  go_enter Try.func3, Try.ntmps3
  go_wp2_with fail
  refine (awake_any _).mono ?_
  rintro e w1 ⟨rfl, hb1⟩
  have hb := below_step hb0 hb1
  have HX := hx.below hb1
  clear hb0 hb1 hx
  have c0 : w1.cell? ⟨w.heap.size, 0, none⟩ = some (.slice A n c) := HX.cell (j := 0) rfl
  have c1 : w1.cell? ⟨w.heap.size, 1, none⟩ = some (.slice B m e) := HX.cell (j := 1) rfl
  have c2 : w1.cell? ⟨w.heap.size, 2, none⟩ = some (.int .i64 z) := HX.cell (j := 2) rfl
  have c3 : w1.cell? ⟨w.heap.size, 3, none⟩ = some (.slice C k f) := HX.cell (j := 3) rfl
  go_wp2_with fail
  refine (long_yes A B C n m k c e f z _ h).mono ?_
  rintro e w2 ⟨rfl, g⟩
  go_wp2_with fail
  go_ret
  exact ⟨rfl, below_step hb g⟩
theorem lsays_any (A B C : Option Addr) (n m k c e f : Nat) (a b : List Atom2) (z v : Int) (vals : List Int) (w : World) (hA : LevelAt w A n c a) (hWa : WideA a) (hB : LevelAt w B m e b) (hk : vals.length = k) (hV : Holds w C (intsV vals)) :
    Calls Try.prog 3 #[twoAgg A B C n m k c e f z, .int .i64 v] w fun e w' => e = .returned (.bool true) ∧ Below w.heap.size w w' := by
  by_cases h : 50 < n ∨ 50 < m ∨ 50 < k
  · exact lsays_long A B C n m k c e f z v w h
  · exact lsays_some A B C n m k c e f a b z v vals w hA hWa hB hk hV (by omega) (by omega) (by omega)
end Go.Proofs.Ytdpannjnhhjicaa
