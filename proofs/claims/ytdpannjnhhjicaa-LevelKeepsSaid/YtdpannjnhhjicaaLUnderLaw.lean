/- LevelUnder: which level is never above which one is as the document says. -/
import Derived.Test.YtdpannjnhhjicaaLOpen
namespace Go.Proofs.Ytdpannjnhhjicaa
open Go.RowKit

/-- A struct Orders as it is boxed. -/
abbrev ordBox (x : Int) (A C : Option Addr) (n c k f : Nat) (lo hi : Int) : Obj := .cells #[.int .i64 x, .slice A n c, .slice C k f, .int .i64 lo, .int .i64 hi] 39
abbrev ordAgg (x : Int) (A C : Option Addr) (n c k f : Nat) (lo hi : Int) : Value := .agg #[.int .i64 x, .slice A n c, .slice C k f, .int .i64 lo, .int .i64 hi]
theorem LevelAt.drew {w : World} {A : Option Addr} {n c : Nat} {l : List Atom2} (h : LevelAt w A n c l) : LevelAt w.drew A n c l := ⟨h.1, h.2.1, h.2.2.drew⟩
set_option maxHeartbeats 2000000 in
theorem lunder_long (A B C D : Option Addr) (n c k f nb b' nd d' : Nat) (x lo hi : Int) (w : World) (h : 100 < n ∨ 50 < nb ∨ 50 < nd) :
    Calls Try.prog 5 #[ordAgg x A C n c k f lo hi, .slice B nb b', .slice D nd d'] w fun e w' => e = .returned (.bool true) ∧ Below w.heap.size w w' := by
  have hb0 := (Below.refl w.heap.size w).alloc (Nat.le_refl _) (ordBox x A C n c k f lo hi)
  have hx := holds_at w #[.int .i64 x, .slice A n c, .slice C k f, .int .i64 lo, .int .i64 hi] 39 _ rfl
  by_cases h1 : 100 < n
  · have t1 : (100 : Int) < (n : Int) := by omega
    clear h
    go_enter Try.func5, Try.ntmps5
    go_wp2_with fail
    refine (awake_any _).mono ?_
    rintro e w1 ⟨rfl, hb1⟩
    have c1 : w1.cell? ⟨w.heap.size, 1, none⟩ = some (.slice A n c) := (hx.below hb1).cell (j := 1) rfl
    have hb := below_step hb0 hb1
    clear hb0 hb1 hx
    go_wp2_with fail
    go_ret
    exact ⟨rfl, hb⟩
  · have t1 : ¬ (100 : Int) < (n : Int) := by omega
    by_cases h2 : 50 < nb
    · have t2 : (50 : Int) < (nb : Int) := by omega
      clear h
      go_enter Try.func5, Try.ntmps5
      go_wp2_with fail
      refine (awake_any _).mono ?_
      rintro e w1 ⟨rfl, hb1⟩
      have c1 : w1.cell? ⟨w.heap.size, 1, none⟩ = some (.slice A n c) := (hx.below hb1).cell (j := 1) rfl
      have hb := below_step hb0 hb1
      clear hb0 hb1 hx
      go_wp2_with fail
      go_ret
      exact ⟨rfl, hb⟩
    · have t2 : ¬ (50 : Int) < (nb : Int) := by omega
      have t3 : (50 : Int) < (nd : Int) := by omega
      clear h
      go_enter Try.func5, Try.ntmps5
      go_wp2_with fail
      refine (awake_any _).mono ?_
      rintro e w1 ⟨rfl, hb1⟩
      have c1 : w1.cell? ⟨w.heap.size, 1, none⟩ = some (.slice A n c) := (hx.below hb1).cell (j := 1) rfl
      have hb := below_step hb0 hb1
      clear hb0 hb1 hx
      go_wp2_with fail
      go_ret
      exact ⟨rfl, hb⟩
theorem runder_n (v : Int) (A B C : Option Addr) (c n nb b' nc c' : Nat) (E : List Ord3) (a b : List Atom2) (w : World) (hn : E.length = n) (hA : Holds w A (ordsV E)) (hm : n ≤ 9223372036854775807) (hB : LevelAt w B nb b' a) (hC : LevelAt w C nc c' b) (r : Bool) (hr : underS v E a b = r) :
    Calls Try.prog 31 #[.int .i64 v, .slice A n c, .slice B nb b', .slice C nc c'] w fun e w' => e = .returned (.bool r) ∧ Below w.heap.size w w' := by
  subst hn hr
  exact runder_any v A B C c b' c' nb nc E a b w hA hm hB hC
set_option maxHeartbeats 4000000 in
theorem lunder_some (A B C D : Option Addr) (n c k f nb b' nd d' : Nat) (x lo hi : Int) (E : List Ord3) (a b : List Atom2) (w : World) (hn : E.length = n) (hA : Holds w A (ordsV E)) (hB : LevelAt w B nb b' a) (hWa : WideA a) (hD : LevelAt w D nd d' b) (hWb : WideA b)
    (h1 : n ≤ 100) (h2 : nb ≤ 50) (h3 : nd ≤ 50) :
    Calls Try.prog 5 #[ordAgg x A C n c k f lo hi, .slice B nb b', .slice D nd d'] w fun e w' => e = .returned (.bool true) ∧ Below w.heap.size w w' := by
  have hb0 := (Below.refl w.heap.size w).alloc (Nat.le_refl _) (ordBox x A C n c k f lo hi)
  have hx := holds_at w #[.int .i64 x, .slice A n c, .slice C k f, .int .i64 lo, .int .i64 hi] 39 _ rfl
  have t1 : ¬ (100 : Int) < (n : Int) := by omega
  have t2 : ¬ (50 : Int) < (nb : Int) := by omega
  have t3 : ¬ (50 : Int) < (nd : Int) := by omega
  obtain ⟨u, hu⟩ : ∃ u, underS x E a b = u := ⟨_, rfl⟩
  have U1 := Lib.hid fun w hA (hB : LevelAt w B nb b' a) (hD : LevelAt w D nd d' b) => under_n x A B D c n nb b' nd d' E a b w hn hB.1 hD.1 hA (by omega) hB.2.2 hD.2.2 hWa hWb (by omega) (by omega) u hu
  have U2 := Lib.hid fun w hA hB hD => runder_n x A B D c n nb b' nd d' E a b w hn hA (by omega) hB hD u hu
  clear hn hu hWa hWb
  go_enter Try.func5, Try.ntmps5
  go_wp2_with fail
  refine (awake_any _).mono ?_
  rintro e w1 ⟨rfl, hb1⟩
  have c0 : w1.cell? ⟨w.heap.size, 0, none⟩ = some (.int .i64 x) := (hx.below hb1).cell (j := 0) rfl
  have c1 : w1.cell? ⟨w.heap.size, 1, none⟩ = some (.slice A n c) := (hx.below hb1).cell (j := 1) rfl
  have hb := below_step hb0 hb1
  have hA1 : Holds w1.drew A (ordsV E) := (hA.below hb).drew
  have hB1 : LevelAt w1.drew B nb b' a := (hB.below hb).drew
  have hD1 : LevelAt w1.drew D nd d' b := (hD.below hb).drew
  have hgl : w.heap.size < w1.drew.heap.size := World.block_lt_of_cell? _ _ c0
  clear hb0 hb1 hx hA hB hD
  go_wp2_with fail
  go_region_held3 (fun w' => w'.cell? ⟨w.heap.size, 0, none⟩ = some (.int .i64 x) ∧ w'.cell? ⟨w.heap.size, 1, none⟩ = some (.slice A n c))
    (first
      | go_keep
      | (exact ⟨(g1.cell hgl).trans c0, (g1.cell hgl).trans c1⟩)
      | (exact ⟨(g2.cell (Nat.lt_of_lt_of_le hgl g1.size)).trans ((g1.cell hgl).trans c0), (g2.cell (Nat.lt_of_lt_of_le hgl g1.size)).trans ((g1.cell hgl).trans c1)⟩))
    (first
      | (go_at_call 30; refine (U1.out w1.drew hA1 hB1 hD1).mono ?_; rintro e w2 ⟨rfl, g1⟩)
      | (go_at_call 31; refine (U2.out _ (hA1.below g1) (hB1.below g1) (hD1.below g1)).mono ?_; rintro e w3 ⟨rfl, g2⟩))
  go_wp2_with fail
  go_ret
  exact ⟨rfl, below_step (below_step (below_drewN hb 1) g1) g2⟩
theorem lunder_any (A B C D : Option Addr) (n c k f nb b' nd d' : Nat) (x lo hi : Int) (E : List Ord3) (a b : List Atom2) (w : World) (hn : E.length = n) (hA : Holds w A (ordsV E)) (hB : LevelAt w B nb b' a) (hWa : WideA a) (hD : LevelAt w D nd d' b) (hWb : WideA b) :
    Calls Try.prog 5 #[ordAgg x A C n c k f lo hi, .slice B nb b', .slice D nd d'] w fun e w' => e = .returned (.bool true) ∧ Below w.heap.size w w' := by
  by_cases h : 100 < n ∨ 50 < nb ∨ 50 < nd
  · exact lunder_long A B C D n c k f nb b' nd d' x lo hi w h
  · exact lunder_some A B C D n c k f nb b' nd d' x lo hi E a b w hn hA hB hWa hD hWb (by omega) (by omega) (by omega)
end Go.Proofs.Ytdpannjnhhjicaa
