/- LevelSound: a level that is under another one has no greater value, by whatever values meet the orders; a gap is kept by them. -/
import Derived.Test.YtdpannjnhhjicaaLSoundK
namespace Go.Proofs.Ytdpannjnhhjicaa
open Go.RowKit

theorem lsound_no (A B C D : Option Addr) (n c k f nb b' nd d' : Nat) (x lo hi : Int) (E : List Ord3) (vals : List Int) (w : World) (hn : E.length = n) (hA : Holds w A (ordsV E)) (hk : vals.length = k) (hV : Holds w C (intsV vals)) (hWV : WideI vals)
    (hn2 : n ≤ 9223372036854775807) (hk2 : k ≤ 9223372036854775807) (hs : soundB x E vals = false) :
    Calls Try.prog 6 #[ordAgg x A C n c k f lo hi, .slice B nb b', .slice D nd d'] w fun e w' => e = .returned (.bool true) ∧ Below w.heap.size w w' := by
  have hb0 := (Below.refl w.heap.size w).alloc (Nat.le_refl _) (ordBox x A C n c k f lo hi)
  have hx := holds_at w #[.int .i64 x, .slice A n c, .slice C k f, .int .i64 lo, .int .i64 hi] 39 _ rfl
  go_enter Try.func6, Try.ntmps6
  go_wp2_with fail
  refine (awake_any _).mono ?_
  rintro e w1 ⟨rfl, hb1⟩
  have hb := below_step hb0 hb1
  have HX := hx.below hb1
  clear hb0 hb1 hx
  have c0 : w1.cell? ⟨w.heap.size, 0, none⟩ = some (.int .i64 x) := HX.cell (j := 0) rfl
  have c1 : w1.cell? ⟨w.heap.size, 1, none⟩ = some (.slice A n c) := HX.cell (j := 1) rfl
  have c2 : w1.cell? ⟨w.heap.size, 2, none⟩ = some (.slice C k f) := HX.cell (j := 2) rfl
  have c3 : w1.cell? ⟨w.heap.size, 3, none⟩ = some (.int .i64 lo) := HX.cell (j := 3) rfl
  have c4 : w1.cell? ⟨w.heap.size, 4, none⟩ = some (.int .i64 hi) := HX.cell (j := 4) rfl
  replace hA := hA.below hb
  replace hV := hV.below hb
  go_wp2_with fail
  refine (sound_n A C n c k f x lo hi E vals _ hn hA hk hV hWV hn2 hk2 false hs).mono ?_
  rintro e w2 ⟨rfl, g⟩
  go_wp2_with fail
  go_ret
  exact ⟨rfl, below_step hb g⟩
set_option maxHeartbeats 4000000 in
theorem lsound_yes_none (A B C D : Option Addr) (n c k f nb b' nd d' : Nat) (x lo hi : Int) (E : List Ord3) (a b : List Atom2) (vals : List Int) (w : World) (hn : E.length = n) (hA : Holds w A (ordsV E)) (hk : vals.length = k) (hV : Holds w C (intsV vals)) (hWV : WideI vals)
    (hB : LevelAt w B nb b' a) (hWa : WideA a) (hD : LevelAt w D nd d' b) (hWb : WideA b) (hlo : I64 lo) (hhi : I64 hi) (hn2 : n ≤ 9223372036854775807) (hk2 : k ≤ 9223372036854775807) (hs : soundB x E vals = true) (hu : underS x E a b = true) (hg : gapS x E lo hi = none) :
    Calls Try.prog 6 #[ordAgg x A C n c k f lo hi, .slice B nb b', .slice D nd d'] w fun e w' => e = .returned (.bool true) ∧ Below w.heap.size w w' := by
  have hb0 := (Below.refl w.heap.size w).alloc (Nat.le_refl _) (ordBox x A C n c k f lo hi)
  have hx := holds_at w #[.int .i64 x, .slice A n c, .slice C k f, .int .i64 lo, .int .i64 hi] 39 _ rfl
  have SN := Lib.hid fun w hA hV => sound_n A C n c k f x lo hi E vals w hn hA hk hV hWV hn2 hk2 true hs
  have UN := Lib.hid fun w hA (hB : LevelAt w B nb b' a) (hD : LevelAt w D nd d' b) => under_n x A B D c n nb b' nd d' E a b w hn hB.1 hD.1 hA hn2 hB.2.2 hD.2.2 hWa hWb (by have := hB.2.1; unfold Slice at this; omega) (by have := hD.2.1; unfold Slice at this; omega) _ hu
  have HK := Lib.hid hk
  have GP := Lib.hid fun w hA => gap_n x A c n E lo hi w hn hA hn2 hlo hhi 0 false (by rw [hg]; rfl) (by rw [hg]; rfl)
  have hle := under_value hs hu
  obtain ⟨va, hva⟩ : ∃ va, valueS vals a = va := ⟨_, rfl⟩
  obtain ⟨vb, hvb⟩ : ∃ vb, valueS vals b = vb := ⟨_, rfl⟩
  rw [hva, hvb] at hle
  have hle2 : ¬ vb < va := by omega
  have V1 := Lib.hid fun w (hB : LevelAt w B nb b' a) hV => value_n B C nb b' k f vals a w hB hV hWa hk hk2 va hva
  have V2 := Lib.hid fun w (hD : LevelAt w D nd d' b) hV => value_n D C nd d' k f vals b w hD hV hWb hk hk2 vb hvb
  clear hva hvb
  clear hn hk hu hs hg hWa hWb hWV hlo hhi
  go_enter Try.func6, Try.ntmps6
  go_wp2_with fail
  refine (awake_any _).mono ?_
  rintro e w1 ⟨rfl, hb1⟩
  have hb := below_step hb0 hb1
  have HX := hx.below hb1
  clear hb0 hb1 hx
  have c0 : w1.cell? ⟨w.heap.size, 0, none⟩ = some (.int .i64 x) := HX.cell (j := 0) rfl
  have c1 : w1.cell? ⟨w.heap.size, 1, none⟩ = some (.slice A n c) := HX.cell (j := 1) rfl
  have c2 : w1.cell? ⟨w.heap.size, 2, none⟩ = some (.slice C k f) := HX.cell (j := 2) rfl
  have c3 : w1.cell? ⟨w.heap.size, 3, none⟩ = some (.int .i64 lo) := HX.cell (j := 3) rfl
  have c4 : w1.cell? ⟨w.heap.size, 4, none⟩ = some (.int .i64 hi) := HX.cell (j := 4) rfl
  replace hA := hA.below hb
  replace hV := hV.below hb
  replace hB := hB.below hb
  replace hD := hD.below hb
  go_wp2_with fail
  refine (SN.out _ hA hV).mono ?_
  rintro e w2 ⟨rfl, g⟩
  clear c0 c1 c2 c3 c4
  replace HX := HX.below g
  replace hA := hA.below g
  replace hV := hV.below g
  replace hB := hB.below g
  replace hD := hD.below g
  replace hb := below_step hb g
  clear g
  have c0 : w2.cell? ⟨w.heap.size, 0, none⟩ = some (.int .i64 x) := HX.cell (j := 0) rfl
  have c1 : w2.cell? ⟨w.heap.size, 1, none⟩ = some (.slice A n c) := HX.cell (j := 1) rfl
  have c2 : w2.cell? ⟨w.heap.size, 2, none⟩ = some (.slice C k f) := HX.cell (j := 2) rfl
  have c3 : w2.cell? ⟨w.heap.size, 3, none⟩ = some (.int .i64 lo) := HX.cell (j := 3) rfl
  have c4 : w2.cell? ⟨w.heap.size, 4, none⟩ = some (.int .i64 hi) := HX.cell (j := 4) rfl
  go_wp2_with fail
  have hgl : w.heap.size < w2.drew.heap.size := World.block_lt_of_cell? _ _ c0
  replace hA := hA.drew
  replace hV := hV.drew
  replace hB := hB.drew
  replace hD := hD.drew
  replace HX := HX.drew
  go_region_held3 (fun w' => w'.cell? ⟨w.heap.size, 0, none⟩ = some (.int .i64 x) ∧ w'.cell? ⟨w.heap.size, 1, none⟩ = some (.slice A n c) ∧ w'.cell? ⟨w.heap.size, 2, none⟩ = some (.slice C k f))
    (first
      | go_keep
      | (exact ⟨((g1.cell hgl).trans c0), ((g1.cell hgl).trans c1), ((g1.cell hgl).trans c2)⟩)
      | (exact ⟨((g2.cell (Nat.lt_of_lt_of_le hgl g1.size)).trans ((g1.cell hgl).trans c0)), ((g2.cell (Nat.lt_of_lt_of_le hgl g1.size)).trans ((g1.cell hgl).trans c1)), ((g2.cell (Nat.lt_of_lt_of_le hgl g1.size)).trans ((g1.cell hgl).trans c2))⟩)
      | (exact ⟨((g3.cell (Nat.lt_of_lt_of_le (Nat.lt_of_lt_of_le hgl g1.size) g2.size)).trans ((g2.cell (Nat.lt_of_lt_of_le hgl g1.size)).trans ((g1.cell hgl).trans c0))), ((g3.cell (Nat.lt_of_lt_of_le (Nat.lt_of_lt_of_le hgl g1.size) g2.size)).trans ((g2.cell (Nat.lt_of_lt_of_le hgl g1.size)).trans ((g1.cell hgl).trans c1))), ((g3.cell (Nat.lt_of_lt_of_le (Nat.lt_of_lt_of_le hgl g1.size) g2.size)).trans ((g2.cell (Nat.lt_of_lt_of_le hgl g1.size)).trans ((g1.cell hgl).trans c2)))⟩))
    (first
      | (go_at_call 30; (with_reducible refine (UN.out w2.drew hA hB hD).mono ?_); rintro e v1 ⟨rfl, g1⟩)
      | (go_at_call 20; (with_reducible refine (V1.out _ (hB.below g1) (hV.below g1)).mono ?_); rintro e v2 ⟨rfl, g2⟩)
      | (go_at_call 20; (with_reducible refine (V2.out _ ((hD.below g1).below g2) ((hV.below g1).below g2)).mono ?_); rintro e v3 ⟨rfl, g3⟩))
  clear c0 c1 c2 c3 c4 hB hD
  replace HX := (((HX.below g1).below g2).below g3)
  replace hA := (((hA.below g1).below g2).below g3)
  replace hV := (((hV.below g1).below g2).below g3)
  replace hb := below_step (below_step (below_step (below_drewN hb 1) g1) g2) g3
  clear hgl g1 g2 g3
  have d0 : v3.cell? ⟨w.heap.size, 0, none⟩ = some (.int .i64 x) := HX.cell (j := 0) rfl
  have d1 : v3.cell? ⟨w.heap.size, 1, none⟩ = some (.slice A n c) := HX.cell (j := 1) rfl
  have d2 : v3.cell? ⟨w.heap.size, 2, none⟩ = some (.slice C k f) := HX.cell (j := 2) rfl
  have d3 : v3.cell? ⟨w.heap.size, 3, none⟩ = some (.int .i64 lo) := HX.cell (j := 3) rfl
  have d4 : v3.cell? ⟨w.heap.size, 4, none⟩ = some (.int .i64 hi) := HX.cell (j := 4) rfl
  go_wp2_with fail
  refine (GP.out _ hA).mono ?_
  rintro e u1 ⟨rfl, g⟩
  clear d0 d1 d2 d3 d4
  replace HX := HX.below g
  replace hV := hV.below g
  replace hb := below_step hb g
  clear g hA
  have d2 : u1.cell? ⟨w.heap.size, 2, none⟩ = some (.slice C k f) := HX.cell (j := 2) rfl
  have d3 : u1.cell? ⟨w.heap.size, 3, none⟩ = some (.int .i64 lo) := HX.cell (j := 3) rfl
  have d4 : u1.cell? ⟨w.heap.size, 4, none⟩ = some (.int .i64 hi) := HX.cell (j := 4) rfl
  clear HX
  go_wp2_with fail
  go_ret
  exact ⟨rfl, hb⟩
set_option maxHeartbeats 4000000 in
theorem lsound_yes_some (A B C D : Option Addr) (n c k f nb b' nd d' : Nat) (x lo hi : Int) (E : List Ord3) (a b : List Atom2) (vals : List Int) (w : World) (hn : E.length = n) (hA : Holds w A (ordsV E)) (hk : vals.length = k) (hV : Holds w C (intsV vals)) (hWV : WideI vals)
    (hB : LevelAt w B nb b' a) (hWa : WideA a) (hD : LevelAt w D nd d' b) (hWb : WideA b) (hlo : I64 lo) (hhi : I64 hi) (hn2 : n ≤ 9223372036854775807) (hk2 : k ≤ 9223372036854775807) (hs : soundB x E vals = true) (hu : underS x E a b = true) (gg : Int) (hg : gapS x E lo hi = some gg) :
    Calls Try.prog 6 #[ordAgg x A C n c k f lo hi, .slice B nb b', .slice D nd d'] w fun e w' => e = .returned (.bool true) ∧ Below w.heap.size w w' := by
  have hb0 := (Below.refl w.heap.size w).alloc (Nat.le_refl _) (ordBox x A C n c k f lo hi)
  have hx := holds_at w #[.int .i64 x, .slice A n c, .slice C k f, .int .i64 lo, .int .i64 hi] 39 _ rfl
  have SN := Lib.hid fun w hA hV => sound_n A C n c k f x lo hi E vals w hn hA hk hV hWV hn2 hk2 true hs
  have UN := Lib.hid fun w hA (hB : LevelAt w B nb b' a) (hD : LevelAt w D nd d' b) => under_n x A B D c n nb b' nd d' E a b w hn hB.1 hD.1 hA hn2 hB.2.2 hD.2.2 hWa hWb (by have := hB.2.1; unfold Slice at this; omega) (by have := hD.2.1; unfold Slice at this; omega) _ hu
  have HK := Lib.hid hk
  have GP := Lib.hid fun w hA => gap_n x A c n E lo hi w hn hA hn2 hlo hhi gg true (by rw [hg]; rfl) (by rw [hg]; rfl)
  obtain ⟨hgl2, hg1, hg2, hg3, hg4⟩ := gap_value hs hg
  have e1 : IntKind.i64.wrap (valOf vals lo + gg) = valOf vals lo + gg := IntWalk.i64_in _ (by omega)
  have hle := under_value hs hu
  obtain ⟨va, hva⟩ : ∃ va, valueS vals a = va := ⟨_, rfl⟩
  obtain ⟨vb, hvb⟩ : ∃ vb, valueS vals b = vb := ⟨_, rfl⟩
  rw [hva, hvb] at hle
  have hle2 : ¬ vb < va := by omega
  have V1 := Lib.hid fun w (hB : LevelAt w B nb b' a) hV => value_n B C nb b' k f vals a w hB hV hWa hk hk2 va hva
  have V2 := Lib.hid fun w (hD : LevelAt w D nd d' b) hV => value_n D C nd d' k f vals b w hD hV hWb hk hk2 vb hvb
  clear hva hvb
  clear hn hk hu hs hg hWa hWb hWV hlo hhi
  go_enter Try.func6, Try.ntmps6
  go_wp2_with fail
  refine (awake_any _).mono ?_
  rintro e w1 ⟨rfl, hb1⟩
  have hb := below_step hb0 hb1
  have HX := hx.below hb1
  clear hb0 hb1 hx
  have c0 : w1.cell? ⟨w.heap.size, 0, none⟩ = some (.int .i64 x) := HX.cell (j := 0) rfl
  have c1 : w1.cell? ⟨w.heap.size, 1, none⟩ = some (.slice A n c) := HX.cell (j := 1) rfl
  have c2 : w1.cell? ⟨w.heap.size, 2, none⟩ = some (.slice C k f) := HX.cell (j := 2) rfl
  have c3 : w1.cell? ⟨w.heap.size, 3, none⟩ = some (.int .i64 lo) := HX.cell (j := 3) rfl
  have c4 : w1.cell? ⟨w.heap.size, 4, none⟩ = some (.int .i64 hi) := HX.cell (j := 4) rfl
  replace hA := hA.below hb
  replace hV := hV.below hb
  replace hB := hB.below hb
  replace hD := hD.below hb
  go_wp2_with fail
  refine (SN.out _ hA hV).mono ?_
  rintro e w2 ⟨rfl, g⟩
  clear c0 c1 c2 c3 c4
  replace HX := HX.below g
  replace hA := hA.below g
  replace hV := hV.below g
  replace hB := hB.below g
  replace hD := hD.below g
  replace hb := below_step hb g
  clear g
  have c0 : w2.cell? ⟨w.heap.size, 0, none⟩ = some (.int .i64 x) := HX.cell (j := 0) rfl
  have c1 : w2.cell? ⟨w.heap.size, 1, none⟩ = some (.slice A n c) := HX.cell (j := 1) rfl
  have c2 : w2.cell? ⟨w.heap.size, 2, none⟩ = some (.slice C k f) := HX.cell (j := 2) rfl
  have c3 : w2.cell? ⟨w.heap.size, 3, none⟩ = some (.int .i64 lo) := HX.cell (j := 3) rfl
  have c4 : w2.cell? ⟨w.heap.size, 4, none⟩ = some (.int .i64 hi) := HX.cell (j := 4) rfl
  go_wp2_with fail
  have hgl : w.heap.size < w2.drew.heap.size := World.block_lt_of_cell? _ _ c0
  replace hA := hA.drew
  replace hV := hV.drew
  replace hB := hB.drew
  replace hD := hD.drew
  replace HX := HX.drew
  go_region_held3 (fun w' => w'.cell? ⟨w.heap.size, 0, none⟩ = some (.int .i64 x) ∧ w'.cell? ⟨w.heap.size, 1, none⟩ = some (.slice A n c) ∧ w'.cell? ⟨w.heap.size, 2, none⟩ = some (.slice C k f))
    (first
      | go_keep
      | (exact ⟨((g1.cell hgl).trans c0), ((g1.cell hgl).trans c1), ((g1.cell hgl).trans c2)⟩)
      | (exact ⟨((g2.cell (Nat.lt_of_lt_of_le hgl g1.size)).trans ((g1.cell hgl).trans c0)), ((g2.cell (Nat.lt_of_lt_of_le hgl g1.size)).trans ((g1.cell hgl).trans c1)), ((g2.cell (Nat.lt_of_lt_of_le hgl g1.size)).trans ((g1.cell hgl).trans c2))⟩)
      | (exact ⟨((g3.cell (Nat.lt_of_lt_of_le (Nat.lt_of_lt_of_le hgl g1.size) g2.size)).trans ((g2.cell (Nat.lt_of_lt_of_le hgl g1.size)).trans ((g1.cell hgl).trans c0))), ((g3.cell (Nat.lt_of_lt_of_le (Nat.lt_of_lt_of_le hgl g1.size) g2.size)).trans ((g2.cell (Nat.lt_of_lt_of_le hgl g1.size)).trans ((g1.cell hgl).trans c1))), ((g3.cell (Nat.lt_of_lt_of_le (Nat.lt_of_lt_of_le hgl g1.size) g2.size)).trans ((g2.cell (Nat.lt_of_lt_of_le hgl g1.size)).trans ((g1.cell hgl).trans c2)))⟩))
    (first
      | (go_at_call 30; (with_reducible refine (UN.out w2.drew hA hB hD).mono ?_); rintro e v1 ⟨rfl, g1⟩)
      | (go_at_call 20; (with_reducible refine (V1.out _ (hB.below g1) (hV.below g1)).mono ?_); rintro e v2 ⟨rfl, g2⟩)
      | (go_at_call 20; (with_reducible refine (V2.out _ ((hD.below g1).below g2) ((hV.below g1).below g2)).mono ?_); rintro e v3 ⟨rfl, g3⟩))
  clear c0 c1 c2 c3 c4 hB hD
  replace HX := (((HX.below g1).below g2).below g3)
  replace hA := (((hA.below g1).below g2).below g3)
  replace hV := (((hV.below g1).below g2).below g3)
  replace hb := below_step (below_step (below_step (below_drewN hb 1) g1) g2) g3
  clear hgl g1 g2 g3
  have d0 : v3.cell? ⟨w.heap.size, 0, none⟩ = some (.int .i64 x) := HX.cell (j := 0) rfl
  have d1 : v3.cell? ⟨w.heap.size, 1, none⟩ = some (.slice A n c) := HX.cell (j := 1) rfl
  have d2 : v3.cell? ⟨w.heap.size, 2, none⟩ = some (.slice C k f) := HX.cell (j := 2) rfl
  have d3 : v3.cell? ⟨w.heap.size, 3, none⟩ = some (.int .i64 lo) := HX.cell (j := 3) rfl
  have d4 : v3.cell? ⟨w.heap.size, 4, none⟩ = some (.int .i64 hi) := HX.cell (j := 4) rfl
  go_wp2_with fail
  refine (GP.out _ hA).mono ?_
  rintro e u1 ⟨rfl, g⟩
  clear d0 d1 d2 d3 d4
  replace HX := HX.below g
  replace hV := hV.below g
  replace hb := below_step hb g
  clear g hA
  have d2 : u1.cell? ⟨w.heap.size, 2, none⟩ = some (.slice C k f) := HX.cell (j := 2) rfl
  have d3 : u1.cell? ⟨w.heap.size, 3, none⟩ = some (.int .i64 lo) := HX.cell (j := 3) rfl
  have d4 : u1.cell? ⟨w.heap.size, 4, none⟩ = some (.int .i64 hi) := HX.cell (j := 4) rfl
  clear HX
  go_wp2_with fail
  go_quiet ((go_at_call 33; refine Calls.quiet_of_same (of_any _ _ _ vals _ _ HK.out (hV.drewN _) hk2)))
  go_wp2_with fail
  go_ret
  exact ⟨by simp, below_drewN hb _⟩
set_option maxHeartbeats 4000000 in
theorem lsound_not_none (A B C D : Option Addr) (n c k f nb b' nd d' : Nat) (x lo hi : Int) (E : List Ord3) (a b : List Atom2) (vals : List Int) (w : World) (hn : E.length = n) (hA : Holds w A (ordsV E)) (hk : vals.length = k) (hV : Holds w C (intsV vals)) (hWV : WideI vals)
    (hB : LevelAt w B nb b' a) (hWa : WideA a) (hD : LevelAt w D nd d' b) (hWb : WideA b) (hlo : I64 lo) (hhi : I64 hi) (hn2 : n ≤ 9223372036854775807) (hk2 : k ≤ 9223372036854775807) (hs : soundB x E vals = true) (hu : underS x E a b = false) (hg : gapS x E lo hi = none) :
    Calls Try.prog 6 #[ordAgg x A C n c k f lo hi, .slice B nb b', .slice D nd d'] w fun e w' => e = .returned (.bool true) ∧ Below w.heap.size w w' := by
  have hb0 := (Below.refl w.heap.size w).alloc (Nat.le_refl _) (ordBox x A C n c k f lo hi)
  have hx := holds_at w #[.int .i64 x, .slice A n c, .slice C k f, .int .i64 lo, .int .i64 hi] 39 _ rfl
  have SN := Lib.hid fun w hA hV => sound_n A C n c k f x lo hi E vals w hn hA hk hV hWV hn2 hk2 true hs
  have UN := Lib.hid fun w hA (hB : LevelAt w B nb b' a) (hD : LevelAt w D nd d' b) => under_n x A B D c n nb b' nd d' E a b w hn hB.1 hD.1 hA hn2 hB.2.2 hD.2.2 hWa hWb (by have := hB.2.1; unfold Slice at this; omega) (by have := hD.2.1; unfold Slice at this; omega) _ hu
  have HK := Lib.hid hk
  have GP := Lib.hid fun w hA => gap_n x A c n E lo hi w hn hA hn2 hlo hhi 0 false (by rw [hg]; rfl) (by rw [hg]; rfl)
  clear hn hk hu hs hg hWa hWb hWV hlo hhi
  go_enter Try.func6, Try.ntmps6
  go_wp2_with fail
  refine (awake_any _).mono ?_
  rintro e w1 ⟨rfl, hb1⟩
  have hb := below_step hb0 hb1
  have HX := hx.below hb1
  clear hb0 hb1 hx
  have c0 : w1.cell? ⟨w.heap.size, 0, none⟩ = some (.int .i64 x) := HX.cell (j := 0) rfl
  have c1 : w1.cell? ⟨w.heap.size, 1, none⟩ = some (.slice A n c) := HX.cell (j := 1) rfl
  have c2 : w1.cell? ⟨w.heap.size, 2, none⟩ = some (.slice C k f) := HX.cell (j := 2) rfl
  have c3 : w1.cell? ⟨w.heap.size, 3, none⟩ = some (.int .i64 lo) := HX.cell (j := 3) rfl
  have c4 : w1.cell? ⟨w.heap.size, 4, none⟩ = some (.int .i64 hi) := HX.cell (j := 4) rfl
  replace hA := hA.below hb
  replace hV := hV.below hb
  replace hB := hB.below hb
  replace hD := hD.below hb
  go_wp2_with fail
  refine (SN.out _ hA hV).mono ?_
  rintro e w2 ⟨rfl, g⟩
  clear c0 c1 c2 c3 c4
  replace HX := HX.below g
  replace hA := hA.below g
  replace hV := hV.below g
  replace hB := hB.below g
  replace hD := hD.below g
  replace hb := below_step hb g
  clear g
  have c0 : w2.cell? ⟨w.heap.size, 0, none⟩ = some (.int .i64 x) := HX.cell (j := 0) rfl
  have c1 : w2.cell? ⟨w.heap.size, 1, none⟩ = some (.slice A n c) := HX.cell (j := 1) rfl
  have c2 : w2.cell? ⟨w.heap.size, 2, none⟩ = some (.slice C k f) := HX.cell (j := 2) rfl
  have c3 : w2.cell? ⟨w.heap.size, 3, none⟩ = some (.int .i64 lo) := HX.cell (j := 3) rfl
  have c4 : w2.cell? ⟨w.heap.size, 4, none⟩ = some (.int .i64 hi) := HX.cell (j := 4) rfl
  go_wp2_with fail
  have hgl : w.heap.size < w2.drew.heap.size := World.block_lt_of_cell? _ _ c0
  replace hA := hA.drew
  replace hV := hV.drew
  replace hB := hB.drew
  replace hD := hD.drew
  replace HX := HX.drew
  refine region_begin (S := fun w' => w'.cell? ⟨w.heap.size, 0, none⟩ = some (.int .i64 x) ∧ w'.cell? ⟨w.heap.size, 1, none⟩ = some (.slice A n c)) (by kernel_rfl) (⟨c0, c1⟩) (fun hHeld => ?_)
  refine region_take 0 ?_ rfl (by kernel_rfl) (by rfl) hHeld ?_ ?_
  rotate_left
  · intro w hSw
    (try dsimp only at hSw)
    go_simp
    try with_reducible rfl
  try simp only [Act.put, List.setIfInBounds_toArray, List.set_cons_zero, List.set_cons_succ]
  refine region_take 1 ?_ rfl (by kernel_rfl) (by rfl) hHeld ?_ ?_
  rotate_left
  · intro w hSw
    (try dsimp only at hSw)
    go_simp
    try with_reducible rfl
  try simp only [Act.put, List.setIfInBounds_toArray, List.set_cons_zero, List.set_cons_succ]
  refine region_take 2 ?_ rfl (by kernel_rfl) (by rfl) hHeld ?_ ?_
  rotate_left
  · intro w hSw
    (try dsimp only at hSw)
    go_simp
    try with_reducible rfl
  try simp only [Act.put, List.setIfInBounds_toArray, List.set_cons_zero, List.set_cons_succ]
  refine region_take 3 ?_ rfl (by kernel_rfl) (by rfl) hHeld ?_ ?_
  rotate_left
  · intro w hSw
    (try dsimp only at hSw)
    go_simp
    try with_reducible rfl
  try simp only [Act.put, List.setIfInBounds_toArray, List.set_cons_zero, List.set_cons_succ]
  refine region_take 4 ?_ rfl (by kernel_rfl) (by rfl) hHeld ?_ ?_
  rotate_left
  · intro w hSw
    (try dsimp only at hSw)
    go_simp
    try with_reducible rfl
  try simp only [Act.put, List.setIfInBounds_toArray, List.set_cons_zero, List.set_cons_succ]
  refine region_take 5 ?_ rfl (by kernel_rfl) (by rfl) hHeld ?_ ?_
  rotate_left
  · intro w hSw
    (try dsimp only at hSw)
    go_simp
    try with_reducible rfl
  try simp only [Act.put, List.setIfInBounds_toArray, List.set_cons_zero, List.set_cons_succ]
  refine region_call 6 rfl (by kernel_rfl) (by rfl) (fun K hK => ?_)
  go_simp
  (go_at_call 30; (with_reducible refine (UN.out _ hA hB hD).mono ?_); rintro e v1 ⟨rfl, g1⟩)
  refine hK.out _ _ (⟨(g1.cell hgl).trans c0, (g1.cell hgl).trans c1⟩) (fun hHeld => ?_)
  clear hK K
  try simp only [Act.put, List.setIfInBounds_toArray, List.set_cons_zero, List.set_cons_succ]
  refine region_take 7 ?_ rfl (by kernel_rfl) (by rfl) hHeld ?_ ?_
  rotate_left
  · intro w hSw
    (try dsimp only at hSw)
    go_simp
    try with_reducible rfl
  try simp only [Act.put, List.setIfInBounds_toArray, List.set_cons_zero, List.set_cons_succ]
  refine region_skip 8 rfl (by kernel_rfl) (by rfl) hHeld ?_
  try simp only [Act.put, List.setIfInBounds_toArray, List.set_cons_zero, List.set_cons_succ]
  refine region_skip 9 rfl (by kernel_rfl) (by rfl) hHeld ?_
  try simp only [Act.put, List.setIfInBounds_toArray, List.set_cons_zero, List.set_cons_succ]
  refine region_skip 10 rfl (by kernel_rfl) (by rfl) hHeld ?_
  try simp only [Act.put, List.setIfInBounds_toArray, List.set_cons_zero, List.set_cons_succ]
  refine region_skip 11 rfl (by kernel_rfl) (by rfl) hHeld ?_
  try simp only [Act.put, List.setIfInBounds_toArray, List.set_cons_zero, List.set_cons_succ]
  refine region_skip 12 rfl (by kernel_rfl) (by rfl) hHeld ?_
  try simp only [Act.put, List.setIfInBounds_toArray, List.set_cons_zero, List.set_cons_succ]
  refine region_skip 13 rfl (by kernel_rfl) (by rfl) hHeld ?_
  try simp only [Act.put, List.setIfInBounds_toArray, List.set_cons_zero, List.set_cons_succ]
  refine region_skip 14 rfl (by kernel_rfl) (by rfl) hHeld ?_
  try simp only [Act.put, List.setIfInBounds_toArray, List.set_cons_zero, List.set_cons_succ]
  refine region_skip 15 rfl (by kernel_rfl) (by rfl) hHeld ?_
  try simp only [Act.put, List.setIfInBounds_toArray, List.set_cons_zero, List.set_cons_succ]
  refine region_skip 16 rfl (by kernel_rfl) (by rfl) hHeld ?_
  try simp only [Act.put, List.setIfInBounds_toArray, List.set_cons_zero, List.set_cons_succ]
  refine region_take 17 ?_ rfl (by kernel_rfl) (by rfl) hHeld ?_ ?_
  rotate_left
  · intro w hSw
    (try dsimp only at hSw)
    go_simp
    try with_reducible rfl
  try simp only [Act.put, List.setIfInBounds_toArray, List.set_cons_zero, List.set_cons_succ]
  refine region_done (by kernel_rfl) ?_
  clear c0 c1 c2 c3 c4 hB hD hHeld
  replace HX := (HX.below g1)
  replace hA := (hA.below g1)
  replace hV := (hV.below g1)
  replace hb := below_step (below_drewN hb 1) g1
  clear hgl g1
  have d0 : v1.cell? ⟨w.heap.size, 0, none⟩ = some (.int .i64 x) := HX.cell (j := 0) rfl
  have d1 : v1.cell? ⟨w.heap.size, 1, none⟩ = some (.slice A n c) := HX.cell (j := 1) rfl
  have d2 : v1.cell? ⟨w.heap.size, 2, none⟩ = some (.slice C k f) := HX.cell (j := 2) rfl
  have d3 : v1.cell? ⟨w.heap.size, 3, none⟩ = some (.int .i64 lo) := HX.cell (j := 3) rfl
  have d4 : v1.cell? ⟨w.heap.size, 4, none⟩ = some (.int .i64 hi) := HX.cell (j := 4) rfl
  go_wp2_with fail
  refine (GP.out _ hA).mono ?_
  rintro e u1 ⟨rfl, g⟩
  clear d0 d1 d2 d3 d4
  replace HX := HX.below g
  replace hV := hV.below g
  replace hb := below_step hb g
  clear g hA
  have d2 : u1.cell? ⟨w.heap.size, 2, none⟩ = some (.slice C k f) := HX.cell (j := 2) rfl
  have d3 : u1.cell? ⟨w.heap.size, 3, none⟩ = some (.int .i64 lo) := HX.cell (j := 3) rfl
  have d4 : u1.cell? ⟨w.heap.size, 4, none⟩ = some (.int .i64 hi) := HX.cell (j := 4) rfl
  clear HX
  go_wp2_with fail
  go_ret
  exact ⟨rfl, hb⟩
set_option maxHeartbeats 4000000 in
theorem lsound_not_some (A B C D : Option Addr) (n c k f nb b' nd d' : Nat) (x lo hi : Int) (E : List Ord3) (a b : List Atom2) (vals : List Int) (w : World) (hn : E.length = n) (hA : Holds w A (ordsV E)) (hk : vals.length = k) (hV : Holds w C (intsV vals)) (hWV : WideI vals)
    (hB : LevelAt w B nb b' a) (hWa : WideA a) (hD : LevelAt w D nd d' b) (hWb : WideA b) (hlo : I64 lo) (hhi : I64 hi) (hn2 : n ≤ 9223372036854775807) (hk2 : k ≤ 9223372036854775807) (hs : soundB x E vals = true) (hu : underS x E a b = false) (gg : Int) (hg : gapS x E lo hi = some gg) :
    Calls Try.prog 6 #[ordAgg x A C n c k f lo hi, .slice B nb b', .slice D nd d'] w fun e w' => e = .returned (.bool true) ∧ Below w.heap.size w w' := by
  have hb0 := (Below.refl w.heap.size w).alloc (Nat.le_refl _) (ordBox x A C n c k f lo hi)
  have hx := holds_at w #[.int .i64 x, .slice A n c, .slice C k f, .int .i64 lo, .int .i64 hi] 39 _ rfl
  have SN := Lib.hid fun w hA hV => sound_n A C n c k f x lo hi E vals w hn hA hk hV hWV hn2 hk2 true hs
  have UN := Lib.hid fun w hA (hB : LevelAt w B nb b' a) (hD : LevelAt w D nd d' b) => under_n x A B D c n nb b' nd d' E a b w hn hB.1 hD.1 hA hn2 hB.2.2 hD.2.2 hWa hWb (by have := hB.2.1; unfold Slice at this; omega) (by have := hD.2.1; unfold Slice at this; omega) _ hu
  have HK := Lib.hid hk
  have GP := Lib.hid fun w hA => gap_n x A c n E lo hi w hn hA hn2 hlo hhi gg true (by rw [hg]; rfl) (by rw [hg]; rfl)
  obtain ⟨hgl2, hg1, hg2, hg3, hg4⟩ := gap_value hs hg
  have e1 : IntKind.i64.wrap (valOf vals lo + gg) = valOf vals lo + gg := IntWalk.i64_in _ (by omega)
  clear hn hk hu hs hg hWa hWb hWV hlo hhi
  go_enter Try.func6, Try.ntmps6
  go_wp2_with fail
  refine (awake_any _).mono ?_
  rintro e w1 ⟨rfl, hb1⟩
  have hb := below_step hb0 hb1
  have HX := hx.below hb1
  clear hb0 hb1 hx
  have c0 : w1.cell? ⟨w.heap.size, 0, none⟩ = some (.int .i64 x) := HX.cell (j := 0) rfl
  have c1 : w1.cell? ⟨w.heap.size, 1, none⟩ = some (.slice A n c) := HX.cell (j := 1) rfl
  have c2 : w1.cell? ⟨w.heap.size, 2, none⟩ = some (.slice C k f) := HX.cell (j := 2) rfl
  have c3 : w1.cell? ⟨w.heap.size, 3, none⟩ = some (.int .i64 lo) := HX.cell (j := 3) rfl
  have c4 : w1.cell? ⟨w.heap.size, 4, none⟩ = some (.int .i64 hi) := HX.cell (j := 4) rfl
  replace hA := hA.below hb
  replace hV := hV.below hb
  replace hB := hB.below hb
  replace hD := hD.below hb
  go_wp2_with fail
  refine (SN.out _ hA hV).mono ?_
  rintro e w2 ⟨rfl, g⟩
  clear c0 c1 c2 c3 c4
  replace HX := HX.below g
  replace hA := hA.below g
  replace hV := hV.below g
  replace hB := hB.below g
  replace hD := hD.below g
  replace hb := below_step hb g
  clear g
  have c0 : w2.cell? ⟨w.heap.size, 0, none⟩ = some (.int .i64 x) := HX.cell (j := 0) rfl
  have c1 : w2.cell? ⟨w.heap.size, 1, none⟩ = some (.slice A n c) := HX.cell (j := 1) rfl
  have c2 : w2.cell? ⟨w.heap.size, 2, none⟩ = some (.slice C k f) := HX.cell (j := 2) rfl
  have c3 : w2.cell? ⟨w.heap.size, 3, none⟩ = some (.int .i64 lo) := HX.cell (j := 3) rfl
  have c4 : w2.cell? ⟨w.heap.size, 4, none⟩ = some (.int .i64 hi) := HX.cell (j := 4) rfl
  go_wp2_with fail
  have hgl : w.heap.size < w2.drew.heap.size := World.block_lt_of_cell? _ _ c0
  replace hA := hA.drew
  replace hV := hV.drew
  replace hB := hB.drew
  replace hD := hD.drew
  replace HX := HX.drew
  refine region_begin (S := fun w' => w'.cell? ⟨w.heap.size, 0, none⟩ = some (.int .i64 x) ∧ w'.cell? ⟨w.heap.size, 1, none⟩ = some (.slice A n c)) (by kernel_rfl) (⟨c0, c1⟩) (fun hHeld => ?_)
  refine region_take 0 ?_ rfl (by kernel_rfl) (by rfl) hHeld ?_ ?_
  rotate_left
  · intro w hSw
    (try dsimp only at hSw)
    go_simp
    try with_reducible rfl
  try simp only [Act.put, List.setIfInBounds_toArray, List.set_cons_zero, List.set_cons_succ]
  refine region_take 1 ?_ rfl (by kernel_rfl) (by rfl) hHeld ?_ ?_
  rotate_left
  · intro w hSw
    (try dsimp only at hSw)
    go_simp
    try with_reducible rfl
  try simp only [Act.put, List.setIfInBounds_toArray, List.set_cons_zero, List.set_cons_succ]
  refine region_take 2 ?_ rfl (by kernel_rfl) (by rfl) hHeld ?_ ?_
  rotate_left
  · intro w hSw
    (try dsimp only at hSw)
    go_simp
    try with_reducible rfl
  try simp only [Act.put, List.setIfInBounds_toArray, List.set_cons_zero, List.set_cons_succ]
  refine region_take 3 ?_ rfl (by kernel_rfl) (by rfl) hHeld ?_ ?_
  rotate_left
  · intro w hSw
    (try dsimp only at hSw)
    go_simp
    try with_reducible rfl
  try simp only [Act.put, List.setIfInBounds_toArray, List.set_cons_zero, List.set_cons_succ]
  refine region_take 4 ?_ rfl (by kernel_rfl) (by rfl) hHeld ?_ ?_
  rotate_left
  · intro w hSw
    (try dsimp only at hSw)
    go_simp
    try with_reducible rfl
  try simp only [Act.put, List.setIfInBounds_toArray, List.set_cons_zero, List.set_cons_succ]
  refine region_take 5 ?_ rfl (by kernel_rfl) (by rfl) hHeld ?_ ?_
  rotate_left
  · intro w hSw
    (try dsimp only at hSw)
    go_simp
    try with_reducible rfl
  try simp only [Act.put, List.setIfInBounds_toArray, List.set_cons_zero, List.set_cons_succ]
  refine region_call 6 rfl (by kernel_rfl) (by rfl) (fun K hK => ?_)
  go_simp
  (go_at_call 30; (with_reducible refine (UN.out _ hA hB hD).mono ?_); rintro e v1 ⟨rfl, g1⟩)
  refine hK.out _ _ (⟨(g1.cell hgl).trans c0, (g1.cell hgl).trans c1⟩) (fun hHeld => ?_)
  clear hK K
  try simp only [Act.put, List.setIfInBounds_toArray, List.set_cons_zero, List.set_cons_succ]
  refine region_take 7 ?_ rfl (by kernel_rfl) (by rfl) hHeld ?_ ?_
  rotate_left
  · intro w hSw
    (try dsimp only at hSw)
    go_simp
    try with_reducible rfl
  try simp only [Act.put, List.setIfInBounds_toArray, List.set_cons_zero, List.set_cons_succ]
  refine region_skip 8 rfl (by kernel_rfl) (by rfl) hHeld ?_
  try simp only [Act.put, List.setIfInBounds_toArray, List.set_cons_zero, List.set_cons_succ]
  refine region_skip 9 rfl (by kernel_rfl) (by rfl) hHeld ?_
  try simp only [Act.put, List.setIfInBounds_toArray, List.set_cons_zero, List.set_cons_succ]
  refine region_skip 10 rfl (by kernel_rfl) (by rfl) hHeld ?_
  try simp only [Act.put, List.setIfInBounds_toArray, List.set_cons_zero, List.set_cons_succ]
  refine region_skip 11 rfl (by kernel_rfl) (by rfl) hHeld ?_
  try simp only [Act.put, List.setIfInBounds_toArray, List.set_cons_zero, List.set_cons_succ]
  refine region_skip 12 rfl (by kernel_rfl) (by rfl) hHeld ?_
  try simp only [Act.put, List.setIfInBounds_toArray, List.set_cons_zero, List.set_cons_succ]
  refine region_skip 13 rfl (by kernel_rfl) (by rfl) hHeld ?_
  try simp only [Act.put, List.setIfInBounds_toArray, List.set_cons_zero, List.set_cons_succ]
  refine region_skip 14 rfl (by kernel_rfl) (by rfl) hHeld ?_
  try simp only [Act.put, List.setIfInBounds_toArray, List.set_cons_zero, List.set_cons_succ]
  refine region_skip 15 rfl (by kernel_rfl) (by rfl) hHeld ?_
  try simp only [Act.put, List.setIfInBounds_toArray, List.set_cons_zero, List.set_cons_succ]
  refine region_skip 16 rfl (by kernel_rfl) (by rfl) hHeld ?_
  try simp only [Act.put, List.setIfInBounds_toArray, List.set_cons_zero, List.set_cons_succ]
  refine region_take 17 ?_ rfl (by kernel_rfl) (by rfl) hHeld ?_ ?_
  rotate_left
  · intro w hSw
    (try dsimp only at hSw)
    go_simp
    try with_reducible rfl
  try simp only [Act.put, List.setIfInBounds_toArray, List.set_cons_zero, List.set_cons_succ]
  refine region_done (by kernel_rfl) ?_
  clear c0 c1 c2 c3 c4 hB hD hHeld
  replace HX := (HX.below g1)
  replace hA := (hA.below g1)
  replace hV := (hV.below g1)
  replace hb := below_step (below_drewN hb 1) g1
  clear hgl g1
  have d0 : v1.cell? ⟨w.heap.size, 0, none⟩ = some (.int .i64 x) := HX.cell (j := 0) rfl
  have d1 : v1.cell? ⟨w.heap.size, 1, none⟩ = some (.slice A n c) := HX.cell (j := 1) rfl
  have d2 : v1.cell? ⟨w.heap.size, 2, none⟩ = some (.slice C k f) := HX.cell (j := 2) rfl
  have d3 : v1.cell? ⟨w.heap.size, 3, none⟩ = some (.int .i64 lo) := HX.cell (j := 3) rfl
  have d4 : v1.cell? ⟨w.heap.size, 4, none⟩ = some (.int .i64 hi) := HX.cell (j := 4) rfl
  go_wp2_with fail
  refine (GP.out _ hA).mono ?_
  rintro e u1 ⟨rfl, g⟩
  clear d0 d1 d2 d3 d4
  replace HX := HX.below g
  replace hV := hV.below g
  replace hb := below_step hb g
  clear g hA
  have d2 : u1.cell? ⟨w.heap.size, 2, none⟩ = some (.slice C k f) := HX.cell (j := 2) rfl
  have d3 : u1.cell? ⟨w.heap.size, 3, none⟩ = some (.int .i64 lo) := HX.cell (j := 3) rfl
  have d4 : u1.cell? ⟨w.heap.size, 4, none⟩ = some (.int .i64 hi) := HX.cell (j := 4) rfl
  clear HX
  go_wp2_with fail
  go_quiet ((go_at_call 33; refine Calls.quiet_of_same (of_any _ _ _ vals _ _ HK.out (hV.drewN _) hk2)))
  go_wp2_with fail
  go_ret
  exact ⟨by simp, below_drewN hb _⟩
theorem lsound_any (A B C D : Option Addr) (n c k f nb b' nd d' : Nat) (x lo hi : Int) (E : List Ord3) (a b : List Atom2) (vals : List Int) (w : World) (hn : E.length = n) (hA : Holds w A (ordsV E)) (hk : vals.length = k) (hV : Holds w C (intsV vals)) (hWV : WideI vals)
    (hB : LevelAt w B nb b' a) (hWa : WideA a) (hD : LevelAt w D nd d' b) (hWb : WideA b) (hlo : I64 lo) (hhi : I64 hi) (hn2 : n ≤ 9223372036854775807) (hk2 : k ≤ 9223372036854775807) :
    Calls Try.prog 6 #[ordAgg x A C n c k f lo hi, .slice B nb b', .slice D nd d'] w fun e w' => e = .returned (.bool true) ∧ Below w.heap.size w w' := by
  cases hs : soundB x E vals
  · exact lsound_no A B C D n c k f nb b' nd d' x lo hi E vals w hn hA hk hV hWV hn2 hk2 hs
  · cases hu : underS x E a b
    · cases hg : gapS x E lo hi with
      | none => exact lsound_not_none A B C D n c k f nb b' nd d' x lo hi E a b vals w hn hA hk hV hWV hB hWa hD hWb hlo hhi hn2 hk2 hs hu hg
      | some gg => exact lsound_not_some A B C D n c k f nb b' nd d' x lo hi E a b vals w hn hA hk hV hWV hB hWa hD hWb hlo hhi hn2 hk2 hs hu gg hg
    · cases hg : gapS x E lo hi with
      | none => exact lsound_yes_none A B C D n c k f nb b' nd d' x lo hi E a b vals w hn hA hk hV hWV hB hWa hD hWb hlo hhi hn2 hk2 hs hu hg
      | some gg => exact lsound_yes_some A B C D n c k f nb b' nd d' x lo hi E a b vals w hn hA hk hV hWV hB hWa hD hWb hlo hhi hn2 hk2 hs hu gg hg
end Go.Proofs.Ytdpannjnhhjicaa
