/- LevelLeast: the least values meet the orders, and no values that meet them are below them. -/
import Derived.Test.YtdpannjnhhjicaaLSoundK
import Derived.Test.YtdpannjnhhjicaaLLeastP
namespace Go.Proofs.Ytdpannjnhhjicaa
open Go.RowKit

set_option maxHeartbeats 2000000 in
theorem lleast_err (A C : Option Addr) (n c k f : Nat) (x lo hi : Int) (E : List Ord3) (w : World) (hn : E.length = n) (hA : Holds w A (ordsV E)) (hn2 : n ≤ 9223372036854775807) (he : errS x E ≠ 0) :
    Calls Try.prog 7 #[ordAgg x A C n c k f lo hi] w fun e w' => e = .returned (.bool true) ∧ Below w.heap.size w w' := by
  have hb0 := (Below.refl w.heap.size w).alloc (Nat.le_refl _) (ordBox x A C n c k f lo hi)
  have hx := holds_at w #[.int .i64 x, .slice A n c, .slice C k f, .int .i64 lo, .int .i64 hi] 39 _ rfl
  have LE := Lib.hid fun w hA => (pleast_n x A c n E w hn hA hn2).mono (R' := fun e w' => e = .returned (.tuple #[.slice none 0 0, .int .i64 (errS x E)]) ∧ Below w.heap.size w w') (by
    rintro e w' (⟨_, h1, h2, h3⟩ | ⟨_, m, d, g, rfl, h1, h2, h3, h4, h5⟩)
    · exact ⟨rfl, h3⟩
    · exact absurd h1 he)
  have CK := Lib.hid fun w hA => check_n x A c n E w hn hA hn2 _ rfl
  have hz : (errS x E != 0) = true := by simpa using he
  clear he hn
  go_enter Try.func7, Try.ntmps7
  go_wp2_with fail
  refine (awake_any _).mono ?_
  rintro e w1 ⟨rfl, hb1⟩
  have hb := below_step hb0 hb1
  have HX := hx.below hb1
  clear hb0 hb1 hx
  have c0 : w1.cell? ⟨w.heap.size, 0, none⟩ = some (.int .i64 x) := HX.cell (j := 0) rfl
  have c1 : w1.cell? ⟨w.heap.size, 1, none⟩ = some (.slice A n c) := HX.cell (j := 1) rfl
  have c2 : w1.cell? ⟨w.heap.size, 2, none⟩ = some (.slice C k f) := HX.cell (j := 2) rfl
  have c3 : w1.cell? ⟨w.heap.size, 3, none⟩ = some (.int .i64 lo) := HX.cell (j := 3) rfl
  have c4 : w1.cell? ⟨w.heap.size, 4, none⟩ = some (.int .i64 hi) := HX.cell (j := 4) rfl
  replace hA := hA.below hb
  go_wp2_with fail
  refine (LE.out _ hA).mono ?_
  rintro e w2 ⟨rfl, g⟩
  have HY := HX.below g
  replace hA := hA.below g
  replace hb := below_step hb g
  clear c0 c1 c2 c3 c4 g HX
  have c0 : w2.cell? ⟨w.heap.size, 0, none⟩ = some (.int .i64 x) := HY.cell (j := 0) rfl
  have c1 : w2.cell? ⟨w.heap.size, 1, none⟩ = some (.slice A n c) := HY.cell (j := 1) rfl
  go_wp2_with fail
  refine (CK.out _ hA).mono ?_
  rintro e w3 ⟨rfl, g⟩
  go_wp2_with fail
  go_ret
  exact ⟨by simp, below_step hb g⟩
set_option maxHeartbeats 4000000 in
theorem lleast_not (A C : Option Addr) (n c k f : Nat) (x lo hi : Int) (E : List Ord3) (vals : List Int) (w : World) (hn : E.length = n) (hA : Holds w A (ordsV E)) (hWE : WideO E) (hk : vals.length = k) (hV : Holds w C (intsV vals)) (hWV : WideI vals) (hn2 : n ≤ 9223372036854775807) (hk2 : k ≤ 9223372036854775807) (m : Nat) (d : Dist) (hxm : x = m) (hd : distS x E = some d) (hs : soundB x E vals = false) :
    Calls Try.prog 7 #[ordAgg x A C n c k f lo hi] w fun e w' => e = .returned (.bool true) ∧ Below w.heap.size w w' := by
  have hb0 := (Below.refl w.heap.size w).alloc (Nat.le_refl _) (ordBox x A C n c k f lo hi)
  have hx := holds_at w #[.int .i64 x, .slice A n c, .slice C k f, .int .i64 lo, .int .i64 hi] 39 _ rfl
  subst hxm
  have he : errS m E = 0 := ((err_right (dist_some hd).1).1 d hd).1
  have LO := Lib.hid fun w hA => (pleast_n m A c n E w hn hA hn2).mono (R' := fun e w' => ∃ g, e = .returned (.tuple #[.slice (some ⟨g, 0, none⟩) m m, .int .i64 0]) ∧ Holds w' (some ⟨g, 0, none⟩) (intsV (leastD m d)) ∧ Below w.heap.size w w') (by
    rintro e w' (⟨_, h1, h2, h3⟩ | ⟨_, m', d', g, hm', h1, h2, h3, h4, h5⟩)
    · exact absurd he h1
    · obtain rfl : m = m' := by omega
      rw [hd] at h2
      cases h2
      exact ⟨g, rfl, own_holds h4, h5⟩)
  have hm16 := (dist_some hd).2.1
  have ME := Lib.hid fun g w hl hA => meets_n (some ⟨g, 0, none⟩) A m m n c (leastD m d) E w (leastD_length _ _) hn hl hA hWE (by omega) hn2 true (least_meets hd)
  have SN := Lib.hid fun w hA hV => sound_n A C n c k f m lo hi E vals w hn hA hk hV hWV hn2 hk2 _ hs
  have HK := Lib.hid hk
  clear hn hk hd he hs hWE hWV
  go_enter Try.func7, Try.ntmps7
  go_wp2_with fail
  refine (awake_any _).mono ?_
  rintro e w1 ⟨rfl, hb1⟩
  have hb := below_step hb0 hb1
  have HX := hx.below hb1
  clear hb0 hb1 hx
  have c0 : w1.cell? ⟨w.heap.size, 0, none⟩ = some (.int .i64 (m : Int)) := HX.cell (j := 0) rfl
  have c1 : w1.cell? ⟨w.heap.size, 1, none⟩ = some (.slice A n c) := HX.cell (j := 1) rfl
  have c2 : w1.cell? ⟨w.heap.size, 2, none⟩ = some (.slice C k f) := HX.cell (j := 2) rfl
  have c3 : w1.cell? ⟨w.heap.size, 3, none⟩ = some (.int .i64 lo) := HX.cell (j := 3) rfl
  have c4 : w1.cell? ⟨w.heap.size, 4, none⟩ = some (.int .i64 hi) := HX.cell (j := 4) rfl
  replace hA := hA.below hb
  replace hV := hV.below hb
  go_wp2_with fail
  refine (LO.out _ hA).mono ?_
  rintro e w2 ⟨G, rfl, hl, g⟩
  clear c0 c1 c2 c3 c4
  replace HX := HX.below g
  replace hA := hA.below g
  replace hV := hV.below g
  replace hb := below_step hb g
  clear g
  have c0 : w2.cell? ⟨w.heap.size, 0, none⟩ = some (.int .i64 (m : Int)) := HX.cell (j := 0) rfl
  have c1 : w2.cell? ⟨w.heap.size, 1, none⟩ = some (.slice A n c) := HX.cell (j := 1) rfl
  have c2 : w2.cell? ⟨w.heap.size, 2, none⟩ = some (.slice C k f) := HX.cell (j := 2) rfl
  have c3 : w2.cell? ⟨w.heap.size, 3, none⟩ = some (.int .i64 lo) := HX.cell (j := 3) rfl
  have c4 : w2.cell? ⟨w.heap.size, 4, none⟩ = some (.int .i64 hi) := HX.cell (j := 4) rfl
  go_wp2_with fail
  refine (ME.out _ _ hl hA).mono ?_
  rintro e w3 ⟨rfl, g⟩
  clear c0 c1 c2 c3 c4
  replace HX := HX.below g
  replace hA := hA.below g
  replace hV := hV.below g
  replace hl := hl.below g
  replace hb := below_step hb g
  clear g
  have c0 : w3.cell? ⟨w.heap.size, 0, none⟩ = some (.int .i64 (m : Int)) := HX.cell (j := 0) rfl
  have c1 : w3.cell? ⟨w.heap.size, 1, none⟩ = some (.slice A n c) := HX.cell (j := 1) rfl
  have c2 : w3.cell? ⟨w.heap.size, 2, none⟩ = some (.slice C k f) := HX.cell (j := 2) rfl
  have c3 : w3.cell? ⟨w.heap.size, 3, none⟩ = some (.int .i64 lo) := HX.cell (j := 3) rfl
  have c4 : w3.cell? ⟨w.heap.size, 4, none⟩ = some (.int .i64 hi) := HX.cell (j := 4) rfl
  go_wp2_with fail
  refine (SN.out _ hA hV).mono ?_
  rintro e w4 ⟨rfl, g⟩
  go_wp2_with fail
  go_ret
  exact ⟨rfl, below_step hb g⟩
set_option maxHeartbeats 4000000 in
theorem lleast_yes (A C : Option Addr) (n c k f : Nat) (x lo hi : Int) (E : List Ord3) (vals : List Int) (w : World) (hn : E.length = n) (hA : Holds w A (ordsV E)) (hWE : WideO E) (hk : vals.length = k) (hV : Holds w C (intsV vals)) (hWV : WideI vals) (hn2 : n ≤ 9223372036854775807) (hk2 : k ≤ 9223372036854775807) (m : Nat) (d : Dist) (hxm : x = m) (hd : distS x E = some d) (hs : soundB x E vals = true) :
    Calls Try.prog 7 #[ordAgg x A C n c k f lo hi] w fun e w' => e = .returned (.bool true) ∧ Below w.heap.size w w' := by
  have hb0 := (Below.refl w.heap.size w).alloc (Nat.le_refl _) (ordBox x A C n c k f lo hi)
  have hx := holds_at w #[.int .i64 x, .slice A n c, .slice C k f, .int .i64 lo, .int .i64 hi] 39 _ rfl
  subst hxm
  have he : errS m E = 0 := ((err_right (dist_some hd).1).1 d hd).1
  have LO := Lib.hid fun w hA => (pleast_n m A c n E w hn hA hn2).mono (R' := fun e w' => ∃ g, e = .returned (.tuple #[.slice (some ⟨g, 0, none⟩) m m, .int .i64 0]) ∧ Holds w' (some ⟨g, 0, none⟩) (intsV (leastD m d)) ∧ Below w.heap.size w w') (by
    rintro e w' (⟨_, h1, h2, h3⟩ | ⟨_, m', d', g, hm', h1, h2, h3, h4, h5⟩)
    · exact absurd he h1
    · obtain rfl : m = m' := by omega
      rw [hd] at h2
      cases h2
      exact ⟨g, rfl, own_holds h4, h5⟩)
  have hm16 := (dist_some hd).2.1
  have ME := Lib.hid fun g w hl hA => meets_n (some ⟨g, 0, none⟩) A m m n c (leastD m d) E w (leastD_length _ _) hn hl hA hWE (by omega) hn2 true (least_meets hd)
  have SN := Lib.hid fun w hA hV => sound_n A C n c k f m lo hi E vals w hn hA hk hV hWV hn2 hk2 _ hs
  have HK := Lib.hid hk
  have LL := Lib.hid fun i (hi : i < m) => least_le hd hs hi
  clear hn hk hd he hs hWE hWV
  go_enter Try.func7, Try.ntmps7
  go_wp2_with fail
  refine (awake_any _).mono ?_
  rintro e w1 ⟨rfl, hb1⟩
  have hb := below_step hb0 hb1
  have HX := hx.below hb1
  clear hb0 hb1 hx
  have c0 : w1.cell? ⟨w.heap.size, 0, none⟩ = some (.int .i64 (m : Int)) := HX.cell (j := 0) rfl
  have c1 : w1.cell? ⟨w.heap.size, 1, none⟩ = some (.slice A n c) := HX.cell (j := 1) rfl
  have c2 : w1.cell? ⟨w.heap.size, 2, none⟩ = some (.slice C k f) := HX.cell (j := 2) rfl
  have c3 : w1.cell? ⟨w.heap.size, 3, none⟩ = some (.int .i64 lo) := HX.cell (j := 3) rfl
  have c4 : w1.cell? ⟨w.heap.size, 4, none⟩ = some (.int .i64 hi) := HX.cell (j := 4) rfl
  replace hA := hA.below hb
  replace hV := hV.below hb
  go_wp2_with fail
  refine (LO.out _ hA).mono ?_
  rintro e w2 ⟨G, rfl, hl, g⟩
  clear c0 c1 c2 c3 c4
  replace HX := HX.below g
  replace hA := hA.below g
  replace hV := hV.below g
  replace hb := below_step hb g
  clear g
  have c0 : w2.cell? ⟨w.heap.size, 0, none⟩ = some (.int .i64 (m : Int)) := HX.cell (j := 0) rfl
  have c1 : w2.cell? ⟨w.heap.size, 1, none⟩ = some (.slice A n c) := HX.cell (j := 1) rfl
  have c2 : w2.cell? ⟨w.heap.size, 2, none⟩ = some (.slice C k f) := HX.cell (j := 2) rfl
  have c3 : w2.cell? ⟨w.heap.size, 3, none⟩ = some (.int .i64 lo) := HX.cell (j := 3) rfl
  have c4 : w2.cell? ⟨w.heap.size, 4, none⟩ = some (.int .i64 hi) := HX.cell (j := 4) rfl
  go_wp2_with fail
  refine (ME.out _ _ hl hA).mono ?_
  rintro e w3 ⟨rfl, g⟩
  clear c0 c1 c2 c3 c4
  replace HX := HX.below g
  replace hA := hA.below g
  replace hV := hV.below g
  replace hl := hl.below g
  replace hb := below_step hb g
  clear g
  have c0 : w3.cell? ⟨w.heap.size, 0, none⟩ = some (.int .i64 (m : Int)) := HX.cell (j := 0) rfl
  have c1 : w3.cell? ⟨w.heap.size, 1, none⟩ = some (.slice A n c) := HX.cell (j := 1) rfl
  have c2 : w3.cell? ⟨w.heap.size, 2, none⟩ = some (.slice C k f) := HX.cell (j := 2) rfl
  have c3 : w3.cell? ⟨w.heap.size, 3, none⟩ = some (.int .i64 lo) := HX.cell (j := 3) rfl
  have c4 : w3.cell? ⟨w.heap.size, 4, none⟩ = some (.int .i64 hi) := HX.cell (j := 4) rfl
  go_wp2_with fail
  refine (SN.out _ hA hV).mono ?_
  rintro e w4 ⟨rfl, g⟩
  clear c0 c1 c2 c3 c4
  replace HX := HX.below g
  replace hA := hA.below g
  replace hV := hV.below g
  replace hl := hl.below g
  replace hb := below_step hb g
  clear g
  have c0 : w4.cell? ⟨w.heap.size, 0, none⟩ = some (.int .i64 (m : Int)) := HX.cell (j := 0) rfl
  have c1 : w4.cell? ⟨w.heap.size, 1, none⟩ = some (.slice A n c) := HX.cell (j := 1) rfl
  have c2 : w4.cell? ⟨w.heap.size, 2, none⟩ = some (.slice C k f) := HX.cell (j := 2) rfl
  have c3 : w4.cell? ⟨w.heap.size, 3, none⟩ = some (.int .i64 lo) := HX.cell (j := 3) rfl
  have c4 : w4.cell? ⟨w.heap.size, 4, none⟩ = some (.int .i64 hi) := HX.cell (j := 4) rfl
  go_wp2_with fail
  clear c0 c1 c2 c3 c4 hA
  go_loopw [5] (fun i wr => ∃ j : Nat, j ≤ m ∧ i = .int .i64 j ∧ Below w4.heap.size w4 wr) (fun i _ => m - (intOf i).toNat)
  case atStart => exact ⟨0, by omega, rfl, Below.refl _ _⟩
  case round =>
    obtain ⟨j, hj, rfl, hbr⟩ := hrel
    have hb' := below_step hb hbr
    by_cases hlt : j < m
    · have c2 : wr.cell? ⟨w.heap.size, 2, none⟩ = some (.slice C k f) := (HX.below hbr).cell (j := 2) rfl
      have hjl : j < (leastD m d).length := by rw [leastD_length]; exact hlt
      have s0 := (hl.below hbr).cell (j := j) (intsV_get hjl)
      rw [Nat.zero_add] at s0
      have hle := LL.out j hlt
      have hVr := hV.below hbr
      generalize (leastD m d)[j]'_ = y at *
      have hle2 : ¬ valOf vals ((j : Int) + 1) < y := by omega
      have e1 : IntKind.i64.wrap ((j : Int) + 1) = (j : Int) + 1 := IntWalk.i64_in _ (by omega)
      clear hle hjl
      go_wp2_with fail
      go_quiet ((go_at_call 33; refine Calls.quiet_of_same (of_any _ _ _ vals _ _ HK.out (hVr.drewN _) hk2)))
      go_wp2_with fail
      go_roundw
      case rel => exact ⟨j + 1, by omega, by go_num, below_drewN hbr _⟩
      case measure => simp [intOf] <;> omega
    · go_wp2_with fail
      go_ret
      exact ⟨rfl, hb'⟩
theorem lleast_any (A C : Option Addr) (n c k f : Nat) (x lo hi : Int) (E : List Ord3) (vals : List Int) (w : World) (hn : E.length = n) (hA : Holds w A (ordsV E)) (hWE : WideO E) (hk : vals.length = k) (hV : Holds w C (intsV vals)) (hWV : WideI vals) (hn2 : n ≤ 9223372036854775807) (hk2 : k ≤ 9223372036854775807) :
    Calls Try.prog 7 #[ordAgg x A C n c k f lo hi] w fun e w' => e = .returned (.bool true) ∧ Below w.heap.size w w' := by
  by_cases he : errS x E = 0
  · obtain ⟨d, hd⟩ := err_zero he
    obtain ⟨m, hm⟩ := dist_nat hd
    cases hs : soundB x E vals
    · exact lleast_not A C n c k f x lo hi E vals w hn hA hWE hk hV hWV hn2 hk2 m d hm hd hs
    · exact lleast_yes A C n c k f x lo hi E vals w hn hA hWE hk hV hWV hn2 hk2 m d hm hd hs
  · exact lleast_err A C n c k f x lo hi E w hn hA hn2 he
end Go.Proofs.Ytdpannjnhhjicaa
