/- LevelOrders: which orders can be met, the least values, gaps, and what meets them are as the document says. -/
import Derived.Test.YtdpannjnhhjicaaLUnderLaw
namespace Go.Proofs.Ytdpannjnhhjicaa
open Go.RowKit

def leastRes (v : Int) (E : List Ord3) : List Int := match distS v E with | none => [] | some d => leastD v.toNat d
/-- Numbers and an error are answered. -/
def IntsErr (l : List Int) (x : Int) (w : World) (e : Ending) (w' : World) : Prop := ∃ A n c, e = .returned (.tuple #[.slice A n c, .int .i64 x]) ∧ l.length = n ∧ Holds w' A (intsV l) ∧ Below w.heap.size w w'
theorem leastPost_ie {v : Int} {E : List Ord3} {w : World} {e : Ending} {w' : World} (h : LeastPost v E w e w') : IntsErr (leastRes v E) (errS v E) w e w' := by
  rcases h with ⟨_, h1, h2, h3⟩ | ⟨_, n, d, g, rfl, h1, h2, h3, h4, h5⟩
  · exact ⟨none, 0, 0, rfl, by simp [leastRes, h2], by unfold leastRes; rw [h2]; exact Holds.nil _ _, h3⟩
  · have e : leastRes n E = leastD n d := by simp [leastRes, h2]
    exact ⟨_, n, n, by rw [h1], by rw [e, leastD_length], by rw [e]; exact own_holds h4, h5⟩
theorem rleast_ie {v : Int} {E : List Ord3} {w : World} {e : Ending} {w' : World} (h : RLeast v E w e w') : IntsErr (leastRes v E) (errS v E) w e w' := by
  rcases h with ⟨_, h1, h2⟩ | ⟨_, n, d, A, rfl, h1, h2, h3⟩
  · exact ⟨none, 0, 0, rfl, by simp [leastRes, err_not h1], by unfold leastRes; rw [err_not h1]; exact Holds.nil _ _, h2⟩
  · have e : leastRes n E = leastD n d := by simp [leastRes, h1]
    have he : errS n E = 0 := ((err_right (dist_some h1).1).1 d h1).1
    exact ⟨A, n, n, by rw [he], by rw [e, leastD_length], by rw [e]; exact h2, h3⟩
theorem pleast_n (v : Int) (A : Option Addr) (c n : Nat) (E : List Ord3) (w : World) (hn : E.length = n) (hA : Holds w A (ordsV E)) (hm : n ≤ 9223372036854775807) :
    Calls Try.prog 22 #[.int .i64 v, .slice A n c] w (LeastPost v E w) := by
  subst hn
  exact least_any v A c E w hA hm
theorem rleast_n (v : Int) (A : Option Addr) (c n : Nat) (E : List Ord3) (w : World) (hn : E.length = n) (hA : Holds w A (ordsV E)) (hm : n ≤ 9223372036854775807) :
    Calls Try.prog 23 #[.int .i64 v, .slice A n c] w (RLeast v E w) := by
  subst hn
  exact rleast_any v A c E w hA hm
theorem rgap_n (v : Int) (A : Option Addr) (c n : Nat) (E : List Ord3) (lo hi : Int) (w : World) (hn : E.length = n) (hA : Holds w A (ordsV E)) (hm : n ≤ 9223372036854775807) (k : Int) (is : Bool) (hk : (gapS v E lo hi).getD 0 = k) (his : (gapS v E lo hi).isSome = is) :
    Calls Try.prog 25 #[.int .i64 v, .slice A n c, .int .i64 lo, .int .i64 hi] w fun e w' => e = .returned (.tuple #[.int .i64 k, .bool is]) ∧ Below w.heap.size w w' := by
  subst hn hk his
  exact rgap_any v A c E lo hi w hA hm
theorem check_n (v : Int) (A : Option Addr) (c n : Nat) (E : List Ord3) (w : World) (hn : E.length = n) (hA : Holds w A (ordsV E)) (hm : n ≤ 9223372036854775807) (x : Int) (hx : errS v E = x) :
    Calls Try.prog 26 #[.int .i64 v, .slice A n c] w fun e w' => e = .returned (.int .i64 x) ∧ Below w.heap.size w w' := by
  subst hn hx
  exact check_any v A c E w hA hm
theorem rcheck_n (v : Int) (A : Option Addr) (c n : Nat) (E : List Ord3) (w : World) (hn : E.length = n) (hA : Holds w A (ordsV E)) (hm : n ≤ 9223372036854775807) (x : Int) (hx : errS v E = x) :
    Calls Try.prog 39 #[.int .i64 v, .slice A n c] w fun e w' => e = .returned (.int .i64 x) ∧ Below w.heap.size w w' := by
  subst hn hx
  exact rcheck_any A c E v w hA hm
theorem meets_n (A B : Option Addr) (n c m d : Nat) (vals : List Int) (E : List Ord3) (w : World) (hn : vals.length = n) (hm : E.length = m) (hA : Holds w A (intsV vals)) (hB : Holds w B (ordsV E)) (hE : WideO E) (hl : n ≤ 9223372036854775807) (hl2 : m ≤ 9223372036854775807) (r : Bool) (hr : meetsS vals E = r) :
    Calls Try.prog 28 #[.slice A n c, .slice B m d] w fun e w' => e = .returned (.bool r) ∧ Below w.heap.size w w' := by
  subst hn hm hr
  exact meets_any A B c d vals E w hA hB hE hl hl2
theorem rmeets_n (A B : Option Addr) (n c m d : Nat) (vals : List Int) (E : List Ord3) (w : World) (hn : vals.length = n) (hm : E.length = m) (hA : Holds w A (intsV vals)) (hB : Holds w B (ordsV E)) (hV : WideI vals) (hl : n ≤ 9223372036854775807) (hl2 : m ≤ 9223372036854775807) (r : Bool) (hr : meetsS vals E = r) :
    Calls Try.prog 29 #[.slice A n c, .slice B m d] w fun e w' => e = .returned (.bool r) ∧ Below w.heap.size w w' := by
  subst hm hr
  exact rmeets_any A B n c d vals E w hn hA hB hV hl hl2
theorem sameI_yes (A B : Option Addr) (n m c d : Nat) (l : List Int) (w : World) (hn : l.length = n) (hm : l.length = m) (hA : Holds w A (intsV l)) (hB : Holds w B (intsV l)) (hl : n ≤ 9223372036854775807) :
    Calls Try.prog 27 #[.slice A n c, .slice B m d] w fun e w' => e = .returned (.bool true) ∧ Below w.heap.size w w' := same_ints A B n m c d l l w hn hm hA hB hl true (by simp)
theorem leastRes_len (v : Int) (E : List Ord3) : (leastRes v E).length ≤ 16 := by
  unfold leastRes
  cases h : distS v E with
  | none => simp
  | some d =>
    obtain ⟨n, rfl⟩ := dist_nat h
    have := (dist_some h).2.1
    rw [leastD_length]
    simpa using this
set_option maxHeartbeats 4000000 in
theorem lorders_some (A C : Option Addr) (n c k f : Nat) (x lo hi : Int) (E : List Ord3) (vals : List Int) (w : World) (hn : E.length = n) (hA : Holds w A (ordsV E)) (hWE : WideO E) (hk : vals.length = k) (hV : Holds w C (intsV vals)) (hWV : WideI vals) (hlo : I64 lo) (hhi : I64 hi) (h1 : n ≤ 100) (h2 : k ≤ 50) :
    Calls Try.prog 4 #[ordAgg x A C n c k f lo hi] w fun e w' => e = .returned (.bool true) ∧ Below w.heap.size w w' := by
  have hb0 := (Below.refl w.heap.size w).alloc (Nat.le_refl _) (ordBox x A C n c k f lo hi)
  have hx := holds_at w #[.int .i64 x, .slice A n c, .slice C k f, .int .i64 lo, .int .i64 hi] 39 _ rfl
  have t1 : ¬ (100 : Int) < (n : Int) := by omega
  have t2 : ¬ (50 : Int) < (k : Int) := by omega
  have hlr := leastRes_len x E
  obtain ⟨er, her⟩ : ∃ er, errS x E = er := ⟨_, rfl⟩
  obtain ⟨mt, hmt⟩ : ∃ mt, meetsS vals E = mt := ⟨_, rfl⟩
  obtain ⟨gp, hgp⟩ : ∃ gp, (gapS x E lo hi).getD 0 = gp := ⟨_, rfl⟩
  obtain ⟨gs, hgs⟩ : ∃ gs, (gapS x E lo hi).isSome = gs := ⟨_, rfl⟩
  have L1 := Lib.hid fun w hA => (pleast_n x A c n E w hn hA (by omega)).mono fun _ _ => leastPost_ie
  have L2 := Lib.hid fun w hA => (rleast_n x A c n E w hn hA (by omega)).mono fun _ _ => rleast_ie
  have G1 := Lib.hid fun w hA => gap_n x A c n E lo hi w hn hA (by omega) hlo hhi gp gs hgp hgs
  have G2 := Lib.hid fun w hA => rgap_n x A c n E lo hi w hn hA (by omega) gp gs hgp hgs
  have C1 := Lib.hid fun w hA => check_n x A c n E w hn hA (by omega) er her
  have M1 := Lib.hid fun w hV hA => meets_n C A k f n c vals E w hk hn hV hA hWE (by omega) (by omega) mt hmt
  have M2 := Lib.hid fun w hV hA => rmeets_n C A k f n c vals E w hk hn hV hA hWV (by omega) (by omega) mt hmt
  rw [her] at L1 L2
  clear hn hk hWE hWV her hmt hgp hgs hlo hhi
  generalize leastRes x E = lr at *
  go_enter Try.func4, Try.ntmps4
  go_wp2_with fail
  refine (awake_any _).mono ?_
  rintro e w1 ⟨rfl, hb1⟩
  have hb := below_step hb0 hb1
  have HX := hx.below hb1
  clear hb0 hb1 hx
  have c0 : w1.cell? ⟨w.heap.size, 0, none⟩ = some (.int .i64 x) := HX.cell (j := 0) rfl
  have c1 : w1.cell? ⟨w.heap.size, 1, none⟩ = some (.slice A n c) := HX.cell (j := 1) rfl
  have c2 : w1.cell? ⟨w.heap.size, 2, none⟩ = some (.slice C k f) := HX.cell (j := 2) rfl
  have c3 : w1.cell? ⟨w.heap.size, 3, none⟩ = some (.int .i64 lo) := HX.cell (j := 3) rfl
  have c4 : w1.cell? ⟨w.heap.size, 4, none⟩ = some (.int .i64 hi) := HX.cell (j := 4) rfl
  replace hA := hA.below hb
  replace hV := hV.below hb
  go_wp2_with fail
  refine (L1.out _ hA).mono ?_
  rintro e w2 ⟨A1, n1, k1, rfl, hn1, hl1, g⟩
  clear c0 c1 c2 c3 c4
  replace HX := HX.below g
  replace hA := hA.below g
  replace hV := hV.below g
  replace hb := below_step hb g
  clear g
  have c0 : w2.cell? ⟨w.heap.size, 0, none⟩ = some (.int .i64 x) := HX.cell (j := 0) rfl
  have c1 : w2.cell? ⟨w.heap.size, 1, none⟩ = some (.slice A n c) := HX.cell (j := 1) rfl
  have c2 : w2.cell? ⟨w.heap.size, 2, none⟩ = some (.slice C k f) := HX.cell (j := 2) rfl
  have c3 : w2.cell? ⟨w.heap.size, 3, none⟩ = some (.int .i64 lo) := HX.cell (j := 3) rfl
  have c4 : w2.cell? ⟨w.heap.size, 4, none⟩ = some (.int .i64 hi) := HX.cell (j := 4) rfl
  go_wp2_with fail
  refine (L2.out _ hA).mono ?_
  rintro e w3 ⟨A2, n2, k2, rfl, hn2, hl2, g⟩
  clear c0 c1 c2 c3 c4
  replace HX := HX.below g
  replace hA := hA.below g
  replace hV := hV.below g
  replace hl1 := hl1.below g
  replace hb := below_step hb g
  clear g
  have c0 : w3.cell? ⟨w.heap.size, 0, none⟩ = some (.int .i64 x) := HX.cell (j := 0) rfl
  have c1 : w3.cell? ⟨w.heap.size, 1, none⟩ = some (.slice A n c) := HX.cell (j := 1) rfl
  have c2 : w3.cell? ⟨w.heap.size, 2, none⟩ = some (.slice C k f) := HX.cell (j := 2) rfl
  have c3 : w3.cell? ⟨w.heap.size, 3, none⟩ = some (.int .i64 lo) := HX.cell (j := 3) rfl
  have c4 : w3.cell? ⟨w.heap.size, 4, none⟩ = some (.int .i64 hi) := HX.cell (j := 4) rfl
  go_wp2_with fail
  refine (G1.out _ hA).mono ?_
  rintro e w4 ⟨rfl, g⟩
  clear c0 c1 c2 c3 c4
  replace HX := HX.below g
  replace hA := hA.below g
  replace hV := hV.below g
  replace hl1 := hl1.below g
  replace hl2 := hl2.below g
  replace hb := below_step hb g
  clear g
  have c0 : w4.cell? ⟨w.heap.size, 0, none⟩ = some (.int .i64 x) := HX.cell (j := 0) rfl
  have c1 : w4.cell? ⟨w.heap.size, 1, none⟩ = some (.slice A n c) := HX.cell (j := 1) rfl
  have c2 : w4.cell? ⟨w.heap.size, 2, none⟩ = some (.slice C k f) := HX.cell (j := 2) rfl
  have c3 : w4.cell? ⟨w.heap.size, 3, none⟩ = some (.int .i64 lo) := HX.cell (j := 3) rfl
  have c4 : w4.cell? ⟨w.heap.size, 4, none⟩ = some (.int .i64 hi) := HX.cell (j := 4) rfl
  go_wp2_with fail
  refine (G2.out _ hA).mono ?_
  rintro e w5 ⟨rfl, g⟩
  clear c0 c1 c2 c3 c4
  replace HX := HX.below g
  replace hA := hA.below g
  replace hV := hV.below g
  replace hl1 := hl1.below g
  replace hl2 := hl2.below g
  replace hb := below_step hb g
  clear g
  have c0 : w5.cell? ⟨w.heap.size, 0, none⟩ = some (.int .i64 x) := HX.cell (j := 0) rfl
  have c1 : w5.cell? ⟨w.heap.size, 1, none⟩ = some (.slice A n c) := HX.cell (j := 1) rfl
  have c2 : w5.cell? ⟨w.heap.size, 2, none⟩ = some (.slice C k f) := HX.cell (j := 2) rfl
  have c3 : w5.cell? ⟨w.heap.size, 3, none⟩ = some (.int .i64 lo) := HX.cell (j := 3) rfl
  have c4 : w5.cell? ⟨w.heap.size, 4, none⟩ = some (.int .i64 hi) := HX.cell (j := 4) rfl
  go_wp2_with fail
  have hgl : w.heap.size < w5.drew.heap.size := World.block_lt_of_cell? _ _ c0
  replace hA := hA.drew
  replace hV := hV.drew
  replace hl1 := hl1.drew
  replace hl2 := hl2.drew
  clear HX
  go_region_held3 (fun w' => w'.cell? ⟨w.heap.size, 0, none⟩ = some (.int .i64 x) ∧ w'.cell? ⟨w.heap.size, 1, none⟩ = some (.slice A n c) ∧ w'.cell? ⟨w.heap.size, 2, none⟩ = some (.slice C k f))
    (first
      | go_keep
      | (exact ⟨((g1.cell hgl).trans c0), ((g1.cell hgl).trans c1), ((g1.cell hgl).trans c2)⟩)
      | (exact ⟨((g2.cell (Nat.lt_of_lt_of_le hgl g1.size)).trans ((g1.cell hgl).trans c0)), ((g2.cell (Nat.lt_of_lt_of_le hgl g1.size)).trans ((g1.cell hgl).trans c1)), ((g2.cell (Nat.lt_of_lt_of_le hgl g1.size)).trans ((g1.cell hgl).trans c2))⟩)
      | (exact ⟨((g3.cell (Nat.lt_of_lt_of_le (Nat.lt_of_lt_of_le hgl g1.size) g2.size)).trans ((g2.cell (Nat.lt_of_lt_of_le hgl g1.size)).trans ((g1.cell hgl).trans c0))), ((g3.cell (Nat.lt_of_lt_of_le (Nat.lt_of_lt_of_le hgl g1.size) g2.size)).trans ((g2.cell (Nat.lt_of_lt_of_le hgl g1.size)).trans ((g1.cell hgl).trans c1))), ((g3.cell (Nat.lt_of_lt_of_le (Nat.lt_of_lt_of_le hgl g1.size) g2.size)).trans ((g2.cell (Nat.lt_of_lt_of_le hgl g1.size)).trans ((g1.cell hgl).trans c2)))⟩)
      | (exact ⟨((g4.cell (Nat.lt_of_lt_of_le (Nat.lt_of_lt_of_le (Nat.lt_of_lt_of_le hgl g1.size) g2.size) g3.size)).trans ((g3.cell (Nat.lt_of_lt_of_le (Nat.lt_of_lt_of_le hgl g1.size) g2.size)).trans ((g2.cell (Nat.lt_of_lt_of_le hgl g1.size)).trans ((g1.cell hgl).trans c0)))), ((g4.cell (Nat.lt_of_lt_of_le (Nat.lt_of_lt_of_le (Nat.lt_of_lt_of_le hgl g1.size) g2.size) g3.size)).trans ((g3.cell (Nat.lt_of_lt_of_le (Nat.lt_of_lt_of_le hgl g1.size) g2.size)).trans ((g2.cell (Nat.lt_of_lt_of_le hgl g1.size)).trans ((g1.cell hgl).trans c1)))), ((g4.cell (Nat.lt_of_lt_of_le (Nat.lt_of_lt_of_le (Nat.lt_of_lt_of_le hgl g1.size) g2.size) g3.size)).trans ((g3.cell (Nat.lt_of_lt_of_le (Nat.lt_of_lt_of_le hgl g1.size) g2.size)).trans ((g2.cell (Nat.lt_of_lt_of_le hgl g1.size)).trans ((g1.cell hgl).trans c2))))⟩))
    (first
      | (go_at_call 26; (with_reducible refine (C1.out w5.drew hA).mono ?_); rintro e v1 ⟨rfl, g1⟩)
      | (go_at_call 27; (with_reducible refine (sameI_yes A1 A2 n1 n2 k1 k2 lr _ hn1 hn2 (hl1.below g1) (hl2.below g1) (by omega)).mono ?_); rintro e v2 ⟨rfl, g2⟩)
      | (go_at_call 28; (with_reducible refine (M1.out _ ((hV.below g1).below g2) ((hA.below g1).below g2)).mono ?_); rintro e v3 ⟨rfl, g3⟩)
      | (go_at_call 29; (with_reducible refine (M2.out _ (((hV.below g1).below g2).below g3) (((hA.below g1).below g2).below g3)).mono ?_); rintro e v4 ⟨rfl, g4⟩))
  go_wp2_with fail
  go_ret
  exact ⟨rfl, below_step (below_step (below_step (below_step (below_drewN hb 1) g1) g2) g3) g4⟩
theorem lorders_long (A C : Option Addr) (n c k f : Nat) (x lo hi : Int) (w : World) (h : 100 < n ∨ 50 < k) :
    Calls Try.prog 4 #[ordAgg x A C n c k f lo hi] w fun e w' => e = .returned (.bool true) ∧ Below w.heap.size w w' := by
  have hb0 := (Below.refl w.heap.size w).alloc (Nat.le_refl _) (ordBox x A C n c k f lo hi)
  have hx := holds_at w #[.int .i64 x, .slice A n c, .slice C k f, .int .i64 lo, .int .i64 hi] 39 _ rfl
  by_cases h1 : 100 < n
  · have t1 : (100 : Int) < (n : Int) := by omega
    clear h
    go_enter Try.func4, Try.ntmps4
    go_wp2_with fail
    refine (awake_any _).mono ?_
    rintro e w1 ⟨rfl, hb1⟩
    have hb := below_step hb0 hb1
    have HX := hx.below hb1
    clear hb0 hb1 hx
    have c0 : w1.cell? ⟨w.heap.size, 0, none⟩ = some (.int .i64 x) := HX.cell (j := 0) rfl
    have c1 : w1.cell? ⟨w.heap.size, 1, none⟩ = some (.slice A n c) := HX.cell (j := 1) rfl
    have c2 : w1.cell? ⟨w.heap.size, 2, none⟩ = some (.slice C k f) := HX.cell (j := 2) rfl
    have c3 : w1.cell? ⟨w.heap.size, 3, none⟩ = some (.int .i64 lo) := HX.cell (j := 3) rfl
    have c4 : w1.cell? ⟨w.heap.size, 4, none⟩ = some (.int .i64 hi) := HX.cell (j := 4) rfl
    go_wp2_with fail
    go_ret
    exact ⟨rfl, hb⟩
  · have t1 : ¬ (100 : Int) < (n : Int) := by omega
    have t2 : (50 : Int) < (k : Int) := by omega
    clear h
    go_enter Try.func4, Try.ntmps4
    go_wp2_with fail
    refine (awake_any _).mono ?_
    rintro e w1 ⟨rfl, hb1⟩
    have hb := below_step hb0 hb1
    have HX := hx.below hb1
    clear hb0 hb1 hx
    have c0 : w1.cell? ⟨w.heap.size, 0, none⟩ = some (.int .i64 x) := HX.cell (j := 0) rfl
    have c1 : w1.cell? ⟨w.heap.size, 1, none⟩ = some (.slice A n c) := HX.cell (j := 1) rfl
    have c2 : w1.cell? ⟨w.heap.size, 2, none⟩ = some (.slice C k f) := HX.cell (j := 2) rfl
    have c3 : w1.cell? ⟨w.heap.size, 3, none⟩ = some (.int .i64 lo) := HX.cell (j := 3) rfl
    have c4 : w1.cell? ⟨w.heap.size, 4, none⟩ = some (.int .i64 hi) := HX.cell (j := 4) rfl
    go_wp2_with fail
    go_ret
    exact ⟨rfl, hb⟩
theorem lorders_any (A C : Option Addr) (n c k f : Nat) (x lo hi : Int) (E : List Ord3) (vals : List Int) (w : World) (hn : E.length = n) (hA : Holds w A (ordsV E)) (hWE : WideO E) (hk : vals.length = k) (hV : Holds w C (intsV vals)) (hWV : WideI vals) (hlo : I64 lo) (hhi : I64 hi) :
    Calls Try.prog 4 #[ordAgg x A C n c k f lo hi] w fun e w' => e = .returned (.bool true) ∧ Below w.heap.size w w' := by
  by_cases h : 100 < n ∨ 50 < k
  · exact lorders_long A C n c k f x lo hi w h
  · exact lorders_some A C n c k f x lo hi E vals w hn hA hWE hk hV hWV hlo hhi (by omega) (by omega)
end Go.Proofs.Ytdpannjnhhjicaa
