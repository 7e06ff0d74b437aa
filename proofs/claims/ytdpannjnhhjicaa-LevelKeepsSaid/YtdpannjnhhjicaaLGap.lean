/- Check, Gap, Least of the program. -/
import Derived.Test.YtdpannjnhhjicaaLMeets
namespace Go.Proofs.Ytdpannjnhhjicaa
open Go.RowKit

def distS (v : Int) (E : List Ord3) : Option Dist := if faultS v E = 0 then reckD v.toNat (toldD v.toNat E) (v.toNat + 1) else none
def errS (v : Int) (E : List Ord3) : Int := if faultS v E = 0 then (if (distS v E).isSome = true then 0 else 7) else faultS v E
def gapS (v : Int) (E : List Ord3) (lo hi : Int) : Option Int := (distS v E).bind fun d => d lo hi
inductive ReckS (v : Int) (E : List Ord3) (w : World) : Ending → World → Prop
  | err (w' : World) : errS v E ≠ 0 → distS v E = none → Below w.heap.size w w' → ReckS v E w (.returned (.tuple #[.map none, .int .i64 (errS v E)])) w'
  | ok (w' : World) (n : Nat) (d : Dist) (g m : Nat) : v = n → n ≤ 16 → errS v E = 0 → distS v E = some d → OwnsD w' g m d → w.heap.size ≤ g → m ≤ 1000000 → Below w.heap.size w w' → ReckS v E w (.returned (.tuple #[.map (some g), .int .i64 0])) w'
theorem reckS_any (v : Int) (A : Option Addr) (c : Nat) (E : List Ord3) (w : World) (hA : Holds w A (ordsV E)) (hm : E.length ≤ 9223372036854775807) :
    Calls Try.prog 38 #[.int .i64 v, .slice A E.length c] w (ReckS v E w) := by
  refine (reckon_any v A c E w hA hm).mono ?_
  rintro e w' (⟨_, h1, h2⟩ | ⟨_, n, rfl, h1, h2, h3⟩ | ⟨_, n, d, g, m, rfl, h1, h2, h3, h4, h5, h6⟩)
  · have e : faultS v E = errS v E := by simp [errS, h1]
    rw [e]
    exact .err _ (by rwa [← e]) (by simp [distS, h1]) h2
  · have hd : distS n E = none := by simp [distS, h1, h2]
    have e : (7 : Int) = errS n E := by simp [errS, h1, hd]
    rw [e]
    exact .err _ (by rw [← e]; omega) hd h3
  · have hd : distS n E = some d := by simp [distS, h1, h2]
    obtain ⟨k, hk, hk2, _⟩ := faultS_ok h1
    exact .ok _ n d g m rfl (by omega) (by simp [errS, h1, hd]) hd h3 h4 h5 h6

theorem check_any (v : Int) (A : Option Addr) (c : Nat) (E : List Ord3) (w : World) (hA : Holds w A (ordsV E)) (hm : E.length ≤ 9223372036854775807) :
    Calls Try.prog 26 #[.int .i64 v, .slice A E.length c] w fun e w' => e = .returned (.int .i64 (errS v E)) ∧ Below w.heap.size w w' := by
  have HR := Lib.hid fun w hA => reckS_any v A c E w hA hm
  go_enter Try.func26, Try.ntmps26
  go_wp2_with fail
  refine (HR.out _ hA).mono ?_
  rintro e w' (⟨_, h1, h2, h3⟩ | ⟨_, n, d, g, m, rfl, h1, h2, h3, h4, h5, h6, h7⟩)
  · clear h2
    go_wp2_with fail
    go_ret
    exact ⟨rfl, h3⟩
  · have H2 := Lib.hid h2
    clear h2 h3
    go_wp2_with fail
    go_ret
    exact ⟨ret_i64 H2.out.symm, h7⟩
theorem look_nil_pair {i j : Int} (hi : I64 i) (hj : I64 j) (w : World) : (Instr.lookup 64 (.map none) (pairV i j) true).run Try.prog w = .ok (.tuple #[.int .i64 0, .bool false]) w :=
  Maps.look_nil true lawPair Try.underlying64 (zeroI w) (key_pair hi hj)
/-- What Gap answers. -/
def GapPost (v : Int) (E : List Ord3) (lo hi : Int) (w : World) (e : Ending) (w' : World) : Prop := e = .returned (.tuple #[.int .i64 ((gapS v E lo hi).getD 0), .bool (gapS v E lo hi).isSome]) ∧ Below w.heap.size w w'
theorem gap_any (v : Int) (A : Option Addr) (c : Nat) (E : List Ord3) (lo hi : Int) (w : World) (hA : Holds w A (ordsV E)) (hm : E.length ≤ 9223372036854775807) (h1 : I64 lo) (h2 : I64 hi) :
    Calls Try.prog 24 #[.int .i64 v, .slice A E.length c, .int .i64 lo, .int .i64 hi] w (GapPost v E lo hi w) := by
  have HR := Lib.hid fun w hA => reckS_any v A c E w hA hm
  have hnil := look_nil_pair h1 h2
  go_enter Try.func24, Try.ntmps24
  go_wp2_with fail
  refine (HR.out _ hA).mono ?_
  rintro e w' (⟨_, h3, h4, h5⟩ | ⟨_, n, d, g, m, rfl, _, h3, h4, h5, h6, h7, h8⟩)
  · have HG : Hid (gapS v E lo hi = none) := show _ = _ by simp [gapS, h4]
    clear h4
    go_wp2_with fail
    go_ret2
    exact ⟨by rw [HG.out]; rfl, h5⟩
  · have H3 := Lib.hid h3
    cases hd : d lo hi with
    | none =>
      have HG : Hid (gapS n E lo hi = none) := show _ = _ by simp [gapS, h4, hd]
      have HD := Lib.hid hd
      clear h4 hd h3
      go_wp2_with (first | (at_lookup; refine wpList_look_none rfl _ _ _ rfl Try.underlying64 rfl h5 lo hi rfl h1 h2 HD.out ?_))
      go_ret2
      exact ⟨by rw [HG.out]; rfl, h8⟩
    | some k =>
      have HG : Hid (gapS n E lo hi = some k) := show _ = _ by simp [gapS, h4, hd]
      have HD := Lib.hid hd
      clear h4 hd h3
      go_wp2_with (first | (at_lookup; refine wpList_look_some rfl _ _ _ rfl Try.underlying64 rfl h5 lo hi k rfl h1 h2 HD.out ?_))
      go_ret2
      exact ⟨by rw [HG.out]; rfl, h8⟩

/-- The first values of those that are least. -/
def leastK (n : Nat) (d : Dist) (k : Nat) : List Int := (leastD n d).take k ++ List.replicate (n - k) 0
theorem leastK_len (n : Nat) (d : Dist) (k : Nat) (h : k ≤ n) : (leastK n d k).length = n := by simp [leastK, leastD_length]; omega
theorem leastK_set (n : Nat) (d : Dist) (k : Nat) (h : k < n) : (leastK n d k).set k ((d 0 (k + 1)).getD 0) = leastK n d (k + 1) := by
  unfold leastK
  rw [List.set_append_right _ _ (by rw [List.length_take, leastD_length]; omega), List.length_take, leastD_length, show k - min k n = 0 by omega, show n - k = (n - (k + 1)) + 1 by omega, List.replicate_succ, List.set_cons_zero,
    List.take_succ_eq_append_getElem (by rw [leastD_length]; exact h), leastD_get n d k h]
  simp
theorem leastK_all (n : Nat) (d : Dist) : leastK n d n = leastD n d := by
  unfold leastK
  rw [List.take_of_length_le (by rw [leastD_length]; omega)]
  simp
theorem intsV_set (l : List Int) (k : Nat) (x : Int) : intsV (l.set k x) = (intsV l).set k (.int .i64 x) := by unfold intsV; rw [List.map_set]
theorem made_ints (n : Nat) : intsV (List.replicate n 0) = List.replicate n (Value.int .i64 0) := by unfold intsV; rw [List.map_replicate]
/-- What Least answers. -/
inductive LeastPost (v : Int) (E : List Ord3) (w : World) : Ending → World → Prop
  | err (w' : World) : errS v E ≠ 0 → distS v E = none → Below w.heap.size w w' → LeastPost v E w (.returned (.tuple #[.slice none 0 0, .int .i64 (errS v E)])) w'
  | ok (w' : World) (n : Nat) (d : Dist) (g : Nat) : v = n → errS v E = 0 → distS v E = some d → w.heap.size ≤ g → w'.ownsRow w.heap.size 3 1 (.slice (some ⟨g, 0, none⟩) n n) n (intsV (leastD n d)) → Below w.heap.size w w' → LeastPost v E w (.returned (.tuple #[.slice (some ⟨g, 0, none⟩) n n, .int .i64 0])) w'
set_option maxHeartbeats 1000000 in
theorem least_any (v : Int) (A : Option Addr) (c : Nat) (E : List Ord3) (w : World) (hA : Holds w A (ordsV E)) (hm : E.length ≤ 9223372036854775807) :
    Calls Try.prog 22 #[.int .i64 v, .slice A E.length c] w (LeastPost v E w) := by
  have HR := Lib.hid fun w hA => reckS_any v A c E w hA hm
  obtain ⟨i0, hi, hz0, hz1, hz2⟩ := info_parts infoInt
  go_enter Try.func22, Try.ntmps22
  go_wp2_with fail
  refine (HR.out _ hA).mono ?_
  rintro e w' (⟨_, h1, h2, h3⟩ | ⟨_, n, d, g, m, rfl, hn, h1, h2, h3, h4, h5, h6⟩)
  · have hz : (errS v E != 0) = true := by simpa using h1
    have H1 := Lib.hid h1
    have H2 := Lib.hid h2
    clear h2 h1
    go_wp2_with fail
    go_ret2
    exact .err _ H1.out H2.out h3
  · have H1 := Lib.hid h1
    have H2 := Lib.hid h2
    clear h2 h1
    have hg := h3.lt
    go_wp2_with (at_make; refine wpList_make_full _ rfl _ _ _ rfl w.heap.size 3 i0 (.int .i64 0) 1 Try.underlying24 hi hz0 hz1 .i64 .i64 _ _ n rfl rfl rfl rfl (by rw [hz2]; omega) (by unfold maxLen; omega) h6.size ?_; intro w1 hown1 hg1)
    have h3' := h3.kept hg1 (by simp)
    have hb1 := h6.grown hg1 h6.size (fun k hk => by cases hk)
    have hsz : w.heap.size ≤ w'.heap.size := h6.size
    clear h3 h6
    rw [show (Value.int .i64 0).cells = #[Value.int .i64 0] from rfl, Nat.mul_one, toList_madeCells_one, ← made_ints] at hown1
    go_loopw [22] (fun i wr => ∃ k : Nat, k ≤ n ∧ i = .int .i64 k ∧ wr.ownsRow w.heap.size 3 1 (.slice (some ⟨w'.heap.size, 0, none⟩) n n) n (intsV (leastK n d k)) ∧ OwnsD wr g m d ∧ Below w.heap.size w wr) (fun i _ => n - (intOf i).toNat)
    case atStart => exact ⟨0, by omega, rfl, by simpa [leastK] using hown1, h3', hb1⟩
    case round =>
      clear hown1 hg1 h3' hb1
      obtain ⟨k, hk, rfl, hown, hd, hb⟩ := hrel
      by_cases hlt : k < n
      · have s0 := hown.cellAt k (by omega)
        rw [intsV_get (by rw [leastK_len _ _ _ hk]; exact hlt)] at s0
        have s1 := hown.frozenAt k
        obtain ⟨y, hy⟩ : ∃ y, (d 0 (k + 1)).getD 0 = y := ⟨_, rfl⟩
        have hst := (hown.stored k (.int .i64 y)).1
        rw [← intsV_set, ← hy, leastK_set n d k hlt, hy] at hst
        have HX := Lib.hid hy
        have hd' := hd.setCell (a := ⟨w'.heap.size, k, none⟩) (by show g ≠ w'.heap.size; omega) (.int .i64 y)
        generalize (leastK n d k)[k]'_ = x at *
        clear hy
        have e1 : (0 : Int) ≤ (k : Int) + 1 := by omega
        go_wp2_with (first | (at_lookup; refine wpList_look_plain rfl _ _ _ rfl Try.underlying64 rfl hd 0 ((k : Int) + 1) y rfl (i64_small (by omega) (by omega)) (i64_small (by omega) (by omega)) HX.out ?_))
        go_roundw
        case rel => exact ⟨k + 1, by omega, by go_num, hst, hd', hb.setCell hsz _⟩
        case measure => simp [intOf]; omega
      · have hk' : k = n := by omega
        rw [hk', leastK_all] at hown
        clear hk'
        go_wp2_with fail
        go_ret2
        exact .ok _ n d _ rfl H1.out H2.out hsz hown hb
end Go.Proofs.Ytdpannjnhhjicaa
