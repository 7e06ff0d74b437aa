/- raise, within. -/
import Derived.Test.YtdpannjnhhjicaaLMap
namespace Go.Proofs.Ytdpannjnhhjicaa
open Go.RowKit

def withinB (n least most : Int) : Bool := decide (least ≤ n) && decide (n ≤ most)
theorem within_any (n least most : Int) (w : World) : Calls Try.prog 36 #[.int .i64 n, .int .i64 least, .int .i64 most] w fun e w' => e = .returned (.bool (withinB n least most)) ∧ w = w' := by
  by_cases h1 : least ≤ n
  · have e : withinB n least most = decide (n ≤ most) := by simp [withinB, h1]
    rw [e]
    go_enter Try.func36, Try.ntmps36
    go_wp2_with fail
    go_ret
    exact ⟨rfl, rfl⟩
  · have e : withinB n least most = false := by simp [withinB, h1]
    rw [e]
    have h2 : decide (least ≤ n) = false := by simpa using h1
    go_enter Try.func36, Try.ntmps36
    go_wp2_with fail
    go_ret
    exact ⟨rfl, rfl⟩

/-- What raise does. -/
def Raised (g n : Nat) (d : Dist) (i j y : Int) (w : World) (e : Ending) (w' : World) : Prop := e = .returned (.tuple #[]) ∧ OwnsD w' g (n + 1) (raiseD d i j y) ∧ w.grownBy w' (some g)
set_option maxHeartbeats 1000000 in
theorem raise_any (g n : Nat) (d : Dist) (i j y : Int) (w : World) (hown : OwnsD w g n d) (hn : n < 1000000000) (hi : I64 i) (hj : I64 j) (hy : I64 y) :
    Calls Try.prog 50 #[.map (some g), pairV i j, .int .i64 y] w (Raised g n d i j y w) := by
  cases hd : d i j with
  | none =>
    have HR := Lib.hid (raise_put (y := y) (Or.inl hd))
    have HD := Lib.hid hd
    clear hd
    go_enter Try.func50, Try.ntmps50
    go_wp2_with (first | (at_lookup; refine wpList_look_none rfl _ _ _ rfl Try.underlying64 rfl (hown.alloc _) i j rfl hi hj HD.out ?_) | (at_mapUpdate; refine wpList_storeD rfl _ _ _ _ rfl Try.underlying64 rfl (hown.alloc _) hn i j y rfl rfl hi hj hy ?_; intro w1 hown1 hg1))
    go_end0
    exact ⟨rfl, by rw [HR.out]; exact hown1, (World.grownBy_alloc w _ _).trans hg1⟩
  | some k =>
    by_cases hk : k < y
    · have HR := Lib.hid (raise_put (y := y) (Or.inr ⟨k, hd, hk⟩))
      have HD := Lib.hid hd
      clear hd
      go_enter Try.func50, Try.ntmps50
      go_wp2_with (first | (at_lookup; refine wpList_look_some rfl _ _ _ rfl Try.underlying64 rfl (hown.alloc _) i j k rfl hi hj HD.out ?_) | (at_mapUpdate; refine wpList_storeD rfl _ _ _ _ rfl Try.underlying64 rfl (hown.alloc _) hn i j y rfl rfl hi hj hy ?_; intro w1 hown1 hg1))
      go_end0
      exact ⟨rfl, by rw [HR.out]; exact hown1, (World.grownBy_alloc w _ _).trans hg1⟩
    · have HR := Lib.hid (raise_stay (y := y) hd hk)
      have HD := Lib.hid hd
      clear hd
      go_enter Try.func50, Try.ntmps50
      go_wp2_with (first | (at_lookup; refine wpList_look_some rfl _ _ _ rfl Try.underlying64 rfl (hown.alloc _) i j k rfl hi hj HD.out ?_))
      go_end0
      exact ⟨rfl, by rw [HR.out]; exact (hown.alloc _).mono (by omega), World.grownBy_alloc w _ _⟩

theorem i64_small {x : Int} (h : -1000000000000 ≤ x) (h2 : x ≤ 1000000000000) : I64 x := ⟨by omega, by omega⟩
/-- All that told may answer. -/
def ToldPost (n : Nat) (E : List Ord3) (w : World) (e : Ending) (w' : World) : Prop := ∃ g, e = .returned (.map (some g)) ∧ w.heap.size ≤ g ∧ OwnsD w' g 1000 (toldD n E) ∧ Below w.heap.size w w'
theorem toldO_snoc (d : Dist) (E : List Ord3) (o : Ord3) : toldO d (E ++ [o]) = raiseD (toldO d E) o.1 o.2.2 o.2.1 := by unfold toldO; rw [List.foldl_append]; rfl
set_option maxHeartbeats 1000000 in
theorem told_any (n : Nat) (A : Option Addr) (c : Nat) (E : List Ord3) (w : World) (hn : n ≤ 16) (hl : E.length ≤ 64) (hA : Holds w A (ordsV E)) (hE : RightE n E) :
    Calls Try.prog 46 #[.int .i64 n, .slice A E.length c] w (ToldPost n E w) := by
  have hmm := @run_makeMap Try.prog
  have HE := Lib.hid hE
  clear hE
  go_enter Try.func46, Try.ntmps46
  go_wp2_with fail
  go_loopw [12] (fun i wr => ∃ k : Nat, k ≤ n + 1 ∧ i = .int .i64 k ∧ OwnsD wr w.heap.size (2 * k) (toldV (fun _ _ => none) k) ∧ Below w.heap.size w wr) (fun i _ => n + 1 - (intOf i).toNat)
  case atStart => exact ⟨0, by omega, rfl, OwnsD.made w, (Below.refl _ _).alloc (Nat.le_refl _) _⟩
  case round =>
    obtain ⟨k, hk, rfl, hown, hb⟩ := hrel
    by_cases hlt : k < n + 1
    · go_wp2_with fail
      (with_reducible refine (raise_any _ _ _ 0 k 0 _ hown (by omega) (i64_small (by omega) (by omega)) (i64_small (by omega) (by omega)) (i64_small (by omega) (by omega))).mono ?_)
      rintro e w1 ⟨rfl, hown1, hg1⟩
      have hb1 := hb.grown hg1 hb.size (fun k hk => by cases hk; exact Nat.le_refl _)
      clear hown hb hg1
      go_wp2_with fail
      (with_reducible refine (raise_any _ _ _ k k 0 _ hown1 (by omega) (i64_small (by omega) (by omega)) (i64_small (by omega) (by omega)) (i64_small (by omega) (by omega))).mono ?_)
      rintro e w2 ⟨rfl, hown2, hg2⟩
      have hb2 := hb1.grown hg2 hb1.size (fun k hk => by cases hk; exact Nat.le_refl _)
      clear hown1 hb1 hg2
      go_wp2_with fail
      go_roundw
      case rel => exact ⟨k + 1, by omega, by go_num, hown2.mono (by omega), hb2⟩
      case measure => simp [intOf]; omega
    · go_wp2_with fail
      have hk' : k = n + 1 := by omega
      rw [hk'] at hown
      clear hk' hlt hk
      obtain ⟨wo, rfl⟩ : ∃ wo : World, wo = wr := ⟨_, rfl⟩
      go_loopw [27] (fun i wr => ∃ k : Nat, k ≤ E.length ∧ i = .int .i64 k ∧ OwnsD wr w.heap.size (100 + k) (toldO (toldV (fun _ _ => none) (n + 1)) (E.take k)) ∧ Below w.heap.size w wr) (fun i _ => E.length - (intOf i).toNat)
      case atStart => exact ⟨0, by omega, rfl, by simpa [toldO] using hown.mono (by omega), hb⟩
      case round =>
        clear hown hb
        obtain ⟨k, hk, rfl, hown, hb⟩ := hrel
        by_cases hlt : k < E.length
        · have hr := HE.out _ (List.getElem_mem hlt)
          obtain ⟨b, o, rfl, hb0, hc⟩ := (hA.below hb).at_ (by rw [ordsV_len]; omega)
          have s0 := hc (k * 3) _ (ordsV_get0 hlt)
          have s1 := hc (k * 3 + 1) _ (ordsV_get1 hlt)
          have s2 := hc (k * 3 + 2) _ (ordsV_get2 hlt)
          rw [← Nat.add_assoc] at s1 s2
          have HT := Lib.hid (List.take_succ_eq_append_getElem hlt)
          generalize E[k] = x at *
          obtain ⟨lo, ad, hi⟩ := x
          unfold RightO at hr
          simp only at s0 s1 s2 hr
          clear hc
          go_wp2_with fail
          (with_reducible refine (raise_any _ _ _ lo hi ad _ (hown.alloc _) (by omega) (i64_small (by omega) (by omega)) (i64_small (by omega) (by omega)) (i64_small (by omega) (by omega))).mono ?_)
          rintro e w1 ⟨rfl, hown1, hg1⟩
          have hb1 := (hb.alloc hb.size (.cells #[.int .i64 lo, .int .i64 ad, .int .i64 hi] 53)).grown hg1 (by have := hb.size; simp; omega) (fun k hk => by cases hk; exact Nat.le_refl _)
          clear hown hb hg1 s0 s1 s2 hb0
          go_wp2_with fail
          go_roundw
          case rel => exact ⟨k + 1, by omega, by go_num, by rw [HT.out, toldO_snoc]; exact hown1.mono (by omega), hb1⟩
          case measure => simp [intOf]; omega
        · have hk' : k = E.length := by omega
          subst hk'
          rw [List.take_length] at hown
          go_wp2_with fail
          go_ret
          exact ⟨_, rfl, Nat.le_refl _, hown.mono (by omega), hb⟩
end Go.Proofs.Ytdpannjnhhjicaa
