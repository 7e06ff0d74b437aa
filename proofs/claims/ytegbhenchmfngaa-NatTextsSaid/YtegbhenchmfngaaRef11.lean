/- The document's Parse. -/
import Derived.Test.YtegbhenchmfngaaRef10
import Derived.Test.YtegbhenchmfngaaParse
namespace Go.Proofs.Ytegbhenchmfngaa
open Go.RowKit

set_option maxHeartbeats 1000000 in
theorem plus_gen (A B : Option Addr) (n c m d : Nat) (f g : Nat → Nat) (w : World) (hM : IsL w A n f) (hN : IsL w B m g) (zf : ∀ k, n ≤ k → f k = 0) (zg : ∀ k, m ≤ k → g k = 0) (bf : ∀ k, f k ≤ 100000) (bg : ∀ k, g k ≤ 100000) (hn : n ≤ 100000) (hm : m ≤ 100000) (T : Nat) (hT : T = N8.ofDigs (fun j => f j + g j) (max n m)) :
    Calls Try.prog 46 #[.slice A n c, .slice B m d] w (DigPost T w) := by
  obtain ⟨i0, hi, hz0, hz1, hz2⟩ := info_parts info3
  have HT := Lib.hid hT
  have HZF := Lib.hid zf
  have HZG := Lib.hid zg
  have HBF := Lib.hid bf
  have HBG := Lib.hid bg
  clear hT zf zg bf bg
  go_enter Try.func46, Try.ntmps46
  go_wp2_with fail
  go_loopw [5, 6] (fun v i wr => ∃ k : Nat, k ≤ max n m ∧ i = .int .i64 k ∧ wr.ownsRow w.heap.size 3 1 v k (ints (fun j => f j + g j) k) ∧ Below w.heap.size w wr) (fun _ i _ => max n m - (intOf i).toNat)
  case atStart => exact ⟨0, Nat.zero_le _, rfl, World.ownsRow_nil _ _ _ _, Below.refl _ _⟩
  case round =>
    obtain ⟨k, hk, rfl, hown, hb⟩ := hrel
    have hBw := hb.size
    have hMw := hM.below hb
    have hNw := hN.below hb
    have hdM := HBF.out k
    have hdN := HBG.out k
    by_cases hlt : k < max n m
    · obtain ⟨s, hs⟩ : ∃ s, s = f k + g k := ⟨_, rfl⟩
      have hfin : ∀ (vv : Value), wr.ownsRow w.heap.size 3 1 vv k (ints (fun j => f j + g j) k) → ints (fun j => f j + g j) (k + 1) = ints (fun j => f j + g j) k ++ [.int .i64 (s : Int)] := fun _ _ => by rw [ints_succ, hs]
      have HF := Lib.hid (hfin _ hown)
      have HS := Lib.hid hs
      have cM : k < n → ∃ b o, A = some ⟨b, o, none⟩ ∧ wr.cell? ⟨b, o + k, none⟩ = some (.int .i64 (f k)) := fun h => by
        obtain ⟨b, o, e, hc⟩ := hMw (by omega)
        exact ⟨b, o, e, hc k h⟩
      have cN : k < m → ∃ b o, B = some ⟨b, o, none⟩ ∧ wr.cell? ⟨b, o + k, none⟩ = some (.int .i64 (g k)) := fun h => by
        obtain ⟨b, o, e, hc⟩ := hNw (by omega)
        exact ⟨b, o, e, hc k h⟩
      have zM : n ≤ k → f k = 0 := HZF.out k
      have zN : m ≤ k → g k = 0 := HZG.out k
      clear hfin hs
      generalize f k = x at *
      generalize g k = y at *
      by_cases h1 : k < n
      all_goals by_cases h2 : k < m
      · obtain ⟨b, o, rfl, hc1⟩ := cM h1
        obtain ⟨b', o', rfl, hc2⟩ := cN h2
        have e1 : (x : Int) + (y : Int) = (s : Int) := by have := HS.out; omega
        clear cM cN zM zN
        go_wp2_with (at_builtin; go_must (refine wpList_append_own _ rfl (.tmp 40) (.tmp 42) _ rfl w.heap.size 3 i0 _ 1 8 Try.underlying52 hi hz0 hz1 hz2 rfl (by omega) _ k _ rfl (hown.alloc _) ⟨wr.heap.size, 0, none⟩ 1 1 [.int .i64 (s : Int)] rfl rfl (news_one _ _ _) (by intro u hu; rw [List.mem_singleton.1 hu]; rfl) (by unfold maxLen; omega) (by omega) (by simp; omega) ?_); intro v' w4 hown4 hg4 hnil4)
        have hb4 := (hb.alloc hb.size (.cells #[.int .i64 (s : Int)] 3)).grown hg4 (by simp; omega) (fun x hx => (hown.lt x hx).1)
        clear e1 hg4 hnil4
        go_roundw
        case rel => exact ⟨k + 1, by omega, by go_num, by rw [HF.out]; exact hown4, hb4⟩
        case measure => simp [intOf] <;> omega
      · obtain ⟨b, o, rfl, hc1⟩ := cM h1
        have hy0 := zN (by omega)
        have e1 : x = s := by have := HS.out; omega
        subst e1
        clear cM cN zM zN
        have hkm : ¬ (k : Int) < (m : Int) := by omega
        go_wp2_with (at_builtin; go_must (refine wpList_append_own _ rfl (.tmp 40) (.tmp 42) _ rfl w.heap.size 3 i0 _ 1 8 Try.underlying52 hi hz0 hz1 hz2 rfl (by omega) _ k _ rfl (hown.alloc _) ⟨wr.heap.size, 0, none⟩ 1 1 [.int .i64 (x : Int)] rfl rfl (news_one _ _ _) (by intro u hu; rw [List.mem_singleton.1 hu]; rfl) (by unfold maxLen; omega) (by omega) (by simp; omega) ?_); intro v' w4 hown4 hg4 hnil4)
        have hb4 := (hb.alloc hb.size (.cells #[.int .i64 (x : Int)] 3)).grown hg4 (by simp; omega) (fun x hx => (hown.lt x hx).1)
        clear hg4 hnil4
        go_roundw
        case rel => exact ⟨k + 1, by omega, by go_num, by rw [HF.out]; exact hown4, hb4⟩
        case measure => simp [intOf] <;> omega
      · obtain ⟨b, o, rfl, hc2⟩ := cN h2
        have hx0 := zM (by omega)
        have e1 : y = s := by have := HS.out; omega
        subst e1
        clear cM cN zM zN
        have hkm : ¬ (k : Int) < (n : Int) := by omega
        go_wp2_with (at_builtin; go_must (refine wpList_append_own _ rfl (.tmp 40) (.tmp 42) _ rfl w.heap.size 3 i0 _ 1 8 Try.underlying52 hi hz0 hz1 hz2 rfl (by omega) _ k _ rfl (hown.alloc _) ⟨wr.heap.size, 0, none⟩ 1 1 [.int .i64 (y : Int)] rfl rfl (news_one _ _ _) (by intro u hu; rw [List.mem_singleton.1 hu]; rfl) (by unfold maxLen; omega) (by omega) (by simp; omega) ?_); intro v' w4 hown4 hg4 hnil4)
        have hb4 := (hb.alloc hb.size (.cells #[.int .i64 (y : Int)] 3)).grown hg4 (by simp; omega) (fun x hx => (hown.lt x hx).1)
        clear hg4 hnil4
        go_roundw
        case rel => exact ⟨k + 1, by omega, by go_num, by rw [HF.out]; exact hown4, hb4⟩
        case measure => simp [intOf] <;> omega
      · omega
    · have hk' : k = max n m := by omega
      have h1 : ¬ (k : Int) < (n : Int) := by omega
      have h2 : ¬ (k : Int) < (m : Int) := by omega
      obtain ⟨A', c', rfl, hc1, hc2⟩ := own_formI hown
      have hL := own_isL hown
      have hsum : T = N8.ofDigs (fun j => f j + g j) k := by rw [HT.out, hk']
      have HC := Lib.hid (carried_any A' k c' _ wr hL (by omega) (fun j _ => by have := HBF.out j; have := HBG.out j; omega) T hsum)
      clear hown hsum hk' hL
      go_wp2_with (go_at_call 54; refine (HC.out).mono ?_; rintro e w5 ⟨A5, c5, rfl, hD5, h51, h52, hb5⟩)
      go_ret
      exact ⟨A5, c5, rfl, hD5, h51, h52, below_step hb hb5⟩
end Go.Proofs.Ytegbhenchmfngaa
