/- through: the ways that lead through one variable. -/
import Derived.Test.YtdpannjnhhjicaaLRaise
namespace Go.Proofs.Ytdpannjnhhjicaa
open Go.RowKit

theorem low_mid {mid : Int} {n : Nat} {d : Dist} (h0 : d mid mid = some 0) (k : Nat) : thrLow mid n d k k mid = d k mid := by
  rw [thrLow_eq mid n d h0, if_neg (by omega)]
theorem low_row {mid : Int} {n : Nat} {d : Dist} (h0 : d mid mid = some 0) (k : Nat) (j : Int) : thrLow mid n d k mid j = d mid j := by
  rw [thrLow_eq mid n d h0]
  split
  · rw [h0]; cases h : d mid j with
    | none => rfl
    | some b => exact comb_self rfl
  · rfl
theorem high_mid {mid : Int} {n : Nat} {d : Dist} (h0 : d mid mid = some 0) (k : Nat) (f : Int) (j : Nat) : thrHigh mid k f (thrLow mid n d k) j mid j = d mid j := by
  rw [thrHigh_eq, if_neg (by omega), low_row h0]
/-- What through does. -/
def Through (g m n : Nat) (d : Dist) (mid : Int) (w : World) (e : Ending) (w' : World) : Prop := e = .returned (.tuple #[]) ∧ OwnsD w' g (m + 400) (thr mid n d) ∧ w.grownBy w' (some g)
set_option maxHeartbeats 2000000 in
theorem through_any (g m n : Nat) (d : Dist) (mid : Int) (B : Int) (w : World) (hown : OwnsD w g m d) (hm : m < 100000000) (hn : n ≤ 16) (hmid : 0 ≤ mid ∧ mid ≤ n) (h0 : d mid mid = some 0) (hB : BdD B d) (hB1 : B ≤ 200000000) :
    Calls Try.prog 47 #[.map (some g), .int .i64 mid, .int .i64 n] w (Through g m n d mid w) := by
  have H0 := Lib.hid h0
  have HB := Lib.hid hB
  clear h0 hB
  go_enter Try.func47, Try.ntmps47
  go_wp2_with fail
  go_loopw [14] (fun i wr => ∃ k : Nat, k ≤ n + 1 ∧ i = .int .i64 k ∧ OwnsD wr g (m + 20 * k) (thrLow mid n d k) ∧ w.grownBy wr (some g)) (fun i _ => n + 1 - (intOf i).toNat)
  case atStart => exact ⟨0, by omega, rfl, hown, World.grownBy.refl w _⟩
  case round =>
    clear hown
    obtain ⟨k, hk, rfl, hown, hg⟩ := hrel
    by_cases hlt : k < n + 1
    · cases hv : d k mid with
      | none =>
        have HV := Lib.hid ((low_mid (n := n) H0.out k).trans hv)
        have HN := Lib.hid (show thrLow mid n d (k + 1) = thrLow mid n d k by simp only [thrLow, (low_mid (n := n) H0.out k).trans hv])
        clear hv
        go_wp2_with (first | (at_lookup; refine wpList_look_none rfl _ _ _ rfl Try.underlying64 rfl hown k mid rfl (i64_small (by omega) (by omega)) (i64_small (by omega) (by omega)) HV.out ?_))
        go_roundw
        case rel => exact ⟨k + 1, by omega, by go_num, by rw [HN.out]; exact hown.mono (by omega), hg⟩
        case measure => simp [intOf]; omega
      | some f =>
        have HF := HB.out _ _ _ hv
        have HV := Lib.hid ((low_mid (n := n) H0.out k).trans hv)
        have HN := Lib.hid (show thrLow mid n d (k + 1) = thrHigh mid k f (thrLow mid n d k) (n + 1) by simp only [thrLow, (low_mid (n := n) H0.out k).trans hv])
        clear hv
        go_wp2_with (first | (at_lookup; refine wpList_look_some rfl _ _ _ rfl Try.underlying64 rfl hown k mid f rfl (i64_small (by omega) (by omega)) (i64_small (by omega) (by omega)) HV.out ?_))
        obtain ⟨wo, rfl⟩ : ∃ wo : World, wo = wr := ⟨_, rfl⟩
        go_loopw [29] (fun i wr => ∃ j : Nat, j ≤ n + 1 ∧ i = .int .i64 j ∧ OwnsD wr g (m + 20 * k + j) (thrHigh mid k f (thrLow mid n d k) j) ∧ w.grownBy wr (some g)) (fun i _ => n + 1 - (intOf i).toNat)
        case atStart => exact ⟨0, by omega, rfl, hown, hg⟩
        case round =>
          clear hown hg
          obtain ⟨j, hj, rfl, hown, hg⟩ := hrel
          by_cases hlj : j < n + 1
          · cases hs : d mid j with
            | none =>
              have HS := Lib.hid ((high_mid (n := n) H0.out k f j).trans hs)
              have HM := Lib.hid (show thrHigh mid k f (thrLow mid n d k) (j + 1) = thrHigh mid k f (thrLow mid n d k) j by simp only [thrHigh, (high_mid (n := n) H0.out k f j).trans hs])
              clear hs
              go_wp2_with (first | (at_lookup; refine wpList_look_none rfl _ _ _ rfl Try.underlying64 rfl hown mid j rfl (i64_small (by omega) (by omega)) (i64_small (by omega) (by omega)) HS.out ?_))
              go_roundw
              case rel => exact ⟨j + 1, by omega, by go_num, by rw [HM.out]; exact hown.mono (by omega), hg⟩
              case measure => simp [intOf]; omega
            | some s =>
              have HG := HB.out _ _ _ hs
              have HS := Lib.hid ((high_mid (n := n) H0.out k f j).trans hs)
              have HM := Lib.hid (show thrHigh mid k f (thrLow mid n d k) (j + 1) = raiseD (thrHigh mid k f (thrLow mid n d k) j) k j (f + s) by simp only [thrHigh, (high_mid (n := n) H0.out k f j).trans hs])
              clear hs
              go_wp2_with (first | (at_lookup; refine wpList_look_some rfl _ _ _ rfl Try.underlying64 rfl hown mid j s rfl (i64_small (by omega) (by omega)) (i64_small (by omega) (by omega)) HS.out ?_))
              (with_reducible refine (raise_any _ _ _ k j (f + s) _ hown (by omega) (i64_small (by omega) (by omega)) (i64_small (by omega) (by omega)) (i64_small (by omega) (by omega))).mono ?_)
              rintro e w1 ⟨rfl, hown1, hg1⟩
              have hg2 := hg.trans hg1
              clear hown hg hg1
              go_wp2_with fail
              go_roundw
              case rel => exact ⟨j + 1, by omega, by go_num, by rw [HM.out]; exact hown1.mono (by omega), hg2⟩
              case measure => simp [intOf]; omega
          · go_wp2_with fail
            have hj' : j = n + 1 := by omega
            rw [hj'] at hown
            clear hj' hlj hj
            go_roundw
            case rel => exact ⟨k + 1, by omega, by go_num, by rw [HN.out]; exact hown.mono (by omega), hg⟩
            case measure => simp [intOf]; omega
    · have hk' : k = n + 1 := by omega
      rw [hk'] at hown
      clear hk'
      go_wp2_with fail
      go_end0
      exact ⟨rfl, hown.mono (by omega), hg⟩
end Go.Proofs.Ytdpannjnhhjicaa
