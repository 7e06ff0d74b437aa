/- The document's Check, Least, Gap. -/
import Derived.Test.YtdpannjnhhjicaaLRef4
namespace Go.Proofs.Ytdpannjnhhjicaa
open Go.RowKit

theorem err_fault {v : Int} {E : List Ord3} (h : faultS v E ≠ 0) : errS v E = faultS v E := by simp [errS, h]
theorem fault_out {v : Int} (E : List Ord3) (h : v < 0 ∨ 16 < v) : faultS v E = 1 := by
  unfold faultS
  rw [if_neg (by simp only [withinB, Bool.and_eq_true, decide_eq_true_eq]; omega)]
theorem fault_len {v : Int} {E : List Ord3} (h0 : ¬ v < 0) (h1 : ¬ 16 < v) (h : 64 < E.length) : faultS v E = 5 := by
  unfold faultS
  rw [if_pos (by simp only [withinB, Bool.and_eq_true, decide_eq_true_eq]; omega), if_pos h]
theorem fault_all {v : Int} {E : List Ord3} (h0 : ¬ v < 0) (h1 : ¬ 16 < v) (h : ¬ 64 < E.length) : faultS v E = if E.all (okO v) = true then 0 else 1 := by
  unfold faultS
  rw [if_pos (by simp only [withinB, Bool.and_eq_true, decide_eq_true_eq]; omega), if_neg h]
theorem okO_iff {v lo ad hi : Int} : okO v (lo, ad, hi) = true ↔ ¬ lo < 0 ∧ ¬ v < lo ∧ ¬ hi < 0 ∧ ¬ v < hi ∧ ¬ ad < -1000 ∧ ¬ 1000 < ad := by
  simp only [okO, withinB, Bool.and_eq_true, decide_eq_true_eq]
  omega
/-- Where orders are right: the check, and what from tells. -/
theorem err_right {n : Nat} {E : List Ord3} (hf : faultS n E = 0) :
    (∀ d, distS n E = some d → errS n E = 0 ∧ IsDist n E d ∧ ∀ low : Nat, low ≤ n → ∃ r, fromS n E low = some r ∧ Fix n E low r) ∧ (distS n E = none → errS n E = 7 ∧ ∃ low : Nat, low ≤ n ∧ fromS n E low = none) := by
  obtain ⟨m, hm, hn, hl, hE⟩ := faultS_ok hf
  obtain rfl : n = m := by omega
  obtain ⟨h1, h2⟩ := check_iff hE hn hl
  have hd : distS n E = reckD n (toldD n E) (n + 1) := by simp [distS, hf]
  refine ⟨fun d h => ?_, fun h => ?_⟩
  · obtain ⟨h3, _, h4⟩ := h1 d (by rw [← hd]; exact h)
    exact ⟨by simp [errS, hf, h], h3, fun low hlow => h4 low (by omega) (by omega)⟩
  · obtain ⟨low, h3, h4, h5⟩ := h2 (by rw [← hd]; exact h)
    exact ⟨by simp [errS, hf, h], low.toNat, by omega, by rw [show ((low.toNat : Nat) : Int) = low by omega]; exact h5⟩
theorem err_from {n : Nat} {E : List Ord3} (hf : faultS n E = 0) {low : Nat} (hl : low ≤ n) (h : fromS n E low = none) : errS n E = 7 := by
  cases hd : distS n E with
  | none => exact ((err_right hf).2 hd).1
  | some d =>
    obtain ⟨_, _, h3⟩ := (err_right hf).1 d hd
    obtain ⟨r, h4, _⟩ := h3 low hl
    rw [h] at h4; cases h4
theorem err_none {n : Nat} {E : List Ord3} (hf : faultS n E = 0) (h : ∀ low : Nat, low ≤ n → fromS n E low ≠ none) : errS n E = 0 := by
  cases hd : distS n E with
  | none =>
    obtain ⟨_, low, h2, h3⟩ := (err_right hf).2 hd
    exact absurd h3 (h low h2)
  | some d => exact ((err_right hf).1 d hd).1

/-- What Check answers. -/
def CheckPost (v : Int) (E : List Ord3) (w : World) (e : Ending) (w' : World) : Prop := e = .returned (.int .i64 (errS v E)) ∧ Below w.heap.size w w'
theorem rcheck_out (A : Option Addr) (c n : Nat) (E : List Ord3) (v : Int) (w : World) (h : v < 0 ∨ 16 < v) :
    Calls Try.prog 39 #[.int .i64 v, .slice A n c] w (CheckPost v E w) := by
  have HE : Hid (errS v E = 1) := show _ = _ by
    have h1 := fault_out E h
    rw [err_fault (by rw [h1]; omega), h1]
  rcases h with h | h
  · go_enter Try.func39, Try.ntmps39
    go_wp2_with fail
    go_ret
    exact ⟨ret_i64 HE.out.symm, Below.refl _ _⟩
  · have h2 : ¬ v < 0 := by omega
    go_enter Try.func39, Try.ntmps39
    go_wp2_with fail
    go_ret
    exact ⟨ret_i64 HE.out.symm, Below.refl _ _⟩
set_option maxHeartbeats 4000000 in
theorem rcheck_in (A : Option Addr) (c : Nat) (E : List Ord3) (v : Int) (w : World) (hA : Holds w A (ordsV E)) (h0 : ¬ v < 0) (h1 : ¬ 16 < v) (hm : E.length ≤ 9223372036854775807) :
    Calls Try.prog 39 #[.int .i64 v, .slice A E.length c] w (CheckPost v E w) := by
  by_cases hl : 64 < E.length
  · have HE : Hid (errS v E = 5) := show _ = _ by
      have h2 := fault_len h0 h1 hl
      rw [err_fault (by rw [h2]; omega), h2]
    have t1 : (64 : Int) < (E.length : Int) := by omega
    go_enter Try.func39, Try.ntmps39
    go_wp2_with fail
    go_ret
    exact ⟨ret_i64 HE.out.symm, Below.refl _ _⟩
  · have HFA := Lib.hid (fault_all (E := E) h0 h1 hl)
    have t1 : ¬ (64 : Int) < (E.length : Int) := by omega
    go_enter Try.func39, Try.ntmps39
    go_wp2_with fail
    clear t1
    go_loopw [5] (fun i wr => ∃ k : Nat, k ≤ E.length ∧ i = .int .i64 k ∧ Hid (AllOk v E k) ∧ Below w.heap.size w wr) (fun i _ => E.length - (intOf i).toNat)
    case atStart => exact ⟨0, by omega, rfl, (by simp [AllOk] : AllOk v E 0), Below.refl _ _⟩
    case round =>
      obtain ⟨k, hk, rfl, HO, hb⟩ := hrel
      by_cases hlt : k < E.length
      · obtain ⟨b, o, rfl, hb0, hc⟩ := (hA.below hb).at_ (by rw [ordsV_len]; omega)
        have s0 := hc (k * 3) _ (ordsV_get0 hlt)
        have s1 := hc (k * 3 + 1) _ (ordsV_get1 hlt)
        have s2 := hc (k * 3 + 2) _ (ordsV_get2 hlt)
        rw [← Nat.add_assoc] at s1 s2
        have HS := Lib.hid fun h => allOk_step HO.out hlt h
        have hno : okO v E[k] = false → errS v E = 1 := fun h => by
          have h2 : faultS v E = 1 := by rw [HFA.out, if_neg (notAll hlt h)]
          rw [err_fault (by rw [h2]; omega), h2]
        have HX := Lib.hid hno
        generalize E[k] = x at *
        obtain ⟨lo, ad, hi⟩ := x
        simp only at s0 s1 s2
        have hio : (¬ (¬ lo < 0 ∧ ¬ v < lo ∧ ¬ hi < 0 ∧ ¬ v < hi ∧ ¬ ad < -1000 ∧ ¬ 1000 < ad)) → errS v E = 1 := fun h => HX.out (by
          cases ho : okO v (lo, ad, hi)
          · rfl
          · exact absurd (okO_iff.1 ho) h)
        have HIO := Lib.hid hio
        clear hc hno hio
        by_cases c0 : lo < 0
        · have HF := Lib.hid (HIO.out (by omega))
          go_wp2_with fail
          go_ret
          exact ⟨ret_i64 HF.out.symm, hb.alloc hb.size _⟩
        ·
          by_cases c1 : v < lo
          · have HF := Lib.hid (HIO.out (by omega))
            go_wp2_with fail
            go_ret
            exact ⟨ret_i64 HF.out.symm, hb.alloc hb.size _⟩
          ·
            by_cases c2 : hi < 0
            · have HF := Lib.hid (HIO.out (by omega))
              go_wp2_with fail
              go_ret
              exact ⟨ret_i64 HF.out.symm, hb.alloc hb.size _⟩
            ·
              by_cases c3 : v < hi
              · have HF := Lib.hid (HIO.out (by omega))
                go_wp2_with fail
                go_ret
                exact ⟨ret_i64 HF.out.symm, hb.alloc hb.size _⟩
              ·
                by_cases c4 : ad < -1000
                · have HF := Lib.hid (HIO.out (by omega))
                  go_wp2_with fail
                  go_ret
                  exact ⟨ret_i64 HF.out.symm, hb.alloc hb.size _⟩
                ·
                  by_cases c5 : 1000 < ad
                  · have HF := Lib.hid (HIO.out (by omega))
                    go_wp2_with fail
                    go_ret
                    exact ⟨ret_i64 HF.out.symm, hb.alloc hb.size _⟩
                  ·
                    have HS' := Lib.hid (HS.out (okO_iff.2 ⟨c0, c1, c2, c3, c4, c5⟩))
                    go_wp2_with fail
                    go_roundw
                    case rel => exact ⟨k + 1, by omega, by go_num, HS'.out, hb.alloc hb.size _⟩
                    case measure => simp [intOf] <;> omega
      · have hf : faultS v E = 0 := by
          have h2 := HO.out
          unfold AllOk at h2
          rw [List.take_of_length_le (by omega)] at h2
          rw [HFA.out, if_pos h2]
        obtain ⟨n, rfl, hn, _, hE⟩ := faultS_ok hf
        have HE := Lib.hid hE
        have HF := Lib.hid hf
        clear hE hf
        go_wp2_with fail
        clear hlt hk HO
        obtain ⟨wo, rfl⟩ : ∃ wo : World, wo = wr := ⟨_, rfl⟩
        go_loopw [7] (fun i wr => ∃ k : Nat, k ≤ n + 1 ∧ i = .int .i64 k ∧ Hid (∀ j : Nat, j < k → fromS n E j ≠ none) ∧ Below w.heap.size w wr) (fun i _ => n + 1 - (intOf i).toNat)
        case atStart => exact ⟨0, by omega, rfl, (fun j hj => by omega : ∀ j : Nat, j < 0 → fromS n E j ≠ none), hb⟩
        case round =>
          clear hb
          obtain ⟨k, hk, rfl, HO, hb⟩ := hrel
          by_cases hlt : k < n + 1
          · have q1 : (k : Int) ≤ (n : Int) := by omega
            have HC := Lib.hid (from_any n A c E k wr hn (by omega) (hA.below hb) HE.out (by omega))
            go_wp2_with fail
            refine HC.out.mono ?_
            rintro e w1 (⟨_, h2, hb1⟩ | ⟨_, g, r, h2, _, hb1⟩)
            · have HE7 := Lib.hid (err_from HF.out (low := k) (by omega) h2)
              have hb2 := below_step hb hb1
              clear h2 hb hb1
              go_wp2_with fail
              go_ret
              exact ⟨ret_i64 HE7.out.symm, hb2⟩
            · have HO' : Hid (∀ j : Nat, j < k + 1 → fromS n E j ≠ none) := show ∀ j : Nat, j < k + 1 → fromS n E j ≠ none from fun j hj => by
                by_cases e : j = k
                · subst e; rw [h2]; simp
                · exact HO.out j (by omega)
              have hb2 := below_step hb hb1
              clear h2 hb hb1
              go_wp2_with fail
              go_roundw
              case rel => exact ⟨k + 1, by omega, by go_num, HO'.out, hb2⟩
              case measure => simp [intOf] <;> omega
          · have q1 : ¬ (k : Int) ≤ (n : Int) := by omega
            have HE0 := Lib.hid (err_none HF.out (fun low hlow => HO.out low (by omega)))
            go_wp2_with fail
            go_ret
            exact ⟨ret_i64 HE0.out.symm, hb⟩
theorem rcheck_any (A : Option Addr) (c : Nat) (E : List Ord3) (v : Int) (w : World) (hA : Holds w A (ordsV E)) (hm : E.length ≤ 9223372036854775807) :
    Calls Try.prog 39 #[.int .i64 v, .slice A E.length c] w (CheckPost v E w) := by
  by_cases h : v < 0 ∨ 16 < v
  · exact rcheck_out A c _ E v w h
  · exact rcheck_in A c E v w hA (by omega) (by omega) hm
end Go.Proofs.Ytdpannjnhhjicaa
