/- The document's Gap, Under. -/
import Derived.Test.YtdpannjnhhjicaaLRef6
namespace Go.Proofs.Ytdpannjnhhjicaa
open Go.RowKit

theorem gap_none {v : Int} {E : List Ord3} (h : distS v E = none) (lo hi : Int) : gapS v E lo hi = none := by simp [gapS, h]
theorem gap_out {n : Nat} {E : List Ord3} {d : Dist} (h : distS n E = some d) {lo hi : Int} (ho : lo < 0 ∨ (n : Int) < lo ∨ hi < 0 ∨ (n : Int) < hi) : gapS n E lo hi = none := by
  obtain ⟨hf, _, _, hE⟩ := dist_some h
  obtain ⟨_, hD, _⟩ := (err_right hf).1 d h
  cases hg : gapS n E lo hi with
  | none => rfl
  | some c =>
    simp only [gapS, h, Option.bind_some] at hg
    have := (hD.sound _ _ _ hg).ends hE
    omega
/-- What from tells is the gap. -/
theorem gap_fix {n : Nat} {E : List Ord3} {d : Dist} (h : distS n E = some d) {lo hi : Nat} (h0 : lo ≤ n) (h1 : hi ≤ n) {r : List Int} (hr : fromS n E lo = some r) : (at0 r hi = NONE ∧ gapS n E lo hi = none) ∨ (at0 r hi ≠ NONE ∧ gapS n E lo hi = some (at0 r hi) ∧ -200000000 ≤ at0 r hi ∧ at0 r hi ≤ 200000000) := by
  obtain ⟨hf, _, _, hE⟩ := dist_some h
  obtain ⟨_, hD, hfr⟩ := (err_right hf).1 d h
  obtain ⟨r', hr', hfix⟩ := hfr lo h0
  rw [hr] at hr'
  cases hr'
  have e : gapS n E lo hi = d lo hi := by simp [gapS, h]
  rw [e]
  rcases hfix.dist hD hE (v := hi) (by omega) (by omega) with h2 | h2
  · exact Or.inl h2
  · have := (hfix.way hi (by omega) (by omega) h2.1).2
    exact Or.inr ⟨h2.1, h2.2, this.1, this.2⟩
theorem gapPost_none {v : Int} {E : List Ord3} {lo hi : Int} {w w' : World} (h : gapS v E lo hi = none) (hb : Below w.heap.size w w') : GapPost v E lo hi w (.returned (.tuple #[.int .i64 0, .bool false])) w' := ⟨by rw [h]; rfl, hb⟩
theorem gapPost_some {v : Int} {E : List Ord3} {lo hi k : Int} {w w' : World} (h : gapS v E lo hi = some k) (hb : Below w.heap.size w w') : GapPost v E lo hi w (.returned (.tuple #[.int .i64 k, .bool true])) w' := ⟨by rw [h]; rfl, hb⟩
set_option maxHeartbeats 2000000 in
theorem rgap_any (v : Int) (A : Option Addr) (c : Nat) (E : List Ord3) (lo hi : Int) (w : World) (hA : Holds w A (ordsV E)) (hm : E.length ≤ 9223372036854775807) :
    Calls Try.prog 25 #[.int .i64 v, .slice A E.length c, .int .i64 lo, .int .i64 hi] w (GapPost v E lo hi w) := by
  have HC := Lib.hid (rcheck_any A c E v w hA hm)
  by_cases he : errS v E = 0
  · obtain ⟨d, hd⟩ := err_zero he
    obtain ⟨n, rfl⟩ := dist_nat hd
    have hz : (errS n E != 0) = false := by simp [he]
    have HO := Lib.hid fun h => gap_out (lo := lo) (hi := hi) hd h
    obtain ⟨hf, hn, hl, hE⟩ := dist_some hd
    have HD := Lib.hid hd
    have HE := Lib.hid hE
    clear hd hf he hE
    by_cases c0 : lo < 0
    · have HG := Lib.hid (HO.out (by omega))
      go_enter Try.func25, Try.ntmps25
      go_wp2_with fail
      refine HC.out.mono ?_
      rintro e w1 ⟨rfl, hb1⟩
      go_wp2_with fail
      go_ret2
      exact gapPost_none HG.out hb1
    ·
      by_cases c1 : (n : Int) < lo
      · have HG := Lib.hid (HO.out (by omega))
        go_enter Try.func25, Try.ntmps25
        go_wp2_with fail
        refine HC.out.mono ?_
        rintro e w1 ⟨rfl, hb1⟩
        go_wp2_with fail
        go_ret2
        exact gapPost_none HG.out hb1
      ·
        by_cases c2 : hi < 0
        · have HG := Lib.hid (HO.out (by omega))
          go_enter Try.func25, Try.ntmps25
          go_wp2_with fail
          refine HC.out.mono ?_
          rintro e w1 ⟨rfl, hb1⟩
          go_wp2_with fail
          go_ret2
          exact gapPost_none HG.out hb1
        ·
          by_cases c3 : (n : Int) < hi
          · have HG := Lib.hid (HO.out (by omega))
            go_enter Try.func25, Try.ntmps25
            go_wp2_with fail
            refine HC.out.mono ?_
            rintro e w1 ⟨rfl, hb1⟩
            go_wp2_with fail
            go_ret2
            exact gapPost_none HG.out hb1
          ·
            obtain ⟨i, rfl⟩ : ∃ i : Nat, lo = i := ⟨lo.toNat, by omega⟩
            obtain ⟨j, rfl⟩ : ∃ j : Nat, hi = j := ⟨hi.toNat, by omega⟩
            have HF := Lib.hid fun w hA => from_any n A c E i w hn hl hA HE.out (by omega)
            go_enter Try.func25, Try.ntmps25
            go_wp2_with fail
            refine HC.out.mono ?_
            rintro e w1 ⟨rfl, hb1⟩
            go_wp2_with fail
            refine (HF.out _ (hA.below hb1)).mono ?_
            rintro e w2 (⟨_, h2, hb2⟩ | ⟨_, g, r, h2, hown, hb2⟩)
            · obtain ⟨hf, _⟩ := dist_some HD.out
              obtain ⟨_, _, hfr⟩ := (err_right hf).1 d HD.out
              obtain ⟨r, hr, _⟩ := hfr i (by omega)
              rw [hr] at h2; cases h2
            · have s0 := hown.cell (i := j) (by omega)
              have hb := below_step hb1 hb2
              have hgf := gap_fix HD.out (lo := i) (hi := j) (by omega) (by omega) h2
              clear h2 hown hb1 hb2
              generalize at0 r j = x at *
              rcases hgf with ⟨h3, h4⟩ | ⟨h3, h4, _, _⟩
              · have t0 : (x == -1000000000) = true := by unfold NONE at h3; simp [h3]
                have HG := Lib.hid h4
                clear h3 h4
                go_wp2_with fail
                go_ret2
                exact gapPost_none HG.out hb
              · have t0 : (x == -1000000000) = false := by unfold NONE at h3; simpa using h3
                have HG := Lib.hid h4
                clear h3 h4
                go_wp2_with fail
                go_ret2
                exact gapPost_some HG.out hb
  · have hz : (errS v E != 0) = true := by simpa using he
    have HG := Lib.hid (gap_none (err_not he) lo hi)
    clear he
    go_enter Try.func25, Try.ntmps25
    go_wp2_with fail
    refine HC.out.mono ?_
    rintro e w1 ⟨rfl, hb1⟩
    go_wp2_with fail
    go_ret2
    exact gapPost_none HG.out hb1
end Go.Proofs.Ytdpannjnhhjicaa
