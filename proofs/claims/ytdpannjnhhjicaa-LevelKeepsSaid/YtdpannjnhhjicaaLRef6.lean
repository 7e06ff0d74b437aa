/- The document's Least, Gap. -/
import Derived.Test.YtdpannjnhhjicaaLRef5
namespace Go.Proofs.Ytdpannjnhhjicaa
open Go.RowKit

theorem dist_some {n : Nat} {E : List Ord3} {d : Dist} (h : distS n E = some d) : faultS n E = 0 ∧ n ≤ 16 ∧ E.length ≤ 64 ∧ RightE n E := by
  have hf : faultS n E = 0 := by
    refine Classical.byContradiction fun hf => ?_
    simp [distS, hf] at h
  obtain ⟨m, hm, h1, h2, h3⟩ := faultS_ok hf
  obtain rfl : n = m := by omega
  exact ⟨hf, h1, h2, h3⟩
theorem dist_nat {v : Int} {E : List Ord3} {d : Dist} (h : distS v E = some d) : ∃ n : Nat, v = n := by
  have hf : faultS v E = 0 := by
    refine Classical.byContradiction fun hf => ?_
    simp [distS, hf] at h
  obtain ⟨m, hm, _⟩ := faultS_ok hf
  exact ⟨m, hm⟩
theorem err_zero {v : Int} {E : List Ord3} (h : errS v E = 0) : ∃ d, distS v E = some d := by
  unfold errS at h
  split at h
  · split at h
    · rename_i h2
      exact Option.isSome_iff_exists.1 h2
    · omega
  · omega
theorem err_not {v : Int} {E : List Ord3} (h : errS v E ≠ 0) : distS v E = none := by
  cases hd : distS v E with
  | none => rfl
  | some d =>
    obtain ⟨n, rfl⟩ := dist_nat hd
    exact absurd ((err_right (dist_some hd).1).1 d hd).1 h
theorem least_row {n : Nat} {E : List Ord3} {d : Dist} {r : List Int} (hd : IsDist n E d) (hE : RightE n E) (h : Fix n E 0 r) : r.drop 1 = leastD n d := by
  have hl := h.len
  refine List.ext_getElem (by rw [List.length_drop, leastD_length]; omega) fun i h1 h2 => ?_
  rw [leastD_length] at h2
  rw [leastD_get _ _ _ h2, List.getElem_drop]
  have hv := leastD_val hd (v := (i : Int) + 1) (by omega) (by omega)
  rcases h.dist hd hE (v := (i : Int) + 1) (by omega) (by omega) with ⟨_, h3⟩ | ⟨_, h3⟩
  · rw [hv] at h3; cases h3
  · rw [h3]
    unfold at0
    rw [List.getD_eq_getElem?_getD, show ((i : Int) + 1).toNat = 1 + i by omega, List.getElem?_eq_getElem (by omega)]
    rfl
theorem from_zero (n : Nat) (A : Option Addr) (c : Nat) (E : List Ord3) (w : World) (hn : n ≤ 16) (hl : E.length ≤ 64) (hA : Holds w A (ordsV E)) (hE : RightE n E) :
    Calls Try.prog 40 #[.int .i64 n, .slice A E.length c, .int .i64 0] w (FromPost n E 0 w) := from_any n A c E 0 w hn hl hA hE (Nat.zero_le _)
/-- What the document's Least answers. -/
inductive RLeast (v : Int) (E : List Ord3) (w : World) : Ending → World → Prop
  | err (w' : World) : errS v E ≠ 0 → Below w.heap.size w w' → RLeast v E w (.returned (.tuple #[.slice none 0 0, .int .i64 (errS v E)])) w'
  | ok (w' : World) (n : Nat) (d : Dist) (A : Option Addr) : v = n → distS v E = some d → Holds w' A (intsV (leastD n d)) → Below w.heap.size w w' → RLeast v E w (.returned (.tuple #[.slice A n n, .int .i64 0])) w'
theorem rleast_any (v : Int) (A : Option Addr) (c : Nat) (E : List Ord3) (w : World) (hA : Holds w A (ordsV E)) (hm : E.length ≤ 9223372036854775807) :
    Calls Try.prog 23 #[.int .i64 v, .slice A E.length c] w (RLeast v E w) := by
  have HC := Lib.hid (rcheck_any A c E v w hA hm)
  by_cases he : errS v E = 0
  · obtain ⟨d, hd⟩ := err_zero he
    obtain ⟨n, rfl⟩ := dist_nat hd
    obtain ⟨hf, hn, hl, hE⟩ := dist_some hd
    have hz : (errS n E != 0) = false := by simp [he]
    have HF := Lib.hid fun w hA => from_zero n A c E w hn hl hA hE
    obtain ⟨_, hD, hfr⟩ := (err_right hf).1 d hd
    obtain ⟨r, hr, hfix⟩ := hfr 0 (by omega)
    have hr : fromS n E 0 = some r := hr
    have hfix : Fix n E 0 r := hfix
    have HL := Lib.hid (least_row hD hE hfix)
    have HD := Lib.hid hd
    have HR := Lib.hid hr
    clear he hd hf hl hE hD hfr hr hfix
    by_cases h0 : n = 0
    · subst h0
      have hz : (errS 0 E != 0) = false := hz
      go_enter Try.func23, Try.ntmps23
      go_wp2_with fail
      refine HC.out.mono ?_
      rintro e w1 ⟨rfl, hb1⟩
      go_wp2_with fail
      refine (HF.out _ (hA.below hb1)).mono ?_
      rintro e w2 (⟨_, h2, hb2⟩ | ⟨_, g, r', h2, hown, hb2⟩)
      · have := HR.out; rw [this] at h2; cases h2
      · clear h2
        go_wp2_with fail
        go_ret2
        exact .ok _ 0 d _ rfl HD.out (by rw [show leastD 0 d = [] by simp [leastD]]; exact Holds.nil _ _) (below_step hb1 hb2)
    · go_enter Try.func23, Try.ntmps23
      go_wp2_with fail
      refine HC.out.mono ?_
      rintro e w1 ⟨rfl, hb1⟩
      go_wp2_with fail
      refine (HF.out _ (hA.below hb1)).mono ?_
      rintro e w2 (⟨_, h2, hb2⟩ | ⟨_, g, r', h2, hown, hb2⟩)
      · have := HR.out; rw [this] at h2; cases h2
      · have he : r' = r := by
          have := HR.out; rw [this] at h2; exact (Option.some.inj h2).symm
        subst he
        have hh : Holds w2 (some ⟨g, 1, none⟩) (intsV (leastD n d)) := by
          rw [← HL.out]
          intro _
          refine ⟨g, 1, rfl, fun j u hu => ?_⟩
          have h3 := own_holds hown.2
          have h4 := h3.cell (j := j + 1) (u := u) (by
            unfold intsV at hu ⊢
            rw [List.getElem?_map, List.getElem?_drop] at hu
            rw [List.getElem?_map, Nat.add_comm j 1]; exact hu)
          rwa [show 0 + (j + 1) = 1 + j by omega] at h4
        clear h2 hown
        go_wp2_with fail
        go_ret2
        exact .ok _ n d _ rfl HD.out hh (below_step hb1 hb2)
  · have hz : (errS v E != 0) = true := by simpa using he
    have HE := Lib.hid he
    clear he
    go_enter Try.func23, Try.ntmps23
    go_wp2_with fail
    refine HC.out.mono ?_
    rintro e w1 ⟨rfl, hb1⟩
    go_wp2_with fail
    go_ret2
    exact .err _ HE.out hb1
end Go.Proofs.Ytdpannjnhhjicaa
