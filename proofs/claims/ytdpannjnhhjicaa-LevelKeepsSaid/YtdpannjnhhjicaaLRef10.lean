/- The document's Up. -/
import Derived.Test.YtdpannjnhhjicaaLRef9
namespace Go.Proofs.Ytdpannjnhhjicaa
open Go.RowKit

theorem upS_take {by' : Int} {l : List Atom2} {k : Nat} (h : k < l.length) : upS by' (l.take (k + 1)) = upS by' (l.take k) ++ [(l[k].1, l[k].2 + by')] := by
  unfold upS
  rw [List.take_succ_eq_append_getElem h, List.map_append]; rfl
set_option maxHeartbeats 4000000 in
theorem rup_in (A : Option Addr) (n c : Nat) (l : List Atom2) (by' : Int) (w : World) (hA : LevelAt w A n c l) (ha : rightS 16 l = true) (h0 : ¬ by' < 0) :
    Calls Try.prog 16 #[.slice A n c, .int .i64 by'] w (UpPost by' l w) := by
  obtain ⟨i0, hi0, hz0, hz1, hz2⟩ := info_parts infoAtom
  have HR := Lib.hid (rright_n A c n l 16 w hA true ha)
  have HI := Lib.hid (right_in ha)
  have HE : Hid (upErr by' l = if l.all (fitsUp by') = true then 0 else 6) := show _ = _ by simp [upErr, ha, h0]
  have hn4 : n ≤ 4 := by rw [← hA.1]; exact right_len ha
  have hn0 : 0 < n := by rw [← hA.1]; exact right_pos ha
  have HN := Lib.hid hA.1
  clear ha
  go_enter Try.func16, Try.ntmps16
  go_wp2_with fail
  refine HR.out.mono ?_
  rintro e w1 ⟨rfl, hb1⟩
  go_wp2_with fail
  go_loopw [6, 7] (fun t i wr => ∃ k : Nat, k ≤ n ∧ i = .int .i64 k ∧ Hid ((l.take k).all (fitsUp by') = true) ∧ wr.ownsRow w.heap.size 57 2 t k (atomsV (upS by' (l.take k))) ∧ Below w.heap.size w wr) (fun _ i _ => n - (intOf i).toNat)
  case atStart => exact ⟨0, by omega, rfl, show _ = _ by simp, ⟨by simp [atomsV, upS], .inl ⟨rfl, rfl⟩⟩, hb1⟩
  case round =>
    clear hb1
    obtain ⟨k, hk, rfl, HK, hown, hb⟩ := hrel
    by_cases hlt : k < n
    · have hkl : k < l.length := by rw [HN.out]; exact hlt
      have hx := HI.out _ (List.getElem_mem hkl)
      obtain ⟨b, o, rfl, hb0, hc⟩ := (hA.2.2.below hb).at_ (by rw [atomsV_len]; omega)
      have s0 := hc (k * 2) _ (atomsV_get0 hkl)
      have s1 := hc (k * 2 + 1) _ (atomsV_get1 hkl)
      rw [← Nat.add_assoc] at s1
      have HS := Lib.hid fun h => all_step (p := fitsUp by') hkl HK.out h
      have HX := Lib.hid fun h => all_not (p := fitsUp by') hkl h
      have HT := Lib.hid (upS_take (by' := by') hkl)
      have hbA : b < w.heap.size := by
        obtain ⟨b', o', e', h1, _⟩ := hA.2.2.at_ (by rw [atomsV_len]; omega)
        cases e'
        exact h1
      generalize l[k] = x at *
      obtain ⟨p, q⟩ := x
      simp only at s0 s1 hx HT
      clear hc hkl
      by_cases hf : by' ≤ 1000 - q
      · have HS' := Lib.hid (HS.out (by simpa [fitsUp] using hf))
        have e1 : IntKind.i64.wrap (q + by') = q + by' := IntWalk.i64_in _ (by omega)
        have t1 : ¬ 1000 < by' := by omega
        have t2 : ¬ 1000 < q + by' := by omega
        have ak : u6.ownBlock ≠ some b := fun e => by have := (hown.lt _ e).1; omega
        have hbs := hb.size
        have t4 : (0 : Int) ≤ (k : Int) := by omega
        have t5 : (k : Int) < (n : Int) := by omega
        go_wp2_with fail
        go_region_held3 (fun w' => w'.cell? ⟨b, o + k * 2, none⟩ = some (.int .i64 p) ∧ w'.cell? ⟨b, o + k * 2 + 1, none⟩ = some (.int .i64 q))
          (first
            | go_keep
            | (go_split_ands
               refine ⟨?_, ?_⟩
               · (rw [hgrow.cell_far _ (by simp; omega) (Ne.symm ak)]; assumption)
               · (rw [hgrow.cell_far _ (by simp; omega) (Ne.symm ak)]; assumption)))
          ((refine step_append_lies _ (by rfl) _ _ _ (by rfl) w.heap.size 57 i0 _ 2 16 Try.underlying23 hi0 hz0 hz1 hz2 rfl (by omega) u6 k (atomsV (upS by' (l.take k))) (by rfl) ((hown.alloc _).drew)
              ⟨wr.heap.size, 0, none⟩ 1 1 [.int .i64 p, .int .i64 (q + by')] (by rfl) (by rfl) (World.news_of_block (cs := #[.int .i64 p, .int .i64 (q + by')]) (t := 57) (fr := (0, 0)) (heap_alloc_new wr _)) (by simp [Value.oneCell'])
              (by omega) (by unfold maxLen; omega) (by omega) (by have := hb.size; simp; omega) (wr.heap.size + 1) (by simp) ?_; intro gg cap w2 hown2 hgrow hat hlt2))
        go_wp2_with fail
        have hbe := (hb.alloc hb.size (.cells #[.int .i64 p, .int .i64 (q + by')] 57)).drew.grown hgrow (by have := hb.size; simp; omega) (fun k hk => (hown.lt k hk).1)
        go_roundw
        case rel => exact ⟨k + 1, by omega, by go_num, HS'.out, by rw [HT.out, atomsV_append]; exact hown2, hbe⟩
        case measure => simp [intOf] <;> omega
      · have HX' := Lib.hid (HX.out (by simpa [fitsUp] using hf))
        have HE2 : Hid (upErr by' l = 6) := show _ = _ by rw [HE.out, HX'.out]; simp
        by_cases h1 : 1000 < by'
        · go_wp2_with fail
          go_ret2
          have h := HE2.out
          rw [show (6 : Int) = upErr by' l from h.symm]
          exact .err _ (by rw [h]; omega) hb
        · have t2 : 1000 < q + by' := by omega
          go_wp2_with fail
          go_ret2
          have h := HE2.out
          rw [show (6 : Int) = upErr by' l from h.symm]
          exact .err _ (by rw [h]; omega) hb
    · have hk' : k = n := by omega
      have HE2 : Hid (upErr by' l = 0) := show _ = _ by
        have h := HK.out
        rw [List.take_of_length_le (by rw [HN.out]; omega)] at h
        rw [HE.out, h]; simp
      rw [hk', List.take_of_length_le (by rw [HN.out]; omega)] at hown
      obtain ⟨g, cap, rfl, hg, hg2⟩ := hown.form hn0
      have hul : (upS by' l).length = n := by rw [← HN.out]; simp [upS]
      have HUL := Lib.hid hul
      clear hk' hul
      go_wp2_with fail
      go_ret2
      rw [← HN.out] at hown ⊢
      refine .ok _ g cap HE2.out hg ?_ ?_ hb
      · show wr.ownsRow _ _ _ _ _ _
        rw [HUL.out, ← HN.out]
        exact hown
      · exact ⟨by rw [HUL.out, HN.out], by obtain ⟨A', c', e, h, _⟩ := own_slice hown; cases e; exact h, own_holds hown⟩
theorem rup_any (A : Option Addr) (n c : Nat) (l : List Atom2) (by' : Int) (w : World) (hA : LevelAt w A n c l) :
    Calls Try.prog 16 #[.slice A n c, .int .i64 by'] w (UpPost by' l w) := by
  cases ha : rightS 16 l
  · have HE : Hid (upErr by' l = 19) := show _ = _ by simp [upErr, ha]
    have HR := Lib.hid (rright_n A c n l 16 w hA false ha)
    clear ha
    go_enter Try.func16, Try.ntmps16
    go_wp2_with fail
    refine HR.out.mono ?_
    rintro e w1 ⟨rfl, hb1⟩
    go_wp2_with fail
    go_ret2
    have h := HE.out
    rw [show (19 : Int) = upErr by' l from h.symm]
    exact .err _ (by rw [h]; omega) hb1
  · by_cases h0 : by' < 0
    · have HE : Hid (upErr by' l = 1) := show _ = _ by simp [upErr, ha, h0]
      have HR := Lib.hid (rright_n A c n l 16 w hA true ha)
      clear ha
      go_enter Try.func16, Try.ntmps16
      go_wp2_with fail
      refine HR.out.mono ?_
      rintro e w1 ⟨rfl, hb1⟩
      go_wp2_with fail
      go_ret2
      have h := HE.out
      rw [show (1 : Int) = upErr by' l from h.symm]
      exact .err _ (by rw [h]; omega) hb1
    · exact rup_in A n c l by' w hA ha h0
end Go.Proofs.Ytdpannjnhhjicaa
