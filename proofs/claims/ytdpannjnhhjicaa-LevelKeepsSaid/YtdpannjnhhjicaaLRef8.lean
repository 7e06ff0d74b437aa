/- The document's Under. -/
import Derived.Test.YtdpannjnhhjicaaLRef7
namespace Go.Proofs.Ytdpannjnhhjicaa
open Go.RowKit

theorem under_fix {n : Nat} {E : List Ord3} {d : Dist} (h : distS n E = some d) {i j : Nat} {x2 y2 : Int} (h0 : i ≤ n) (h1 : j ≤ n) (hx : 0 ≤ x2 ∧ x2 ≤ 1000) (hy : 0 ≤ y2 ∧ y2 ≤ 1000) {r : List Int} (hr : fromS n E i = some r) :
    (at0 r j = NONE ∧ underA d (i, x2) (j, y2) = false) ∨ (at0 r j ≠ NONE ∧ underA d (i, x2) (j, y2) = decide (x2 ≤ at0 r j + y2) ∧ -200000000 ≤ at0 r j ∧ at0 r j ≤ 200000000) := by
  have hw : wrap64 (x2 - y2) = x2 - y2 := IntWalk.wrap64_in _ ⟨by omega, by omega⟩
  have e : gapS n E i j = d i j := by simp [gapS, h]
  rcases gap_fix h h0 h1 hr with ⟨h2, h3⟩ | ⟨h2, h3, h4, h5⟩
  · rw [e] at h3
    exact Or.inl ⟨h2, by simp [underA, h3]⟩
  · rw [e] at h3
    refine Or.inr ⟨h2, ?_, h4, h5⟩
    simp only [underA, h3, hw]
    rw [Bool.eq_iff_iff, decide_eq_true_eq, decide_eq_true_eq]
    omega
theorem any_take {α : Type} {p : α → Bool} {l : List α} {k : Nat} (hk : k < l.length) : (l.take (k + 1)).any p = ((l.take k).any p || p l[k]) := by
  rw [List.take_succ_eq_append_getElem hk, List.any_append]; simp
/-- What Under answers. -/
def UnderPost (v : Int) (E : List Ord3) (a b : List Atom2) (w : World) (e : Ending) (w' : World) : Prop := e = .returned (.bool (underS v E a b)) ∧ Below w.heap.size w w'
theorem underPost_no {v : Int} {E : List Ord3} {a b : List Atom2} {w w' : World} (h : underS v E a b = false) (hb : Below w.heap.size w w') : UnderPost v E a b w (.returned (.bool false)) w' := ⟨by rw [h], hb⟩
theorem underPost_yes {v : Int} {E : List Ord3} {a b : List Atom2} {w w' : World} (h : underS v E a b = true) (hb : Below w.heap.size w w') : UnderPost v E a b w (.returned (.bool true)) w' := ⟨by rw [h], hb⟩
theorem rright_n (A : Option Addr) (c n : Nat) (l : List Atom2) (v : Int) (w : World) (hA : LevelAt w A n c l) (r : Bool) (hr : rightS v l = r) :
    Calls Try.prog 18 #[.slice A n c, .int .i64 v] w fun e w' => e = .returned (.bool r) ∧ Below w.heap.size w w' := by
  subst hr
  exact rright_any A n c l v w hA
theorem at0_get {r : List Int} {j : Nat} (h : j < r.length) : (intsV r)[j]? = some (.int .i64 (at0 r j)) := by
  rw [intsV_get h]
  unfold at0
  rw [List.getD_eq_getElem?_getD, Int.toNat_natCast, List.getElem?_eq_getElem h]; rfl
set_option maxHeartbeats 8000000 in
set_option maxRecDepth 100000 in
theorem runder_some (n : Nat) (A B C : Option Addr) (c b' c' na nb : Nat) (E : List Ord3) (a b : List Atom2) (d : Dist) (w : World) (hA : Holds w A (ordsV E)) (hm : E.length ≤ 9223372036854775807) (hB : LevelAt w B na b' a) (hC : LevelAt w C nb c' b) (hd : distS n E = some d) (ha : rightS n a = true) (hb : rightS n b = true) :
    Calls Try.prog 31 #[.int .i64 n, .slice A E.length c, .slice B na b', .slice C nb c'] w (UnderPost n E a b w) := by
  have HC := Lib.hid (rcheck_any A c E n w hA hm)
  obtain ⟨hf, hn, hl, hE⟩ := dist_some hd
  obtain ⟨he, _, _⟩ := (err_right hf).1 d hd
  have hz : (errS n E != 0) = false := by simp [he]
  have HU : Hid (underS n E a b = underD d a b) := show _ = _ by simp [underS, hd, ha, hb]
  have HRA := Lib.hid fun w (h : LevelAt w B na b' a) => rright_n B b' na a n w h true ha
  have HRB := Lib.hid fun w (h : LevelAt w C nb c' b) => rright_n C c' nb b n w h true hb
  have HIA := Lib.hid (right_in ha)
  have HIB := Lib.hid (right_in hb)
  have hla : na ≤ 4 := by rw [← hB.1]; exact right_len ha
  have hlb : nb ≤ 4 := by rw [← hC.1]; exact right_len hb
  have HNA := Lib.hid hB.1
  have HNB := Lib.hid hC.1
  have HF := Lib.hid fun i w hA hi => from_any n A c E i w hn hl hA hE hi
  have HD := Lib.hid hd
  clear hf he hd ha hb hE hl
  go_enter Try.func31, Try.ntmps31
  go_wp2_with fail
  refine HC.out.mono ?_
  rintro e w1 ⟨rfl, hb1⟩
  go_wp2_with fail
  refine (HRA.out _ (hB.below hb1)).mono ?_
  rintro e w2 ⟨rfl, hb2⟩
  go_wp2_with fail
  refine (HRB.out _ ((hC.below hb1).below hb2)).mono ?_
  rintro e w3 ⟨rfl, hb3⟩
  have hb13 := below_step (below_step hb1 hb2) hb3
  clear hb1 hb2 hb3 hz
  go_wp2_with fail
  go_loopw [9] (fun i wr => ∃ k : Nat, k ≤ na ∧ i = .int .i64 k ∧ Hid ((a.take k).all (fun x => b.any (underA d x)) = true) ∧ Below w.heap.size w wr) (fun i _ => na - (intOf i).toNat)
  case atStart => exact ⟨0, by omega, rfl, show _ = _ by simp, hb13⟩
  case round =>
    clear hb13
    obtain ⟨k, hk, rfl, HK, hbr⟩ := hrel
    by_cases hlt : k < na
    · have hkl : k < a.length := by rw [HNA.out]; exact hlt
      have hxi := HIA.out _ (List.getElem_mem hkl)
      have HHB := Lib.hid (hB.2.2.below hbr)
      obtain ⟨b0, o, rfl, hb0, hc⟩ := (hB.2.2.below hbr).at_ (by rw [atomsV_len]; omega)
      have s0 := hc (k * 2) _ (atomsV_get0 hkl)
      have HX1 := Lib.hid (hc (k * 2 + 1) _ (atomsV_get1 hkl))
      have HS := Lib.hid fun h => all_step (p := fun x => b.any (underA d x)) hkl HK.out h
      have HX := Lib.hid fun h => all_not (p := fun x => b.any (underA d x)) hkl h
      generalize a[k] = x at *
      obtain ⟨p, x2⟩ := x
      simp only at s0 hxi HX1 HS HX
      obtain ⟨⟨hp0, hp1⟩, hx2⟩ := hxi
      obtain ⟨i, rfl⟩ : ∃ i : Nat, p = i := ⟨p.toNat, by omega⟩
      have HFF := Lib.hid (HF.out i wr (hA.below hbr) (by omega))
      clear hc hkl hp0
      go_wp2_with fail
      refine HFF.out.mono ?_
      rintro e w4 (⟨_, h2, hb4⟩ | ⟨_, g, r, h2, hown, hb4⟩)
      · obtain ⟨hf, _⟩ := dist_some HD.out
        obtain ⟨_, _, hfr⟩ := (err_right hf).1 d HD.out
        obtain ⟨r, hr, _⟩ := hfr i (by omega)
        rw [hr] at h2; cases h2
      · have hR : Holds w4 (some ⟨g, 0, none⟩) (intsV r) := own_holds hown.2
        have hrl := hown.1
        have HUF := Lib.hid fun j y2 h1 hy => under_fix HD.out (i := i) (j := j) (x2 := x2) (y2 := y2) (by omega) h1 hx2 hy h2
        have hb5 := below_step hbr hb4
        have HX1' := Lib.hid (HHB.out.below hb4)
        have hs1 : w4.cell? ⟨b0, o + (k * 2 + 1), none⟩ = some (.int .i64 x2) := by rw [← HX1.out]; exact hb4.cell (World.block_lt_of_cell? _ _ HX1.out)
        have HS1 := Lib.hid hs1
        have HRL := Lib.hid hrl
        have hR' := Lib.hid hR
        clear h2 hown s0 hs1 hb0 hR hrl hbr hb4
        go_wp2_with fail
        obtain ⟨wo, rfl⟩ : ∃ wo : World, wo = w4 := ⟨_, rfl⟩
        go_loopw [12, 13] (fun t i' wr => ∃ j : Nat, j ≤ nb ∧ i' = .int .i64 j ∧ t = .bool ((b.take j).any (underA d (i, x2))) ∧ Below wo.heap.size wo wr) (fun _ i' _ => nb - (intOf i').toNat)
        case atStart => exact ⟨0, by omega, rfl, by simp, Below.refl _ _⟩
        case round =>
          obtain ⟨j, hj, rfl, rfl, hbw⟩ := hrel
          by_cases hlj : j < nb
          · have hjl : j < b.length := by rw [HNB.out]; exact hlj
            have hyi := HIB.out _ (List.getElem_mem hjl)
            have HT := Lib.hid (any_take (p := underA d (i, x2)) hjl)
            obtain ⟨b2, o2, rfl, hb2, hc⟩ := ((hC.2.2.below hb5).below hbw).at_ (by rw [atomsV_len]; omega)
            have t0 := hc (j * 2) _ (atomsV_get0 hjl)
            have t1 := hc (j * 2 + 1) _ (atomsV_get1 hjl)
            rw [← Nat.add_assoc] at t1
            generalize b[j] = y at *
            obtain ⟨q, y2⟩ := y
            simp only at t0 t1 hyi HT
            obtain ⟨⟨hq0, hq1⟩, hy2⟩ := hyi
            obtain ⟨m, rfl⟩ : ∃ m : Nat, q = m := ⟨q.toNat, by omega⟩
            have s1 : wr.cell? ⟨b0, o + (k * 2 + 1), none⟩ = some (.int .i64 x2) := by rw [← HS1.out]; exact hbw.cell (World.block_lt_of_cell? _ _ HS1.out)
            rw [← Nat.add_assoc] at s1
            have sr := (hR'.out.below hbw).cell (j := m) (at0_get (by rw [HRL.out]; omega))
            rw [Nat.zero_add] at sr
            have hu := HUF.out m y2 (by omega) hy2
            generalize at0 r m = z at *
            clear hc hjl hq0
            rcases hu with ⟨h3, h4⟩ | ⟨h3, h4, h5, h6⟩
            · have t2 : (z != -1000000000) = false := by unfold NONE at h3; simp [h3]
              have HU4 : Hid ((b.take (j + 1)).any (underA d (i, x2)) = (b.take j).any (underA d (i, x2))) := show _ = _ by rw [HT.out, h4, Bool.or_false]
              clear h3 h4
              go_wp2_with fail
              go_quiet (fail)
              go_wp2_with fail
              go_roundw
              case rel => exact ⟨j + 1, by omega, by go_num, by rw [HU4.out], below_drewN hbw _⟩
              case measure => simp [intOf] <;> omega
            · have t2 : (z != -1000000000) = true := by unfold NONE at h3; simpa using h3
              have e1 : IntKind.i64.wrap (z + y2) = z + y2 := IntWalk.i64_in _ (by omega)
              by_cases hle : x2 ≤ z + y2
              · have HU4 : Hid ((b.take (j + 1)).any (underA d (i, x2)) = true) := show _ = _ by rw [HT.out, h4]; simp [hle]
                clear h3 h4
                go_wp2_with fail
                go_quiet (fail)
                go_wp2_with fail
                go_roundw
                case rel => exact ⟨j + 1, by omega, by go_num, by rw [HU4.out], below_drewN hbw _⟩
                case measure => simp [intOf] <;> omega
              · have HU4 : Hid ((b.take (j + 1)).any (underA d (i, x2)) = (b.take j).any (underA d (i, x2))) := show _ = _ by rw [HT.out, h4]; simp; intro h; omega
                clear h3 h4
                go_wp2_with fail
                go_quiet (fail)
                go_wp2_with fail
                go_roundw
                case rel => exact ⟨j + 1, by omega, by go_num, by rw [HU4.out], below_drewN hbw _⟩
                case measure => simp [intOf] <;> omega
          · have HT : Hid ((b.take j).any (underA d (i, x2)) = b.any (underA d (i, x2))) := show _ = _ by rw [List.take_of_length_le (by rw [HNB.out]; omega)]
            have hb6 := below_step hb5 hbw
            cases hany : b.any (underA d (i, x2)) with
            | true =>
              have HS' := Lib.hid (HS.out hany)
              have hT : (b.take j).any (underA d (i, x2)) = true := HT.out.trans hany
              clear hany
              go_wp2_with fail
              go_roundw
              case rel => exact ⟨k + 1, by omega, by go_num, HS'.out, hb6⟩
              case measure => simp [intOf] <;> omega
            | false =>
              have HX' := Lib.hid (HX.out hany)
              have hT : (b.take j).any (underA d (i, x2)) = false := HT.out.trans hany
              clear hany
              go_wp2_with fail
              go_ret
              exact underPost_no (by rw [HU.out]; exact HX'.out) hb6
    · have HY : Hid (underD d a b = true) := show _ = _ by
        have h := HK.out
        rwa [List.take_of_length_le (by rw [HNA.out]; omega)] at h
      go_wp2_with fail
      go_ret
      exact underPost_yes (by rw [HU.out, HY.out]) hbr
theorem runder_e (v : Int) (A B C : Option Addr) (c b' c' na nb : Nat) (E : List Ord3) (a b : List Atom2) (w : World) (hA : Holds w A (ordsV E)) (hm : E.length ≤ 9223372036854775807) (he : errS v E ≠ 0) :
    Calls Try.prog 31 #[.int .i64 v, .slice A E.length c, .slice B na b', .slice C nb c'] w (UnderPost v E a b w) := by
  have HC := Lib.hid (rcheck_any A c E v w hA hm)
  have hz : (errS v E != 0) = true := by simpa using he
  have HU : Hid (underS v E a b = false) := show _ = _ by simp [underS, err_not he]
  clear he
  go_enter Try.func31, Try.ntmps31
  go_wp2_with fail
  refine HC.out.mono ?_
  rintro e w1 ⟨rfl, hb1⟩
  go_wp2_with fail
  go_ret
  exact underPost_no HU.out hb1
theorem runder_a (v : Int) (A B C : Option Addr) (c b' c' na nb : Nat) (E : List Ord3) (a b : List Atom2) (w : World) (hA : Holds w A (ordsV E)) (hm : E.length ≤ 9223372036854775807) (hB : LevelAt w B na b' a) (he : errS v E = 0) (ha : rightS v a = false) :
    Calls Try.prog 31 #[.int .i64 v, .slice A E.length c, .slice B na b', .slice C nb c'] w (UnderPost v E a b w) := by
  have HC := Lib.hid (rcheck_any A c E v w hA hm)
  have hz : (errS v E != 0) = false := by simp [he]
  have HU : Hid (underS v E a b = false) := show _ = _ by unfold underS; cases distS v E <;> simp [ha]
  have HRA := Lib.hid fun w (h : LevelAt w B na b' a) => rright_n B b' na a v w h false ha
  clear he ha
  go_enter Try.func31, Try.ntmps31
  go_wp2_with fail
  refine HC.out.mono ?_
  rintro e w1 ⟨rfl, hb1⟩
  go_wp2_with fail
  refine (HRA.out _ (hB.below hb1)).mono ?_
  rintro e w2 ⟨rfl, hb2⟩
  go_wp2_with fail
  go_ret
  exact underPost_no HU.out (below_step hb1 hb2)
theorem runder_b (v : Int) (A B C : Option Addr) (c b' c' na nb : Nat) (E : List Ord3) (a b : List Atom2) (w : World) (hA : Holds w A (ordsV E)) (hm : E.length ≤ 9223372036854775807) (hB : LevelAt w B na b' a) (hC : LevelAt w C nb c' b) (he : errS v E = 0) (ha : rightS v a = true) (hb : rightS v b = false) :
    Calls Try.prog 31 #[.int .i64 v, .slice A E.length c, .slice B na b', .slice C nb c'] w (UnderPost v E a b w) := by
  have HC := Lib.hid (rcheck_any A c E v w hA hm)
  have hz : (errS v E != 0) = false := by simp [he]
  have HU : Hid (underS v E a b = false) := show _ = _ by unfold underS; cases distS v E <;> simp [hb]
  have HRA := Lib.hid fun w (h : LevelAt w B na b' a) => rright_n B b' na a v w h true ha
  have HRB := Lib.hid fun w (h : LevelAt w C nb c' b) => rright_n C c' nb b v w h false hb
  clear he ha hb
  go_enter Try.func31, Try.ntmps31
  go_wp2_with fail
  refine HC.out.mono ?_
  rintro e w1 ⟨rfl, hb1⟩
  go_wp2_with fail
  refine (HRA.out _ (hB.below hb1)).mono ?_
  rintro e w2 ⟨rfl, hb2⟩
  go_wp2_with fail
  refine (HRB.out _ ((hC.below hb1).below hb2)).mono ?_
  rintro e w3 ⟨rfl, hb3⟩
  go_wp2_with fail
  go_ret
  exact underPost_no HU.out (below_step (below_step hb1 hb2) hb3)
theorem runder_any (v : Int) (A B C : Option Addr) (c b' c' na nb : Nat) (E : List Ord3) (a b : List Atom2) (w : World) (hA : Holds w A (ordsV E)) (hm : E.length ≤ 9223372036854775807) (hB : LevelAt w B na b' a) (hC : LevelAt w C nb c' b) :
    Calls Try.prog 31 #[.int .i64 v, .slice A E.length c, .slice B na b', .slice C nb c'] w (UnderPost v E a b w) := by
  by_cases he : errS v E = 0
  · cases ha : rightS v a
    · exact runder_a v A B C c b' c' na nb E a b w hA hm hB he ha
    · cases hb : rightS v b
      · exact runder_b v A B C c b' c' na nb E a b w hA hm hB hC he ha hb
      · obtain ⟨d, hd⟩ := err_zero he
        obtain ⟨n, rfl⟩ := dist_nat hd
        exact runder_some n A B C c b' c' na nb E a b d w hA hm hB hC hd ha hb
  · exact runder_e v A B C c b' c' na nb E a b w hA hm he
end Go.Proofs.Ytdpannjnhhjicaa
