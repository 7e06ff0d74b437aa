/- Under of the program. -/
import Derived.Test.YtdpannjnhhjicaaLGap
namespace Go.Proofs.Ytdpannjnhhjicaa
open Go.RowKit

/-- Is an atom always at most another one? -/
def underA (d : Dist) (x y : Atom2) : Bool := match d x.1 y.1 with | none => false | some k => decide (wrap64 (x.2 - y.2) ≤ k)
set_option maxHeartbeats 1000000 in
theorem under_any (g m : Nat) (d : Dist) (x y : Atom2) (w : World) (hd : OwnsD w g m d) (h1 : I64 x.1) (h2 : I64 y.1) :
    Calls Try.prog 43 #[.map (some g), .agg #[.int .i64 x.1, .int .i64 x.2], .agg #[.int .i64 y.1, .int .i64 y.2]] w fun e w' => e = .returned (.bool (underA d x y)) ∧ Below w.heap.size w w' := by
  obtain ⟨p, q⟩ := x
  obtain ⟨u, v⟩ := y
  simp only at h1 h2
  cases hk : d p u with
  | none =>
    have HU : Hid (underA d (p, q) (u, v) = false) := show _ = _ by simp [underA, hk]
    have HK := Lib.hid hk
    clear hk
    go_enter Try.func43, Try.ntmps43
    go_wp2_with (first | (at_lookup; refine wpList_look_none rfl _ _ _ rfl Try.underlying64 rfl ((hd.alloc _).alloc _) p u rfl h1 h2 HK.out ?_))
    go_ret
    exact ⟨ret_bool HU.out.symm, ((Below.refl _ _).alloc (Nat.le_refl _) _).alloc (by simp) _⟩
  | some k =>
    have HU : Hid (underA d (p, q) (u, v) = decide (wrap64 (q - v) ≤ k)) := show _ = _ by simp [underA, hk]
    have HK := Lib.hid hk
    clear hk
    go_enter Try.func43, Try.ntmps43
    go_wp2_with (first | (at_lookup; refine wpList_look_some rfl _ _ _ rfl Try.underlying64 rfl ((hd.alloc _).alloc _) p u k rfl h1 h2 HK.out ?_))
    go_ret
    exact ⟨ret_bool HU.out.symm, ((Below.refl _ _).alloc (Nat.le_refl _) _).alloc (by simp) _⟩
/-- The function that Under hands on. -/
abbrev closV (gd ga : Nat) : Value := .func (.func 42) #[] #[.pointer (some ⟨gd, 0, none⟩), .pointer (some ⟨ga, 0, none⟩)]
set_option maxHeartbeats 1000000 in
theorem closure_any (g m gd ga : Nat) (d : Dist) (x y : Atom2) (w : World) (hd : OwnsD w g m d) (h1 : I64 x.1) (h2 : I64 y.1) (hD : Holds w (some ⟨gd, 0, none⟩) [.map (some g)]) (hX : Holds w (some ⟨ga, 0, none⟩) (atomV x)) :
    Calls Try.prog 42 #[.agg #[.int .i64 y.1, .int .i64 y.2], .pointer (some ⟨gd, 0, none⟩), .pointer (some ⟨ga, 0, none⟩)] w fun e w' => e = .returned (.bool (underA d x y)) ∧ Below w.heap.size w w' := by
  have hc : w.cell? ⟨gd, 0, none⟩ = some (.map (some g)) := hD.cell (j := 0) rfl
  have ha : w.cell? ⟨ga, 0, none⟩ = some (.int .i64 x.1) := hX.cell (j := 0) rfl
  have ha' : w.cell? ⟨ga, 1, none⟩ = some (.int .i64 x.2) := hX.cell (j := 1) rfl
  have HU := Lib.hid fun w hd => under_any g m d x y w hd h1 h2
  have hd' := hd.alloc (.cells #[.int .i64 y.1, .int .i64 y.2] 57)
  have hgd : gd < w.heap.size := World.block_lt_of_cell? _ _ hc
  have hga : ga < w.heap.size := World.block_lt_of_cell? _ _ ha
  go_enter Try.func42, Try.ntmps42
  go_wp2_with fail
  refine (HU.out _ hd').mono ?_
  rintro e w1 ⟨rfl, hb⟩
  have hb' := below_step ((Below.refl w.heap.size w).alloc (Nat.le_refl _) _) hb
  go_wp2_with fail
  go_ret
  exact ⟨rfl, hb'⟩
/-- The place of the first atom that is above, or -1. -/
def IndexPost (d : Dist) (x : Atom2) (l : List Atom2) (w : World) (e : Ending) (w' : World) : Prop := ∃ z : Int, e = .returned (.int .i64 z) ∧ decide (0 ≤ z) = l.any (underA d x) ∧ Below w.heap.size w w'
theorem any_step {α : Type} {p : α → Bool} {l : List α} {k : Nat} (hk : k < l.length) (h : (l.take k).any p = false) (hp : p l[k] = false) : (l.take (k + 1)).any p = false := by
  rw [List.take_succ_eq_append_getElem hk, List.any_append, h]
  simp [hp]
theorem any_yes {α : Type} {p : α → Bool} {l : List α} {k : Nat} (hk : k < l.length) (hp : p l[k] = true) : l.any p = true := List.any_eq_true.2 ⟨_, List.getElem_mem hk, hp⟩
set_option maxHeartbeats 1000000 in
theorem index_any (g m gd ga : Nat) (d : Dist) (x : Atom2) (B : Option Addr) (c n : Nat) (l : List Atom2) (w : World) (hn : l.length = n) (hl : n ≤ 1000000) (hB : Holds w B (atomsV l)) (hW : WideA l) (hd : OwnsD w g m d) (h1 : I64 x.1)
    (hD : Holds w (some ⟨gd, 0, none⟩) [.map (some g)]) (hX : Holds w (some ⟨ga, 0, none⟩) (atomV x)) :
    Calls Try.prog 48 #[.slice B n c, closV gd ga] w (IndexPost d x l w) := by
  have HN := Lib.hid hn
  have HW := Lib.hid hW
  clear hn hW
  go_enter Try.func48, Try.ntmps48
  go_wp2_with fail
  go_loopw [8] (fun i wr => ∃ k : Nat, k ≤ n ∧ i = .int .i64 k ∧ Hid ((l.take k).any (underA d x) = false) ∧ Below w.heap.size w wr) (fun i _ => n - (intOf i).toNat)
  case atStart => exact ⟨0, by omega, rfl, show _ = _ by simp, Below.refl _ _⟩
  case round =>
    obtain ⟨k, hk, rfl, HK, hb⟩ := hrel
    by_cases hlt : k < n
    · have hkl : k < l.length := by rw [HN.out]; exact hlt
      have hyw := HW.out _ (List.getElem_mem hkl)
      obtain ⟨b, o, rfl, hb0, hc⟩ := (hB.below hb).at_ (by rw [atomsV_len]; omega)
      have s0 := hc (k * 2) _ (atomsV_get0 hkl)
      have s1 := hc (k * 2 + 1) _ (atomsV_get1 hkl)
      rw [← Nat.add_assoc] at s1
      have HS := Lib.hid fun h => any_step hkl HK.out h
      have HY := Lib.hid fun h => any_yes (p := underA d x) hkl h
      generalize l[k] = y at *
      obtain ⟨u, v⟩ := y
      simp only at s0 s1 hyw
      have HC := Lib.hid (closure_any g m gd ga d x (u, v) wr (hd.below hb) h1 hyw.1 (hD.below hb) (hX.below hb))
      clear hc
      by_cases hu : underA d x (u, v) = true
      · have HY' := Lib.hid (HY.out hu)
        go_wp2_with fail
        refine HC.out.mono ?_
        rintro e w1 ⟨rfl, hb1⟩
        have hb2 := below_step hb hb1
        clear hb hb1 hb0 s0 s1
        go_wp2_with fail
        go_ret
        exact ⟨k, rfl, by rw [HY'.out]; simp, hb2⟩
      · have hu' : underA d x (u, v) = false := by simpa using hu
        have HS' := Lib.hid (HS.out hu')
        clear hu
        go_wp2_with fail
        refine HC.out.mono ?_
        rintro e w1 ⟨rfl, hb1⟩
        have hb2 := below_step hb hb1
        clear hb hb1 hb0 s0 s1
        go_wp2_with fail
        go_roundw
        case rel => exact ⟨k + 1, by omega, by go_num, HS'.out, hb2⟩
        case measure => simp [intOf]; omega
    · have HY : Hid (l.any (underA d x) = false) := show _ = _ by
        have h := HK.out
        rwa [List.take_of_length_le (by rw [HN.out]; omega)] at h
      go_wp2_with fail
      go_ret
      exact ⟨-1, rfl, by rw [HY.out]; rfl, hb⟩
theorem contains_any (g m gd ga : Nat) (d : Dist) (x : Atom2) (B : Option Addr) (c n : Nat) (l : List Atom2) (w : World) (hn : l.length = n) (hl : n ≤ 1000000) (hB : Holds w B (atomsV l)) (hW : WideA l) (hd : OwnsD w g m d) (h1 : I64 x.1)
    (hD : Holds w (some ⟨gd, 0, none⟩) [.map (some g)]) (hX : Holds w (some ⟨ga, 0, none⟩) (atomV x)) :
    Calls Try.prog 41 #[.slice B n c, closV gd ga] w fun e w' => e = .returned (.bool (l.any (underA d x))) ∧ Below w.heap.size w w' := by
  have HI := Lib.hid (index_any g m gd ga d x B c n l w hn hl hB hW hd h1 hD hX)
  go_enter Try.func41, Try.ntmps41
  go_wp2_with fail
  refine HI.out.mono ?_
  rintro e w1 ⟨z, rfl, hz, hb⟩
  have HZ := Lib.hid hz
  clear hz
  go_wp2_with fail
  go_ret
  exact ⟨ret_bool HZ.out, hb⟩
def underD (d : Dist) (a b : List Atom2) : Bool := a.all fun x => b.any (underA d x)
def underS (v : Int) (E : List Ord3) (a b : List Atom2) : Bool := match distS v E with | none => false | some d => rightS v a && rightS v b && underD d a b
theorem right_n (A : Option Addr) (c n : Nat) (l : List Atom2) (v : Int) (w : World) (hn : l.length = n) (hA : Holds w A (atomsV l)) (hl : n ≤ 9223372036854775807) (r : Bool) (hr : rightS v l = r) :
    Calls Try.prog 17 #[.slice A n c, .int .i64 v] w fun e w' => e = .returned (.bool r) ∧ Below w.heap.size w w' := by
  subst hn hr
  exact right_any A c l v w hA hl
theorem right_len {v : Int} {l : List Atom2} (h : rightS v l = true) : l.length ≤ 4 := by
  simp only [rightS, withinB, Bool.and_eq_true, decide_eq_true_eq] at h
  omega
set_option maxHeartbeats 2000000 in
theorem under_some (v : Int) (A B C : Option Addr) (c b' c' na nb : Nat) (E : List Ord3) (a b : List Atom2) (w : World) (hA : Holds w A (ordsV E)) (hm : E.length ≤ 9223372036854775807) (hna : a.length = na) (hnb : b.length = nb) (hB : Holds w B (atomsV a)) (hC : Holds w C (atomsV b)) (hWa : WideA a) (hWb : WideA b) (ha : rightS v a = true) (hb : rightS v b = true) :
    Calls Try.prog 30 #[.int .i64 v, .slice A E.length c, .slice B na b', .slice C nb c'] w fun e w' => e = .returned (.bool (underS v E a b)) ∧ Below w.heap.size w w' := by
  have HR := Lib.hid fun w hA => reckS_any v A c E w hA hm
  have hla : na ≤ 4 := by rw [← hna]; exact right_len ha
  have hlb : nb ≤ 4 := by rw [← hnb]; exact right_len hb
  have HA := Lib.hid fun w hB => right_n B b' na a v w hna hB (by omega) true ha
  have HB := Lib.hid fun w hC => right_n C c' nb b v w hnb hC (by omega) true hb
  have HRA := Lib.hid ha
  have HRB := Lib.hid hb
  have HNA := Lib.hid hna
  have HNB := Lib.hid hnb
  have HWA := Lib.hid hWa
  have HWB := Lib.hid hWb
  clear hna hnb ha hb hWa hWb
  go_enter Try.func30, Try.ntmps30
  go_wp2_with fail
  refine (HR.out _ hA).mono ?_
  rintro e w' (⟨_, h3, h4, h5⟩ | ⟨_, n, d, g, m, rfl, _, h3, h4, h5, h6, h7, h8⟩)
  · have hz : (errS v E != 0) = true := by simpa using h3
    have HU : Hid (underS v E a b = false) := show _ = _ by simp [underS, h4]
    clear h4 h3
    go_wp2_with fail
    go_ret
    exact ⟨ret_bool HU.out.symm, h5.alloc h5.size _⟩
  · have hz : (errS n E != 0) = false := by simpa using h3
    have HU : Hid (underS n E a b = underD d a b) := show _ = _ by simp [underS, h4, HRA.out, HRB.out]
    have hd1 := h5.alloc (.cells #[.map (some g)] 64)
    have hB1 := (hB.below h8).alloc (.cells #[.map (some g)] 64)
    have hC1 := (hC.below h8).alloc (.cells #[.map (some g)] 64)
    have hb1 := h8.alloc h8.size (.cells #[.map (some g)] 64)
    have hD1 := holds_at w' #[.map (some g)] 64 [.map (some g)] rfl
    clear h3 h4 h5 h8 h7 hz
    go_wp2_with fail
    refine (HA.out _ hB1).mono ?_
    rintro e w1 ⟨rfl, g1⟩
    go_wp2_with fail
    refine (HB.out _ (hC1.below g1)).mono ?_
    rintro e w2 ⟨rfl, g2⟩
    have hb2 := below_step (below_step hb1 g1) g2
    have hd2 := (hd1.below g1).below g2
    have hB2 := (hB1.below g1).below g2
    have hC2 := (hC1.below g1).below g2
    have hD2 := (hD1.below g1).below g2
    clear hB1 hC1 hd1 hb1 hD1 g1 g2
    go_wp2_with fail
    generalize w'.heap.size = gd at *
    go_loopw [35] (fun i wr => ∃ k : Nat, k ≤ na ∧ i = .int .i64 k ∧ Hid ((a.take k).all (fun x => b.any (underA d x)) = true) ∧ Below w2.heap.size w2 wr) (fun i _ => na - (intOf i).toNat)
    case atStart => exact ⟨0, by omega, rfl, show _ = _ by simp, Below.refl _ _⟩
    case round =>
      obtain ⟨k, hk, rfl, HK, hbr⟩ := hrel
      by_cases hlt : k < na
      · have hkl : k < a.length := by rw [HNA.out]; exact hlt
        have hxw := HWA.out _ (List.getElem_mem hkl)
        obtain ⟨b0, o, rfl, hb0, hc⟩ := (hB2.below hbr).at_ (by rw [atomsV_len]; omega)
        have s0 := hc (k * 2) _ (atomsV_get0 hkl)
        have s1 := hc (k * 2 + 1) _ (atomsV_get1 hkl)
        rw [← Nat.add_assoc] at s1
        have HS := Lib.hid fun h => all_step (p := fun x => b.any (underA d x)) hkl HK.out h
        have HX := Lib.hid fun h => all_not (p := fun x => b.any (underA d x)) hkl h
        generalize a[k] = x at *
        obtain ⟨u, v⟩ := x
        simp only at s0 s1 hxw HS HX
        have HC := Lib.hid (contains_any g m gd wr.heap.size d (u, v) C c' nb b _ HNB.out (by omega) ((hC2.below hbr).alloc _) HWB.out ((hd2.below hbr).alloc _) hxw.1 ((hD2.below hbr).alloc _) (holds_at wr #[.int .i64 u, .int .i64 v] 57 (atomV (u, v)) rfl))
        have hbr' := hbr.alloc hbr.size (.cells #[.int .i64 u, .int .i64 v] 57)
        clear hc
        by_cases hu : b.any (underA d (u, v)) = true
        · have HS' := Lib.hid (HS.out hu)
          go_wp2_with fail
          refine HC.out.mono ?_
          rintro e w1 ⟨rfl, hb3⟩
          have hb4 := below_step hbr' hb3
          clear hbr hbr' hb3 hb0 s0 s1
          go_wp2_with fail
          go_roundw
          case rel => exact ⟨k + 1, by omega, by go_num, HS'.out, hb4⟩
          case measure => simp [intOf]; omega
        · have hu' : b.any (underA d (u, v)) = false := by simpa using hu
          have HX' := Lib.hid (HX.out hu')
          clear hu
          go_wp2_with fail
          refine HC.out.mono ?_
          rintro e w1 ⟨rfl, hb3⟩
          have hb4 := below_step hbr' hb3
          clear hbr hbr' hb3 hb0 s0 s1
          go_wp2_with fail
          go_ret
          exact ⟨ret_bool (by rw [HU.out]; exact HX'.out.symm), below_step hb2 hb4⟩
      · have HY : Hid (underD d a b = true) := show _ = _ by
          have h := HK.out
          rwa [List.take_of_length_le (by rw [HNA.out]; omega)] at h
        go_wp2_with fail
        go_ret
        exact ⟨ret_bool (by rw [HU.out, HY.out]), below_step hb2 hbr⟩
set_option maxHeartbeats 1000000 in
theorem under_a (v : Int) (A B C : Option Addr) (c b' c' na nb : Nat) (E : List Ord3) (a b : List Atom2) (w : World) (hA : Holds w A (ordsV E)) (hm : E.length ≤ 9223372036854775807) (hna : a.length = na) (hB : Holds w B (atomsV a)) (hla : na ≤ 9223372036854775807) (ha : rightS v a = false) :
    Calls Try.prog 30 #[.int .i64 v, .slice A E.length c, .slice B na b', .slice C nb c'] w fun e w' => e = .returned (.bool (underS v E a b)) ∧ Below w.heap.size w w' := by
  have HR := Lib.hid fun w hA => reckS_any v A c E w hA hm
  have HA := Lib.hid fun w hB => right_n B b' na a v w hna hB hla false ha
  have HU : Hid (underS v E a b = false) := show _ = _ by unfold underS; cases distS v E <;> simp [ha]
  clear hna ha
  go_enter Try.func30, Try.ntmps30
  go_wp2_with fail
  refine (HR.out _ hA).mono ?_
  rintro e w' (⟨_, h3, h4, h5⟩ | ⟨_, n, d, g, m, rfl, _, h3, h4, h5, h6, h7, h8⟩)
  · have hz : (errS v E != 0) = true := by simpa using h3
    clear h4 h3
    go_wp2_with fail
    go_ret
    exact ⟨ret_bool HU.out.symm, h5.alloc h5.size _⟩
  · have hz : (errS n E != 0) = false := by simpa using h3
    have hB1 := (hB.below h8).alloc (.cells #[.map (some g)] 64)
    have hb1 := h8.alloc h8.size (.cells #[.map (some g)] 64)
    clear h3 h4 h5 h8 h7 hz
    go_wp2_with fail
    refine (HA.out _ hB1).mono ?_
    rintro e w1 ⟨rfl, g1⟩
    go_wp2_with fail
    go_ret
    exact ⟨ret_bool HU.out.symm, below_step hb1 g1⟩
set_option maxHeartbeats 1000000 in
theorem under_b (v : Int) (A B C : Option Addr) (c b' c' na nb : Nat) (E : List Ord3) (a b : List Atom2) (w : World) (hA : Holds w A (ordsV E)) (hm : E.length ≤ 9223372036854775807) (hna : a.length = na) (hnb : b.length = nb) (hB : Holds w B (atomsV a)) (hC : Holds w C (atomsV b)) (hla : na ≤ 9223372036854775807) (hlb : nb ≤ 9223372036854775807) (ha : rightS v a = true) (hb : rightS v b = false) :
    Calls Try.prog 30 #[.int .i64 v, .slice A E.length c, .slice B na b', .slice C nb c'] w fun e w' => e = .returned (.bool (underS v E a b)) ∧ Below w.heap.size w w' := by
  have HR := Lib.hid fun w hA => reckS_any v A c E w hA hm
  have HA := Lib.hid fun w hB => right_n B b' na a v w hna hB hla true ha
  have HB := Lib.hid fun w hC => right_n C c' nb b v w hnb hC hlb _ hb
  have HU : Hid (underS v E a b = false) := show _ = _ by unfold underS; cases distS v E <;> simp [ha, hb]
  clear hna hnb ha hb
  go_enter Try.func30, Try.ntmps30
  go_wp2_with fail
  refine (HR.out _ hA).mono ?_
  rintro e w' (⟨_, h3, h4, h5⟩ | ⟨_, n, d, g, m, rfl, _, h3, h4, h5, h6, h7, h8⟩)
  · have hz : (errS v E != 0) = true := by simpa using h3
    clear h4 h3
    go_wp2_with fail
    go_ret
    exact ⟨ret_bool HU.out.symm, h5.alloc h5.size _⟩
  · have hz : (errS n E != 0) = false := by simpa using h3
    have hB1 := (hB.below h8).alloc (.cells #[.map (some g)] 64)
    have hC1 := (hC.below h8).alloc (.cells #[.map (some g)] 64)
    have hb1 := h8.alloc h8.size (.cells #[.map (some g)] 64)
    clear h3 h4 h5 h8 h7 hz
    go_wp2_with fail
    refine (HA.out _ hB1).mono ?_
    rintro e w1 ⟨rfl, g1⟩
    go_wp2_with fail
    refine (HB.out _ (hC1.below g1)).mono ?_
    rintro e w2 ⟨rfl, g2⟩
    go_wp2_with fail
    go_ret
    exact ⟨ret_bool HU.out.symm, below_step (below_step hb1 g1) g2⟩
theorem pUnder_any (v : Int) (A B C : Option Addr) (c b' c' : Nat) (E : List Ord3) (a b : List Atom2) (w : World) (hA : Holds w A (ordsV E)) (hm : E.length ≤ 9223372036854775807) (hB : Holds w B (atomsV a)) (hC : Holds w C (atomsV b)) (hWa : WideA a) (hWb : WideA b) (hla : a.length ≤ 9223372036854775807) (hlb : b.length ≤ 9223372036854775807) :
    Calls Try.prog 30 #[.int .i64 v, .slice A E.length c, .slice B a.length b', .slice C b.length c'] w fun e w' => e = .returned (.bool (underS v E a b)) ∧ Below w.heap.size w w' := by
  cases ha : rightS v a
  · exact under_a v A B C c b' c' _ _ E a b w hA hm rfl hB hla ha
  · cases hb : rightS v b
    · exact under_b v A B C c b' c' _ _ E a b w hA hm rfl rfl hB hC hla hlb ha hb
    · exact under_some v A B C c b' c' _ _ E a b w hA hm rfl rfl hB hC hWa hWb ha hb
end Go.Proofs.Ytdpannjnhhjicaa
