/- The document's answer: Row. -/
import Derived.Test.YtkkkblghihheeaaDoorTTGrow
namespace Go.Proofs.YtkkkblghihheeaaDoor
open Go.RowKit

/-- A row that is put together: in a block behind s. -/
def RGrow (w : World) (s : Nat) (v : Value) (t : List Node3) : Prop := w.ownsRow 0 53 3 v t.length (nodesV t) ∧ ∀ k, v.ownBlock = some k → s < k
theorem RGrow.next {w w' : World} {s : Nat} {v : Value} {t : List Node3} (h : RGrow w s v t) (hb : Below w.heap.size w w') : RGrow w' s v t := ⟨own_below h.1 hb, h.2⟩
theorem RGrow.app {w w' : World} {s : Nat} {v v' : Value} {t r : List Node3} (h : RGrow w s v t) (hown : w'.ownsRow 0 53 3 v' (t.length + r.length) (nodesV t ++ nodesV r)) (hmv : Moves w v w' v') (hs : s < w.heap.size) : RGrow w' s v' (t ++ r) ∧ Below (s + 1) w w' :=
  ⟨⟨by rw [List.length_append, nodesV_append]; exact hown, fun k hk => by rcases hmv.next k hk with h' | h'; exact h.2 k h'; omega⟩, hmv.below (by omega) fun g hg => h.2 g hg⟩
theorem RGrow.own {w : World} {s B m c : Nat} {A : Option Addr} {t : List Node3} (h : RGrow w s (.slice A m c) t) (hm : t.length = m) (hB : B ≤ s) : OwnN w B (.slice A m c) m t := by
  subst hm
  refine ⟨h.1.1, h.1.2.imp id ?_⟩
  rintro ⟨g, cap, cur, e, _, hr⟩
  cases e
  exact ⟨g, _, cur, rfl, by have := h.2 g rfl; omega, hr⟩
theorem row_step {n : Node3} {ats fs : List Node3} {ks : List (TV × Ann)} {i : Nat} (h : i < ks.length) : ((treeA n ats fs ((ks.map Prod.snd).take i)).map Prod.fst) ++ ((funA n fs i).map Prod.fst ++ ks[i].2.map Prod.fst) = ((treeA n ats fs ((ks.map Prod.snd).take (i + 1))).map Prod.fst) := by
  rw [treeA_take (by simpa using h), List.map_append, List.map_append]
  simp only [List.getElem_map]
  unfold shA
  rw [List.map_map]
  rfl
set_option maxRecDepth 100000 in
set_option maxHeartbeats 4000000 in
theorem row_any : ∀ (N : Nat) (v : TV) (a : Ann) (w : World) (G : Nat → Prop), a.length ≤ N → TreeAt w G v a → a.length ≤ 1000000 →
    Calls Tryd.prog 51 #[v.val] w fun e w' => ∃ A n c, e = .returned (.slice A n c) ∧ a.length = n ∧ OwnN w' w.heap.size (.slice A n c) n (a.map Prod.fst) ∧ Below w.heap.size w w' := by
  intro N
  induction N with
  | zero =>
    intro v a w G hN h
    cases h with
    | mk v ks ats fs hs hK hA hF hv sub => exact absurd hN (by simp [treeA])
  | succ N ih =>
    intro v a w G hN h hu
    cases h with
    | mk v ks ats fs hs hK hA hF hv sub =>
    obtain ⟨⟨op, A, B⟩, K, nk, ck, P, na, ca, F, nf, cf⟩ := v
    simp only at hN hu hK hA hF
    have hnk := hs.nk
    have hna := hs.na
    have hnf := hs.nf
    simp only at hnk hna hnf
    subst hnk hna hnf
    have hsa := hs.sa
    have hsf := hs.sf
    have hfx := hs.fix
    simp only at hsa hsf hfx
    have hb0 : Below w.heap.size w (w.alloc (.cells #[.int .i64 op, .int .i64 A, .int .i64 B, .slice K ks.length ck, .slice P ats.length ca, .slice F fs.length cf] 59)) := (Below.refl _ _).alloc (Nat.le_refl _) _
    have x0 := Whole.new w #[.int .i64 op, .int .i64 A, .int .i64 B, .slice K ks.length ck, .slice P ats.length ca, .slice F fs.length cf] 59
    have HB0 := Lib.hid hb0
    have HX := Lib.hid x0
    have HSUB : Hid (∀ (k : Nat) (hk : k < ks.length) w1, Below w.heap.size w w1 → Calls Tryd.prog 51 #[TV.val ks[k].1] w1 fun e w' => ∃ A n c, e = .returned (.slice A n c) ∧ ks[k].2.length = n ∧ OwnN w' w1.heap.size (.slice A n c) n (ks[k].2.map Prod.fst) ∧ Below w1.heap.size w1 w') := Lib.hid fun k hk w1 hb => by
      have hm : ks[k].2 ∈ ks.map Prod.snd := List.mem_map.2 ⟨_, List.getElem_mem hk, rfl⟩
      have hl := treeA_len (n := (op, A, B)) (ats := ats) (fs := fs) hm
      exact ih ks[k].1 ks[k].2 w1 G (by omega) ((sub _ (List.getElem_mem hk)).next hb) (by omega)
    have HKL0 : Hid (∀ (k : Nat) (hk : k < ks.length), ks[k].2.length ≤ 1000000) := Lib.hid fun k hk => by
      have hm : ks[k].2 ∈ ks.map Prod.snd := List.mem_map.2 ⟨_, List.getElem_mem hk, rfl⟩
      have hl := treeA_len (n := (op, A, B)) (ats := ats) (fs := fs) hm
      omega
    have HTL : Hid (∀ k, ((treeA (op, A, B) ats fs ((ks.map Prod.snd).take k)).map Prod.fst).length ≤ 1000000) := Lib.hid fun k => by
      have := treeA_take_len (n := (op, A, B)) (ats := ats) (fs := fs) (ks := ks.map Prod.snd) k
      rw [List.length_map]
      omega
    have HSTEP := Lib.hid fun k (hk : k < ks.length) => row_step (n := (op, A, B)) (ats := ats) (fs := fs) (ks := ks) hk
    have HST : Hid ([(op, A, B)] ++ ats = ((treeA (op, A, B) ats fs ((ks.map Prod.snd).take 0)).map Prod.fst)) := Lib.hid (by
      rw [List.take_zero]
      simp [treeA, kidsA, List.map_map, Function.comp_def])
    have HEND : Hid (((treeA (op, A, B) ats fs ((ks.map Prod.snd).take ks.length)).map Prod.fst) = (treeA (op, A, B) ats fs (ks.map Prod.snd)).map Prod.fst) := Lib.hid (by rw [List.take_of_length_le (by simp)])
    have hal : ats.length ≤ 1000000 := by
      have : ats.length ≤ (treeA (op, A, B) ats fs (ks.map Prod.snd)).length := by
        unfold treeA
        simp only [List.length_cons, List.length_append, List.length_map]
        omega
      omega
    have HAL : Hid ((treeA (op, A, B) ats fs (ks.map Prod.snd)).length = ((treeA (op, A, B) ats fs (ks.map Prod.snd)).map Prod.fst).length) := Lib.hid (List.length_map _).symm
    have hkl : ks.length ≤ 1000000 := by
      have := kids_count (n := (op, A, B)) (ats := ats) (fs := fs) sub
      omega
    have HK := Lib.hid hK.1
    have HP := Lib.hid hA.1
    have HF := Lib.hid hF.1
    have HFX := Lib.hid hfx
    clear hs hK hA hF hv sub ih hN hfx hu
    dsimp only [TV.val]
    generalize treeA (op, A, B) ats fs (ks.map Prod.snd) = ra at *
    have hbl : Below w.heap.size w ((w.alloc (.cells #[.int .i64 op, .int .i64 A, .int .i64 B, .slice K ks.length ck, .slice P ats.length ca, .slice F fs.length cf] 59)).alloc (.cells #[.int .i64 op, .int .i64 A, .int .i64 B] 53)) := hb0.alloc (by simp) _
    have HPL := Lib.hid (HP.out.below hbl)
    have HOL := Lib.hid (show ((w.alloc (.cells #[.int .i64 op, .int .i64 A, .int .i64 B, .slice K ks.length ck, .slice P ats.length ca, .slice F fs.length cf] 59)).alloc (.cells #[.int .i64 op, .int .i64 A, .int .i64 B] 53)).ownsRow 0 53 3 (.slice (some ⟨w.heap.size + 1, 0, none⟩) 1 1) 1 (nodesV [(op, A, B)]) by
      have := World.ownsRow_lit (base := 0) (size := 3) (e := 53) (w.alloc (.cells #[.int .i64 op, .int .i64 A, .int .i64 B, .slice K ks.length ck, .slice P ats.length ca, .slice F fs.length cf] 59)) #[.int .i64 op, .int .i64 A, .int .i64 B] 1 (Nat.zero_le _) (by decide) rfl
      rw [World.size_alloc] at this
      exact this)
    have HBL := Lib.hid (show Below (w.heap.size + 1) (w.alloc (.cells #[.int .i64 op, .int .i64 A, .int .i64 B, .slice K ks.length ck, .slice P ats.length ca, .slice F fs.length cf] 59)) ((w.alloc (.cells #[.int .i64 op, .int .i64 A, .int .i64 B, .slice K ks.length ck, .slice P ats.length ca, .slice F fs.length cf] 59)).alloc (.cells #[.int .i64 op, .int .i64 A, .int .i64 B] 53)) from (Below.refl _ _).alloc (by simp) _)
    have HZL : Hid (w.heap.size < ((w.alloc (.cells #[.int .i64 op, .int .i64 A, .int .i64 B, .slice K ks.length ck, .slice P ats.length ca, .slice F fs.length cf] 59)).alloc (.cells #[.int .i64 op, .int .i64 A, .int .i64 B] 53)).heap.size) := Lib.hid (by simp; omega)
    clear hb0 x0 hbl
    go_enter Tryd.func51, Tryd.ntmps51
    go_wp2_with (at_builtin; go_must (refine wpList_append_tx rfl (.tmp 7) (.tmp 9) _ _ _ rfl Tryd.underlying22 53 _ 3 24 infoNode rfl (by decide) Tryd.underlying23 (.slice (some ⟨w.heap.size + 1, 0, none⟩) 1 1) 1 ats.length _ (nodesV ats) rfl HOL.out P ca rfl hsa HPL.out (by rw [nodesV_len]; try rfl) nodesV_one (by omega) (by decide) ?_); intro v2 w2 hown2 hmv2; obtain ⟨A2, c2, rfl, -, -⟩ := own_slice hown2; have HO2 := Lib.hid hown2; have HM2 := Lib.hid hmv2; clear hown2 hmv2)
    have hg2 := (RGrow.app (s := w.heap.size) (t := [(op, A, B)]) (r := ats) ⟨HOL.out, fun k hk => by simp [Value.ownBlock] at hk; omega⟩ HO2.out HM2.out HZL.out)
    have HG2 := Lib.hid hg2.1
    have HB2 := Lib.hid (HBL.out.trans hg2.2)
    clear hg2
    go_loopw [3, 4] (fun v i wr => ∃ (k m : Nat) (Av : Option Addr) (cv : Nat), v = .slice Av m cv ∧ i = .int .i64 (k : Int) ∧ k ≤ ks.length ∧ Hid (RGrow wr w.heap.size (.slice Av m cv) ((treeA (op, A, B) ats fs ((ks.map Prod.snd).take k)).map Prod.fst)) ∧ ((treeA (op, A, B) ats fs ((ks.map Prod.snd).take k)).map Prod.fst).length = m ∧ Hid (Below (w.heap.size + 1) (w.alloc (.cells #[.int .i64 op, .int .i64 A, .int .i64 B, .slice K ks.length ck, .slice P ats.length ca, .slice F fs.length cf] 59)) wr)) (fun _ i _ => ks.length - (intOf i).toNat)
    case atStart => exact ⟨0, _, _, _, rfl, rfl, Nat.zero_le _, Lib.hid (HST.out ▸ HG2.out), by rw [← HST.out, List.length_append]; rfl, HB2⟩
    case round =>
      obtain ⟨k, m, Av, cv, rfl, rfl, hk, HGR, hlm, HBX⟩ := hrel
      have hm9 : m ≤ 1000000 := by rw [← hlm]; exact HTL.out k
      have HSZ : Hid (w.heap.size + 1 ≤ wr.heap.size) := Lib.hid (by have := HBX.out.size; rwa [World.size_alloc] at this)
      have xr := HX.out.below HBX.out (by omega)
      have d0 : wr.cell? ⟨w.heap.size, 0, none⟩ = some (.int .i64 op) := xr.cell 0
      have d3 : wr.cell? ⟨w.heap.size, 3, none⟩ = some (.slice K ks.length ck) := xr.cell 3
      have d5 : wr.cell? ⟨w.heap.size, 5, none⟩ = some (.slice F fs.length cf) := xr.cell 5
      clear xr
      by_cases hlt : k < ks.length
      · obtain ⟨g, o, rfl, hg, -⟩ := HK.out.at_ (by rw [treesV_len, List.length_map]; omega)
        have HEQ0 := Lib.hid (HSTEP.out k hlt)
        have HREC := Lib.hid (HSUB.out k hlt)
        have HKL := Lib.hid (HKL0.out k hlt)
        have HBS := Lib.hid (show ∀ W, Below (w.heap.size + 1) (w.alloc (.cells #[.int .i64 op, .int .i64 A, .int .i64 B, .slice (some ⟨g, o, none⟩) ks.length ck, .slice P ats.length ca, .slice F fs.length cf] 59)) W → Below w.heap.size w W from fun W hb => HB0.out.trans (hb.mono (by omega)))
        obtain ⟨x, hx⟩ : ∃ x, ks[k].1 = x := ⟨_, rfl⟩
        have hkc := fun W (hb : Below w.heap.size w W) => kid_cells (k := k) (HK.out.below hb) (by rw [List.length_map]; exact hlt)
        simp only [List.getElem_map] at hkc
        rw [hx] at hkc HREC
        clear hx
        obtain ⟨⟨xo, xA, xB⟩, xK, xnk, xck, xP, xnp, xcp, xF, xnf, xcf⟩ := x
        have HFACT : Hid (∀ W, Below (w.heap.size + 1) (w.alloc (.cells #[.int .i64 op, .int .i64 A, .int .i64 B, .slice (some ⟨g, o, none⟩) ks.length ck, .slice P ats.length ca, .slice F fs.length cf] 59)) W → W.cell? ⟨w.heap.size, 0, none⟩ = some (.int .i64 op) ∧ W.cell? ⟨w.heap.size, 3, none⟩ = some (.slice (some ⟨g, o, none⟩) ks.length ck) ∧ W.cell? ⟨w.heap.size, 5, none⟩ = some (.slice F fs.length cf) ∧ W.cell? ⟨g, o + k * 6, none⟩ = some (.int .i64 xo) ∧ W.cell? ⟨g, o + k * 6 + 1, none⟩ = some (.int .i64 xA) ∧ W.cell? ⟨g, o + k * 6 + 2, none⟩ = some (.int .i64 xB) ∧ W.cell? ⟨g, o + k * 6 + 3, none⟩ = some (.slice xK xnk xck) ∧ W.cell? ⟨g, o + k * 6 + 4, none⟩ = some (.slice xP xnp xcp) ∧ W.cell? ⟨g, o + k * 6 + 5, none⟩ = some (.slice xF xnf xcf)) := Lib.hid fun W hb => by
          have xr := HX.out.below hb (by omega)
          have hcs := hkc W (HBS.out W hb)
          have r0 := hcs 0 _ rfl
          rw [Nat.add_zero] at r0
          exact ⟨xr.cell 0, xr.cell 3, xr.cell 5, r0, hcs 1 _ rfl, hcs 2 _ rfl, hcs 3 _ rfl, hcs 4 _ rfl, hcs 5 _ rfl⟩
        clear hkc
        by_cases hf : op = 12 ∧ k % 2 = 0
        · obtain ⟨h12, hk2⟩ := hf
          have e12 : (op == 12) = true := by simpa using h12
          have et : (k : Int).tmod 2 = 0 := by rw [Int.tmod_eq_emod_of_nonneg (Int.natCast_nonneg k)]; omega
          have ed : (k : Int).tdiv 2 = ((k / 2 : Nat) : Int) := by rw [Int.tdiv_eq_ediv_of_nonneg (Int.natCast_nonneg k)]; omega
          have hkf : k / 2 < fs.length := by have := HFX.out h12; omega
          obtain ⟨gf, of_, rfl, hgf, -⟩ := HF.out.at_ (by rw [nodesV_len]; omega)
          have hfr := HF.out.below (HBS.out wr HBX.out)
          obtain ⟨fk, hfk⟩ : ∃ fk, fs[k / 2] = fk := ⟨_, rfl⟩
          have rf0 := hfr.cell (nodesV_get0 hkf)
          have rf1 := hfr.cell (nodesV_get1 hkf)
          have rf2 := hfr.cell (nodesV_get2 hkf)
          rw [← Nat.add_assoc] at rf1 rf2
          rw [hfk] at rf0 rf1 rf2
          have HFA : Hid ((funA (op, A, B) fs k).map Prod.fst = [fk]) := Lib.hid (by unfold funA; rw [if_pos ⟨h12, hk2⟩, List.getD_eq_getElem?_getD, List.getElem?_eq_getElem hkf, hfk]; rfl)
          clear hfr hfk
          obtain ⟨fo, fA, fB⟩ := fk
          obtain ⟨kh, hkh⟩ : ∃ kh, k / 2 = kh := ⟨_, rfl⟩
          have hkb : k / 2 ≤ 1000000 := by omega
          rw [hkh] at ed hkf rf0 rf1 rf2 hkb
          have ew64 : wrap64 ((kh : Nat) : Int) = ((kh : Nat) : Int) := by unfold wrap64; omega
          have HLW := Lib.hid (show Below wr.heap.size wr (wr.alloc (.cells #[.int .i64 fo, .int .i64 fA, .int .i64 fB] 53)) from (Below.refl _ _).alloc (Nat.le_refl _) _)
          have HLH := Lib.hid (holds_at wr #[.int .i64 fo, .int .i64 fA, .int .i64 fB] 53 (nodesV [(fo, fA, fB)]) rfl)
          have HOW := Lib.hid (show (wr.alloc (.cells #[.int .i64 fo, .int .i64 fA, .int .i64 fB] 53)).ownsRow 0 53 3 (.slice Av m cv) m _ by have := (HGR.out.next HLW.out).1; rwa [hlm] at this)
          have HLM0 := Lib.hid hlm
          have HEQ1 := HEQ0
          rw [HFA.out] at HEQ1
          clear hkh hlm hk2 h12
          go_wp2_with (at_builtin; go_must (refine wpList_append_tx rfl (.tmp 27) (.tmp 34) _ _ _ rfl Tryd.underlying23 53 _ 3 24 infoNode rfl (by decide) Tryd.underlying23 (.slice Av m cv) m 1 _ (nodesV [(fo, fA, fB)]) rfl HOW.out (some ⟨wr.heap.size, 0, none⟩) 1 rfl ⟨by omega, by omega, fun h => by cases h⟩ HLH.out rfl nodesV_one (by omega) (by decide) ?_); intro v4 w4 hown4 hmv4; obtain ⟨A4, c4, rfl, -, -⟩ := own_slice hown4; have HO4 := Lib.hid hown4; have HM4 := Lib.hid hmv4; clear hown4 hmv4; obtain ⟨hg4, hb4⟩ := (HGR.out.next HLW.out).app (r := [(fo, fA, fB)]) (by rw [HLM0.out]; exact HO4.out) HM4.out (Nat.lt_of_lt_of_le HSZ.out HLW.out.size); have HB4 := Lib.hid ((HBX.out.trans (HLW.out.mono HSZ.out)).trans hb4); have HG4 := Lib.hid hg4; clear hg4 hb4; obtain ⟨D0, D3, -, R0, R1, R2, R3, R4, R5⟩ := HFACT.out w4 HB4.out)
          have HSZ4 : Hid (w.heap.size + 1 ≤ w4.heap.size) := Lib.hid (by have := HB4.out.size; rwa [World.size_alloc] at this)
          have HLM4 : Hid ((((treeA (op, A, B) ats fs ((ks.map Prod.snd).take k)).map Prod.fst) ++ [(fo, fA, fB)]).length = m + 1) := Lib.hid (by rw [List.length_append, HLM0.out]; rfl)
          have HEQ2 : Hid ((((treeA (op, A, B) ats fs ((ks.map Prod.snd).take k)).map Prod.fst) ++ [(fo, fA, fB)]) ++ ks[k].2.map Prod.fst = ((treeA (op, A, B) ats fs ((ks.map Prod.snd).take (k + 1))).map Prod.fst)) := Lib.hid (by rw [← HEQ1.out, List.append_assoc])
          clear d0 d3 d5 rf0 rf1 rf2 HGR HBX HSZ HEQ1 HEQ0 HLM0 HOW
          generalize ((treeA (op, A, B) ats fs ((ks.map Prod.snd).take k)).map Prod.fst) ++ [(fo, fA, fB)] = L at *
          have HGR := HG4
          have HBX := HB4
          have HSZ := HSZ4
          have HLM := HLM4
          have HEQ := HEQ2
          clear HG4 HB4 HSZ4 HLM4 HEQ2
          refine (HREC.out w4 (HBS.out w4 HBX.out)).mono ?_
          rintro e w5 ⟨Ak, nk', ck', rfl, hnk, hownk, hb5⟩
          obtain ⟨Ak', ck'', e1, hsk, -⟩ := own_slice hownk
          cases e1
          have HHK := Lib.hid (own_holds hownk)
          have HNK := Lib.hid hnk
          have hgr := HGR.out.next hb5
          have HGR5 := Lib.hid hgr
          have HB5 := Lib.hid hb5
          have hnk9 : nk' ≤ 1000000 := by rw [← hnk]; exact HKL.out
          have hon := hgr.1
          rw [HLM.out] at hon
          have HON := Lib.hid hon
          clear hownk hb5 hgr hon hnk
          go_wp2_with (at_builtin; go_must (refine wpList_append_tx rfl (.tmp 36) (.tmp 42) _ _ _ rfl Tryd.underlying23 53 _ 3 24 infoNode rfl (by decide) Tryd.underlying23 (.slice A4 (m + 1) c4) (m + 1) nk' _ (nodesV (ks[k].2.map Prod.fst)) rfl HON.out Ak ck' rfl hsk HHK.out (by rw [nodesV_len, List.length_map, HNK.out]) nodesV_one (by omega) (by decide) ?_); intro v7 w7 hown7 hmv7; obtain ⟨A7, c7, rfl, -, -⟩ := own_slice hown7; have HO7 := Lib.hid hown7; have HM7 := Lib.hid hmv7; clear hown7 hmv7)
          obtain ⟨hg7, hb7⟩ := HGR5.out.app (r := ks[k].2.map Prod.fst) (by rw [HLM.out, List.length_map, HNK.out]; exact HO7.out) HM7.out (Nat.lt_of_lt_of_le HSZ.out HB5.out.size)
          have HG7 := Lib.hid hg7
          have HB7 := Lib.hid ((HBX.out.trans (HB5.out.mono HSZ.out)).trans hb7)
          clear hg7 hb7
          go_roundw
          case rel => exact ⟨k + 1, m + 1 + nk', A7, c7, rfl, by go_num, by omega, Lib.hid (by rw [← HEQ.out]; exact HG7.out), by rw [← HEQ.out, List.length_append, List.length_map, HLM.out, HNK.out], HB7⟩
          case measure => simp [intOf] <;> omega
        · have HEQ : Hid (((treeA (op, A, B) ats fs ((ks.map Prod.snd).take k)).map Prod.fst) ++ ks[k].2.map Prod.fst = ((treeA (op, A, B) ats fs ((ks.map Prod.snd).take (k + 1))).map Prod.fst)) := Lib.hid (by
            have := HEQ0.out
            rwa [show (funA (op, A, B) fs k) = [] by unfold funA; rw [if_neg hf], List.map_nil, List.nil_append] at this)
          have HLM := Lib.hid hlm
          clear HEQ0
          generalize ((treeA (op, A, B) ats fs ((ks.map Prod.snd).take k)).map Prod.fst) = L at *
          by_cases h12 : op = 12
          · have e12 : (op == 12) = true := by simpa using h12
            have et : (k : Int).tmod 2 = 1 := by rw [Int.tmod_eq_emod_of_nonneg (Int.natCast_nonneg k)]; omega
            clear hf h12
            obtain ⟨-, -, -, r0, r1, r2, r3, r4, r5⟩ := HFACT.out wr HBX.out
            go_wp2_with fail
            refine (HREC.out wr (HBS.out wr HBX.out)).mono ?_
            rintro e w5 ⟨Ak, nk', ck', rfl, hnk, hownk, hb5⟩
            obtain ⟨Ak', ck'', e1, hsk, -⟩ := own_slice hownk
            cases e1
            have HHK := Lib.hid (own_holds hownk)
            have HNK := Lib.hid hnk
            have hgr := HGR.out.next hb5
            have HGR5 := Lib.hid hgr
            have HB5 := Lib.hid hb5
            have hnk9 : nk' ≤ 1000000 := by rw [← hnk]; exact HKL.out
            have hon := hgr.1
            rw [HLM.out] at hon
            have HON := Lib.hid hon
            clear hownk hb5 hgr hon hnk
            go_wp2_with (at_builtin; go_must (refine wpList_append_tx rfl (.tmp 36) (.tmp 42) _ _ _ rfl Tryd.underlying23 53 _ 3 24 infoNode rfl (by decide) Tryd.underlying23 (.slice Av m cv) m nk' _ (nodesV (ks[k].2.map Prod.fst)) rfl HON.out Ak ck' rfl hsk HHK.out (by rw [nodesV_len, List.length_map, HNK.out]) nodesV_one (by omega) (by decide) ?_); intro v7 w7 hown7 hmv7; obtain ⟨A7, c7, rfl, -, -⟩ := own_slice hown7; have HO7 := Lib.hid hown7; have HM7 := Lib.hid hmv7; clear hown7 hmv7)
            obtain ⟨hg7, hb7⟩ := HGR5.out.app (r := ks[k].2.map Prod.fst) (by rw [HLM.out, List.length_map, HNK.out]; exact HO7.out) HM7.out (Nat.lt_of_lt_of_le HSZ.out HB5.out.size)
            have HG7 := Lib.hid hg7
            have HB7 := Lib.hid ((HBX.out.trans (HB5.out.mono HSZ.out)).trans hb7)
            clear hg7 hb7
            go_roundw
            case rel => exact ⟨k + 1, m + nk', A7, c7, rfl, by go_num, by omega, Lib.hid (by rw [← HEQ.out]; exact HG7.out), by rw [← HEQ.out, List.length_append, List.length_map, HLM.out, HNK.out], HB7⟩
            case measure => simp [intOf] <;> omega
          · have e12 : (op == 12) = false := by simpa using h12
            clear hf
            obtain ⟨-, -, -, r0, r1, r2, r3, r4, r5⟩ := HFACT.out wr HBX.out
            go_wp2_with fail
            refine (HREC.out wr (HBS.out wr HBX.out)).mono ?_
            rintro e w5 ⟨Ak, nk', ck', rfl, hnk, hownk, hb5⟩
            obtain ⟨Ak', ck'', e1, hsk, -⟩ := own_slice hownk
            cases e1
            have HHK := Lib.hid (own_holds hownk)
            have HNK := Lib.hid hnk
            have hgr := HGR.out.next hb5
            have HGR5 := Lib.hid hgr
            have HB5 := Lib.hid hb5
            have hnk9 : nk' ≤ 1000000 := by rw [← hnk]; exact HKL.out
            have hon := hgr.1
            rw [HLM.out] at hon
            have HON := Lib.hid hon
            clear hownk hb5 hgr hon hnk
            go_wp2_with (at_builtin; go_must (refine wpList_append_tx rfl (.tmp 36) (.tmp 42) _ _ _ rfl Tryd.underlying23 53 _ 3 24 infoNode rfl (by decide) Tryd.underlying23 (.slice Av m cv) m nk' _ (nodesV (ks[k].2.map Prod.fst)) rfl HON.out Ak ck' rfl hsk HHK.out (by rw [nodesV_len, List.length_map, HNK.out]) nodesV_one (by omega) (by decide) ?_); intro v7 w7 hown7 hmv7; obtain ⟨A7, c7, rfl, -, -⟩ := own_slice hown7; have HO7 := Lib.hid hown7; have HM7 := Lib.hid hmv7; clear hown7 hmv7)
            obtain ⟨hg7, hb7⟩ := HGR5.out.app (r := ks[k].2.map Prod.fst) (by rw [HLM.out, List.length_map, HNK.out]; exact HO7.out) HM7.out (Nat.lt_of_lt_of_le HSZ.out HB5.out.size)
            have HG7 := Lib.hid hg7
            have HB7 := Lib.hid ((HBX.out.trans (HB5.out.mono HSZ.out)).trans hb7)
            clear hg7 hb7
            go_roundw
            case rel => exact ⟨k + 1, m + nk', A7, c7, rfl, by go_num, by omega, Lib.hid (by rw [← HEQ.out]; exact HG7.out), by rw [← HEQ.out, List.length_append, List.length_map, HLM.out, HNK.out], HB7⟩
            case measure => simp [intOf] <;> omega
      · have hkm : k = ks.length := by omega
        have hgr := HGR.out
        have hE : ((treeA (op, A, B) ats fs ((ks.map Prod.snd).take k)).map Prod.fst) = ra.map Prod.fst := by rw [hkm]; exact HEND.out
        rw [hE] at hgr hlm
        have HFIN := Lib.hid (hgr.own hlm (Nat.le_refl _))
        have HBW := Lib.hid (HB0.out.trans (HBX.out.mono (by omega)))
        have HLN : Hid (ra.length = m) := Lib.hid (HAL.out.trans hlm)
        clear hkm hgr hE hlm
        go_wp2_with fail
        go_ret
        exact ⟨_, _, _, rfl, HLN.out, HFIN.out, HBW.out⟩
end Go.Proofs.YtkkkblghihheeaaDoor
