/- The way to the laws of books: BNum to BNum. -/
import Derived.Test.YtfeodppdmbideaaGreatDoorBA12
namespace Go.Proofs.YtfeodppdmbideaaGreatDoor
open Go.RowKit

/-- A book that may be looked at. -/
structure BookOk (w : World) (b : BookT) : Prop where
  inn : BookIn w b
  wide : WideBook b
  ents : ∀ x ∈ b.ents.2.2, EntOk w x
  few : b.ords.2.2.length ≤ 4611686018427387904 ∧ b.ents.2.2.length ≤ 4611686018427387904 ∧ b.prims.2.2.length ≤ 4611686018427387904
theorem BookOk.below {w w' : World} {b : BookT} (h : BookOk w b) (hb : Below w.heap.size w w') : BookOk w' b := ⟨h.inn.below hb, h.wide, fun x hx => (h.ents x hx).below hb, h.few⟩
theorem BookOk.turn {g : Nat} {w w' : World} {b : BookT} (h : BookOk w b) (t : Turn g w w') : BookOk w' b := ⟨h.inn.turn t, h.wide, fun x hx => (h.ents x hx).turn t, h.few⟩
theorem name_ind {ents : List EntP} {n : Nat} {e : Int} : nameB ents n (9, e, 0) = kindB ents 1 e n := by simp [nameB]
set_option maxRecDepth 100000 in
set_option maxHeartbeats 8000000 in
theorem numbers_any (vars : Int) (g m : Nat) (v : Int) (oA eA pA : Option Addr) (on_ oc en ec pn pc : Nat) (nat : Int) (l : List EntT) (ents : List EntP) (ords : List Node3) (prims : List (Int × Int)) (w : World) (hl : l.length = en) (he : l.map EntT.p = ents) (hA : Holds w eA (entsCV l)) (hok : ∀ x ∈ l, EntOk w x) (hen : en ≤ 64)
    (hs4 : ∀ x ∈ l, x.sort.2.2.length ≤ 4096) (hr4 : ∀ x ∈ l, ∀ c ∈ x.ctors.2.2, ∀ r ∈ c.args.2.2, r.2.2.length ≤ 4096) (hnat : I64 nat) (hN : OwnsN w g m (nameB ents en)) :
    Calls Tryz.prog 82 #[scopeA vars g, .agg #[.int .i64 v, .slice oA on_ oc, .slice eA en ec, .int .i64 nat, .slice pA pn pc]] w fun e w' => e = .returned (.bool (natB ⟨v, ords, ents, nat, prims⟩)) ∧ Below w.heap.size w w' := by
  obtain ⟨r, hr⟩ : ∃ r, r = natB ⟨v, ords, ents, nat, prims⟩ := ⟨_, rfl⟩
  rw [← hr]
  unfold natB at hr
  simp only at hr
  have hel : ents.length = en := by rw [← he, List.length_map, hl]
  rw [hel] at hr
  have hbx : Below w.heap.size w ((w.alloc (.cells #[.int .i64 vars, .map (some g)] 74)).alloc (bookBox v oA eA pA on_ oc en ec pn pc nat)) := ((Below.refl _ _).alloc (Nat.le_refl _) _).alloc (by simp) _
  have HR := Lib.hid hr
  have HBX := Lib.hid hbx
  by_cases h1 : nat = -1
  · subst h1
    have HX : Hid (r = true) := Lib.hid (by rw [HR.out]; rfl)
    clear hr hA hok hN
    go_enter Tryz.func82, Tryz.ntmps82
    go_wp2_with fail
    go_ret
    exact ⟨ret_bool HX.out.symm, HBX.out⟩
  have e1 : (nat == -1) = false := by simpa using h1
  have hr2 : r = (kindB ents 1 nat en && (match ents[nat.toNat]? with | some x => numX nat x | none => false)) := by rw [hr, decide_eq_false h1]; exact Bool.false_or _
  have hbn : Below w.heap.size w (((w.alloc (.cells #[.int .i64 vars, .map (some g)] 74)).alloc (bookBox v oA eA pA on_ oc en ec pn pc nat)).alloc (.cells #[.int .i64 9, .int .i64 nat, .int .i64 0] 67)) := below_alloc hbx _
  have HK := Lib.hid (knows_any vars g m (nameB ents en) (9, nat, 0) _ (hN.below hbn) ⟨by unfold I64; simp, hnat, by unfold I64; simp⟩)
  rw [name_ind] at HK
  have HBN := Lib.hid hbn
  have HBK0 := Lib.hid ((holds_at (w.alloc (.cells #[.int .i64 vars, .map (some g)] 74)) #[.int .i64 v, .slice oA on_ oc, .slice eA en ec, .int .i64 nat, .slice pA pn pc] 26 _ rfl).alloc (.cells #[.int .i64 9, .int .i64 nat, .int .i64 0] 67))
  have HND0 := Lib.hid (holds_at ((w.alloc (.cells #[.int .i64 vars, .map (some g)] 74)).alloc (bookBox v oA eA pA on_ oc en ec pn pc nat)) #[.int .i64 9, .int .i64 nat, .int .i64 0] 67 _ rfl)
  simp only [World.size_alloc] at HBK0 HND0
  by_cases hk : kindB ents 1 nat en = true
  case neg =>
    rw [Bool.not_eq_true] at hk
    rw [hk, Bool.false_and] at hr2
    rw [hk] at HK
    have HX := Lib.hid hr2
    clear hr hr2 hA hok hN hk hbx hbn
    go_enter Tryz.func82, Tryz.ntmps82
    go_wp2_with fail
    refine (HK.out).mono ?_
    rintro e w1 ⟨rfl, hb1⟩
    go_wp2_with fail
    go_ret
    exact ⟨ret_bool HX.out.symm, below_step HBN.out hb1⟩
  obtain ⟨hk0, hk1⟩ := kind_lt hk
  obtain ⟨k, rfl⟩ : ∃ k : Nat, nat = k := ⟨nat.toNat, by omega⟩
  have hkn : k < en := by omega
  have hkl : k < l.length := by omega
  have hke : k < ents.length := by omega
  rw [hk, Bool.true_and, Int.toNat_natCast, List.getElem?_eq_getElem hke] at hr2
  rw [hk] at HK
  simp only at hr2
  have hep : ents[k] = l[k].p := by
    subst he
    rw [List.getElem_map]
  rw [hep] at hr2
  have hxk := hok _ (List.getElem_mem hkl)
  have hsk := hs4 _ (List.getElem_mem hkl)
  have hrk := hr4 _ (List.getElem_mem hkl)
  obtain ⟨be0, oe, rfl, hlt0, -⟩ := hA.at_ (by rw [entsCV_len]; omega)
  have HEC := Lib.hid (fun W (hb : Below w.heap.size w W) => ents_cells (hA.below hb) hkl)
  clear hA hok hs4 hr4 hep hN hr hk HR e1 hbx hbn he hel
  generalize l[k] = x at *
  obtain ⟨kd, ⟨sA, sc, ts⟩, ⟨qA, qc, lp⟩, ⟨jA, jc, lj⟩, ⟨cA, cc, lc⟩, ⟨tA, tc, tt⟩, ⟨bA, bc, tb⟩⟩ := x
  obtain ⟨⟨hs, -, -, hc, -, -⟩, -, -, -, hck⟩ := hxk
  obtain ⟨sn, hsn⟩ : ∃ n, ts.length = n := ⟨_, rfl⟩
  obtain ⟨qn, hqn⟩ : ∃ n, lp.length = n := ⟨_, rfl⟩
  obtain ⟨jn, hjn⟩ : ∃ n, lj.length = n := ⟨_, rfl⟩
  obtain ⟨cn, hcn⟩ : ∃ n, lc.length = n := ⟨_, rfl⟩
  obtain ⟨tn, htn⟩ : ∃ n, tt.length = n := ⟨_, rfl⟩
  obtain ⟨bn, hbn⟩ : ∃ n, tb.length = n := ⟨_, rfl⟩
  simp only [rowV, rowsV, ctorsV, hsn, hqn, hjn, hcn, htn, hbn] at HEC hsk hrk
  have HTS := Lib.hid (show ts.length = sn ∧ ∀ W, Below w.heap.size w W → Holds W sA (nodesV ts) from ⟨hsn, fun W hb => hs.2.below hb⟩)
  have HCS := Lib.hid (show (∀ W, Below w.heap.size w W → Holds W cA (ctorsCV lc) ∧ ∀ c ∈ lc, CtorOk W c) ∧ lc.length = cn from ⟨fun W hb => ⟨hc.2.1.below hb, fun c h => (hck c h).below hb⟩, hcn⟩)
  have hq0 : (lp.map fun y => y.2.2) = [] ↔ qn = 0 := by rw [← hqn]; simp
  have hj0 : (lj.map fun y => y.2.2) = [] ↔ jn = 0 := by rw [← hjn]; simp
  unfold numX EntT.p rowsP at hr2
  simp only [hq0, hj0] at hr2
  have HR2 := Lib.hid hr2
  have HRK := Lib.hid hrk
  clear hr2 hrk hs hc hck hsn hqn hjn hcn htn hbn hq0 hj0
  go_enter Tryz.func82, Tryz.ntmps82
  go_wp2_with fail
  refine (HK.out).mono ?_
  rintro e w1 ⟨rfl, hb1⟩
  have HB1 := Lib.hid (below_step HBN.out hb1)
  have HBK1 := Lib.hid (HBK0.out.below hb1)
  have HND1 := Lib.hid (HND0.out.below hb1)
  have k2 := HBK1.out.cell (j := 2) rfl
  have k3 := HBK1.out.cell (j := 3) rfl
  rw [Nat.zero_add] at k2 k3
  obtain ⟨r0, r1, r2, r3, r4, r5, r6⟩ := HEC.out _ HB1.out
  clear hb1 HEC HBK0 HND0 HK HBN HBX
  by_cases h2 : qn = 0 ∧ jn = 0 ∧ cn = 2
  case neg =>
    have HX : Hid (r = false) := Lib.hid (by
      rw [HR2.out]
      by_cases h3 : qn = 0 ∧ jn = 0
      · have h4 : cn ≠ 2 := by omega
        have h5 := HCS.out.2
        match lc, h5 with
        | [], _ => simp
        | [_], _ => simp
        | [_, _], h5 => simp at h5; omega
        | _ :: _ :: _ :: _, _ => simp
      · rw [decide_eq_false (fun h => h3 ⟨h.2.1, h.2.2⟩), Bool.false_and])
    have HB2 := Lib.hid (below_alloc HB1.out (.cells #[.int .i64 kd, .slice sA sn sc, .slice qA qn qc, .slice jA jn jc, .slice cA cn cc, .slice tA tn tc, .slice bA bn bc] 60))
    clear HR2
    by_cases z1 : 0 < qn
    · go_wp2_with fail
      go_ret
      exact ⟨ret_bool HX.out.symm, HB2.out⟩
    obtain rfl : qn = 0 := by omega
    by_cases z2 : 0 < jn
    · go_wp2_with fail
      go_ret
      exact ⟨ret_bool HX.out.symm, HB2.out⟩
    obtain rfl : jn = 0 := by omega
    have z3 : ((cn : Int) != 2) = true := by simp; omega
    go_wp2_with fail
    go_ret
    exact ⟨ret_bool HX.out.symm, HB2.out⟩
  obtain ⟨rfl, rfl, rfl⟩ := h2
  obtain ⟨z, u, rfl⟩ : ∃ z u, lc = [z, u] := by
    match lc, HCS.out.2 with
    | [z, u], _ => exact ⟨z, u, rfl⟩
  obtain ⟨⟨zA, zc, lz⟩, ⟨yA, yc, ly⟩⟩ := z
  obtain ⟨⟨uA, uc, lu⟩, ⟨vA, vc, lv⟩⟩ := u
  obtain ⟨zn, hzn⟩ : ∃ n, lz.length = n := ⟨_, rfl⟩
  obtain ⟨yn, hyn⟩ : ∃ n, ly.length = n := ⟨_, rfl⟩
  obtain ⟨un, hun⟩ : ∃ n, lu.length = n := ⟨_, rfl⟩
  obtain ⟨vn, hvn⟩ : ∃ n, lv.length = n := ⟨_, rfl⟩
  obtain ⟨hhc, hhk⟩ := HCS.out.1 _ HB1.out
  obtain ⟨bcx, ocx, rfl, hlc, -⟩ := hhc.at_ (by rw [ctorsCV_len]; simp)
  have hbe : Below w1.heap.size w1 (w1.alloc (.cells #[.int .i64 kd, .slice sA sn sc, .slice qA 0 qc, .slice jA 0 jc, .slice (some ⟨bcx, ocx, none⟩) 2 cc, .slice tA tn tc, .slice bA bn bc] 60)) := (Below.refl _ _).alloc (Nat.le_refl _) _
  obtain ⟨z0, z1⟩ := ctors_cells (hhc.below hbe) (k := 0) (by simp)
  obtain ⟨u0, u1⟩ := ctors_cells (hhc.below hbe) (k := 1) (by simp)
  simp only [List.getElem_cons_zero, List.getElem_cons_succ, rowsV, hzn, hyn, hun, hvn, Nat.zero_mul, Nat.add_zero, Nat.one_mul] at z0 z1 u0 u1
  rw [show ocx + 2 + 1 = ocx + 3 from rfl] at u1
  have HUK := Lib.hid (hhk _ (List.mem_cons_of_mem _ (List.mem_singleton.2 rfl)))
  have HUN := Lib.hid hun
  have hz0 : (lz.map fun y => y.2.2) = [] ↔ zn = 0 := by rw [← hzn]; simp
  have HV : Hid (r = (decide (ts = [(2, 1, 1), (3, 0, 0)]) && decide (zn = 0) && decide ((lu.map fun y => y.2.2) = [[(9, (k : Int), 0)]]))) := Lib.hid (by
    rw [HR2.out]
    simp only [List.map_cons, List.map_nil, CtorT.p, rowsP, hz0, and_true]
    rw [Bool.decide_and, Bool.and_assoc])
  obtain ⟨v1, hv1⟩ : ∃ v1, v1 = decide (ts = [(2, 1, 1), (3, 0, 0)]) := ⟨_, rfl⟩
  rw [← hv1] at HV
  have HV1 := Lib.hid hv1
  have HBE := Lib.hid hbe
  have HEB := Lib.hid (holds_at w1 #[.int .i64 kd, .slice sA sn sc, .slice qA 0 qc, .slice jA 0 jc, .slice (some ⟨bcx, ocx, none⟩) 2 cc, .slice tA tn tc, .slice bA bn bc] 60 _ rfl)
  clear hhc hhk hbe hz0 hzn hyn hun hvn hv1 HR2 HCS
  have HLC : Hid (bcx < (w1.alloc (.cells #[.int .i64 kd, .slice sA sn sc, .slice qA 0 qc, .slice jA 0 jc, .slice (some ⟨bcx, ocx, none⟩) 2 cc, .slice tA tn tc, .slice bA bn bc] 60)).heap.size ∧ w1.heap.size < (w1.alloc (.cells #[.int .i64 kd, .slice sA sn sc, .slice qA 0 qc, .slice jA 0 jc, .slice (some ⟨bcx, ocx, none⟩) 2 cc, .slice tA tn tc, .slice bA bn bc] 60)).heap.size) := Lib.hid (by rw [World.size_alloc]; omega)
  have HZU := Lib.hid (show _ ∧ _ ∧ _ ∧ _ from ⟨z0, z1, u0, u1⟩)
  clear z0 z1 u0 u1 hlc
  go_upto_region 9 with fail
  generalize (w1.alloc (.cells #[.int .i64 kd, .slice sA sn sc, .slice qA 0 qc, .slice jA 0 jc, .slice (some ⟨bcx, ocx, none⟩) 2 cc, .slice tA tn tc, .slice bA bn bc] 60)) = wE at *
  obtain ⟨z0, z1, u0, u1⟩ := HZU.out
  have hlc := HLC.out.1
  have hlw := HLC.out.2
  have e4 := HEB.out.cell (j := 4) rfl
  rw [Nat.zero_add] at e4
  go_cut [7, 8] from 9 to 75 (fun s7 s8 wx => ∃ g7 g8 : Nat, s7 = .pointer (some ⟨g7, 0, none⟩) ∧ s8 = .pointer (some ⟨g8, 0, none⟩) ∧ wx.cell? ⟨g7, 0, none⟩ = some (.slice zA zn zc) ∧ wx.cell? ⟨g8, 0, none⟩ = some (.slice uA un uc) ∧
    Below wE.heap.size wE wx)
  case first =>
    go_region
    · go_wp2_with fail
      go_meet
      exact ⟨wE.heap.size, wE.heap.size + 1, rfl, rfl, by simp, by simp, (((Below.refl _ _).alloc (Nat.le_refl _) _).alloc (by simp) _).drew⟩
    · go_wp2_with fail
      go_meet
      exact ⟨wE.heap.size + 1, wE.heap.size, rfl, rfl, by simp, by simp, (((Below.refl _ _).alloc (Nat.le_refl _) _).alloc (by simp) _).drew⟩
  case rest =>
  obtain ⟨g7, g8, rfl, rfl, hg7, hg8, hbc⟩ := hcut
  have hbw := below_step HBE.out hbc
  have HBC := Lib.hid (below_step HB1.out hbw)
  have HBW := Lib.hid hbw
  have HEC := Lib.hid (HEB.out.below hbc)
  have HND := Lib.hid (HND1.out.below hbw)
  have HG := Lib.hid (show ∀ W, Below wc.heap.size wc W → W.cell? ⟨g7, 0, none⟩ = some (.slice zA zn zc) ∧ W.cell? ⟨g8, 0, none⟩ = some (.slice uA un uc) from fun W hb => ⟨(hb.cell (p := ⟨g7, 0, none⟩) (World.block_lt_of_cell? _ _ hg7)).trans hg7, (hb.cell (p := ⟨g8, 0, none⟩) (World.block_lt_of_cell? _ _ hg8)).trans hg8⟩)
  clear hg7 hg8 hbc hbw z0 z1 u0 u1 hlc hlw e4 HLC HZU k2 k3 r0 r1 r2 r3 r4 r5 r6 HBE HEB HND1 HB1 HBK1
  have HSR := Lib.hid (show ∀ W, Below wc.heap.size wc W → W.cell? ⟨w1.heap.size, 1, none⟩ = some (.slice sA sn sc) ∧ W.cell? ⟨g7, 0, none⟩ = some (.slice zA zn zc) ∧ W.cell? ⟨g8, 0, none⟩ = some (.slice uA un uc) ∧ (W.cell? ⟨w.heap.size + 1 + 1, 0, none⟩ = some (.int .i64 9) ∧ W.cell? ⟨w.heap.size + 1 + 1, 1, none⟩ = some (.int .i64 (k : Int)) ∧ W.cell? ⟨w.heap.size + 1 + 1, 2, none⟩ = some (.int .i64 0)) from fun W hb => by
    have a1 := (HEC.out.below hb).cell (j := 1) rfl
    have b0 := (HND.out.below hb).cell (j := 0) rfl
    have b1 := (HND.out.below hb).cell (j := 1) rfl
    have b2 := (HND.out.below hb).cell (j := 2) rfl
    rw [Nat.zero_add] at a1 b0 b1 b2
    exact ⟨a1, (HG.out W hb).1, (HG.out W hb).2, b0, b1, b2⟩)
  cases v1 with
  | false =>
    have HV : Hid (r = false) := Lib.hid (by rw [HV.out]; rfl)
    go_wp2_with fail
    refine region_begin (S := fun W => W.cell? ⟨w1.heap.size, 1, none⟩ = some (.slice sA sn sc) ∧ W.cell? ⟨g7, 0, none⟩ = some (.slice zA zn zc) ∧ W.cell? ⟨g8, 0, none⟩ = some (.slice uA un uc) ∧ (W.cell? ⟨w.heap.size + 1 + 1, 0, none⟩ = some (.int .i64 9) ∧ W.cell? ⟨w.heap.size + 1 + 1, 1, none⟩ = some (.int .i64 (k : Int)) ∧ W.cell? ⟨w.heap.size + 1 + 1, 2, none⟩ = some (.int .i64 0))) (by kernel_rfl) (HSR.out _ (below_drewN (Below.refl _ _) 1)) (fun hHeld => ?_)
    refine region_take 0 ?_ rfl (by kernel_rfl) (by rfl) hHeld ?_ ?_
    rotate_left
    · intro w hSw
      (try dsimp only at hSw)
      go_simp
      try with_reducible rfl
    try simp only [Act.put, List.setIfInBounds_toArray, List.set_cons_zero, List.set_cons_succ]
    refine region_take 1 ?_ rfl (by kernel_rfl) (by rfl) hHeld ?_ ?_
    rotate_left
    · intro w hSw
      (try dsimp only at hSw)
      go_simp
      try with_reducible rfl
    try simp only [Act.put, List.setIfInBounds_toArray, List.set_cons_zero, List.set_cons_succ]
    refine region_take 2 ?_ rfl (by kernel_rfl) (by rfl) hHeld ?_ ?_
    rotate_left
    · intro w hSw
      (try dsimp only at hSw)
      go_simp
      try with_reducible rfl
    try simp only [Act.put, List.setIfInBounds_toArray, List.set_cons_zero, List.set_cons_succ]
    refine region_take 3 ?_ rfl (by kernel_rfl) (by rfl) hHeld ?_ ?_
    rotate_left
    · intro w hSw
      (try dsimp only at hSw)
      go_simp
      try with_reducible rfl
    try simp only [Act.put, List.setIfInBounds_toArray, List.set_cons_zero, List.set_cons_succ]
    refine region_call 4 rfl (by kernel_rfl) (by rfl) (fun K hK => ?_)
    go_simp
    have HBL := Lib.hid (show Below wc.heap.size wc (wc.drew.alloc (.cells #[.int .i64 2, .int .i64 1, .int .i64 1, .int .i64 3, .int .i64 0, .int .i64 0] 67)) from below_alloc (below_drewN (Below.refl _ _) 1) _)
    have HLH := Lib.hid (show Holds (wc.drew.alloc (.cells #[.int .i64 2, .int .i64 1, .int .i64 1, .int .i64 3, .int .i64 0, .int .i64 0] 67)) (some ⟨wc.heap.size, 0, none⟩) (nodesV [(2, 1, 1), (3, 0, 0)]) from holds_at wc.drew #[.int .i64 2, .int .i64 1, .int .i64 1, .int .i64 3, .int .i64 0, .int .i64 0] 67 _ rfl)
    refine hK.out _ _ (HSR.out _ HBL.out) (fun hHeld => ?_)
    clear hK K
    try simp only [Act.put, List.setIfInBounds_toArray, List.set_cons_zero, List.set_cons_succ]
    refine region_call 5 rfl (by kernel_rfl) (by rfl) (fun K hK => ?_)
    go_simp
    refine (equal_n sA (some ⟨wc.heap.size, 0, none⟩) sn 2 sc 2 ts [(2, 1, 1), (3, 0, 0)] _ HTS.out.1 rfl (HTS.out.2 _ (below_step HBC.out HBL.out)) HLH.out (by omega) false HV1.out).mono ?_
    rintro e w2 ⟨rfl, hb2⟩
    have HB2 := Lib.hid (below_step HBL.out hb2)
    clear hb2
    refine hK.out _ _ (HSR.out _ HB2.out) (fun hHeld => ?_)
    clear hK K
    try simp only [Act.put, List.setIfInBounds_toArray, List.set_cons_zero, List.set_cons_succ]
    refine region_take 6 ?_ rfl (by kernel_rfl) (by rfl) hHeld ?_ ?_
    rotate_left
    · intro w hSw
      (try dsimp only at hSw)
      go_simp
      try with_reducible rfl
    try simp only [Act.put, List.setIfInBounds_toArray, List.set_cons_zero, List.set_cons_succ]
    have HZ := HB2
    refine region_skip 7 rfl (by kernel_rfl) (by rfl) hHeld ?_
    try simp only [Act.put, List.setIfInBounds_toArray, List.set_cons_zero, List.set_cons_succ]
    refine region_skip 8 rfl (by kernel_rfl) (by rfl) hHeld ?_
    try simp only [Act.put, List.setIfInBounds_toArray, List.set_cons_zero, List.set_cons_succ]
    refine region_skip 9 rfl (by kernel_rfl) (by rfl) hHeld ?_
    try simp only [Act.put, List.setIfInBounds_toArray, List.set_cons_zero, List.set_cons_succ]
    refine region_skip 10 rfl (by kernel_rfl) (by rfl) hHeld ?_
    try simp only [Act.put, List.setIfInBounds_toArray, List.set_cons_zero, List.set_cons_succ]
    refine region_take 11 ?_ rfl (by kernel_rfl) (by rfl) hHeld ?_ ?_
    rotate_left
    · intro w hSw
      (try dsimp only at hSw)
      go_simp
      try with_reducible rfl
    try simp only [Act.put, List.setIfInBounds_toArray, List.set_cons_zero, List.set_cons_succ]
    refine region_take 12 ?_ rfl (by kernel_rfl) (by rfl) hHeld ?_ ?_
    rotate_left
    · intro w hSw
      (try dsimp only at hSw)
      go_simp
      try with_reducible rfl
    try simp only [Act.put, List.setIfInBounds_toArray, List.set_cons_zero, List.set_cons_succ]
    refine region_skip 13 rfl (by kernel_rfl) (by rfl) hHeld ?_
    try simp only [Act.put, List.setIfInBounds_toArray, List.set_cons_zero, List.set_cons_succ]
    refine region_skip 14 rfl (by kernel_rfl) (by rfl) hHeld ?_
    try simp only [Act.put, List.setIfInBounds_toArray, List.set_cons_zero, List.set_cons_succ]
    refine region_skip 15 rfl (by kernel_rfl) (by rfl) hHeld ?_
    try simp only [Act.put, List.setIfInBounds_toArray, List.set_cons_zero, List.set_cons_succ]
    refine region_skip 16 rfl (by kernel_rfl) (by rfl) hHeld ?_
    try simp only [Act.put, List.setIfInBounds_toArray, List.set_cons_zero, List.set_cons_succ]
    refine region_take 17 ?_ rfl (by kernel_rfl) (by rfl) hHeld ?_ ?_
    rotate_left
    · intro w hSw
      (try dsimp only at hSw)
      go_simp
      try with_reducible rfl
    try simp only [Act.put, List.setIfInBounds_toArray, List.set_cons_zero, List.set_cons_succ]
    refine region_take 18 ?_ rfl (by kernel_rfl) (by rfl) hHeld ?_ ?_
    rotate_left
    · intro w hSw
      (try dsimp only at hSw)
      go_simp
      try with_reducible rfl
    try simp only [Act.put, List.setIfInBounds_toArray, List.set_cons_zero, List.set_cons_succ]
    refine region_skip 19 rfl (by kernel_rfl) (by rfl) hHeld ?_
    try simp only [Act.put, List.setIfInBounds_toArray, List.set_cons_zero, List.set_cons_succ]
    refine region_skip 20 rfl (by kernel_rfl) (by rfl) hHeld ?_
    try simp only [Act.put, List.setIfInBounds_toArray, List.set_cons_zero, List.set_cons_succ]
    refine region_skip 21 rfl (by kernel_rfl) (by rfl) hHeld ?_
    try simp only [Act.put, List.setIfInBounds_toArray, List.set_cons_zero, List.set_cons_succ]
    refine region_skip 22 rfl (by kernel_rfl) (by rfl) hHeld ?_
    try simp only [Act.put, List.setIfInBounds_toArray, List.set_cons_zero, List.set_cons_succ]
    refine region_skip 23 rfl (by kernel_rfl) (by rfl) hHeld ?_
    try simp only [Act.put, List.setIfInBounds_toArray, List.set_cons_zero, List.set_cons_succ]
    refine region_skip 24 rfl (by kernel_rfl) (by rfl) hHeld ?_
    try simp only [Act.put, List.setIfInBounds_toArray, List.set_cons_zero, List.set_cons_succ]
    refine region_skip 25 rfl (by kernel_rfl) (by rfl) hHeld ?_
    try simp only [Act.put, List.setIfInBounds_toArray, List.set_cons_zero, List.set_cons_succ]
    refine region_take 26 ?_ rfl (by kernel_rfl) (by rfl) hHeld ?_ ?_
    rotate_left
    · intro w hSw
      (try dsimp only at hSw)
      go_simp
      try with_reducible rfl
    try simp only [Act.put, List.setIfInBounds_toArray, List.set_cons_zero, List.set_cons_succ]
    refine region_take 27 ?_ rfl (by kernel_rfl) (by rfl) hHeld ?_ ?_
    rotate_left
    · intro w hSw
      (try dsimp only at hSw)
      go_simp
      try with_reducible rfl
    try simp only [Act.put, List.setIfInBounds_toArray, List.set_cons_zero, List.set_cons_succ]
    refine region_done (by kernel_rfl) ?_
    go_wp2_with fail
    go_ret
    exact ⟨ret_bool HV.out.symm, below_step HBC.out HZ.out⟩
  | true =>
  by_cases hz : zn = 0
  case neg =>
    have HV : Hid (r = false) := Lib.hid (by rw [HV.out, decide_eq_false hz]; rfl)
    have hzb : ((zn : Int) == 0) = false := by simp; omega
    go_wp2_with fail
    refine region_begin (S := fun W => W.cell? ⟨w1.heap.size, 1, none⟩ = some (.slice sA sn sc) ∧ W.cell? ⟨g7, 0, none⟩ = some (.slice zA zn zc) ∧ W.cell? ⟨g8, 0, none⟩ = some (.slice uA un uc) ∧ (W.cell? ⟨w.heap.size + 1 + 1, 0, none⟩ = some (.int .i64 9) ∧ W.cell? ⟨w.heap.size + 1 + 1, 1, none⟩ = some (.int .i64 (k : Int)) ∧ W.cell? ⟨w.heap.size + 1 + 1, 2, none⟩ = some (.int .i64 0))) (by kernel_rfl) (HSR.out _ (below_drewN (Below.refl _ _) 1)) (fun hHeld => ?_)
    refine region_take 0 ?_ rfl (by kernel_rfl) (by rfl) hHeld ?_ ?_
    rotate_left
    · intro w hSw
      (try dsimp only at hSw)
      go_simp
      try with_reducible rfl
    try simp only [Act.put, List.setIfInBounds_toArray, List.set_cons_zero, List.set_cons_succ]
    refine region_take 1 ?_ rfl (by kernel_rfl) (by rfl) hHeld ?_ ?_
    rotate_left
    · intro w hSw
      (try dsimp only at hSw)
      go_simp
      try with_reducible rfl
    try simp only [Act.put, List.setIfInBounds_toArray, List.set_cons_zero, List.set_cons_succ]
    refine region_take 2 ?_ rfl (by kernel_rfl) (by rfl) hHeld ?_ ?_
    rotate_left
    · intro w hSw
      (try dsimp only at hSw)
      go_simp
      try with_reducible rfl
    try simp only [Act.put, List.setIfInBounds_toArray, List.set_cons_zero, List.set_cons_succ]
    refine region_take 3 ?_ rfl (by kernel_rfl) (by rfl) hHeld ?_ ?_
    rotate_left
    · intro w hSw
      (try dsimp only at hSw)
      go_simp
      try with_reducible rfl
    try simp only [Act.put, List.setIfInBounds_toArray, List.set_cons_zero, List.set_cons_succ]
    refine region_call 4 rfl (by kernel_rfl) (by rfl) (fun K hK => ?_)
    go_simp
    have HBL := Lib.hid (show Below wc.heap.size wc (wc.drew.alloc (.cells #[.int .i64 2, .int .i64 1, .int .i64 1, .int .i64 3, .int .i64 0, .int .i64 0] 67)) from below_alloc (below_drewN (Below.refl _ _) 1) _)
    have HLH := Lib.hid (show Holds (wc.drew.alloc (.cells #[.int .i64 2, .int .i64 1, .int .i64 1, .int .i64 3, .int .i64 0, .int .i64 0] 67)) (some ⟨wc.heap.size, 0, none⟩) (nodesV [(2, 1, 1), (3, 0, 0)]) from holds_at wc.drew #[.int .i64 2, .int .i64 1, .int .i64 1, .int .i64 3, .int .i64 0, .int .i64 0] 67 _ rfl)
    refine hK.out _ _ (HSR.out _ HBL.out) (fun hHeld => ?_)
    clear hK K
    try simp only [Act.put, List.setIfInBounds_toArray, List.set_cons_zero, List.set_cons_succ]
    refine region_call 5 rfl (by kernel_rfl) (by rfl) (fun K hK => ?_)
    go_simp
    refine (equal_n sA (some ⟨wc.heap.size, 0, none⟩) sn 2 sc 2 ts [(2, 1, 1), (3, 0, 0)] _ HTS.out.1 rfl (HTS.out.2 _ (below_step HBC.out HBL.out)) HLH.out (by omega) true HV1.out).mono ?_
    rintro e w2 ⟨rfl, hb2⟩
    have HB2 := Lib.hid (below_step HBL.out hb2)
    clear hb2
    refine hK.out _ _ (HSR.out _ HB2.out) (fun hHeld => ?_)
    clear hK K
    try simp only [Act.put, List.setIfInBounds_toArray, List.set_cons_zero, List.set_cons_succ]
    refine region_take 6 ?_ rfl (by kernel_rfl) (by rfl) hHeld ?_ ?_
    rotate_left
    · intro w hSw
      (try dsimp only at hSw)
      go_simp
      try with_reducible rfl
    try simp only [Act.put, List.setIfInBounds_toArray, List.set_cons_zero, List.set_cons_succ]
    have HZ := HB2
    refine region_take 7 ?_ rfl (by kernel_rfl) (by rfl) hHeld ?_ ?_
    rotate_left
    · intro w hSw
      (try dsimp only at hSw)
      go_simp
      try with_reducible rfl
    try simp only [Act.put, List.setIfInBounds_toArray, List.set_cons_zero, List.set_cons_succ]
    refine region_take 8 ?_ rfl (by kernel_rfl) (by rfl) hHeld ?_ ?_
    rotate_left
    · intro w hSw
      (try dsimp only at hSw)
      go_simp
      try with_reducible rfl
    try simp only [Act.put, List.setIfInBounds_toArray, List.set_cons_zero, List.set_cons_succ]
    refine region_take 9 ?_ rfl (by kernel_rfl) (by rfl) hHeld ?_ ?_
    rotate_left
    · intro w hSw
      (try dsimp only at hSw)
      go_simp
      try with_reducible rfl
    try simp only [Act.put, List.setIfInBounds_toArray, List.set_cons_zero, List.set_cons_succ]
    refine region_take 10 ?_ rfl (by kernel_rfl) (by rfl) hHeld ?_ ?_
    rotate_left
    · intro w hSw
      (try dsimp only at hSw)
      go_simp
      try with_reducible rfl
    try simp only [Act.put, List.setIfInBounds_toArray, List.set_cons_zero, List.set_cons_succ]
    refine region_take 11 ?_ rfl (by kernel_rfl) (by rfl) hHeld ?_ ?_
    rotate_left
    · intro w hSw
      (try dsimp only at hSw)
      go_simp
      try with_reducible rfl
    try simp only [Act.put, List.setIfInBounds_toArray, List.set_cons_zero, List.set_cons_succ]
    refine region_take 12 ?_ rfl (by kernel_rfl) (by rfl) hHeld ?_ ?_
    rotate_left
    · intro w hSw
      (try dsimp only at hSw)
      go_simp
      try with_reducible rfl
    try simp only [Act.put, List.setIfInBounds_toArray, List.set_cons_zero, List.set_cons_succ]
    refine region_skip 13 rfl (by kernel_rfl) (by rfl) hHeld ?_
    try simp only [Act.put, List.setIfInBounds_toArray, List.set_cons_zero, List.set_cons_succ]
    refine region_skip 14 rfl (by kernel_rfl) (by rfl) hHeld ?_
    try simp only [Act.put, List.setIfInBounds_toArray, List.set_cons_zero, List.set_cons_succ]
    refine region_skip 15 rfl (by kernel_rfl) (by rfl) hHeld ?_
    try simp only [Act.put, List.setIfInBounds_toArray, List.set_cons_zero, List.set_cons_succ]
    refine region_skip 16 rfl (by kernel_rfl) (by rfl) hHeld ?_
    try simp only [Act.put, List.setIfInBounds_toArray, List.set_cons_zero, List.set_cons_succ]
    refine region_take 17 ?_ rfl (by kernel_rfl) (by rfl) hHeld ?_ ?_
    rotate_left
    · intro w hSw
      (try dsimp only at hSw)
      go_simp
      try with_reducible rfl
    try simp only [Act.put, List.setIfInBounds_toArray, List.set_cons_zero, List.set_cons_succ]
    refine region_take 18 ?_ rfl (by kernel_rfl) (by rfl) hHeld ?_ ?_
    rotate_left
    · intro w hSw
      (try dsimp only at hSw)
      go_simp
      try with_reducible rfl
    try simp only [Act.put, List.setIfInBounds_toArray, List.set_cons_zero, List.set_cons_succ]
    refine region_skip 19 rfl (by kernel_rfl) (by rfl) hHeld ?_
    try simp only [Act.put, List.setIfInBounds_toArray, List.set_cons_zero, List.set_cons_succ]
    refine region_skip 20 rfl (by kernel_rfl) (by rfl) hHeld ?_
    try simp only [Act.put, List.setIfInBounds_toArray, List.set_cons_zero, List.set_cons_succ]
    refine region_skip 21 rfl (by kernel_rfl) (by rfl) hHeld ?_
    try simp only [Act.put, List.setIfInBounds_toArray, List.set_cons_zero, List.set_cons_succ]
    refine region_skip 22 rfl (by kernel_rfl) (by rfl) hHeld ?_
    try simp only [Act.put, List.setIfInBounds_toArray, List.set_cons_zero, List.set_cons_succ]
    refine region_skip 23 rfl (by kernel_rfl) (by rfl) hHeld ?_
    try simp only [Act.put, List.setIfInBounds_toArray, List.set_cons_zero, List.set_cons_succ]
    refine region_skip 24 rfl (by kernel_rfl) (by rfl) hHeld ?_
    try simp only [Act.put, List.setIfInBounds_toArray, List.set_cons_zero, List.set_cons_succ]
    refine region_skip 25 rfl (by kernel_rfl) (by rfl) hHeld ?_
    try simp only [Act.put, List.setIfInBounds_toArray, List.set_cons_zero, List.set_cons_succ]
    refine region_take 26 ?_ rfl (by kernel_rfl) (by rfl) hHeld ?_ ?_
    rotate_left
    · intro w hSw
      (try dsimp only at hSw)
      go_simp
      try with_reducible rfl
    try simp only [Act.put, List.setIfInBounds_toArray, List.set_cons_zero, List.set_cons_succ]
    refine region_take 27 ?_ rfl (by kernel_rfl) (by rfl) hHeld ?_ ?_
    rotate_left
    · intro w hSw
      (try dsimp only at hSw)
      go_simp
      try with_reducible rfl
    try simp only [Act.put, List.setIfInBounds_toArray, List.set_cons_zero, List.set_cons_succ]
    refine region_done (by kernel_rfl) ?_
    go_wp2_with fail
    go_ret
    exact ⟨ret_bool HV.out.symm, below_step HBC.out HZ.out⟩
  subst hz
  by_cases hu : un = 1
  case neg =>
    have hv3 : r = false := by
      have h1 := HV.out
      rw [decide_eq_false (p := (lu.map fun y => y.2.2) = [[(9, (k : Int), 0)]]) (fun h => hu (by have := congrArg List.length h; rw [List.length_map, HUN.out] at this; exact this))] at h1
      rw [h1]; rfl
    clear HV
    have HV := Lib.hid hv3
    clear hv3
    have hub : ((un : Int) == 1) = false := by simp; omega
    go_wp2_with fail
    refine region_begin (S := fun W => W.cell? ⟨w1.heap.size, 1, none⟩ = some (.slice sA sn sc) ∧ W.cell? ⟨g7, 0, none⟩ = some (.slice zA 0 zc) ∧ W.cell? ⟨g8, 0, none⟩ = some (.slice uA un uc) ∧ (W.cell? ⟨w.heap.size + 1 + 1, 0, none⟩ = some (.int .i64 9) ∧ W.cell? ⟨w.heap.size + 1 + 1, 1, none⟩ = some (.int .i64 (k : Int)) ∧ W.cell? ⟨w.heap.size + 1 + 1, 2, none⟩ = some (.int .i64 0))) (by kernel_rfl) (HSR.out _ (below_drewN (Below.refl _ _) 1)) (fun hHeld => ?_)
    refine region_take 0 ?_ rfl (by kernel_rfl) (by rfl) hHeld ?_ ?_
    rotate_left
    · intro w hSw
      (try dsimp only at hSw)
      go_simp
      try with_reducible rfl
    try simp only [Act.put, List.setIfInBounds_toArray, List.set_cons_zero, List.set_cons_succ]
    refine region_take 1 ?_ rfl (by kernel_rfl) (by rfl) hHeld ?_ ?_
    rotate_left
    · intro w hSw
      (try dsimp only at hSw)
      go_simp
      try with_reducible rfl
    try simp only [Act.put, List.setIfInBounds_toArray, List.set_cons_zero, List.set_cons_succ]
    refine region_take 2 ?_ rfl (by kernel_rfl) (by rfl) hHeld ?_ ?_
    rotate_left
    · intro w hSw
      (try dsimp only at hSw)
      go_simp
      try with_reducible rfl
    try simp only [Act.put, List.setIfInBounds_toArray, List.set_cons_zero, List.set_cons_succ]
    refine region_take 3 ?_ rfl (by kernel_rfl) (by rfl) hHeld ?_ ?_
    rotate_left
    · intro w hSw
      (try dsimp only at hSw)
      go_simp
      try with_reducible rfl
    try simp only [Act.put, List.setIfInBounds_toArray, List.set_cons_zero, List.set_cons_succ]
    refine region_call 4 rfl (by kernel_rfl) (by rfl) (fun K hK => ?_)
    go_simp
    have HBL := Lib.hid (show Below wc.heap.size wc (wc.drew.alloc (.cells #[.int .i64 2, .int .i64 1, .int .i64 1, .int .i64 3, .int .i64 0, .int .i64 0] 67)) from below_alloc (below_drewN (Below.refl _ _) 1) _)
    have HLH := Lib.hid (show Holds (wc.drew.alloc (.cells #[.int .i64 2, .int .i64 1, .int .i64 1, .int .i64 3, .int .i64 0, .int .i64 0] 67)) (some ⟨wc.heap.size, 0, none⟩) (nodesV [(2, 1, 1), (3, 0, 0)]) from holds_at wc.drew #[.int .i64 2, .int .i64 1, .int .i64 1, .int .i64 3, .int .i64 0, .int .i64 0] 67 _ rfl)
    refine hK.out _ _ (HSR.out _ HBL.out) (fun hHeld => ?_)
    clear hK K
    try simp only [Act.put, List.setIfInBounds_toArray, List.set_cons_zero, List.set_cons_succ]
    refine region_call 5 rfl (by kernel_rfl) (by rfl) (fun K hK => ?_)
    go_simp
    refine (equal_n sA (some ⟨wc.heap.size, 0, none⟩) sn 2 sc 2 ts [(2, 1, 1), (3, 0, 0)] _ HTS.out.1 rfl (HTS.out.2 _ (below_step HBC.out HBL.out)) HLH.out (by omega) true HV1.out).mono ?_
    rintro e w2 ⟨rfl, hb2⟩
    have HB2 := Lib.hid (below_step HBL.out hb2)
    clear hb2
    refine hK.out _ _ (HSR.out _ HB2.out) (fun hHeld => ?_)
    clear hK K
    try simp only [Act.put, List.setIfInBounds_toArray, List.set_cons_zero, List.set_cons_succ]
    refine region_take 6 ?_ rfl (by kernel_rfl) (by rfl) hHeld ?_ ?_
    rotate_left
    · intro w hSw
      (try dsimp only at hSw)
      go_simp
      try with_reducible rfl
    try simp only [Act.put, List.setIfInBounds_toArray, List.set_cons_zero, List.set_cons_succ]
    have HZ := HB2
    refine region_take 7 ?_ rfl (by kernel_rfl) (by rfl) hHeld ?_ ?_
    rotate_left
    · intro w hSw
      (try dsimp only at hSw)
      go_simp
      try with_reducible rfl
    try simp only [Act.put, List.setIfInBounds_toArray, List.set_cons_zero, List.set_cons_succ]
    refine region_take 8 ?_ rfl (by kernel_rfl) (by rfl) hHeld ?_ ?_
    rotate_left
    · intro w hSw
      (try dsimp only at hSw)
      go_simp
      try with_reducible rfl
    try simp only [Act.put, List.setIfInBounds_toArray, List.set_cons_zero, List.set_cons_succ]
    refine region_take 9 ?_ rfl (by kernel_rfl) (by rfl) hHeld ?_ ?_
    rotate_left
    · intro w hSw
      (try dsimp only at hSw)
      go_simp
      try with_reducible rfl
    try simp only [Act.put, List.setIfInBounds_toArray, List.set_cons_zero, List.set_cons_succ]
    refine region_take 10 ?_ rfl (by kernel_rfl) (by rfl) hHeld ?_ ?_
    rotate_left
    · intro w hSw
      (try dsimp only at hSw)
      go_simp
      try with_reducible rfl
    try simp only [Act.put, List.setIfInBounds_toArray, List.set_cons_zero, List.set_cons_succ]
    refine region_take 11 ?_ rfl (by kernel_rfl) (by rfl) hHeld ?_ ?_
    rotate_left
    · intro w hSw
      (try dsimp only at hSw)
      go_simp
      try with_reducible rfl
    try simp only [Act.put, List.setIfInBounds_toArray, List.set_cons_zero, List.set_cons_succ]
    refine region_take 12 ?_ rfl (by kernel_rfl) (by rfl) hHeld ?_ ?_
    rotate_left
    · intro w hSw
      (try dsimp only at hSw)
      go_simp
      try with_reducible rfl
    try simp only [Act.put, List.setIfInBounds_toArray, List.set_cons_zero, List.set_cons_succ]
    refine region_take 13 ?_ rfl (by kernel_rfl) (by rfl) hHeld ?_ ?_
    rotate_left
    · intro w hSw
      (try dsimp only at hSw)
      go_simp
      try with_reducible rfl
    try simp only [Act.put, List.setIfInBounds_toArray, List.set_cons_zero, List.set_cons_succ]
    refine region_take 14 ?_ rfl (by kernel_rfl) (by rfl) hHeld ?_ ?_
    rotate_left
    · intro w hSw
      (try dsimp only at hSw)
      go_simp
      try with_reducible rfl
    try simp only [Act.put, List.setIfInBounds_toArray, List.set_cons_zero, List.set_cons_succ]
    refine region_take 15 ?_ rfl (by kernel_rfl) (by rfl) hHeld ?_ ?_
    rotate_left
    · intro w hSw
      (try dsimp only at hSw)
      go_simp
      try with_reducible rfl
    try simp only [Act.put, List.setIfInBounds_toArray, List.set_cons_zero, List.set_cons_succ]
    refine region_take 16 ?_ rfl (by kernel_rfl) (by rfl) hHeld ?_ ?_
    rotate_left
    · intro w hSw
      (try dsimp only at hSw)
      go_simp
      try with_reducible rfl
    try simp only [Act.put, List.setIfInBounds_toArray, List.set_cons_zero, List.set_cons_succ]
    refine region_take 17 ?_ rfl (by kernel_rfl) (by rfl) hHeld ?_ ?_
    rotate_left
    · intro w hSw
      (try dsimp only at hSw)
      go_simp
      try with_reducible rfl
    try simp only [Act.put, List.setIfInBounds_toArray, List.set_cons_zero, List.set_cons_succ]
    refine region_take 18 ?_ rfl (by kernel_rfl) (by rfl) hHeld ?_ ?_
    rotate_left
    · intro w hSw
      (try dsimp only at hSw)
      go_simp
      try with_reducible rfl
    try simp only [Act.put, List.setIfInBounds_toArray, List.set_cons_zero, List.set_cons_succ]
    refine region_skip 19 rfl (by kernel_rfl) (by rfl) hHeld ?_
    try simp only [Act.put, List.setIfInBounds_toArray, List.set_cons_zero, List.set_cons_succ]
    refine region_skip 20 rfl (by kernel_rfl) (by rfl) hHeld ?_
    try simp only [Act.put, List.setIfInBounds_toArray, List.set_cons_zero, List.set_cons_succ]
    refine region_skip 21 rfl (by kernel_rfl) (by rfl) hHeld ?_
    try simp only [Act.put, List.setIfInBounds_toArray, List.set_cons_zero, List.set_cons_succ]
    refine region_skip 22 rfl (by kernel_rfl) (by rfl) hHeld ?_
    try simp only [Act.put, List.setIfInBounds_toArray, List.set_cons_zero, List.set_cons_succ]
    refine region_skip 23 rfl (by kernel_rfl) (by rfl) hHeld ?_
    try simp only [Act.put, List.setIfInBounds_toArray, List.set_cons_zero, List.set_cons_succ]
    refine region_skip 24 rfl (by kernel_rfl) (by rfl) hHeld ?_
    try simp only [Act.put, List.setIfInBounds_toArray, List.set_cons_zero, List.set_cons_succ]
    refine region_skip 25 rfl (by kernel_rfl) (by rfl) hHeld ?_
    try simp only [Act.put, List.setIfInBounds_toArray, List.set_cons_zero, List.set_cons_succ]
    refine region_take 26 ?_ rfl (by kernel_rfl) (by rfl) hHeld ?_ ?_
    rotate_left
    · intro w hSw
      (try dsimp only at hSw)
      go_simp
      try with_reducible rfl
    try simp only [Act.put, List.setIfInBounds_toArray, List.set_cons_zero, List.set_cons_succ]
    refine region_take 27 ?_ rfl (by kernel_rfl) (by rfl) hHeld ?_ ?_
    rotate_left
    · intro w hSw
      (try dsimp only at hSw)
      go_simp
      try with_reducible rfl
    try simp only [Act.put, List.setIfInBounds_toArray, List.set_cons_zero, List.set_cons_succ]
    refine region_done (by kernel_rfl) ?_
    go_wp2_with fail
    go_ret
    exact ⟨ret_bool HV.out.symm, below_step HBC.out HZ.out⟩
  subst hu
  obtain ⟨⟨xA, xc, xt⟩, rfl⟩ : ∃ x, lu = [x] := by
    match lu, HUN.out with
    | [x], _ => exact ⟨x, rfl⟩
  obtain ⟨v2, hv2⟩ : ∃ v2, v2 = decide (xt = [(9, (k : Int), 0)]) := ⟨_, rfl⟩
  have hv4 : r = v2 := by rw [HV.out, hv2]; simp
  clear HV
  have HV := Lib.hid hv4
  clear hv4
  have HV2 := Lib.hid hv2
  obtain ⟨xn, hxn⟩ : ∃ n, xt.length = n := ⟨_, rfl⟩
  have hx4 : xn ≤ 4096 := by
    have := HRK.out _ (List.mem_cons_of_mem _ (List.mem_singleton.2 rfl)) _ (List.mem_singleton.2 rfl)
    simp only [hxn] at this
    exact this
  obtain ⟨-, hho, hhk⟩ := HUK.out.inn.1
  obtain ⟨bu, ou, rfl, -, hcu⟩ := hho.at_ (by simp)
  have HXC : Hid (∀ W, Below w1.heap.size w1 W → W.cell? ⟨bu, ou, none⟩ = some (.slice xA xn xc)) := Lib.hid fun W hb => by
    have := (hho.below hb).cell (j := 0) rfl
    rw [Nat.add_zero] at this
    rw [this]
    simp [rowV, hxn]
  have HXT := Lib.hid (show xt.length = xn ∧ ∀ W, Below w1.heap.size w1 W → Holds W xA (nodesV xt) from ⟨hxn, fun W hb => (hhk _ (List.mem_singleton.2 rfl)).2.below hb⟩)
  have HSR := Lib.hid (show ∀ W, Below wc.heap.size wc W → W.cell? ⟨w1.heap.size, 1, none⟩ = some (.slice sA sn sc) ∧ W.cell? ⟨g7, 0, none⟩ = some (.slice zA 0 zc) ∧ W.cell? ⟨g8, 0, none⟩ = some (.slice (some ⟨bu, ou, none⟩) 1 uc) ∧ (W.cell? ⟨w.heap.size + 1 + 1, 0, none⟩ = some (.int .i64 9) ∧ W.cell? ⟨w.heap.size + 1 + 1, 1, none⟩ = some (.int .i64 (k : Int)) ∧ W.cell? ⟨w.heap.size + 1 + 1, 2, none⟩ = some (.int .i64 0)) ∧ W.cell? ⟨bu, ou, none⟩ = some (.slice xA xn xc) from fun W hb => by
    obtain ⟨a, b, c, d⟩ := HSR.out W hb
    exact ⟨a, b, c, d, HXC.out W (below_step HBW.out hb)⟩)
  clear hxn hho hhk hcu hv2 HXC
  go_wp2_with fail
  refine region_begin (S := fun W => W.cell? ⟨w1.heap.size, 1, none⟩ = some (.slice sA sn sc) ∧ W.cell? ⟨g7, 0, none⟩ = some (.slice zA 0 zc) ∧ W.cell? ⟨g8, 0, none⟩ = some (.slice (some ⟨bu, ou, none⟩) 1 uc) ∧ (W.cell? ⟨w.heap.size + 1 + 1, 0, none⟩ = some (.int .i64 9) ∧ W.cell? ⟨w.heap.size + 1 + 1, 1, none⟩ = some (.int .i64 (k : Int)) ∧ W.cell? ⟨w.heap.size + 1 + 1, 2, none⟩ = some (.int .i64 0)) ∧ W.cell? ⟨bu, ou, none⟩ = some (.slice xA xn xc)) (by kernel_rfl) (HSR.out _ (below_drewN (Below.refl _ _) 1)) (fun hHeld => ?_)
  refine region_take 0 ?_ rfl (by kernel_rfl) (by rfl) hHeld ?_ ?_
  rotate_left
  · intro w hSw
    (try dsimp only at hSw)
    go_simp
    try with_reducible rfl
  try simp only [Act.put, List.setIfInBounds_toArray, List.set_cons_zero, List.set_cons_succ]
  refine region_take 1 ?_ rfl (by kernel_rfl) (by rfl) hHeld ?_ ?_
  rotate_left
  · intro w hSw
    (try dsimp only at hSw)
    go_simp
    try with_reducible rfl
  try simp only [Act.put, List.setIfInBounds_toArray, List.set_cons_zero, List.set_cons_succ]
  refine region_take 2 ?_ rfl (by kernel_rfl) (by rfl) hHeld ?_ ?_
  rotate_left
  · intro w hSw
    (try dsimp only at hSw)
    go_simp
    try with_reducible rfl
  try simp only [Act.put, List.setIfInBounds_toArray, List.set_cons_zero, List.set_cons_succ]
  refine region_take 3 ?_ rfl (by kernel_rfl) (by rfl) hHeld ?_ ?_
  rotate_left
  · intro w hSw
    (try dsimp only at hSw)
    go_simp
    try with_reducible rfl
  try simp only [Act.put, List.setIfInBounds_toArray, List.set_cons_zero, List.set_cons_succ]
  refine region_call 4 rfl (by kernel_rfl) (by rfl) (fun K hK => ?_)
  go_simp
  have HBL := Lib.hid (show Below wc.heap.size wc (wc.drew.alloc (.cells #[.int .i64 2, .int .i64 1, .int .i64 1, .int .i64 3, .int .i64 0, .int .i64 0] 67)) from below_alloc (below_drewN (Below.refl _ _) 1) _)
  have HLH := Lib.hid (show Holds (wc.drew.alloc (.cells #[.int .i64 2, .int .i64 1, .int .i64 1, .int .i64 3, .int .i64 0, .int .i64 0] 67)) (some ⟨wc.heap.size, 0, none⟩) (nodesV [(2, 1, 1), (3, 0, 0)]) from holds_at wc.drew #[.int .i64 2, .int .i64 1, .int .i64 1, .int .i64 3, .int .i64 0, .int .i64 0] 67 _ rfl)
  refine hK.out _ _ (HSR.out _ HBL.out) (fun hHeld => ?_)
  clear hK K
  try simp only [Act.put, List.setIfInBounds_toArray, List.set_cons_zero, List.set_cons_succ]
  refine region_call 5 rfl (by kernel_rfl) (by rfl) (fun K hK => ?_)
  go_simp
  refine (equal_n sA (some ⟨wc.heap.size, 0, none⟩) sn 2 sc 2 ts [(2, 1, 1), (3, 0, 0)] _ HTS.out.1 rfl (HTS.out.2 _ (below_step HBC.out HBL.out)) HLH.out (by omega) true HV1.out).mono ?_
  rintro e w2 ⟨rfl, hb2⟩
  have HB2 := Lib.hid (below_step HBL.out hb2)
  clear hb2
  refine hK.out _ _ (HSR.out _ HB2.out) (fun hHeld => ?_)
  clear hK K
  try simp only [Act.put, List.setIfInBounds_toArray, List.set_cons_zero, List.set_cons_succ]
  refine region_take 6 ?_ rfl (by kernel_rfl) (by rfl) hHeld ?_ ?_
  rotate_left
  · intro w hSw
    (try dsimp only at hSw)
    go_simp
    try with_reducible rfl
  try simp only [Act.put, List.setIfInBounds_toArray, List.set_cons_zero, List.set_cons_succ]
  refine region_take 7 ?_ rfl (by kernel_rfl) (by rfl) hHeld ?_ ?_
  rotate_left
  · intro w hSw
    (try dsimp only at hSw)
    go_simp
    try with_reducible rfl
  try simp only [Act.put, List.setIfInBounds_toArray, List.set_cons_zero, List.set_cons_succ]
  refine region_take 8 ?_ rfl (by kernel_rfl) (by rfl) hHeld ?_ ?_
  rotate_left
  · intro w hSw
    (try dsimp only at hSw)
    go_simp
    try with_reducible rfl
  try simp only [Act.put, List.setIfInBounds_toArray, List.set_cons_zero, List.set_cons_succ]
  refine region_take 9 ?_ rfl (by kernel_rfl) (by rfl) hHeld ?_ ?_
  rotate_left
  · intro w hSw
    (try dsimp only at hSw)
    go_simp
    try with_reducible rfl
  try simp only [Act.put, List.setIfInBounds_toArray, List.set_cons_zero, List.set_cons_succ]
  refine region_take 10 ?_ rfl (by kernel_rfl) (by rfl) hHeld ?_ ?_
  rotate_left
  · intro w hSw
    (try dsimp only at hSw)
    go_simp
    try with_reducible rfl
  try simp only [Act.put, List.setIfInBounds_toArray, List.set_cons_zero, List.set_cons_succ]
  refine region_take 11 ?_ rfl (by kernel_rfl) (by rfl) hHeld ?_ ?_
  rotate_left
  · intro w hSw
    (try dsimp only at hSw)
    go_simp
    try with_reducible rfl
  try simp only [Act.put, List.setIfInBounds_toArray, List.set_cons_zero, List.set_cons_succ]
  refine region_take 12 ?_ rfl (by kernel_rfl) (by rfl) hHeld ?_ ?_
  rotate_left
  · intro w hSw
    (try dsimp only at hSw)
    go_simp
    try with_reducible rfl
  try simp only [Act.put, List.setIfInBounds_toArray, List.set_cons_zero, List.set_cons_succ]
  refine region_take 13 ?_ rfl (by kernel_rfl) (by rfl) hHeld ?_ ?_
  rotate_left
  · intro w hSw
    (try dsimp only at hSw)
    go_simp
    try with_reducible rfl
  try simp only [Act.put, List.setIfInBounds_toArray, List.set_cons_zero, List.set_cons_succ]
  refine region_take 14 ?_ rfl (by kernel_rfl) (by rfl) hHeld ?_ ?_
  rotate_left
  · intro w hSw
    (try dsimp only at hSw)
    go_simp
    try with_reducible rfl
  try simp only [Act.put, List.setIfInBounds_toArray, List.set_cons_zero, List.set_cons_succ]
  refine region_take 15 ?_ rfl (by kernel_rfl) (by rfl) hHeld ?_ ?_
  rotate_left
  · intro w hSw
    (try dsimp only at hSw)
    go_simp
    try with_reducible rfl
  try simp only [Act.put, List.setIfInBounds_toArray, List.set_cons_zero, List.set_cons_succ]
  refine region_take 16 ?_ rfl (by kernel_rfl) (by rfl) hHeld ?_ ?_
  rotate_left
  · intro w hSw
    (try dsimp only at hSw)
    go_simp
    try with_reducible rfl
  try simp only [Act.put, List.setIfInBounds_toArray, List.set_cons_zero, List.set_cons_succ]
  refine region_take 17 ?_ rfl (by kernel_rfl) (by rfl) hHeld ?_ ?_
  rotate_left
  · intro w hSw
    (try dsimp only at hSw)
    go_simp
    try with_reducible rfl
  try simp only [Act.put, List.setIfInBounds_toArray, List.set_cons_zero, List.set_cons_succ]
  refine region_take 18 ?_ rfl (by kernel_rfl) (by rfl) hHeld ?_ ?_
  rotate_left
  · intro w hSw
    (try dsimp only at hSw)
    go_simp
    try with_reducible rfl
  try simp only [Act.put, List.setIfInBounds_toArray, List.set_cons_zero, List.set_cons_succ]
  refine region_take 19 ?_ rfl (by kernel_rfl) (by rfl) hHeld ?_ ?_
  rotate_left
  · intro w hSw
    (try dsimp only at hSw)
    go_simp
    try with_reducible rfl
  try simp only [Act.put, List.setIfInBounds_toArray, List.set_cons_zero, List.set_cons_succ]
  refine region_take 20 ?_ rfl (by kernel_rfl) (by rfl) hHeld ?_ ?_
  rotate_left
  · intro w hSw
    (try dsimp only at hSw)
    go_simp
    try with_reducible rfl
  try simp only [Act.put, List.setIfInBounds_toArray, List.set_cons_zero, List.set_cons_succ]
  refine region_take 21 ?_ rfl (by kernel_rfl) (by rfl) hHeld ?_ ?_
  rotate_left
  · intro w hSw
    (try dsimp only at hSw)
    go_simp
    try with_reducible rfl
  try simp only [Act.put, List.setIfInBounds_toArray, List.set_cons_zero, List.set_cons_succ]
  refine region_take 22 ?_ rfl (by kernel_rfl) (by rfl) hHeld ?_ ?_
  rotate_left
  · intro w hSw
    (try dsimp only at hSw)
    go_simp
    try with_reducible rfl
  try simp only [Act.put, List.setIfInBounds_toArray, List.set_cons_zero, List.set_cons_succ]
  refine region_take 23 ?_ rfl (by kernel_rfl) (by rfl) hHeld ?_ ?_
  rotate_left
  · intro w hSw
    (try dsimp only at hSw)
    go_simp
    try with_reducible rfl
  try simp only [Act.put, List.setIfInBounds_toArray, List.set_cons_zero, List.set_cons_succ]
  refine region_call 24 rfl (by kernel_rfl) (by rfl) (fun K hK => ?_)
  go_simp
  have HBM := Lib.hid (show Below wc.heap.size wc (w2.alloc (.cells #[.int .i64 9, .int .i64 (k : Int), .int .i64 0] 67)) from below_alloc HB2.out _)
  have HLM := Lib.hid (show Holds (w2.alloc (.cells #[.int .i64 9, .int .i64 (k : Int), .int .i64 0] 67)) (some ⟨w2.heap.size, 0, none⟩) (nodesV [(9, (k : Int), 0)]) from holds_at w2 #[.int .i64 9, .int .i64 (k : Int), .int .i64 0] 67 _ rfl)
  refine hK.out _ _ (HSR.out _ HBM.out) (fun hHeld => ?_)
  clear hK K
  try simp only [Act.put, List.setIfInBounds_toArray, List.set_cons_zero, List.set_cons_succ]
  refine region_call 25 rfl (by kernel_rfl) (by rfl) (fun K hK => ?_)
  go_simp
  refine (equal_n xA (some ⟨w2.heap.size, 0, none⟩) xn 1 xc 1 xt [(9, (k : Int), 0)] _ HXT.out.1 rfl (HXT.out.2 _ (below_step HBW.out HBM.out)) HLM.out (by omega) v2 HV2.out).mono ?_
  rintro e w3 ⟨rfl, hb3⟩
  have HZ := Lib.hid (below_step HBM.out hb3)
  clear hb3
  refine hK.out _ _ (HSR.out _ HZ.out) (fun hHeld => ?_)
  clear hK K
  try simp only [Act.put, List.setIfInBounds_toArray, List.set_cons_zero, List.set_cons_succ]
  refine region_take 26 ?_ rfl (by kernel_rfl) (by rfl) hHeld ?_ ?_
  rotate_left
  · intro w hSw
    (try dsimp only at hSw)
    go_simp
    try with_reducible rfl
  try simp only [Act.put, List.setIfInBounds_toArray, List.set_cons_zero, List.set_cons_succ]
  refine region_take 27 ?_ rfl (by kernel_rfl) (by rfl) hHeld ?_ ?_
  rotate_left
  · intro w hSw
    (try dsimp only at hSw)
    go_simp
    try with_reducible rfl
  try simp only [Act.put, List.setIfInBounds_toArray, List.set_cons_zero, List.set_cons_succ]
  refine region_done (by kernel_rfl) ?_
  go_wp2_with fail
  go_ret
  exact ⟨ret_bool HV.out.symm, below_step HBC.out HZ.out⟩
end Go.Proofs.YtfeodppdmbideaaGreatDoor
