/- The way to the laws of books: BCtype to BAwake. -/
import Derived.Test.YtfeodppdmbideaaGreatDoorBA10
import Derived.Test.YtfeodppdmbideaaGreatDoorBA16
import Derived.Test.YtfeodppdmbideaaGreatDoorBA27
import Derived.Test.YtfeodppdmbideaaGreatDoorBA28
namespace Go.Proofs.YtfeodppdmbideaaGreatDoor
open Go.RowKit

/-- Not more nodes than may be put together. -/
def SmallBook (b : BookT) : Prop := ∀ x ∈ b.ents.2.2, (flatR x.pars.2.2).length ≤ 30000 ∧ (flatR x.inds.2.2).length ≤ 30000 ∧ ∀ c ∈ x.ctors.2.2, (flatR c.args.2.2).length ≤ 30000 ∧ (flatR c.out.2.2).length ≤ 30000
def entAt (b : BookP) (e : Int) : EntP := (b.ents[e.toNat]?).getD ⟨0, [], [], [], [], [], []⟩
def ctorAt (x : EntP) (k : Int) : CtorP := (x.ctors[k.toNat]?).getD ⟨[], []⟩
/-- A constructor's type. -/
def ctypeS (b : BookP) (e k : Int) : List Node3 × Int :=
  if consE b e k ≠ 0 then ([], consE b e k) else
  let x := entAt b e; let c := ctorAt x k; let a := applyS [(9, e, 0)] (varsS x.pars.length c.args.length ++ c.out)
  if a.2 ≠ 0 then ([], a.2) else bindS 4 (x.pars ++ c.args) a.1
theorem bigS_len2 (r : List Node3) : (bigS r).1.length ≤ 4096 := by unfold bigS; split <;> simp; omega
theorem apply_len2 (t : List Node3) (ls : List (List Node3)) : (applyS t ls).1.length ≤ 4096 := by
  unfold applyS
  split
  · simp
  · exact bigS_len2 _
theorem flat_app (l m : List RowT) : flatR (l ++ m) = flatR l ++ flatR m := by simp [flatR]
theorem flat_ones (g : Nat → Node3) : ∀ (r : List Nat), (r.map fun i => [g i]).flatten.length = r.length
  | [] => rfl
  | x :: r => by rw [List.map_cons, List.flatten_cons, List.length_append, flat_ones g r]; simp; omega
theorem flat_vars {l : List RowT} {m k : Nat} (h : l.map (fun x => x.2.2) = varsS m k) : (flatR l).length = m := by
  unfold flatR
  rw [h]
  unfold varsS
  rw [flat_ones, List.length_range]
set_option maxRecDepth 100000 in
set_option maxHeartbeats 8000000 in
theorem ctype_any (b : BookT) (e k : Int) (w : World) (hb : BookOk w b) (hL : Lim w) (he : I64 e) (hk : I64 k) (hsm : SmallBook b) : Calls Tryz.prog 19 #[b.val, .int .i64 e, .int .i64 k] w (RowAns (ctypeS b.p e k) w) := by
  have hb1 : Below w.heap.size w (w.alloc (.cells #[.int .i64 b.vars, .slice b.ords.1 b.ords.2.2.length b.ords.2.1, entsV b.ents, .int .i64 b.nat, .slice b.prims.1 b.prims.2.2.length b.prims.2.1] 26)) := (Below.refl _ _).alloc (Nat.le_refl _) _
  have HK := Lib.hid (cons_any b e k _ (hb.below hb1) (hL.next hb1) he hk)
  have HB := Lib.hid hb1
  have HOK := Lib.hid (show ∀ W, Below w.heap.size w W → EntsIn W b.ents ∧ Lim W from fun W h => ⟨(hb.below h).inn.ents, hL.next h⟩)
  have HSM := Lib.hid hsm
  have hRI : ∀ i (hi : i < b.ents.2.2.length), consE b.p e k = 0 → e = i → b.ents.2.2[i].pars.2.2.length ≤ 16 ∧ ∀ c ∈ b.ents.2.2[i].ctors.2.2, c.args.2.2.length ≤ 16 ∧ c.out.2.2.length ≤ 16 := fun i hi h _ => by
    unfold consE at h
    split at h
    · rename_i h1; exact absurd h h1
    rename_i h1
    have hr : rightE b.p = 0 := by simpa using h1
    unfold rightE at hr
    split at hr
    · rename_i h2; exact absurd hr h2
    split at hr
    · cases hr
    split at hr
    · rename_i h2; exact absurd hr h2
    rename_i h2
    have h3 := firstE_zero (f := fun i x => entE b.p.vars b.p.ents i x) (l := b.p.ents) (i := 0) (by omega) i (by show i < (b.ents.2.2.map EntT.p).length; rw [List.length_map]; exact hi)
    have h4 : b.p.ents[i]'(by show i < (b.ents.2.2.map EntT.p).length; rw [List.length_map]; exact hi) = b.ents.2.2[i].p := by simp only [BookT.p, List.getElem_map]
    simp only [h4] at h3
    obtain ⟨-, -, -, -, ⟨h5, h6, h7⟩, h8⟩ := entE_rows h3
    have h9 : b.ents.2.2[i].p.pars.length = b.ents.2.2[i].pars.2.2.length := List.length_map ..
    have h10 : b.ents.2.2[i].p.inds.length = b.ents.2.2[i].inds.2.2.length := List.length_map ..
    refine ⟨by omega, fun c hc => ?_⟩
    obtain ⟨k1, k2, -, -⟩ := h8 c.p (List.mem_map_of_mem hc)
    have h11 : c.p.args.length = c.args.2.2.length := List.length_map ..
    have h12 : c.p.out.length = c.out.2.2.length := List.length_map ..
    omega
  have HRI := Lib.hid hRI
  have HEI := Lib.hid he
  obtain ⟨res, hres⟩ : ∃ res, ctypeS b.p e k = res := ⟨_, rfl⟩
  have HRS := Lib.hid hres
  rw [hres]
  clear hb hL he hk hb1 hsm hRI hres
  go_enter Tryz.func19, Tryz.ntmps19
  go_wp2_with fail
  refine (HK.out).mono ?_
  rintro e1 w1 (⟨_, r, h1, h2, hb2⟩ | ⟨_, i, j, hi, hj, h1, h2, h3, hb2⟩)
  · have HX : Hid (res = ([], r)) := Lib.hid (by rw [← HRS.out]; unfold ctypeS; rw [h1, if_pos h2])
    have h2b : (r != 0) = true := by simpa using h2
    have HB2 := Lib.hid ((below_alloc (below_step HB.out hb2) (.cells #[.int .i64 0, .slice none 0 0, .slice none 0 0, .slice none 0 0, .slice none 0 0, .slice none 0 0, .slice none 0 0] 60)).alloc (by have := HB.out.size; have := hb2.size; simp only [World.size_alloc] at *; omega) (.cells #[.slice none 0 0, .slice none 0 0] 62))
    clear h1 hb2 HK
    go_wp2_with fail
    go_ret2
    rw [HX.out]
    exact .none _ HB2.out
  have hri := HRI.out i hi h1 h2
  have hik := HOK.out _ (below_step HB.out hb2)
  have hie := hik.1.2.2 _ (List.getElem_mem hi)
  have hic := hie.ctors.2.2 _ (List.getElem_mem hj)
  have hsx := HSM.out _ (List.getElem_mem hi)
  have hsc := hsx.2.2 _ (List.getElem_mem hj)
  have hrc := hri.2 _ (List.getElem_mem hj)
  have HRS2 : Hid (res = (if (applyS [(9, e, 0)] (varsS (rowsP b.ents.2.2[i].pars).length (rowsP b.ents.2.2[i].ctors.2.2[j].args).length ++ rowsP b.ents.2.2[i].ctors.2.2[j].out)).2 ≠ 0 then ([], (applyS [(9, e, 0)] (varsS (rowsP b.ents.2.2[i].pars).length (rowsP b.ents.2.2[i].ctors.2.2[j].args).length ++ rowsP b.ents.2.2[i].ctors.2.2[j].out)).2)
      else bindS 4 (rowsP b.ents.2.2[i].pars ++ rowsP b.ents.2.2[i].ctors.2.2[j].args) (applyS [(9, e, 0)] (varsS (rowsP b.ents.2.2[i].pars).length (rowsP b.ents.2.2[i].ctors.2.2[j].args).length ++ rowsP b.ents.2.2[i].ctors.2.2[j].out)).1)) := Lib.hid (by
    rw [← HRS.out]
    unfold ctypeS
    rw [h1, if_neg (fun h => h rfl)]
    have g1 : entAt b.p e = b.ents.2.2[i].p := by
      unfold entAt
      rw [h2, Int.toNat_natCast]
      simp only [BookT.p, List.getElem?_map, List.getElem?_eq_getElem hi, Option.map_some, Option.getD_some]
    have g2 : ctorAt b.ents.2.2[i].p k = b.ents.2.2[i].ctors.2.2[j].p := by
      unfold ctorAt
      rw [h3, Int.toNat_natCast]
      simp only [EntT.p, List.getElem?_map, List.getElem?_eq_getElem hj, Option.map_some, Option.getD_some]
    simp only [g1, g2]
    rfl)
  have HQI := Lib.hid (show RowsIn w1 b.ents.2.2[i].pars ∧ RowsIn w1 b.ents.2.2[i].ctors.2.2[j].args ∧ RowsIn w1 b.ents.2.2[i].ctors.2.2[j].out from ⟨hie.pars, hic.1, hic.2⟩)
  have HFL := Lib.hid (show (flatR b.ents.2.2[i].pars.2.2).length ≤ 30000 ∧ (flatR b.ents.2.2[i].ctors.2.2[j].args.2.2).length ≤ 30000 ∧ (flatR b.ents.2.2[i].ctors.2.2[j].out.2.2).length ≤ 30000 from ⟨hsx.1, hsc.1, hsc.2⟩)
  have HLE := Lib.hid (show b.ents.2.2[i].pars.2.2.length ≤ 16 ∧ b.ents.2.2[i].ctors.2.2[j].args.2.2.length ≤ 16 ∧ b.ents.2.2[i].ctors.2.2[j].out.2.2.length ≤ 16 from ⟨hri.1, hrc.1, hrc.2⟩)
  have HL1 := Lib.hid hik.2
  have HBA := Lib.hid (below_step HB.out hb2)
  clear hri hik hie hic hsx hsc hrc h1 HRI HSM HOK HRS HK hb2
  generalize b.ents.2.2[i].ctors.2.2[j] = c at *
  generalize b.ents.2.2[i] = x at *
  clear hi hj h2 h3
  obtain ⟨kd, ⟨sA, sc, ts⟩, ⟨qA, qc, lq⟩, ⟨jA, jc, lj⟩, ⟨cA, cc, lc⟩, ⟨tA, tc, tt⟩, ⟨bA, bcc, tb⟩⟩ := x
  obtain ⟨⟨yA, yc, ly⟩, ⟨zA, zc, lz⟩⟩ := c
  simp only [EntT.val, CtorT.val, rowV, rowsV, ctorsV, rowsP, List.length_map] at HRS2 HQI HFL HLE ⊢
  obtain ⟨qn, hqn⟩ : ∃ n, lq.length = n := ⟨_, rfl⟩
  obtain ⟨yn, hyn⟩ : ∃ n, ly.length = n := ⟨_, rfl⟩
  obtain ⟨zn, hzn⟩ : ∃ n, lz.length = n := ⟨_, rfl⟩
  rw [hqn, hyn] at HRS2
  rw [hqn, hyn, hzn] at HLE
  have HP := Lib.hid (show lq.length = qn ∧ Slice qA qn qc ∧ ∀ W, Below w1.heap.size w1 W → Holds W qA (lq.map rowV) ∧ RowsOk W lq from ⟨hqn, by have := HQI.out.1.1; simp only [hqn] at this; exact this, fun W h => ⟨HQI.out.1.2.1.below h, HQI.out.1.2.2.below h⟩⟩)
  have HY := Lib.hid (show ly.length = yn ∧ Slice yA yn yc ∧ ∀ W, Below w1.heap.size w1 W → Holds W yA (ly.map rowV) ∧ RowsOk W ly from ⟨hyn, by have := HQI.out.2.1.1; simp only [hyn] at this; exact this, fun W h => ⟨HQI.out.2.1.2.1.below h, HQI.out.2.1.2.2.below h⟩⟩)
  have HZ := Lib.hid (show lz.length = zn ∧ Slice zA zn zc ∧ ∀ W, Below w1.heap.size w1 W → Holds W zA (lz.map rowV) ∧ RowsOk W lz from ⟨hzn, by have := HQI.out.2.2.1; simp only [hzn] at this; exact this, fun W h => ⟨HQI.out.2.2.2.1.below h, HQI.out.2.2.2.2.below h⟩⟩)
  obtain ⟨hl1, hl2, hl3⟩ := HLE.out
  rw [hqn, hyn, hzn]
  clear hqn hyn hzn HQI HLE
  generalize ts.length = sn at *
  generalize lj.length = jn at *
  generalize lc.length = cn at *
  generalize tt.length = tn at *
  generalize tb.length = bn at *
  have hb3 : Below w1.heap.size w1 ((w1.alloc (.cells #[.int .i64 kd, .slice sA sn sc, .slice qA qn qc, .slice jA jn jc, .slice cA cn cc, .slice tA tn tc, .slice bA bn bcc] 60)).alloc (.cells #[.slice yA yn yc, .slice zA zn zc] 62)) := ((Below.refl _ _).alloc (Nat.le_refl _) _).alloc (by simp) _
  have hx1 := (holds_at w1 #[.int .i64 kd, .slice sA sn sc, .slice qA qn qc, .slice jA jn jc, .slice cA cn cc, .slice tA tn tc, .slice bA bn bcc] 60 _ rfl).alloc (.cells #[.slice yA yn yc, .slice zA zn zc] 62)
  have hc1 := holds_at (w1.alloc (.cells #[.int .i64 kd, .slice sA sn sc, .slice qA qn qc, .slice jA jn jc, .slice cA cn cc, .slice tA tn tc, .slice bA bn bcc] 60)) #[.slice yA yn yc, .slice zA zn zc] 62 _ rfl
  rw [World.size_alloc] at hc1
  have HB3 := Lib.hid hb3
  have HX1 := Lib.hid hx1
  have HC1 := Lib.hid hc1
  clear hb3 hx1 hc1
  go_upto_region 4 with fail
  generalize (w1.alloc (.cells #[.int .i64 kd, .slice sA sn sc, .slice qA qn qc, .slice jA jn jc, .slice cA cn cc, .slice tA tn tc, .slice bA bn bcc] 60)).alloc (.cells #[.slice yA yn yc, .slice zA zn zc] 62) = w3 at *
  have HSR := Lib.hid (show ∀ W, Below w3.heap.size w3 W → W.cell? ⟨w1.heap.size, 2, none⟩ = some (.slice qA qn qc) ∧ W.cell? ⟨w1.heap.size + 1, 0, none⟩ = some (.slice yA yn yc) ∧ W.cell? ⟨w1.heap.size + 1, 1, none⟩ = some (.slice zA zn zc) from fun W h => by
    have a := (HX1.out.below h).cell (j := 2) rfl
    have b0 := (HC1.out.below h).cell (j := 0) rfl
    have b1 := (HC1.out.below h).cell (j := 1) rfl
    rw [Nat.zero_add] at a b0 b1
    exact ⟨a, b0, b1⟩)
  refine region_begin (S := fun W => W.cell? ⟨w1.heap.size, 2, none⟩ = some (.slice qA qn qc) ∧ W.cell? ⟨w1.heap.size + 1, 0, none⟩ = some (.slice yA yn yc) ∧ W.cell? ⟨w1.heap.size + 1, 1, none⟩ = some (.slice zA zn zc)) (by kernel_rfl) (HSR.out _ (below_drewN (Below.refl _ _) 1)) (fun hHeld => ?_)
  refine region_take 0 ?_ rfl (by kernel_rfl) (by rfl) hHeld ?_ ?_
  rotate_left
  · intro w hSw
    (try dsimp only at hSw)
    go_simp
    try with_reducible rfl
  try simp only [Act.put, List.setIfInBounds_toArray, List.set_cons_zero, List.set_cons_succ]
  refine region_take 1 ?_ rfl (by kernel_rfl) (by rfl) hHeld ?_ ?_
  rotate_left
  · intro w hSw
    (try dsimp only at hSw)
    go_simp
    try with_reducible rfl
  try simp only [Act.put, List.setIfInBounds_toArray, List.set_cons_zero, List.set_cons_succ]
  refine region_take 2 ?_ rfl (by kernel_rfl) (by rfl) hHeld ?_ ?_
  rotate_left
  · intro w hSw
    (try dsimp only at hSw)
    go_simp
    try with_reducible rfl
  try simp only [Act.put, List.setIfInBounds_toArray, List.set_cons_zero, List.set_cons_succ]
  refine region_take 3 ?_ rfl (by kernel_rfl) (by rfl) hHeld ?_ ?_
  rotate_left
  · intro w hSw
    (try dsimp only at hSw)
    go_simp
    try with_reducible rfl
  try simp only [Act.put, List.setIfInBounds_toArray, List.set_cons_zero, List.set_cons_succ]
  refine region_take 4 ?_ rfl (by kernel_rfl) (by rfl) hHeld ?_ ?_
  rotate_left
  · intro w hSw
    (try dsimp only at hSw)
    go_simp
    try with_reducible rfl
  try simp only [Act.put, List.setIfInBounds_toArray, List.set_cons_zero, List.set_cons_succ]
  refine region_take 5 ?_ rfl (by kernel_rfl) (by rfl) hHeld ?_ ?_
  rotate_left
  · intro w hSw
    (try dsimp only at hSw)
    go_simp
    try with_reducible rfl
  try simp only [Act.put, List.setIfInBounds_toArray, List.set_cons_zero, List.set_cons_succ]
  refine region_take 7 ?_ rfl (by kernel_rfl) (by rfl) hHeld ?_ ?_
  rotate_left
  · intro w hSw
    (try dsimp only at hSw)
    go_simp
    try with_reducible rfl
  try simp only [Act.put, List.setIfInBounds_toArray, List.set_cons_zero, List.set_cons_succ]
  refine region_take 8 ?_ rfl (by kernel_rfl) (by rfl) hHeld ?_ ?_
  rotate_left
  · intro w hSw
    (try dsimp only at hSw)
    go_simp
    try with_reducible rfl
  try simp only [Act.put, List.setIfInBounds_toArray, List.set_cons_zero, List.set_cons_succ]
  refine region_call 6 rfl (by kernel_rfl) (by rfl) (fun K hK => ?_)
  go_simp
  refine (variables_any qn yn _ (by omega) (by omega)).mono ?_
  rintro e2 w4 ⟨R4, m4, c4, l4, rfl, hm4, hv4, hs4, hh4, hk4, hb4⟩
  have HV4 := Lib.hid (show l4.length = m4 ∧ l4.map (fun x => x.2.2) = varsS qn yn ∧ Slice R4 m4 c4 from ⟨hm4, hv4, hs4⟩)
  have HM4 : Hid (m4 = qn) := Lib.hid (by rw [← hm4, ← varsS_len qn yn, ← hv4, List.length_map])
  have HH4 := Lib.hid (show Holds w4 R4 (l4.map rowV) ∧ RowsOk w4 l4 from ⟨hh4, hk4⟩)
  have HB4 := Lib.hid (show Below w3.heap.size w3 w4 from (below_drewN (Below.refl w3.heap.size w3) 1).trans hb4)
  clear hm4 hv4 hs4 hh4 hk4 hb4
  refine hK.out _ _ (HSR.out _ HB4.out) (fun hHeld => ?_)
  clear hK K
  try simp only [Act.put, List.setIfInBounds_toArray, List.set_cons_zero, List.set_cons_succ]
  refine region_call 9 rfl (by kernel_rfl) (by rfl) (fun K hK => ?_)
  go_simp
  have HBL := Lib.hid (show Below w4.heap.size w4 (w4.alloc (.cells #[.slice R4 m4 c4, .slice zA zn zc] 40)) from (Below.refl _ _).alloc (Nat.le_refl _) _)
  have HLH := Lib.hid (show Holds (w4.alloc (.cells #[.slice R4 m4 c4, .slice zA zn zc] 40)) (some ⟨w4.heap.size, 0, none⟩) [.slice R4 m4 c4, .slice zA zn zc] from holds_at w4 #[.slice R4 m4 c4, .slice zA zn zc] 40 _ rfl)
  refine hK.out _ _ (HSR.out _ (below_step HB4.out HBL.out)) (fun hHeld => ?_)
  clear hK K
  try simp only [Act.put, List.setIfInBounds_toArray, List.set_cons_zero, List.set_cons_succ]
  refine region_call 10 rfl (by kernel_rfl) (by rfl) (fun K hK => ?_)
  go_simp
  refine ((concat2_any w4.heap.size R4 zA m4 zn c4 zc l4 lz _ HLH.out HV4.out.1 HV4.out.2.2 (HH4.out.1.below HBL.out) HZ.out.1 HZ.out.2.1 ((HZ.out.2.2 _ (below_step HB3.out (below_step HB4.out HBL.out))).1) (by have := HM4.out; omega)).mono fun _ _ h => h.n).mono ?_
  rintro e2 w5 ⟨A5, n5, c5, rfl, hn5, hs5, hh5, -, hb5⟩
  have HA5 := Lib.hid (show (l4 ++ lz).length = n5 ∧ Slice A5 n5 c5 ∧ Holds w5 A5 ((l4 ++ lz).map rowV) from ⟨hn5, hs5, hh5⟩)
  have HB5 := Lib.hid (below_step HBL.out hb5)
  clear hn5 hs5 hh5 hb5
  refine hK.out _ _ (HSR.out _ (below_step HB4.out HB5.out)) (fun hHeld => ?_)
  clear hK K
  try simp only [Act.put, List.setIfInBounds_toArray, List.set_cons_zero, List.set_cons_succ]
  refine region_take 11 ?_ rfl (by kernel_rfl) (by rfl) hHeld ?_ ?_
  rotate_left
  · intro w hSw
    (try dsimp only at hSw)
    go_simp
    try with_reducible rfl
  try simp only [Act.put, List.setIfInBounds_toArray, List.set_cons_zero, List.set_cons_succ]
  refine region_done (by kernel_rfl) ?_
  have hb6 : Below w5.heap.size w5 (w5.alloc (.cells #[.int .i64 9, .int .i64 e, .int .i64 0] 67)) := (Below.refl _ _).alloc (Nat.le_refl _) _
  have hn6 := holds_at w5 #[.int .i64 9, .int .i64 e, .int .i64 0] 67 (nodesV [(9, e, 0)]) rfl
  have HT5 := Lib.hid (below_step HB3.out (below_step HB4.out HB5.out))
  have HU5 := Lib.hid (below_step HB4.out HB5.out)
  have HU6 := Lib.hid (below_step HU5.out hb6)
  have HT6 := Lib.hid (below_step HT5.out hb6)
  have hrk : RowsOk (w5.alloc (.cells #[.int .i64 9, .int .i64 e, .int .i64 0] 67)) (l4 ++ lz) := fun y hy => by
    rcases List.mem_append.1 hy with hy | hy
    · exact ((HH4.out.2.below HB5.out).below hb6) y hy
    · exact (HZ.out.2.2 _ HT6.out).2 y hy
  have HAP := Lib.hid (tapply_any (some ⟨w5.heap.size, 0, none⟩) 1 1 [(9, e, 0)] A5 n5 c5 (l4 ++ lz) _ rfl ⟨Nat.le_refl _, by omega, fun h => by cases h⟩ hn6 HA5.out.1 (by rw [← HA5.out.1, List.length_append, HV4.out.1, HZ.out.1, HM4.out]; omega) (HA5.out.2.2.below hb6) hrk (HL1.out.next HT6.out) (by omega) (by rw [flat_app, List.length_append, flat_vars HV4.out.2.1]; have := HFL.out.2.2; omega))
  have HAL := Lib.hid (apply_len2 [(9, e, 0)] (varsS qn yn ++ lz.map fun x => x.2.2))
  have e1 : (l4 ++ lz).map (fun x => x.2.2) = varsS qn yn ++ lz.map fun x => x.2.2 := by rw [List.map_append, HV4.out.2.1]
  rw [e1] at HAP
  generalize applyS [(9, e, 0)] (varsS qn yn ++ lz.map fun x => x.2.2) = ap at *
  obtain ⟨a1, a2⟩ := ap
  simp only at HRS2 HAL
  clear e1 hb6 hn6 hrk HSR
  go_wp2_with fail
  refine (HAP.out).mono ?_
  rintro e3 w6 ⟨A6, n6, c6, rfl, hn6, ho6, hb6⟩
  have HB6 := Lib.hid (below_step HT6.out hb6)
  have HU7 := Lib.hid (below_step HU6.out hb6)
  obtain ⟨A6', c6', e6, hs6, -⟩ := own_slice ho6
  cases e6
  have HA6 := Lib.hid (show a1.length = n6 ∧ Slice A6 n6 c6 ∧ Holds w6 A6 (nodesV a1) from ⟨hn6, hs6, own_holds ho6⟩)
  clear hn6 ho6 hb6 hs6 HAP
  by_cases h0 : a2 = 0
  case neg =>
    have HX : Hid (res = ([], a2)) := Lib.hid (by rw [HRS2.out, if_pos h0])
    have h0b : (a2 != 0) = true := by simpa using h0
    clear HRS2
    go_wp2_with fail
    go_ret2
    rw [HX.out]
    exact .none _ (below_step HBA.out HB6.out)
  subst h0
  have HX : Hid (bindS 4 ((lq ++ ly).map fun x => x.2.2) a1 = res) := Lib.hid (by rw [HRS2.out, if_neg (by omega), List.map_append])
  have hxs := HX1.out.below HU7.out
  have hcs := HC1.out.below HU7.out
  have x2 := hxs.cell (j := 2) rfl
  have c0 := hcs.cell (j := 0) rfl
  rw [Nat.zero_add] at x2 c0
  have hb8 : Below w6.heap.size w6 (w6.alloc (.cells #[.slice qA qn qc, .slice yA yn yc] 40)) := (Below.refl _ _).alloc (Nat.le_refl _) _
  have hl8 := holds_at w6 #[.slice qA qn qc, .slice yA yn yc] 40 [.slice qA qn qc, .slice yA yn yc] rfl
  have HCC := Lib.hid (concat2_any w6.heap.size qA yA qn yn qc yc lq ly _ hl8 HP.out.1 HP.out.2.1 (HP.out.2.2 _ (below_step HB6.out hb8)).1 HY.out.1 HY.out.2.1 (HY.out.2.2 _ (below_step HB6.out hb8)).1 (by omega))
  have HB8 := Lib.hid hb8
  clear hxs hcs hb8 hl8 HRS2
  go_wp2_with fail
  refine ((HCC.out).mono fun _ _ h => h.n).mono ?_
  rintro e4 w9 ⟨A9, n9, c9, rfl, hn9, hs9, hh9, -, hb9⟩
  have HB9 := Lib.hid (below_step HB6.out (below_step HB8.out hb9))
  have HV9 := Lib.hid (show (lq ++ ly).length = n9 ∧ Slice A9 n9 c9 ∧ Holds w9 A9 ((lq ++ ly).map rowV) from ⟨hn9, hs9, hh9⟩)
  have hrk : RowsOk w9 (lq ++ ly) := fun y hy => by
    rcases List.mem_append.1 hy with hy | hy
    · exact (HP.out.2.2 _ HB9.out).2 y hy
    · exact (HY.out.2.2 _ HB9.out).2 y hy
  have HBD := Lib.hid (tbind_any 4 A6 n6 c6 a1 A9 n9 c9 (lq ++ ly) w9 HA6.out.1 HA6.out.2.1 ((HA6.out.2.2.below HB8.out).below hb9) HV9.out.1 (by rw [← HV9.out.1, List.length_append, HP.out.1, HY.out.1]; omega) HV9.out.2.2 hrk (HL1.out.next HB9.out) (by have := HAL.out; have := HA6.out.1; omega) (by rw [flat_app, List.length_append]; have := HFL.out; omega))
  rw [HX.out] at HBD
  clear hn9 hs9 hh9 hb9 hrk HCC x2 c0
  go_wp2_with fail
  refine (HBD.out).mono ?_
  rintro e5 w10 ⟨A10, n10, c10, rfl, hn10, ho10, hb10⟩
  have HW := Lib.hid (show RowAns res w (.returned (.tuple #[.slice A10 n10 c10, .int .i64 res.2])) w10 from ⟨A10, n10, c10, rfl, hn10, own_base ho10 (Nat.le_trans HBA.out.size HB9.out.size), below_step (below_step HBA.out HB9.out) hb10⟩)
  clear hn10 ho10 hb10
  go_wp2_with fail
  go_ret2
  exact HW.out
end Go.Proofs.YtfeodppdmbideaaGreatDoor
namespace Go.Proofs.YtfeodppdmbideaaGreatDoor
open Go.RowKit

theorem err_empty : errS 0 [] = 0 := by decide +kernel
theorem right_num : rightE numP = 0 := by decide +kernel
theorem right_none : rightE ⟨0, [], [], 1, []⟩ = 22 := by decide +kernel
theorem ctype_num : ctypeS numP 0 1 = ([(4, 0, 0), (9, 0, 0), (9, 0, 0)], 0) := by decide +kernel
theorem prog_num : progE ⟨numP, [(10, 0, 0)], [(9, 0, 0)]⟩ = 0 := by decide +kernel
theorem leb_low {n : Nat} (h : n < 128) : leb n = [n] := leb_small h
theorem enc_num : encG ⟨numP, [(10, 0, 0)], [(9, 0, 0)]⟩ = [0, 0, 1, 1, 2, 2, 1, 1, 3, 0, 0, 0, 0, 2, 0, 0, 1, 1, 9, 0, 0, 0, 1, 0, 1, 10, 0, 0, 1, 9, 0, 0] := by
  simp [encG, encB, encE, encC, encAll, encR, numP, lebT, lebs, flatT, leb_low]
theorem numS_low {n : Nat} {most : Int} (h : n < 128) (hm : (n : Int) ≤ most) (r : List Nat) : numS most (n :: r, 0) = (n, (r, 0)) := by
  have := numS_leb hm r
  rwa [leb_small h] at this
set_option maxRecDepth 100000 in
theorem dec_num : progS ([0, 0, 1, 1, 2, 2, 1, 1, 3, 0, 0, 0, 0, 2, 0, 0, 1, 1, 9, 0, 0, 0, 1, 0, 1, 10, 0, 0, 1, 9, 0, 0], 0) = (⟨numP, [(10, 0, 0)], [(9, 0, 0)]⟩, ([], 0)) := by
  simp [progS, bookS, entS, entFam, ctorS, allS, manyS, rowS, orowA, nodeS, numS_low, numP]
theorem encode_num : encodeS ⟨numP, [(10, 0, 0)], [(9, 0, 0)]⟩ = ([0, 0, 1, 1, 2, 2, 1, 1, 3, 0, 0, 0, 0, 2, 0, 0, 1, 1, 9, 0, 0, 0, 1, 0, 1, 10, 0, 0, 1, 9, 0, 0], 0) := by
  unfold encodeS
  rw [prog_num, enc_num]
  rfl
theorem decode_num : decodeS [0, 0, 1, 1, 2, 2, 1, 1, 3, 0, 0, 0, 0, 2, 0, 0, 1, 1, 9, 0, 0, 0, 1, 0, 1, 10, 0, 0, 1, 9, 0, 0] = (⟨numP, [(10, 0, 0)], [(9, 0, 0)]⟩, 0) := by
  unfold decodeS
  rw [dec_num, if_neg (by simp), if_neg (by simp), if_neg (by simp), prog_num]
  rfl
end Go.Proofs.YtfeodppdmbideaaGreatDoor
namespace Go.Proofs.YtfeodppdmbideaaGreatDoor
open Go.RowKit

abbrev numBytes : List Nat := [0, 0, 1, 1, 2, 2, 1, 1, 3, 0, 0, 0, 0, 2, 0, 0, 1, 1, 9, 0, 0, 0, 1, 0, 1, 10, 0, 0, 1, 9, 0, 0]
theorem small_num (s : Nat) : SmallBook (numB s) := fun x hx => by
  rw [List.mem_singleton] at hx
  subst hx
  refine ⟨by simp [flatR], by simp [flatR], fun c hc => ?_⟩
  simp only [List.mem_cons, List.not_mem_nil, or_false] at hc
  rcases hc with rfl | rfl <;> exact ⟨by simp [flatR], by simp [flatR]⟩
theorem ct_num (s : Nat) (w : World) (h : BookOk w (numB s)) (hL : Lim w) : Calls Tryz.prog 19 #[(numB s).val, .int .i64 0, .int .i64 1] w (fun e w' => ∃ A c, e = .returned (.tuple #[.slice A 3 c, .int .i64 0]) ∧ Holds w' A (nodesV [(4, 0, 0), (9, 0, 0), (9, 0, 0)]) ∧ Below w.heap.size w w') := by
  refine (ctype_any (numB s) 0 1 w h hL (i64_few (by decide) (by decide)) (i64_few (by decide) (by decide)) (small_num s)).mono fun e w' hp => ?_
  rw [numB_p, ctype_num] at hp
  obtain ⟨A, n, c, rfl, hn, ho, hb⟩ := hp
  obtain rfl : 3 = n := hn
  exact ⟨A, c, rfl, own_holds ho, hb⟩
abbrev numG (s g h : Nat) : ProgT := ⟨numB s, (some ⟨g, 0, none⟩, 1, [(10, 0, 0)]), (some ⟨h, 0, none⟩, 1, [(9, 0, 0)])⟩
theorem en_num (s g h : Nat) (w : World) (hb : BookOk w (numB s)) (h1 : Holds w (some ⟨g, 0, none⟩) (nodesV [(10, 0, 0)])) (h2 : Holds w (some ⟨h, 0, none⟩) (nodesV [(9, 0, 0)])) (hL : Lim w) :
    Calls Tryz.prog 24 #[(numG s g h).val] w (fun e w' => ∃ A c, e = .returned (.tuple #[.slice A 32 c, .int .i64 0]) ∧ Slice A 32 c ∧ Holds w' A (bytesV numBytes) ∧ Below w.heap.size w w') := by
  have hok : ProgOk w (numG s g h) := ⟨hb, fun x hx => by
      simp only [List.mem_cons, List.not_mem_nil, or_false] at hx
      rcases hx with rfl | rfl
      · exact ⟨slice_few _ _ (by simp), h1⟩
      · exact ⟨slice_few _ _ (by simp), h2⟩, fun x hx n hn => by
      simp only [List.mem_cons, List.not_mem_nil, or_false] at hx
      rcases hx with rfl | rfl <;> (rw [List.mem_singleton] at hn; subst hn; exact ⟨i64_few (by decide) (by decide), i64_few (by decide) (by decide), i64_few (by decide) (by decide)⟩), fun x hx => by
      simp only [List.mem_cons, List.not_mem_nil, or_false] at hx
      rcases hx with rfl | rfl <;> simp⟩
  refine (encode_any (numG s g h) w hok hL).mono fun e w' hp => ?_
  have hq : (numG s g h).p = ⟨numP, [(10, 0, 0)], [(9, 0, 0)]⟩ := rfl
  rw [hq, encode_num] at hp
  cases hp with
  | none _ x hx h0 _ =>
    simp only [Prod.mk.injEq] at hx
    exact absurd hx.2.symm h0
  | some _ A n c hn _ ho hs hb' =>
    obtain rfl : 32 = n := hn
    exact ⟨A, c, rfl, hs, own_holds ho, hb'⟩
theorem de_num (A : Option Addr) (c : Nat) (w : World) (hs : Slice A 32 c) (hA : Holds w A (bytesV numBytes)) (hL : Lim w) :
    Calls Tryz.prog 26 #[.slice A 32 c] w (fun e w' => ∃ va oA on oc eA en ec nt pA pn pc mA mc tA tn tc, e = .returned (.tuple #[.agg #[.int .i64 va, .slice oA on oc, .slice eA en ec, .int .i64 nt, .slice pA pn pc, .slice mA 1 mc, .slice tA tn tc], .int .i64 0]) ∧ Below w.heap.size w w') := by
  refine (decode_any A c 32 numBytes w rfl hs hA (fun x hx => by
    simp only [List.mem_cons, List.not_mem_nil, or_false] at hx
    omega) hL (by omega)).mono fun e w' hp => ?_
  rw [decode_num] at hp
  obtain ⟨⟨⟨va, ⟨oA, oc, ol⟩, ⟨eA, ec, el⟩, nt, ⟨pA, pc, pl⟩⟩, ⟨mA, mc, ml⟩, ⟨tA, tc, tl⟩⟩, rfl, hx, -, hb⟩ := hp
  have hm : ml.length = 1 := by
    have := congrArg (fun p => p.main.length) hx
    exact this
  refine ⟨va, oA, ol.length, oc, eA, el.length, ec, nt, pA, pl.length, pc, mA, mc, tA, tl.length, tc, ?_, hb⟩
  simp only [ProgT.val, entsV, rowV]
  rw [hm]
theorem rt_num (w : World) (hL : Lim w) : Calls Tryz.prog 13 #[.agg #[.int .i64 0, .slice none 0 0, .slice none 0 0, .int .i64 1, .slice none 0 0]] w (fun e w' => e = .returned (.int .i64 22) ∧ Below w.heap.size w w') := by
  have h := right_any ⟨0, (none, 0, []), (none, 0, []), 1, (none, 0, [])⟩ w ⟨⟨⟨slice_nil, Holds.nil _ _⟩, ⟨slice_nil, Holds.nil _ _, fun _ hx => (by cases hx)⟩, ⟨slice_nil, Holds.nil _ _⟩⟩,
    ⟨i64_few (by decide) (by decide), i64_few (by decide) (by decide), fun _ hx => (by cases hx), fun _ hx => (by cases hx), fun _ hx => (by cases hx)⟩, fun _ hx => (by cases hx), by simp, by simp, by simp⟩ hL
  have hq : (⟨0, (none, 0, []), (none, 0, []), 1, (none, 0, [])⟩ : BookT).p = ⟨0, [], [], 1, []⟩ := rfl
  rw [hq, right_none] at h
  exact h
set_option maxRecDepth 100000 in
set_option maxHeartbeats 8000000 in
theorem bawake_any (w : World) (hL : Lim w) : Calls Tryz.prog 11 #[] w (fun e w' => e = .returned (.bool true) ∧ Below w.heap.size w w') := by
  have HL := Lib.hid (show ∀ W, Below w.heap.size w W → Lim W from fun W h => hL.next h)
  clear hL
  go_enter Tryz.func11, Tryz.ntmps11
  go_wp2_with fail
  refine (numbers_ret _).mono ?_
  rintro e w1 ⟨rfl, hbk, g⟩
  have HB1 := Lib.hid g
  have HC := Lib.hid (ct_num _ _ hbk (HL.out _ g))
  clear hbk g
  go_wp2_with fail
  refine (HC.out).mono ?_
  rintro e w2 ⟨A2, c2, rfl, ht, g⟩
  have HB2 := Lib.hid (HB1.out.trans (g.mono HB1.out.size))
  have HT2 := Lib.hid ht
  clear g ht HC HB1
  go_wp2_with fail
  refine (numbers_ret _).mono ?_
  rintro e w3 ⟨rfl, hbk, g⟩
  have HB3 := Lib.hid (HB2.out.trans (g.mono HB2.out.size))
  have HT3 := Lib.hid (HT2.out.below g)
  have g4 : Below w3.heap.size w3 ((w3.alloc (.cells #[.int .i64 10, .int .i64 0, .int .i64 0] 67)).alloc (.cells #[.int .i64 9, .int .i64 0, .int .i64 0] 67)) := ((Below.refl _ _).alloc (Nat.le_refl _) _).alloc (by simp) _
  have h1 : Holds ((w3.alloc (.cells #[.int .i64 10, .int .i64 0, .int .i64 0] 67)).alloc (.cells #[.int .i64 9, .int .i64 0, .int .i64 0] 67)) (some ⟨w3.heap.size, 0, none⟩) (nodesV [(10, 0, 0)]) := (holds_lit w3 [.int .i64 10, .int .i64 0, .int .i64 0] _).alloc _
  have h2 : Holds ((w3.alloc (.cells #[.int .i64 10, .int .i64 0, .int .i64 0] 67)).alloc (.cells #[.int .i64 9, .int .i64 0, .int .i64 0] 67)) (some ⟨w3.heap.size + 1, 0, none⟩) (nodesV [(9, 0, 0)]) := by
    have := holds_lit (w3.alloc (.cells #[.int .i64 10, .int .i64 0, .int .i64 0] 67)) [.int .i64 9, .int .i64 0, .int .i64 0] 67
    rwa [World.size_alloc] at this
  have HE := Lib.hid (en_num _ _ _ _ (hbk.below g4) h1 h2 (HL.out _ (HB3.out.trans (g4.mono HB3.out.size))))
  have HB4 := Lib.hid (HB3.out.trans (g4.mono HB3.out.size))
  have HT4 := Lib.hid (HT3.out.below g4)
  obtain ⟨W4, hW4⟩ : ∃ W4, W4 = ((w3.alloc (.cells #[.int .i64 10, .int .i64 0, .int .i64 0] 67)).alloc (.cells #[.int .i64 9, .int .i64 0, .int .i64 0] 67)) := ⟨_, rfl⟩
  rw [← hW4] at HE HB4 HT4
  have HW4 := Lib.hid hW4
  clear hbk g g4 h1 h2 HB2 HT2 HT3 HB3 hW4
  simp only [BookT.val, entsV]
  go_wp2_with fail
  rw [← HW4.out]
  refine (HE.out).mono ?_
  rintro e w5 ⟨A5, c5, rfl, hs5, hA5, g⟩
  have HB5 := Lib.hid (HB4.out.trans (g.mono HB4.out.size))
  have HT5 := Lib.hid (HT4.out.below g)
  have HD := Lib.hid (de_num A5 c5 w5 hs5 hA5 (HL.out _ HB5.out))
  clear hs5 hA5 g HE HB4 HT4
  go_wp2_with fail
  refine (HD.out).mono ?_
  rintro e w6 ⟨va, oA, on, oc, eA, en, ec, nt, pA, pn, pc, mA, mc, tA, tn, tc, rfl, g⟩
  have HB6 := Lib.hid (HB5.out.trans (g.mono HB5.out.size))
  have HT6 := Lib.hid (HT5.out.below g)
  have g7 : Below w6.heap.size w6 (w6.alloc (.cells #[.int .i64 va, .slice oA on oc, .slice eA en ec, .int .i64 nt, .slice pA pn pc, .slice mA 1 mc, .slice tA tn tc] 46)) := (Below.refl _ _).alloc (Nat.le_refl _) _
  have hp := holds_at w6 #[.int .i64 va, .slice oA on oc, .slice eA en ec, .int .i64 nt, .slice pA pn pc, .slice mA 1 mc, .slice tA tn tc] 46 _ rfl
  obtain ⟨W7, hW7⟩ : ∃ W7, W7 = w6.alloc (.cells #[.int .i64 va, .slice oA on oc, .slice eA en ec, .int .i64 nt, .slice pA pn pc, .slice mA 1 mc, .slice tA tn tc] 46) := ⟨_, rfl⟩
  have hz7 : W7.heap.size = w6.heap.size + 1 := by rw [hW7]; simp
  rw [← hW7] at g7 hp
  have HB7 := Lib.hid (HB6.out.trans (g7.mono HB6.out.size))
  have HT7 := Lib.hid (HT6.out.below g7)
  have HP := Lib.hid hp
  have HW7 := Lib.hid hW7
  have HZ7 := Lib.hid hz7
  clear g g7 hp hz7 hW7 HB5 HT5 HB6 HT6 HD
  go_wp2_with fail
  rw [← HW7.out]
  go_wp2_with fail
  have g8 : Below W7.heap.size W7 (W7.alloc (.cells #[.int .i64 4, .int .i64 0, .int .i64 0, .int .i64 9, .int .i64 0, .int .i64 0, .int .i64 9, .int .i64 0, .int .i64 0] 67)) := (Below.refl _ _).alloc (Nat.le_refl _) _
  have h8 : Holds (W7.alloc (.cells #[.int .i64 4, .int .i64 0, .int .i64 0, .int .i64 9, .int .i64 0, .int .i64 0, .int .i64 9, .int .i64 0, .int .i64 0] 67)) (some ⟨w6.heap.size + 1, 0, none⟩) (nodesV [(4, 0, 0), (9, 0, 0), (9, 0, 0)]) := by
    have := holds_lit W7 [.int .i64 4, .int .i64 0, .int .i64 0, .int .i64 9, .int .i64 0, .int .i64 0, .int .i64 9, .int .i64 0, .int .i64 0] 67
    rwa [HZ7.out] at this
  refine (tsame_n A2 _ 3 3 c2 3 [(4, 0, 0), (9, 0, 0), (9, 0, 0)] [(4, 0, 0), (9, 0, 0), (9, 0, 0)] _ rfl rfl (HT7.out.below g8) h8 (by omega) true (by simp)).mono ?_
  rintro e w9 ⟨rfl, g⟩
  have HB8 := Lib.hid (HB7.out.trans (g8.mono HB7.out.size))
  have HB9 := Lib.hid (HB8.out.trans (g.mono HB8.out.size))
  have hc : w9.cell? ⟨w6.heap.size, 5, none⟩ = some (.slice mA 1 mc) := by
    have := ((HP.out.below g8).below g).cell (j := 5) rfl
    rwa [Nat.zero_add] at this
  clear g g8 h8 HB7 HT7
  go_wp2_with fail
  refine (rt_num _ (HL.out _ HB9.out)).mono ?_
  rintro e w10 ⟨rfl, g⟩
  have HB10 := Lib.hid (HB9.out.trans (g.mono HB9.out.size))
  clear g hc
  go_wp2_with fail
  go_ret
  exact ⟨rfl, HB10.out⟩
end Go.Proofs.YtfeodppdmbideaaGreatDoor
