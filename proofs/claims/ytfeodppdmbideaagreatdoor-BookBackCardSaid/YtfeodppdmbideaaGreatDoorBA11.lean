/- The way to the laws of books: BFam to BEnts. -/
import Derived.Test.YtfeodppdmbideaaGreatDoorBA10
import Derived.Test.YtfeodppdmbideaaGreatDoorBA3
namespace Go.Proofs.YtfeodppdmbideaaGreatDoor
open Go.RowKit

/-- An entry that may be looked at. -/
structure EntOk (w : World) (x : EntT) : Prop where
  inn : EntIn w x
  wide : WideEnt x
  long : LongR x.pars.2.2 ∧ LongR x.inds.2.2 ∧ x.sort.2.2.length ≤ 4611686018427387904 ∧ x.typ.2.2.length ≤ 4611686018427387904 ∧ x.body.2.2.length ≤ 4611686018427387904
  few : x.pars.2.2.length ≤ 4611686018427387904 ∧ x.inds.2.2.length ≤ 4611686018427387904 ∧ x.ctors.2.2.length ≤ 4611686018427387904
  ctors : ∀ c ∈ x.ctors.2.2, CtorOk w c
theorem EntOk.below {w w' : World} {x : EntT} (h : EntOk w x) (hb : Below w.heap.size w w') : EntOk w' x := ⟨h.inn.below hb, h.wide, h.long, h.few, fun c hc => (h.ctors c hc).below hb⟩
/-- What a family is known by. -/
def famL (at_ cn : Nat) : List Node3 := (9, (at_ : Int), 0) :: (11, (at_ : Int), 0) :: (List.range cn).map fun (k : Nat) => ((10 : Int), (at_ : Int), (k : Int))
theorem CtorOk.turn {g : Nat} {w w' : World} {c : CtorT} (h : CtorOk w c) (t : Turn g w w') : CtorOk w' c := ⟨h.inn.turn t, h.wide, h.long, h.few⟩
theorem EntOk.turn {g : Nat} {w w' : World} {x : EntT} (h : EntOk w x) (t : Turn g w w') : EntOk w' x := ⟨h.inn.turn t, h.wide, h.long, h.few, fun c hc => (h.ctors c hc).turn t⟩
theorem famL_succ (at_ k : Nat) : famL at_ (k + 1) = famL at_ k ++ [((10 : Int), (at_ : Int), (k : Int))] := by simp [famL, List.range_succ]
theorem add_add (f : Node3 → Bool) (L M : List Node3) (y : Node3) : addB (addB f L) M y = addB f (L ++ M) y := by
  unfold addB
  rw [Bool.or_assoc, ← Bool.decide_or]
  congr 1
  exact decide_eq_decide.2 List.mem_append.symm
/-- What the scope is behind an entry: where it is right, more is known. -/
def KnowPost (g m : Nat) (f' : Node3 → Bool) (r : Int) (w : World) (e : Ending) (w' : World) : Prop := e = .returned (.int .i64 r) ∧ Turn g w w' ∧ (r = 0 → ∃ m', m' ≤ m + 18 ∧ OwnsN w' g m' f')
theorem KnowPost.turn {g m : Nat} {f' : Node3 → Bool} {r r' : Int} {w w' : World} (he : r = r') (h0 : r ≠ 0) (hb : Turn g w w') : KnowPost g m f' r w (.returned (.int .i64 r')) w' := ⟨by rw [he], hb, fun h => absurd h h0⟩
theorem KnowPost.ok {g m m' : Nat} {f' : Node3 → Bool} {r r' : Int} {w w' : World} (he : r = r') (hb : Turn g w w') (hm : m' ≤ m + 18) (hN : OwnsN w' g m' f') : KnowPost g m f' r w (.returned (.int .i64 r')) w' := ⟨by rw [he], hb, fun _ => ⟨_, hm, hN⟩⟩
theorem KnowPost.err {g m : Nat} {f f' : Node3 → Bool} {r r' : Int} {w w' : World} (he : r = r') (h0 : r ≠ 0) (hN : OwnsN w g m f) (hb : Below w.heap.size w w') : KnowPost g m f' r w (.returned (.int .i64 r')) w' := .turn he h0 (.of_below hb hN.noCells)
set_option maxRecDepth 100000 in
set_option maxHeartbeats 8000000 in
theorem familyFault_any (vars : Int) (g m : Nat) (f : Node3 → Bool) (at_ : Nat) (x : EntT) (w : World) (hx : EntOk w x) (hat : at_ ≤ 1000000) (hm : m ≤ 1000000) (hN : OwnsN w g m f) (hL : Lim w) :
    Calls Tryz.prog 125 #[scopeA vars g, .int .i64 (at_ : Int), x.val] w (KnowPost g m (addB f (famL at_ x.ctors.2.2.length)) (famE (rowF vars f) (rowF vars (addB f [(9, (at_ : Int), 0)])) x.p) w) := by
  obtain ⟨kd, ⟨sA, sc, ts⟩, ⟨pA, pc, lp⟩, ⟨jA, jc, lj⟩, ⟨cA, cc, lc⟩, ⟨tA, tc, tt⟩, ⟨bA, bc, tb⟩⟩ := x
  obtain ⟨⟨hs, hp, hj, hc, ht, hb⟩, ⟨wk, ws, wp, wj, wc, wt, wb⟩, ⟨gp, gj, gs, gt, gb⟩, ⟨fp, fj, fc⟩, hck⟩ := hx
  obtain ⟨sn, hsn⟩ : ∃ n, ts.length = n := ⟨_, rfl⟩
  obtain ⟨pn, hpn⟩ : ∃ n, lp.length = n := ⟨_, rfl⟩
  obtain ⟨jn, hjn⟩ : ∃ n, lj.length = n := ⟨_, rfl⟩
  obtain ⟨cn, hcn⟩ : ∃ n, lc.length = n := ⟨_, rfl⟩
  obtain ⟨tn, htn⟩ : ∃ n, tt.length = n := ⟨_, rfl⟩
  obtain ⟨bn, hbn⟩ : ∃ n, tb.length = n := ⟨_, rfl⟩
  obtain ⟨r, hr⟩ : ∃ r, r = famE (rowF vars f) (rowF vars (addB f [(9, (at_ : Int), 0)])) (EntT.p ⟨kd, (sA, sc, ts), (pA, pc, lp), (jA, jc, lj), (cA, cc, lc), (tA, tc, tt), (bA, bc, tb)⟩) := ⟨_, rfl⟩
  show Calls Tryz.prog 125 #[scopeA vars g, .int .i64 (at_ : Int), .agg #[.int .i64 kd, .slice sA ts.length sc, .slice pA lp.length pc, .slice jA lj.length jc, .slice cA lc.length cc, .slice tA tt.length tc, .slice bA tb.length bc]] w
    (KnowPost g m (addB f (famL at_ lc.length)) (famE (rowF vars f) (rowF vars (addB f [(9, (at_ : Int), 0)])) (EntT.p ⟨kd, (sA, sc, ts), (pA, pc, lp), (jA, jc, lj), (cA, cc, lc), (tA, tc, tt), (bA, bc, tb)⟩)) w)
  rw [← hr, hsn, hpn, hjn, hcn, htn, hbn]
  unfold famE EntT.p rowsP at hr
  simp only [List.length_map, hpn, hjn, hcn, ← List.map_append] at hr
  have hte : tt ≠ [] ↔ 0 < tn := by rw [← htn]; exact List.length_pos_iff.symm
  have hbe : tb ≠ [] ↔ 0 < bn := by rw [← hbn]; exact List.length_pos_iff.symm
  simp only [hte, hbe] at hr
  have HR := Lib.hid hr
  have hbx : Below w.heap.size w ((w.alloc (.cells #[.int .i64 vars, .map (some g)] 74)).alloc (.cells #[.int .i64 kd, .slice sA sn sc, .slice pA pn pc, .slice jA jn jc, .slice cA cn cc, .slice tA tn tc, .slice bA bn bc] 60)) := ((Below.refl _ _).alloc (Nat.le_refl _) _).alloc (by simp) _
  have hS0 := (holds_at w #[.int .i64 vars, .map (some g)] 74 _ rfl).alloc (.cells #[.int .i64 kd, .slice sA sn sc, .slice pA pn pc, .slice jA jn jc, .slice cA cn cc, .slice tA tn tc, .slice bA bn bc] 60)
  have hE0 := holds_at (w.alloc (.cells #[.int .i64 vars, .map (some g)] 74)) #[.int .i64 kd, .slice sA sn sc, .slice pA pn pc, .slice jA jn jc, .slice cA cn cc, .slice tA tn tc, .slice bA bn bc] 60 _ rfl
  rw [World.size_alloc] at hE0
  have HBX := Lib.hid hbx
  have HS0 := Lib.hid hS0
  have HE0 := Lib.hid hE0
  have HN0 := Lib.hid hN
  have HN := Lib.hid (show ∀ w', Below w.heap.size w w' → OwnsN w' g m f from fun w' hb => hN.below hb)
  have HL := Lib.hid (show ∀ w', Below w.heap.size w w' → Lim w' from fun w' hb => hL.next hb)
  have HGL := Lib.hid hN.lt
  have HLP := Lib.hid (show lp.length = pn ∧ Slice pA pn pc from ⟨hpn, by have := hp.1; rwa [hpn] at this⟩)
  have HLJ := Lib.hid (show lj.length = jn ∧ Slice jA jn jc from ⟨hjn, by have := hj.1; rwa [hjn] at this⟩)
  have HPJ := Lib.hid (show ∀ w', Below w.heap.size w w' → (Holds w' pA (lp.map rowV) ∧ RowsOk w' lp) ∧ (Holds w' jA (lj.map rowV) ∧ RowsOk w' lj) from fun w' hb => ⟨⟨hp.2.1.below hb, hp.2.2.below hb⟩, ⟨hj.2.1.below hb, hj.2.2.below hb⟩⟩)
  have HPJ3 := Lib.hid (show ∀ w', Below w.heap.size w w' → RowsOk w' (lp ++ lj) from fun w' hb y hy => by
    rcases List.mem_append.1 hy with hy | hy
    · exact (hp.2.2.below hb) y hy
    · exact (hj.2.2.below hb) y hy)
  have HWJ := Lib.hid (show WideRows (lp ++ lj) ∧ LongR (lp ++ lj) from ⟨fun y hy => by
    rcases List.mem_append.1 hy with hy | hy
    · exact wp y hy
    · exact wj y hy, fun y hy => by
    rcases List.mem_append.1 hy with hy | hy
    · exact gp y hy
    · exact gj y hy⟩)
  have HSO := Lib.hid (show ts.length = sn ∧ (∀ n ∈ ts, Wide3 n) ∧ sn ≤ 4611686018427387904 ∧ ∀ w', Below w.heap.size w w' → Holds w' sA (nodesV ts) from ⟨hsn, ws, by rw [← hsn]; exact gs, fun w' hb => hs.2.below hb⟩)
  have HCO := Lib.hid (show lc.length = cn ∧ Slice cA cn cc ∧ (∀ w', Turn g w w' → Holds w' cA (ctorsCV lc) ∧ ∀ c ∈ lc, CtorOk w' c) ∧ ∀ w', Turn g w w' → Lim w' from ⟨hcn, by have := hc.1; rwa [hcn] at this, fun w' hb => ⟨hc.2.1.turn hb, fun c h => (hck c h).turn hb⟩, fun w' hb => hL.turn hb⟩)
  clear hr hs hp hj hc ht hb wk ws wp wj wc wt wb gp gj gs gt gb hck hte hbe hbx hS0 hE0 hN hL hsn hpn hjn hcn htn hbn
  by_cases h8 : 0 < tn ∨ 0 < bn
  · have HX : Hid (r = 8) := Lib.hid (by rw [HR.out, if_pos h8])
    rcases Nat.eq_zero_or_pos tn with rfl | ht0
    · have hb0 : 0 < bn := by omega
      go_enter Tryz.func125, Tryz.ntmps125
      go_wp2_with fail
      go_ret
      exact .err HX.out (by rw [HX.out]; omega) HN0.out HBX.out
    · go_enter Tryz.func125, Tryz.ntmps125
      go_wp2_with fail
      go_ret
      exact .err HX.out (by rw [HX.out]; omega) HN0.out HBX.out
  obtain ⟨rfl, rfl⟩ : tn = 0 ∧ bn = 0 := by omega
  by_cases h5 : 16 < pn ∨ 16 < jn ∨ 16 < cn
  · have HX : Hid (r = 5) := Lib.hid (by rw [HR.out, if_neg h8, if_pos h5])
    by_cases hp16 : 16 < pn
    · go_enter Tryz.func125, Tryz.ntmps125
      go_wp2_with fail
      go_ret
      exact .err HX.out (by rw [HX.out]; omega) HN0.out HBX.out
    by_cases hj16 : 16 < jn
    · go_enter Tryz.func125, Tryz.ntmps125
      go_wp2_with fail
      go_ret
      exact .err HX.out (by rw [HX.out]; omega) HN0.out HBX.out
    · have hc16 : 16 < cn := by omega
      go_enter Tryz.func125, Tryz.ntmps125
      go_wp2_with fail
      go_ret
      exact .err HX.out (by rw [HX.out]; omega) HN0.out HBX.out
  have hp16 : ¬ 16 < pn := by omega
  have hj16 : ¬ 16 < jn := by omega
  have hc16 : ¬ 16 < cn := by omega
  have HX : Hid (r = if rowF vars f 0 ts ≠ 0 then rowF vars f 0 ts else if (ts.head?.getD (0, 0, 0)).1 ≠ 2 then 8
    else if firstE (fun j t => rowF vars f (j : Int) t) 0 ((lp ++ lj).map fun x => x.2.2) ≠ 0 then firstE (fun j t => rowF vars f (j : Int) t) 0 ((lp ++ lj).map fun x => x.2.2)
    else firstE (fun _ c => ctorE (rowF vars (addB f [(9, (at_ : Int), 0)])) pn jn c) 0 (lc.map CtorT.p)) := Lib.hid (by rw [HR.out, if_neg h8, if_neg h5])
  clear HR
  go_enter Tryz.func125, Tryz.ntmps125
  go_wp2_with fail
  refine (rowFault_any vars g m f sA sn sc ts 0 _ HSO.out.1 HSO.out.2.2.1 (HSO.out.2.2.2 _ HBX.out) HSO.out.2.1 (HN.out _ HBX.out) (HL.out _ HBX.out)).mono ?_
  rintro e w1 ⟨rfl, hb1⟩
  have HB1 := Lib.hid (below_step HBX.out hb1)
  have HS1 := Lib.hid (HS0.out.below hb1)
  have HE1 := Lib.hid (HE0.out.below hb1)
  clear hb1
  by_cases hq0 : rowF vars f 0 ts = 0
  case neg =>
    have HX0 : Hid (r = rowF vars f 0 ts) := Lib.hid (by rw [HX.out, if_pos hq0])
    generalize rowF vars f 0 ts = q at *
    have hq1 : (q != 0) = true := by simpa using hq0
    clear HX
    go_wp2_with fail
    go_ret
    exact .err HX0.out (by rw [HX0.out]; exact hq0) HN0.out HB1.out
  have hpos : 0 < ts.length := by
    have h1 : shapeOf ts = 0 := by
      unfold rowF at hq0
      split at hq0
      · cases hq0
      · split at hq0
        · cases hq0
        · rename_i h2
          rw [Bool.or_eq_true, not_or] at h2
          have h3 := h2.1
          rw [Bool.not_eq_true, Bool.not_eq_false'] at h3
          exact below_shape h3
    exact (right_of h1).2.1
  have HX1 : Hid (r = if (ts.head?.getD (0, 0, 0)).1 ≠ 2 then 8 else if firstE (fun j t => rowF vars f (j : Int) t) 0 ((lp ++ lj).map fun x => x.2.2) ≠ 0 then firstE (fun j t => rowF vars f (j : Int) t) 0 ((lp ++ lj).map fun x => x.2.2)
    else firstE (fun _ c => ctorE (rowF vars (addB f [(9, (at_ : Int), 0)])) pn jn c) 0 (lc.map CtorT.p)) := Lib.hid (by rw [HX.out, if_neg (fun h => h hq0)])
  rw [hq0]
  clear HX hq0
  have e1 := HE1.out.cell (j := 1) rfl
  have hAs := HSO.out.2.2.2 _ HB1.out
  obtain ⟨bs, os, rfl, -, -⟩ := hAs.at_ (by rw [nodesV_len]; omega)
  have s0 := hAs.cell (nodesV_get0 (j := 0) hpos)
  have hsn0 : 0 < sn := by have := HSO.out.1; omega
  have hhd : (ts.head?.getD (0, 0, 0)).1 = ts[0].1 := by
    cases ts with
    | nil => simp at hpos
    | cons y ts => rfl
  rw [hhd] at HX1
  rw [Nat.zero_mul, Nat.add_zero] at s0
  clear hAs hhd
  generalize ts[0].1 = so at *
  by_cases h2 : so = 2
  case neg =>
    have HX0 : Hid (r = 8) := Lib.hid (by rw [HX1.out, if_pos h2])
    have h21 : (so != 2) = true := by simpa using h2
    clear HX1
    go_wp2_with fail
    go_ret
    exact .err HX0.out (by rw [HX0.out]; omega) HN0.out HB1.out
  subst h2
  have HX2 : Hid (r = if firstE (fun j t => rowF vars f (j : Int) t) 0 ((lp ++ lj).map fun x => x.2.2) ≠ 0 then firstE (fun j t => rowF vars f (j : Int) t) 0 ((lp ++ lj).map fun x => x.2.2)
    else firstE (fun _ c => ctorE (rowF vars (addB f [(9, (at_ : Int), 0)])) pn jn c) 0 (lc.map CtorT.p)) := Lib.hid (by rw [HX1.out, if_neg (by omega)])
  clear HX1
  have HSR := Lib.hid (show ∀ W, Below w1.heap.size w1 W → W.cell? ⟨w.heap.size, 0, none⟩ = some (.int .i64 vars) ∧ W.cell? ⟨w.heap.size, 1, none⟩ = some (.map (some g)) ∧ W.cell? ⟨w.heap.size + 1, 2, none⟩ = some (.slice pA pn pc) ∧ W.cell? ⟨w.heap.size + 1, 3, none⟩ = some (.slice jA jn jc) from fun W hb => by
    have a := HS1.out.below hb
    have b := HE1.out.below hb
    have a0 := a.cell (j := 0) rfl
    have a1 := a.cell (j := 1) rfl
    have b2 := b.cell (j := 2) rfl
    have b3 := b.cell (j := 3) rfl
    rw [Nat.zero_add] at a0 a1 b2 b3
    exact ⟨a0, a1, b2, b3⟩)
  go_wp2_with fail
  refine region_begin (S := fun W => W.cell? ⟨w.heap.size, 0, none⟩ = some (.int .i64 vars) ∧ W.cell? ⟨w.heap.size, 1, none⟩ = some (.map (some g)) ∧ W.cell? ⟨w.heap.size + 1, 2, none⟩ = some (.slice pA pn pc) ∧ W.cell? ⟨w.heap.size + 1, 3, none⟩ = some (.slice jA jn jc)) (by kernel_rfl) (HSR.out _ (below_drewN (Below.refl _ _) 1)) (fun hHeld => ?_)
  refine region_take 0 ?_ rfl (by kernel_rfl) (by rfl) hHeld ?_ ?_
  rotate_left
  · intro w hSw
    (try dsimp only at hSw)
    go_simp
    try with_reducible rfl
  try simp only [Act.put, List.setIfInBounds_toArray, List.set_cons_zero, List.set_cons_succ]
  refine region_take 1 ?_ rfl (by kernel_rfl) (by rfl) hHeld ?_ ?_
  rotate_left
  · intro w hSw
    (try dsimp only at hSw)
    go_simp
    try with_reducible rfl
  try simp only [Act.put, List.setIfInBounds_toArray, List.set_cons_zero, List.set_cons_succ]
  refine region_take 2 ?_ rfl (by kernel_rfl) (by rfl) hHeld ?_ ?_
  rotate_left
  · intro w hSw
    (try dsimp only at hSw)
    go_simp
    try with_reducible rfl
  try simp only [Act.put, List.setIfInBounds_toArray, List.set_cons_zero, List.set_cons_succ]
  refine region_take 3 ?_ rfl (by kernel_rfl) (by rfl) hHeld ?_ ?_
  rotate_left
  · intro w hSw
    (try dsimp only at hSw)
    go_simp
    try with_reducible rfl
  try simp only [Act.put, List.setIfInBounds_toArray, List.set_cons_zero, List.set_cons_succ]
  refine region_take 6 ?_ rfl (by kernel_rfl) (by rfl) hHeld ?_ ?_
  rotate_left
  · intro w hSw
    (try dsimp only at hSw)
    go_simp
    try with_reducible rfl
  try simp only [Act.put, List.setIfInBounds_toArray, List.set_cons_zero, List.set_cons_succ]
  refine region_take 7 ?_ rfl (by kernel_rfl) (by rfl) hHeld ?_ ?_
  rotate_left
  · intro w hSw
    (try dsimp only at hSw)
    go_simp
    try with_reducible rfl
  try simp only [Act.put, List.setIfInBounds_toArray, List.set_cons_zero, List.set_cons_succ]
  refine region_call 4 rfl (by kernel_rfl) (by rfl) (fun K hK => ?_)
  go_simp
  have HBL := Lib.hid (show Below w1.heap.size w1 (w1.drew.alloc (.cells #[.slice pA pn pc, .slice jA jn jc] 40)) from below_alloc (below_drewN (Below.refl _ _) 1) _)
  have HLH := Lib.hid (show Holds (w1.drew.alloc (.cells #[.slice pA pn pc, .slice jA jn jc] 40)) (some ⟨w1.heap.size, 0, none⟩) [.slice pA pn pc, .slice jA jn jc] from holds_at w1.drew #[.slice pA pn pc, .slice jA jn jc] 40 _ rfl)
  refine hK.out _ _ (HSR.out _ HBL.out) (fun hHeld => ?_)
  clear hK K
  try simp only [Act.put, List.setIfInBounds_toArray, List.set_cons_zero, List.set_cons_succ]
  refine region_call 5 rfl (by kernel_rfl) (by rfl) (fun K hK => ?_)
  go_simp
  refine ((concat2_any w1.heap.size pA jA pn jn pc jc lp lj _ HLH.out HLP.out.1 HLP.out.2 ((HPJ.out _ (below_step HB1.out HBL.out)).1.1) HLJ.out.1 HLJ.out.2 ((HPJ.out _ (below_step HB1.out HBL.out)).2.1) (by omega)).mono fun _ _ h => h.n).mono ?_
  rintro e w2 ⟨Aq, nq, cq, rfl, hnq, hqs, hq, -, hb2⟩
  have HB2 := Lib.hid (below_step HBL.out hb2)
  have HQ := Lib.hid hq
  have HNQ := Lib.hid hnq
  have HNQ2 := Lib.hid (show nq ≤ 100 by rw [← hnq, List.length_append, HLP.out.1, HLJ.out.1]; omega)
  clear hq hb2 hqs hnq
  refine hK.out _ _ (HSR.out _ HB2.out) (fun hHeld => ?_)
  clear hK K
  try simp only [Act.put, List.setIfInBounds_toArray, List.set_cons_zero, List.set_cons_succ]
  refine region_call 8 rfl (by kernel_rfl) (by rfl) (fun K hK => ?_)
  go_simp
  refine (firstT_any 172 #[scopeA vars g] #[] _ Aq nq cq (lp ++ lj) w2 (at_vis vars g m f (lp ++ lj) w2 (HPJ3.out _ (below_step HB1.out HB2.out)) HWJ.out.1 HWJ.out.2 (HN.out _ (below_step HB1.out HB2.out)) (HL.out _ (below_step HB1.out HB2.out))) HNQ.out (by have := HNQ2.out; omega) HQ.out).mono ?_
  rintro e w3 ⟨rfl, hb3⟩
  generalize firstE (fun j t => rowF vars f (j : Int) t) 0 ((lp ++ lj).map fun x => x.2.2) = q at *
  have HB3 := Lib.hid (below_step (below_step HB1.out HB2.out) hb3)
  have HZ3 := Lib.hid (below_step HB2.out hb3)
  clear hb3
  refine hK.out _ _ (HSR.out _ HZ3.out) (fun hHeld => ?_)
  clear hK K
  try simp only [Act.put, List.setIfInBounds_toArray, List.set_cons_zero, List.set_cons_succ]
  refine region_take 9 ?_ rfl (by kernel_rfl) (by rfl) hHeld ?_ ?_
  rotate_left
  · intro w hSw
    (try dsimp only at hSw)
    go_simp
    try with_reducible rfl
  try simp only [Act.put, List.setIfInBounds_toArray, List.set_cons_zero, List.set_cons_succ]
  refine region_done (by kernel_rfl) ?_
  by_cases hq0 : q = 0
  case neg =>
    have HX0 : Hid (r = q) := Lib.hid (by rw [HX2.out, if_pos hq0])
    have hq1 : (q != 0) = true := by simpa using hq0
    clear HX2
    go_wp2_with fail
    go_ret
    exact .err HX0.out (by rw [HX0.out]; exact hq0) HN0.out HB3.out
  subst hq0
  have HX3 : Hid (r = firstE (fun _ c => ctorE (rowF vars (addB f [(9, (at_ : Int), 0)])) pn jn c) 0 (lc.map CtorT.p)) := Lib.hid (by rw [HX2.out, if_neg (by omega)])
  clear HX2
  have s3 := HSR.out _ HZ3.out
  obtain ⟨s30, s31, -, -⟩ := s3
  have HT3 := Lib.hid (Turn.of_below HB3.out HN0.out.noCells)
  have HS3 := Lib.hid (HS1.out.below HZ3.out)
  have HE3 := Lib.hid (HE1.out.below HZ3.out)
  have HK1 := Lib.hid (know1_any vars g m f (9, (at_ : Int), 0) w3 (HN.out _ HB3.out) (by omega) ⟨by unfold I64; simp, by unfold I64; simp only; omega, by unfold I64; simp⟩)
  clear HSR HZ3 HB1 HS1 HE1
  go_wp2_with fail
  refine (HK1.out).mono ?_
  rintro e w4 ⟨rfl, hN4, ht4⟩
  have HN4 := Lib.hid hN4
  have HT4 := Lib.hid (HT3.out.trans ht4)
  have HS4 := Lib.hid (HS3.out.turn ht4)
  have HE4 := Lib.hid (HE3.out.turn ht4)
  have e4 := HE4.out.cell (j := 4) rfl
  have HCC := Lib.hid (HCO.out.2.2.1 _ HT4.out)
  have HFC := Lib.hid (firstC_any 175 #[] #[.pointer (some ⟨w.heap.size, 0, none⟩), .pointer (some ⟨w.heap.size + 1, 0, none⟩)] _ cA cn cc lc w4 (family_vis vars g (m + 1) (addB f [(9, (at_ : Int), 0)]) kd (some ⟨bs, os, none⟩) pA jA cA tA bA sn sc pn pc jn jc cn cc 0 tc 0 bc _ _ lc w4 (by omega) HS4.out HE4.out HCC.out.2 HN4.out (HCO.out.2.2.2 _ HT4.out)) HCO.out.1 (by omega) HCC.out.1)
  clear hN4 ht4 HK1 s30 s31 HS3 HE3 HT3
  go_wp2_with fail
  refine (HFC.out).mono ?_
  rintro e w5 ⟨rfl, hb5⟩
  generalize firstE (fun _ c => ctorE (rowF vars (addB f [(9, (at_ : Int), 0)])) pn jn c) 0 (lc.map CtorT.p) = q at *
  have HT5 := Lib.hid (HT4.out.next hb5)
  by_cases hq0 : q = 0
  case neg =>
    have HX0 : Hid (r = q) := HX3
    have hq1 : (q != 0) = true := by simpa using hq0
    clear hb5
    go_wp2_with fail
    go_ret
    exact .turn HX0.out (by rw [HX0.out]; exact hq0) HT5.out
  subst hq0
  have HS5 := Lib.hid (HS4.out.below hb5)
  have HE5 := Lib.hid (HE4.out.below hb5)
  have s0 := HS5.out.cell (j := 0) rfl
  have s1 := HS5.out.cell (j := 1) rfl
  rw [Nat.zero_add] at s0 s1
  have HK2 := Lib.hid (know1_any vars g (m + 1) (addB f [(9, (at_ : Int), 0)]) (11, (at_ : Int), 0) w5 (HN4.out.below hb5) (by omega) ⟨by unfold I64; simp, by unfold I64; simp only; omega, by unfold I64; simp⟩)
  clear hb5 e4 HS4 HE4 HFC HT4 HCC HN4
  go_wp2_with fail
  refine (HK2.out).mono ?_
  rintro e w6 ⟨rfl, hN6, ht6⟩
  have HN6 : Hid (OwnsN w6 g (m + 2 + 0) (addB f (famL at_ 0))) := Lib.hid (hN6.congr fun y => add_add _ _ _ y)
  have HT6 := Lib.hid (HT5.out.trans ht6)
  have HS6 := Lib.hid (HS5.out.turn ht6)
  have HE6 := Lib.hid (HE5.out.turn ht6)
  have e4 := HE6.out.cell (j := 4) rfl
  clear hN6 ht6 HK2 s0 s1 HS5 HE5 HT5
  go_wp2_with fail
  clear e4
  go_loopw [84] (fun i wr => ∃ k : Nat, i = .int .i64 (k : Int) ∧ k ≤ cn ∧ Hid (OwnsN wr g (m + 2 + k) (addB f (famL at_ k))) ∧ Hid (Turn g w6 wr)) (fun i _ => cn - (intOf i).toNat)
  case atStart => exact ⟨0, rfl, Nat.zero_le _, HN6, Lib.hid (Turn.of_below (Below.refl _ _) HT6.out.behind)⟩
  case round =>
    obtain ⟨k, rfl, hk, HNK, HTK⟩ := hrel
    by_cases hlt : k < cn
    · have hs := HS6.out.turn HTK.out
      have s0 := hs.cell (j := 0) rfl
      have s1 := hs.cell (j := 1) rfl
      rw [Nat.zero_add] at s0 s1
      have HKK := Lib.hid (know1_any vars g (m + 2 + k) (addB f (famL at_ k)) (10, (at_ : Int), (k : Int)) wr HNK.out (by omega) ⟨by unfold I64; simp, by unfold I64; simp only; omega, by unfold I64; simp only; omega⟩)
      clear hs
      go_wp2_with fail
      refine (HKK.out).mono ?_
      rintro e w7 ⟨rfl, hN7, ht7⟩
      have HN7 : Hid (OwnsN w7 g (m + 2 + (k + 1)) (addB f (famL at_ (k + 1)))) := Lib.hid (hN7.congr fun y => by rw [famL_succ, add_add])
      have HT7 := Lib.hid (HTK.out.trans ht7)
      clear hN7 ht7
      go_wp2_with fail
      go_roundw
      case rel => exact ⟨k + 1, by go_num, by omega, HN7, HT7⟩
      case measure => simp [intOf] <;> omega
    · obtain rfl : k = cn := by omega
      go_wp2_with fail
      go_ret
      exact .ok HX3.out (HT6.out.trans HTK.out) (by omega) HNK.out
end Go.Proofs.YtfeodppdmbideaaGreatDoor
namespace Go.Proofs.YtfeodppdmbideaaGreatDoor
open Go.RowKit

theorem len_ne {α : Type} {l : List α} {n : Nat} (h : l.length = n) : l ≠ [] ↔ 0 < n := by rw [← h]; exact List.length_pos_iff.symm
set_option maxRecDepth 100000 in
set_option maxHeartbeats 8000000 in
theorem defFault_any (vars : Int) (g m : Nat) (f : Node3 → Bool) (at_ : Nat) (x : EntT) (w : World) (hx : EntOk w x) (hat : at_ ≤ 1000000) (hm : m ≤ 1000000) (hN : OwnsN w g m f) (hL : Lim w) :
    Calls Tryz.prog 126 #[scopeA vars g, .int .i64 (at_ : Int), x.val] w (KnowPost g m (addB f [(8, (at_ : Int), 0)]) (defE (rowF vars f) x.p) w) := by
  obtain ⟨kd, ⟨sA, sc, ts⟩, ⟨pA, pc, lp⟩, ⟨jA, jc, lj⟩, ⟨cA, cc, lc⟩, ⟨tA, tc, tt⟩, ⟨bA, bc, tb⟩⟩ := x
  obtain ⟨⟨-, -, -, -, ht, hb⟩, ⟨-, -, -, -, -, wt, wb⟩, ⟨-, -, -, gt, gb⟩, -, -⟩ := hx
  obtain ⟨sn, hsn⟩ : ∃ n, ts.length = n := ⟨_, rfl⟩
  obtain ⟨pn, hpn⟩ : ∃ n, lp.length = n := ⟨_, rfl⟩
  obtain ⟨jn, hjn⟩ : ∃ n, lj.length = n := ⟨_, rfl⟩
  obtain ⟨cn, hcn⟩ : ∃ n, lc.length = n := ⟨_, rfl⟩
  obtain ⟨tn, htn⟩ : ∃ n, tt.length = n := ⟨_, rfl⟩
  obtain ⟨bn, hbn⟩ : ∃ n, tb.length = n := ⟨_, rfl⟩
  obtain ⟨r, hr⟩ : ∃ r, r = defE (rowF vars f) (EntT.p ⟨kd, (sA, sc, ts), (pA, pc, lp), (jA, jc, lj), (cA, cc, lc), (tA, tc, tt), (bA, bc, tb)⟩) := ⟨_, rfl⟩
  show Calls Tryz.prog 126 #[scopeA vars g, .int .i64 (at_ : Int), .agg #[.int .i64 kd, .slice sA ts.length sc, .slice pA lp.length pc, .slice jA lj.length jc, .slice cA lc.length cc, .slice tA tt.length tc, .slice bA tb.length bc]] w
    (KnowPost g m (addB f [(8, (at_ : Int), 0)]) (defE (rowF vars f) (EntT.p ⟨kd, (sA, sc, ts), (pA, pc, lp), (jA, jc, lj), (cA, cc, lc), (tA, tc, tt), (bA, bc, tb)⟩)) w)
  rw [← hr, hsn, hpn, hjn, hcn, htn, hbn]
  unfold defE EntT.p rowsP at hr
  have q1 := len_ne hsn
  have q2 : (lp.map fun y => y.2.2) ≠ [] ↔ 0 < pn := len_ne (by rw [List.length_map]; exact hpn)
  have q3 : (lj.map fun y => y.2.2) ≠ [] ↔ 0 < jn := len_ne (by rw [List.length_map]; exact hjn)
  have q4 : lc.map CtorT.p ≠ [] ↔ 0 < cn := len_ne (by rw [List.length_map]; exact hcn)
  simp only [q1, q2, q3, q4] at hr
  have HR := Lib.hid hr
  have hbx : Below w.heap.size w ((w.alloc (.cells #[.int .i64 vars, .map (some g)] 74)).alloc (.cells #[.int .i64 kd, .slice sA sn sc, .slice pA pn pc, .slice jA jn jc, .slice cA cn cc, .slice tA tn tc, .slice bA bn bc] 60)) := ((Below.refl _ _).alloc (Nat.le_refl _) _).alloc (by simp) _
  have hS0 := (holds_at w #[.int .i64 vars, .map (some g)] 74 _ rfl).alloc (.cells #[.int .i64 kd, .slice sA sn sc, .slice pA pn pc, .slice jA jn jc, .slice cA cn cc, .slice tA tn tc, .slice bA bn bc] 60)
  have HBX := Lib.hid hbx
  have HS0 := Lib.hid hS0
  have HN0 := Lib.hid hN
  have HRO := Lib.hid (show ∀ W, Below w.heap.size w W → RowsOk W [(tA, tc, tt), (bA, bc, tb)] ∧ OwnsN W g m f ∧ Lim W from fun W hbW => ⟨fun y hy => by
    simp only [List.mem_cons, List.not_mem_nil, or_false] at hy
    rcases hy with rfl | rfl
    · exact (ht.below hbW)
    · exact (hb.below hbW), hN.below hbW, hL.next hbW⟩)
  have HWR := Lib.hid (show WideRows [(tA, tc, tt), (bA, bc, tb)] ∧ LongR [(tA, tc, tt), (bA, bc, tb)] from ⟨fun y hy => by
    simp only [List.mem_cons, List.not_mem_nil, or_false] at hy
    rcases hy with rfl | rfl
    · exact wt
    · exact wb, fun y hy => by
    simp only [List.mem_cons, List.not_mem_nil, or_false] at hy
    rcases hy with rfl | rfl
    · exact gt
    · exact gb⟩)
  have HTB := Lib.hid (show (Value.slice tA tt.length tc = .slice tA tn tc) ∧ Value.slice bA tb.length bc = .slice bA bn bc from ⟨by rw [htn], by rw [hbn]⟩)
  clear hr ht hb wt wb gt gb hbx hS0 hN hL hsn hpn hjn hcn htn hbn q1 q2 q3 q4
  by_cases h8 : 0 < sn ∨ 0 < pn ∨ 0 < jn ∨ 0 < cn
  · have HX : Hid (r = 8) := Lib.hid (by rw [HR.out, if_pos h8])
    by_cases z1 : 0 < sn
    · go_enter Tryz.func126, Tryz.ntmps126
      go_wp2_with fail
      go_ret
      exact .err HX.out (by rw [HX.out]; omega) HN0.out HBX.out
    obtain rfl : sn = 0 := by omega
    by_cases z2 : 0 < pn
    · go_enter Tryz.func126, Tryz.ntmps126
      go_wp2_with fail
      go_ret
      exact .err HX.out (by rw [HX.out]; omega) HN0.out HBX.out
    obtain rfl : pn = 0 := by omega
    by_cases z3 : 0 < jn
    · go_enter Tryz.func126, Tryz.ntmps126
      go_wp2_with fail
      go_ret
      exact .err HX.out (by rw [HX.out]; omega) HN0.out HBX.out
    obtain rfl : jn = 0 := by omega
    have z4 : 0 < cn := by omega
    go_enter Tryz.func126, Tryz.ntmps126
    go_wp2_with fail
    go_ret
    exact .err HX.out (by rw [HX.out]; omega) HN0.out HBX.out
  obtain ⟨rfl, rfl, rfl, rfl⟩ : sn = 0 ∧ pn = 0 ∧ jn = 0 ∧ cn = 0 := by omega
  have HX : Hid (r = firstE (fun _ t => rowF vars f 0 t) 0 ([(tA, tc, tt), (bA, bc, tb)].map fun x => x.2.2)) := Lib.hid (by rw [HR.out, if_neg h8]; rfl)
  clear HR
  go_enter Tryz.func126, Tryz.ntmps126
  go_wp2_with fail
  obtain ⟨w2, hw2⟩ : ∃ w2, (w.alloc (.cells #[.int .i64 vars, .map (some g)] 74)).alloc (.cells #[.int .i64 kd, .slice sA 0 sc, .slice pA 0 pc, .slice jA 0 jc, .slice cA 0 cc, .slice tA tn tc, .slice bA bn bc] 60) = w2 := ⟨_, rfl⟩
  have hz2 : w2.heap.size = w.heap.size + 1 + 1 := by rw [← hw2]; simp
  rw [hw2] at HBX HS0 ⊢
  clear hw2
  have hb3 : Below w2.heap.size w2 (w2.alloc (.cells #[.slice tA tn tc, .slice bA bn bc] 28)) := (Below.refl _ _).alloc (Nat.le_refl _) _
  have HL3 := Lib.hid (show Holds (w2.alloc (.cells #[.slice tA tn tc, .slice bA bn bc] 28)) (some ⟨w.heap.size + 1 + 1, 0, none⟩) ([(tA, tc, tt), (bA, bc, tb)].map rowV) by
    have := holds_at w2 #[.slice tA tn tc, .slice bA bn bc] 28 [.slice tA tn tc, .slice bA bn bc] rfl
    rw [hz2] at this
    show Holds _ _ [.slice tA tt.length tc, .slice bA tb.length bc]
    rw [HTB.out.1, HTB.out.2]
    exact this)
  have HB3 := Lib.hid (below_step HBX.out hb3)
  have HS3 := Lib.hid (HS0.out.below hb3)
  generalize w2.alloc (.cells #[.slice tA tn tc, .slice bA bn bc] 28) = w3 at *
  clear hb3 hz2 HBX HS0
  obtain ⟨hr3, hn3, hl3⟩ := HRO.out _ HB3.out
  refine (firstT_any 107 #[scopeA vars g] #[] _ (some ⟨w.heap.size + 1 + 1, 0, none⟩) 2 2 [(tA, tc, tt), (bA, bc, tb)] w3 (closed_vis vars g m f _ w3 hr3 HWR.out.1 HWR.out.2 hn3 hl3) rfl (by omega) HL3.out).mono ?_
  rintro e w4 ⟨rfl, hb4⟩
  have HB4 := Lib.hid (below_step HB3.out hb4)
  have HS4 := Lib.hid (HS3.out.below hb4)
  have s0 := HS4.out.cell (j := 0) rfl
  have s1 := HS4.out.cell (j := 1) rfl
  rw [Nat.zero_add] at s0 s1
  have HN4 := Lib.hid (hn3.below hb4)
  clear hr3 hn3 hl3 hb4
  generalize firstE (fun _ t => rowF vars f 0 t) 0 ([(tA, tc, tt), (bA, bc, tb)].map fun x => x.2.2) = q at *
  by_cases hq0 : q = 0
  case neg =>
    have HX0 : Hid (r = q) := HX
    have hq1 : (q != 0) = true := by simpa using hq0
    go_wp2_with fail
    go_ret
    exact .err HX0.out (by rw [HX0.out]; exact hq0) HN0.out HB4.out
  subst hq0
  have HK1 := Lib.hid (know1_any vars g m f (8, (at_ : Int), 0) w4 HN4.out (by omega) ⟨by unfold I64; simp, by unfold I64; simp only; omega, by unfold I64; simp⟩)
  go_wp2_with fail
  refine (HK1.out).mono ?_
  rintro e w5 ⟨rfl, hN5, ht5⟩
  have HN5 := Lib.hid hN5
  have HT5 := Lib.hid ((Turn.of_below HB4.out HN0.out.noCells).trans ht5)
  clear hN5 ht5
  go_wp2_with fail
  go_ret
  exact .ok HX.out HT5.out (by omega) HN5.out
set_option maxRecDepth 100000 in
set_option maxHeartbeats 8000000 in
/-- An entry: what is known behind it. -/
theorem entryFault_any (vars : Int) (g m : Nat) (f f' : Node3 → Bool) (at_ : Nat) (x : EntT) (r : Int) (w : World) (hx : EntOk w x) (hat : at_ ≤ 1000000) (hm : m ≤ 1000000) (hN : OwnsN w g m f) (hL : Lim w)
    (hr : r = if x.kind = 1 then famE (rowF vars f) (rowF vars (addB f [(9, (at_ : Int), 0)])) x.p else if x.kind = 2 then defE (rowF vars f) x.p else 8)
    (h1 : x.kind = 1 → ∀ y, addB f (famL at_ x.ctors.2.2.length) y = f' y) (h2 : x.kind = 2 → ∀ y, addB f [(8, (at_ : Int), 0)] y = f' y) :
    Calls Tryz.prog 81 #[scopeA vars g, .int .i64 (at_ : Int), x.val] w (KnowPost g m f' r w) := by
  have hbx : Below w.heap.size w ((w.alloc (.cells #[.int .i64 vars, .map (some g)] 74)).alloc (.cells #[.int .i64 x.kind, rowV x.sort, rowsV x.pars, rowsV x.inds, ctorsV x.ctors, rowV x.typ, rowV x.body] 60)) := ((Below.refl _ _).alloc (Nat.le_refl _) _).alloc (by simp) _
  have HF := Lib.hid (familyFault_any vars g m f at_ x _ (hx.below hbx) hat hm (hN.below hbx) (hL.next hbx))
  have HD := Lib.hid (defFault_any vars g m f at_ x _ (hx.below hbx) hat hm (hN.below hbx) (hL.next hbx))
  have HB := Lib.hid hbx
  have HN := Lib.hid hN
  have HR := Lib.hid hr
  have H1 := Lib.hid h1
  have H2 := Lib.hid h2
  clear hx hN hL hbx hr h1 h2
  obtain ⟨kd, ⟨sA, sc, ts⟩, ⟨pA, pc, lp⟩, ⟨jA, jc, lj⟩, ⟨cA, cc, lc⟩, ⟨tA, tc, tt⟩, ⟨bA, bc, tb⟩⟩ := x
  simp only [EntT.val, rowV, rowsV, ctorsV] at HF HD HB HR H1 H2 ⊢
  obtain ⟨qf, hqf⟩ : ∃ q, famE (rowF vars f) (rowF vars (addB f [(9, (at_ : Int), 0)])) (EntT.p ⟨kd, (sA, sc, ts), (pA, pc, lp), (jA, jc, lj), (cA, cc, lc), (tA, tc, tt), (bA, bc, tb)⟩) = q := ⟨_, rfl⟩
  obtain ⟨qd, hqd⟩ : ∃ q, defE (rowF vars f) (EntT.p ⟨kd, (sA, sc, ts), (pA, pc, lp), (jA, jc, lj), (cA, cc, lc), (tA, tc, tt), (bA, bc, tb)⟩) = q := ⟨_, rfl⟩
  rw [hqf] at HF HR
  rw [hqd] at HD HR
  clear hqf hqd
  obtain ⟨sn, hsn⟩ : ∃ n, ts.length = n := ⟨_, rfl⟩
  obtain ⟨pn, hpn⟩ : ∃ n, lp.length = n := ⟨_, rfl⟩
  obtain ⟨jn, hjn⟩ : ∃ n, lj.length = n := ⟨_, rfl⟩
  obtain ⟨cn, hcn⟩ : ∃ n, lc.length = n := ⟨_, rfl⟩
  obtain ⟨tn, htn⟩ : ∃ n, tt.length = n := ⟨_, rfl⟩
  obtain ⟨bn, hbn⟩ : ∃ n, tb.length = n := ⟨_, rfl⟩
  rw [hsn, hpn, hjn, hcn, htn, hbn] at HF HD HB ⊢
  rw [hcn] at H1
  clear hsn hpn hjn hcn htn hbn
  by_cases k1 : kd = 1
  · subst k1
    have HA := Lib.hid (H1.out rfl)
    clear H1 H2
    have HX : Hid (r = qf) := Lib.hid (by rw [HR.out, if_pos rfl])
    go_enter Tryz.func81, Tryz.ntmps81
    go_wp2_with fail
    refine (HF.out).mono ?_
    rintro e w1 ⟨rfl, ht1, hn1⟩
    have HT := Lib.hid ((Turn.of_below HB.out HN.out.noCells).trans ht1)
    have HN1 := Lib.hid hn1
    clear ht1 hn1
    go_wp2_with fail
    go_ret
    refine ⟨ret_i64 HX.out.symm, HT.out, fun h => ?_⟩
    obtain ⟨m', hm', hn'⟩ := HN1.out (by rw [← HX.out]; exact h)
    exact ⟨m', hm', hn'.congr HA.out⟩
  have e1 : (kd == 1) = false := by simpa using k1
  by_cases k2 : kd = 2
  · subst k2
    have HA := Lib.hid (H2.out rfl)
    clear H1 H2
    have HX : Hid (r = qd) := Lib.hid (by rw [HR.out, if_neg k1, if_pos rfl])
    go_enter Tryz.func81, Tryz.ntmps81
    go_wp2_with fail
    refine (HD.out).mono ?_
    rintro e w1 ⟨rfl, ht1, hn1⟩
    have HT := Lib.hid ((Turn.of_below HB.out HN.out.noCells).trans ht1)
    have HN1 := Lib.hid hn1
    clear ht1 hn1
    go_wp2_with fail
    go_ret
    refine ⟨ret_i64 HX.out.symm, HT.out, fun h => ?_⟩
    obtain ⟨m', hm', hn'⟩ := HN1.out (by rw [← HX.out]; exact h)
    exact ⟨m', hm', hn'.congr HA.out⟩
  · have e2 : (kd == 2) = false := by simpa using k2
    have HX : Hid (r = 8) := Lib.hid (by rw [HR.out, if_neg k1, if_neg k2])
    go_enter Tryz.func81, Tryz.ntmps81
    go_wp2_with fail
    go_ret
    exact .err HX.out (by rw [HX.out]; omega) HN.out HB.out
end Go.Proofs.YtfeodppdmbideaaGreatDoor
namespace Go.Proofs.YtfeodppdmbideaaGreatDoor
open Go.RowKit

theorem name_zero (ents : List EntP) (y : Node3) : nameB ents 0 y = false := by
  unfold nameB
  rw [kind_out (by omega), kind_out (by omega)]
  simp
theorem name_fam {ents : List EntP} {i : Nat} (hl : i < ents.length) (hk : ents[i].kind = 1) (y : Node3) : addB (nameB ents i) (famL i ents[i].ctors.length) y = nameB ents (i + 1) y := by
  obtain ⟨o, A, B⟩ := y
  unfold addB nameB
  simp only
  rw [kind_next hl, kind_next hl, hk]
  by_cases hA : A = i
  · subst hA
    rw [kind_out (by omega), kind_out (by omega), ctors_in hl]
    simp only [Bool.and_false, Bool.false_or, decide_true, Bool.and_true, show decide ((1 : Int) = 2) = false from rfl]
    rw [Bool.eq_iff_iff]
    simp only [famL, decide_eq_true_eq, List.mem_cons, Prod.mk.injEq, true_and, List.mem_map, List.mem_range, Bool.or_eq_true]
    constructor
    · rintro (⟨rfl, rfl⟩ | ⟨rfl, rfl⟩ | ⟨k, hk, rfl, rfl⟩)
      · exact .inl ⟨.inl rfl, rfl⟩
      · exact .inl ⟨.inr rfl, rfl⟩
      · exact .inr ⟨rfl, by omega, by omega⟩
    · rintro (⟨rfl | rfl, rfl⟩ | ⟨rfl, h1, h2⟩)
      · exact .inl ⟨rfl, rfl⟩
      · exact .inr (.inl ⟨rfl, rfl⟩)
      · exact .inr (.inr ⟨B.toNat, by omega, rfl, by omega⟩)
  · rw [decide_eq_false hA]
    simp only [Bool.false_and, Bool.or_false]
    have hm : ((o, A, B) : Node3) ∉ famL i ents[i].ctors.length := by
      intro h
      simp only [famL, List.mem_cons, Prod.mk.injEq, List.mem_map, List.mem_range] at h
      rcases h with ⟨-, h, -⟩ | ⟨-, h, -⟩ | ⟨k, -, -, h, -⟩
      · exact hA h
      · exact hA h
      · exact hA h.symm
    rw [decide_eq_false hm, Bool.or_false]
theorem name_def {ents : List EntP} {i : Nat} (hl : i < ents.length) (hk : ents[i].kind = 2) (y : Node3) : addB (nameB ents i) [(8, (i : Int), 0)] y = nameB ents (i + 1) y := by
  obtain ⟨o, A, B⟩ := y
  unfold addB nameB
  simp only
  rw [kind_next hl, kind_next hl, hk]
  by_cases hA : A = i
  · subst hA
    rw [kind_out (by omega), kind_out (by omega)]
    simp only [Bool.and_false, Bool.false_or, decide_true, Bool.and_true, Bool.or_false, show decide ((2 : Int) = 1) = false from rfl]
    rw [Bool.eq_iff_iff]
    simp only [decide_eq_true_eq, List.mem_singleton, Prod.mk.injEq, true_and]
  · rw [decide_eq_false hA]
    simp only [Bool.false_and, Bool.or_false]
    have hm : ((o, A, B) : Node3) ∉ [((8 : Int), (i : Int), (0 : Int))] := by
      intro h
      simp only [List.mem_singleton, Prod.mk.injEq] at h
      exact hA h.2.1
    rw [decide_eq_false hm, Bool.or_false]
theorem rowF_ahead (vars : Int) (ents : List EntP) (i : Nat) : rowF vars (nameB ents i) = rowE (thereN vars ents i (-1)) := by
  funext free t
  exact rowF_E (fun m => by rw [decide_eq_false (by omega), Bool.or_false]) free t
theorem rowF_self (vars : Int) (ents : List EntP) (i : Nat) : rowF vars (addB (nameB ents i) [(9, (i : Int), 0)]) = rowE (thereN vars ents i i) := by
  funext free t
  refine rowF_E (fun m => ?_) free t
  unfold addB
  congr 1
  exact decide_eq_decide.2 (by rw [List.mem_singleton]; exact ⟨fun h => ⟨h, by omega⟩, fun h => h.1⟩)
theorem entE_F (vars : Int) (ents : List EntP) (i : Nat) (x : EntP) : entE vars ents i x = if x.kind = 1 then famE (rowF vars (nameB ents i)) (rowF vars (addB (nameB ents i) [(9, (i : Int), 0)])) x else if x.kind = 2 then defE (rowF vars (nameB ents i)) x else 8 := by
  unfold entE
  rw [rowF_ahead, rowF_self]
/-- What the scope is behind the entries. -/
def EntsPost (g : Nat) (ents : List EntP) (r : Int) (w : World) (e : Ending) (w' : World) : Prop := e = .returned (.int .i64 r) ∧ Turn g w w' ∧ (r = 0 → ∃ m', m' ≤ 10000 ∧ OwnsN w' g m' (nameB ents ents.length))
theorem EntsPost.mk' {g : Nat} {ents : List EntP} {r r' : Int} {w w' : World} (he : r = r') (ht : Turn g w w') (h : r = 0 → ∃ m', m' ≤ 10000 ∧ OwnsN w' g m' (nameB ents ents.length)) : EntsPost g ents r w (.returned (.int .i64 r')) w' := ⟨by rw [he], ht, h⟩
set_option maxRecDepth 100000 in
set_option maxHeartbeats 8000000 in
theorem firstEnt_any (vars : Int) (g : Nat) (A : Option Addr) (n c : Nat) (l : List EntT) (ents : List EntP) (w : World) (hn : l.length = n) (hnb : n ≤ 64) (he : l.map EntT.p = ents) (hA : Holds w A (entsCV l)) (hok : ∀ x ∈ l, EntOk w x) (hN : OwnsN w g 0 (fun _ => false)) (hL : Lim w) :
    Calls Tryz.prog 80 #[.slice A n c, .func (.func 81) #[scopeA vars g] #[]] w (EntsPost g ents (firstE (fun i x => entE vars ents i x) 0 ents) w) := by
  obtain ⟨r, hr⟩ : ∃ r, r = firstE (fun i x => entE vars ents i x) 0 ents := ⟨_, rfl⟩
  rw [← hr]
  have hel : ents.length = n := by rw [← he, List.length_map, hn]
  have HA := Lib.hid (show ∀ w', Turn g w w' → Holds w' A (entsCV l) from fun w' hb => hA.turn hb)
  have HOK := Lib.hid (show ∀ w', Turn g w w' → ∀ x ∈ l, EntOk w' x from fun w' hb x hx => (hok x hx).turn hb)
  have HL := Lib.hid (show ∀ w', Turn g w w' → Lim w' from fun w' hb => hL.turn hb)
  have HLN := Lib.hid hn
  have HEL := Lib.hid hel
  have HE := Lib.hid he
  have HR := Lib.hid hr
  have HNC := Lib.hid hN.noCells
  have HN := Lib.hid (show OwnsN w g (18 * 0) (nameB ents 0) from hN.congr fun y => (name_zero ents y).symm)
  clear hA hok hL hn hel he hr hN
  go_enter Tryz.func80, Tryz.ntmps80
  go_wp2_with fail
  go_loopw [10] (fun i wr => ∃ k : Nat, i = .int .i64 (k : Int) ∧ k ≤ n ∧ Hid (∀ j (h : j < ents.length), j < k → entE vars ents j ents[j] = 0) ∧ Hid (OwnsN wr g (18 * k) (nameB ents k)) ∧ Hid (Turn g w wr)) (fun i _ => n - (intOf i).toNat)
  case atStart => exact ⟨0, rfl, Nat.zero_le _, Lib.hid (fun j _ hj => absurd hj (by omega)), HN, Lib.hid (.of_below (Below.refl _ _) HNC.out)⟩
  case round =>
    obtain ⟨k, rfl, hk, HZ, HNK, HT⟩ := hrel
    by_cases hlt : k < n
    · have hkl : k < l.length := by have := HLN.out; omega
      have hke : k < ents.length := by have := HEL.out; omega
      have hA2 := HA.out _ HT.out
      obtain ⟨b, o, rfl, -, -⟩ := hA2.at_ (by rw [entsCV_len]; omega)
      obtain ⟨r0, r1, r2, r3, r4, r5, r6⟩ := ents_cells hA2 hkl
      have hbA : Below wr.heap.size wr (wr.alloc (.cells #[.int .i64 l[k].kind, rowV l[k].sort, rowsV l[k].pars, rowsV l[k].inds, ctorsV l[k].ctors, rowV l[k].typ, rowV l[k].body] 60)) := (Below.refl _ _).alloc (Nat.le_refl _) _
      have hTA := HT.out.next hbA
      have hep : ents[k] = l[k].p := by
        have h1 := HE.out
        subst h1
        rw [List.getElem_map]
      have HC := Lib.hid (entryFault_any vars g (18 * k) (nameB ents k) (nameB ents (k + 1)) k l[k] (entE vars ents k ents[k]) _ (HOK.out _ hTA _ (List.getElem_mem hkl)) (by omega) (by omega) (HNK.out.below hbA) (HL.out _ hTA)
        (by rw [entE_F, hep]; rfl) (fun h y => by
          have h2 : ents[k].ctors.length = l[k].ctors.2.2.length := by rw [hep]; exact List.length_map ..
          have h3 : ents[k].kind = 1 := by rw [hep]; exact h
          rw [← h2]; exact name_fam hke h3 y) (fun h y => name_def hke (by rw [hep]; exact h) y))
      have HTA := Lib.hid hTA
      have HS : Hid (∀ q, entE vars ents k ents[k] = q → (q ≠ 0 → r = q) ∧ (q = 0 → ∀ j (h : j < ents.length), j < k + 1 → entE vars ents j ents[j] = 0)) := Lib.hid fun q hq => ⟨fun h => by
          have := firstE_at (f := fun i x => entE vars ents i x) (l := ents) (i := 0) (k := k) hke (fun j hj => by rw [Nat.zero_add]; exact HZ.out j (by omega) hj) (by rw [Nat.zero_add, hq]; exact h)
          rw [HR.out, this, Nat.zero_add]; exact hq, fun h j hjl hj => by
          rcases Nat.lt_or_ge j k with h1 | h1
          · exact HZ.out j hjl h1
          · obtain rfl : j = k := by omega
            exact hq.trans h⟩
      clear hA2 hbA hTA hep
      generalize entE vars ents k ents[k] = q at *
      generalize l[k] = x at *
      obtain ⟨kd, ⟨sA, sc, ts⟩, ⟨pA, pc, lp⟩, ⟨jA, jc, lj⟩, ⟨cA, cc, lc⟩, ⟨tA, tc, tt⟩, ⟨bA, bc, tb⟩⟩ := x
      simp only [EntT.val, rowV, rowsV, ctorsV] at HC HTA r0 r1 r2 r3 r4 r5 r6
      obtain ⟨sn, hsn⟩ : ∃ n, ts.length = n := ⟨_, rfl⟩
      obtain ⟨pn, hpn⟩ : ∃ n, lp.length = n := ⟨_, rfl⟩
      obtain ⟨jn, hjn⟩ : ∃ n, lj.length = n := ⟨_, rfl⟩
      obtain ⟨cn, hcn⟩ : ∃ n, lc.length = n := ⟨_, rfl⟩
      obtain ⟨tn, htn⟩ : ∃ n, tt.length = n := ⟨_, rfl⟩
      obtain ⟨bn, hbn⟩ : ∃ n, tb.length = n := ⟨_, rfl⟩
      rw [hsn, hpn, hjn, hcn, htn, hbn] at HC HTA
      rw [hsn] at r1
      rw [hpn] at r2
      rw [hjn] at r3
      rw [hcn] at r4
      rw [htn] at r5
      rw [hbn] at r6
      clear hsn hpn hjn hcn htn hbn
      go_wp2_with fail
      refine (HC.out).mono ?_
      rintro en w1 ⟨rfl, ht1, hn1⟩
      have HT1 := Lib.hid (HTA.out.trans ht1)
      have HN1 := Lib.hid hn1
      clear ht1 hn1
      by_cases h0 : q = 0
      · have HS1 := Lib.hid ((HS.out q rfl).2 h0)
        have HN2 : Hid (OwnsN w1 g (18 * (k + 1)) (nameB ents (k + 1))) := Lib.hid (by
          obtain ⟨m', hm', h⟩ := HN1.out h0
          exact h.mono (by omega))
        have h1 : (q != 0) = false := by simpa using h0
        clear HN1
        go_wp2_with fail
        go_roundw
        case rel => exact ⟨k + 1, by go_num, by omega, HS1, HN2, HT1⟩
        case measure => simp [intOf] <;> omega
      · have HS1 := Lib.hid ((HS.out q rfl).1 h0)
        have h1 : (q != 0) = true := by simpa using h0
        clear HN1
        go_wp2_with fail
        go_ret
        exact .mk' HS1.out HT1.out fun h => absurd (HS1.out.symm.trans h) h0
    · obtain rfl : k = n := by omega
      have HF : Hid (r = 0) := Lib.hid (by rw [HR.out]; exact firstE_none fun j hj => by rw [Nat.zero_add]; exact HZ.out j hj (by rw [← HEL.out]; exact hj))
      go_wp2_with fail
      go_ret
      exact .mk' HF.out HT.out fun _ => ⟨18 * k, by omega, by rw [HEL.out]; exact HNK.out⟩
end Go.Proofs.YtfeodppdmbideaaGreatDoor
