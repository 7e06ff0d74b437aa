/- The way to the laws of books: BCons to BCons. -/
import Derived.Test.YtfeodppdmbideaaGreatDoorBA14
import Derived.Test.YtfeodppdmbideaaGreatDoorBA3
namespace Go.Proofs.YtfeodppdmbideaaGreatDoor
open Go.RowKit

abbrev entZ : Value := .agg #[.int .i64 0, .slice none 0 0, .slice none 0 0, .slice none 0 0, .slice none 0 0, .slice none 0 0, .slice none 0 0]
abbrev ctorZ : Value := .agg #[.slice none 0 0, .slice none 0 0]
/-- The error of asking for a constructor. -/
def consE (b : BookP) (e k : Int) : Int := if rightE b ≠ 0 then rightE b else if (kindB b.ents 1 e b.ents.length && decide (0 ≤ k ∧ k < ctorsN b.ents e)) = true then 0 else 1
/-- What constructor answers: an error, or a family and its constructor. -/
inductive ConsPost (b : BookT) (e k : Int) (w : World) : Ending → World → Prop
  | err (w' : World) (r : Int) : consE b.p e k = r → r ≠ 0 → Below w.heap.size w w' → ConsPost b e k w (.returned (.tuple #[entZ, ctorZ, .int .i64 r])) w'
  | ok (w' : World) (i j : Nat) (hi : i < b.ents.2.2.length) (hj : j < b.ents.2.2[i].ctors.2.2.length) : consE b.p e k = 0 → e = i → k = j → Below w.heap.size w w' → ConsPost b e k w (.returned (.tuple #[b.ents.2.2[i].val, b.ents.2.2[i].ctors.2.2[j].val, .int .i64 0])) w'
theorem name_ctor {ents : List EntP} {n : Nat} {e k : Int} : nameB ents n (10, e, k) = (kindB ents 1 e n && decide (0 ≤ k ∧ k < ctorsN ents e)) := by simp [nameB, Bool.and_comm]
/-- The world behind, both results being written. -/
theorem stores9 {w W wf : World} {g1 g2 : Nat} {c1 c2 : Array Value} {t1 t2 : TypeId} (h1 : Whole W g1 c1 t1) (s1 : c1.size = 7) (h2 : Whole W g2 c2 t2) (s2 : c2.size = 2) (hne : g1 ≠ g2) (hb : Below w.heap.size w W) (l1 : w.heap.size ≤ g1) (l2 : w.heap.size ≤ g2) (a b c d e f x y z : Value)
    (hf : wf = ((((((((W.setCell ⟨g1, 0, none⟩ a).setCell ⟨g1, 1, none⟩ b).setCell ⟨g1, 2, none⟩ c).setCell ⟨g1, 3, none⟩ d).setCell ⟨g1, 4, none⟩ e).setCell ⟨g1, 5, none⟩ f).setCell ⟨g1, 6, none⟩ x).setCell ⟨g2, 0, none⟩ y).setCell ⟨g2, 1, none⟩ z) :
    (wf.cell? ⟨g1, 0, none⟩ = some a ∧ wf.cell? ⟨g1, 1, none⟩ = some b ∧ wf.cell? ⟨g1, 2, none⟩ = some c ∧ wf.cell? ⟨g1, 3, none⟩ = some d ∧ wf.cell? ⟨g1, 4, none⟩ = some e ∧ wf.cell? ⟨g1, 5, none⟩ = some f ∧ wf.cell? ⟨g1, 6, none⟩ = some x) ∧ (wf.cell? ⟨g2, 0, none⟩ = some y ∧ wf.cell? ⟨g2, 1, none⟩ = some z) ∧ Below w.heap.size w wf := by
  have h := ((((((h1.set_ 0 a).set_ 1 b).set_ 2 c).set_ 3 d).set_ 4 e).set_ 5 f).set_ 6 x
  have ho : Only (fun k => k = g1) W (((((((W.setCell ⟨g1, 0, none⟩ a).setCell ⟨g1, 1, none⟩ b).setCell ⟨g1, 2, none⟩ c).setCell ⟨g1, 3, none⟩ d).setCell ⟨g1, 4, none⟩ e).setCell ⟨g1, 5, none⟩ f).setCell ⟨g1, 6, none⟩ x) :=
    (((((((Only.refl (fun k => k = g1) W).set_ (.inl rfl) 0 a).set_ (.inl rfl) 1 b).set_ (.inl rfl) 2 c).set_ (.inl rfl) 3 d).set_ (.inl rfl) 4 e).set_ (.inl rfl) 5 f).set_ (.inl rfl) 6 x
  have k := ((h2.only ho (fun e => hne e.symm)).set_ 0 y).set_ 1 z
  have hb1 := hb.trans (ho.below (B := w.heap.size) hb.size fun k hk e => by omega)
  have hb2 := (hb1.setCell (p := ⟨g2, 0, none⟩) (by simp only; omega) y).setCell (p := ⟨g2, 1, none⟩) (by simp only; omega) z
  generalize ((((((W.setCell ⟨g1, 0, none⟩ a).setCell ⟨g1, 1, none⟩ b).setCell ⟨g1, 2, none⟩ c).setCell ⟨g1, 3, none⟩ d).setCell ⟨g1, 4, none⟩ e).setCell ⟨g1, 5, none⟩ f).setCell ⟨g1, 6, none⟩ x = V at *
  have hk : ∀ j, wf.cell? ⟨g1, j, none⟩ = V.cell? ⟨g1, j, none⟩ := fun j => by
    rw [hf]
    exact World.cell?_of_block ((Below.heap_setCell _ _ _ _ (by simp only; omega)).trans (Below.heap_setCell _ _ _ _ (by simp only; omega)))
  rw [← hf] at k hb2
  refine ⟨⟨?_, ?_, ?_, ?_, ?_, ?_, ?_⟩, ⟨?_, ?_⟩, hb2⟩
  all_goals first | rw [hk, h.cell] | rw [k.cell]
  all_goals simp [s1, s2]
set_option maxRecDepth 100000 in
set_option maxHeartbeats 8000000 in
theorem cons_any (b : BookT) (e k : Int) (w : World) (hb : BookOk w b) (hL : Lim w) (he : I64 e) (hk : I64 k) : Calls Tryz.prog 45 #[b.val, .int .i64 e, .int .i64 k] w (ConsPost b e k w) := by
  obtain ⟨v, ⟨oA, oc, lo⟩, ⟨eA, ec, le⟩, nat, ⟨pA, pc, lp⟩⟩ := b
  obtain ⟨on_, hon⟩ : ∃ n, lo.length = n := ⟨_, rfl⟩
  obtain ⟨en, hen⟩ : ∃ n, le.length = n := ⟨_, rfl⟩
  obtain ⟨pn, hpn⟩ : ∃ n, lp.length = n := ⟨_, rfl⟩
  have hb3 : Below w.heap.size w (((w.alloc (bookBox v oA eA pA on_ oc en ec pn pc nat)).alloc (.cells #[.int .i64 0, .slice none 0 0, .slice none 0 0, .slice none 0 0, .slice none 0 0, .slice none 0 0, .slice none 0 0] 60)).alloc (.cells #[.slice none 0 0, .slice none 0 0] 62)) := (((Below.refl _ _).alloc (Nat.le_refl _) _).alloc (by simp) _).alloc (by simp; omega) _
  have hB := (holds_at w #[.int .i64 v, .slice oA on_ oc, .slice eA en ec, .int .i64 nat, .slice pA pn pc] 26 _ rfl)
  have hE := Whole.new (w.alloc (bookBox v oA eA pA on_ oc en ec pn pc nat)) #[.int .i64 0, .slice none 0 0, .slice none 0 0, .slice none 0 0, .slice none 0 0, .slice none 0 0, .slice none 0 0] 60
  have hC := Whole.new ((w.alloc (bookBox v oA eA pA on_ oc en ec pn pc nat)).alloc (.cells #[.int .i64 0, .slice none 0 0, .slice none 0 0, .slice none 0 0, .slice none 0 0, .slice none 0 0, .slice none 0 0] 60)) #[.slice none 0 0, .slice none 0 0] 62
  simp only [World.size_alloc] at hE hC
  have HBX := Lib.hid ((hB.alloc (.cells #[.int .i64 0, .slice none 0 0, .slice none 0 0, .slice none 0 0, .slice none 0 0, .slice none 0 0, .slice none 0 0] 60)).alloc (.cells #[.slice none 0 0, .slice none 0 0] 62))
  have HEX := Lib.hid (hE.below ((Below.refl _ _).alloc (Nat.le_refl _) (.cells #[.slice none 0 0, .slice none 0 0] 62)) (by simp))
  have HCX := Lib.hid hC
  have HB3 := Lib.hid hb3
  have HK := Lib.hid (look_any _ _ (hb.below hb3) (hL.next hb3))
  have HOK := Lib.hid (show ∀ W, Below w.heap.size w W → EntsIn W (eA, ec, le) from fun W h => (hb.below h).inn.ents)
  have HEI := Lib.hid he
  have HKI := Lib.hid hk
  obtain ⟨q, hq⟩ : ∃ q, BookT.p ⟨v, (oA, oc, lo), (eA, ec, le), nat, (pA, pc, lp)⟩ = q := ⟨_, rfl⟩
  have HF : Hid (∀ r, rightE q = r → consE q e k = if r ≠ 0 then r else if nameB q.ents q.ents.length (10, e, k) = true then 0 else 1) := Lib.hid fun r h => by
    unfold consE
    rw [h, name_ctor]
  have HQ := Lib.hid hq
  rw [hq] at HK
  have HEN := Lib.hid hen
  clear hb3 hB hE hC hb hL he hk
  simp only [BookT.val, entsV, hon, hen, hpn] at HK ⊢
  clear hon hpn hen hq
  have HW1 : Hid (∀ (W : World) (r : Int), consE q e k = r → r ≠ 0 → Whole W (w.heap.size + 1) #[.int .i64 0, .slice none 0 0, .slice none 0 0, .slice none 0 0, .slice none 0 0, .slice none 0 0, .slice none 0 0] 60 → Whole W (w.heap.size + 1 + 1) #[.slice none 0 0, .slice none 0 0] 62 → Below w.heap.size w W → True) := Lib.hid fun _ _ _ _ _ _ _ => trivial
  clear HW1
  go_enter Tryz.func45, Tryz.ntmps45
  go_wp2_with fail
  refine (HK.out).mono ?_
  rintro e1 w1 (⟨_, r, h1, h2, hb2⟩ | ⟨_, g, m, h1, h2, h3, h4, hb2⟩)
  · have HX : Hid (consE q e k = r) := Lib.hid (by rw [HF.out r h1, if_pos h2])
    have h2b : (r != 0) = true := by simpa using h2
    have HE2 := Lib.hid ((HEX.out.below hb2 (by simp)).below ((Below.refl _ _).alloc (Nat.le_refl _) (.cells #[.int .i64 0, .map none] 74)) (by have := hb2.size; simp only [World.size_alloc] at this; omega))
    have hz : w.heap.size + 1 + 1 < w1.heap.size := by have := hb2.size; simp only [World.size_alloc] at this; omega
    have HC2 := Lib.hid ((HCX.out.below hb2 (by simp)).below ((Below.refl _ _).alloc (Nat.le_refl _) (.cells #[.int .i64 0, .map none] 74)) hz)
    have z0 := HE2.out.cell 0
    have z1 := HE2.out.cell 1
    have z2 := HE2.out.cell 2
    have z3 := HE2.out.cell 3
    have z4 := HE2.out.cell 4
    have z5 := HE2.out.cell 5
    have z6 := HE2.out.cell 6
    have y0 := HC2.out.cell 0
    have y1 := HC2.out.cell 1
    have f0 := HE2.out.frozen 0
    have f1 := HE2.out.frozen 1
    have f2 := HE2.out.frozen 2
    have f3 := HE2.out.frozen 3
    have f4 := HE2.out.frozen 4
    have f5 := HE2.out.frozen 5
    have f6 := HE2.out.frozen 6
    have x0 := HC2.out.frozen 0
    have x1 := HC2.out.frozen 1
    have HB5 := Lib.hid (below_alloc (below_step HB3.out hb2) (.cells #[.int .i64 0, .map none] 74))
    obtain ⟨⟨q0, q1, q2, q3, q4, q5, q6⟩, ⟨p0, p1⟩, hbf⟩ := stores9 HE2.out rfl HC2.out rfl (by omega) HB5.out (by omega) (by omega) (.int .i64 0) (.slice none 0 0) (.slice none 0 0) (.slice none 0 0) (.slice none 0 0) (.slice none 0 0) (.slice none 0 0) (.slice none 0 0) (.slice none 0 0) rfl
    have HBF := Lib.hid hbf
    clear hbf h2 hb2 HBX HEX HCX HB3 hz
    go_wp2_with fail
    refine bodyPost_ret (by simp [results, Tryz.results45, go_sem, q0, q1, q2, q3, q4, q5, q6, p0, p1]; try rfl) rfl ?_
    exact .err _ _ (by rw [HQ.out]; exact HX.out) (by simpa using h2b) HBF.out
  have HX := Lib.hid (HF.out 0 h1)
  have HR0 := Lib.hid h1
  have hz : w.heap.size + 1 + 1 < w1.heap.size := by have := hb2.size; simp only [World.size_alloc] at this; omega
  have hs2 : Below w1.heap.size w1 (w1.alloc (.cells #[.int .i64 q.vars, .map (some g)] 74)) := (Below.refl _ _).alloc (Nat.le_refl _) _
  have HN2 := Lib.hid (h2.below hs2)
  have HB2 := Lib.hid (below_step (below_step HB3.out hb2) hs2)
  have HE1 := Lib.hid ((HEX.out.below hb2 (by simp)).below hs2 (by omega))
  have HC1 := Lib.hid ((HCX.out.below hb2 (by simp)).below hs2 (by omega))
  have HBK := Lib.hid ((HBX.out.below hb2).below hs2)
  have HKN := Lib.hid (knows_any q.vars g m (nameB q.ents q.ents.length) (10, e, k) _ HN2.out ⟨by unfold I64; simp, HEI.out, HKI.out⟩)
  clear h1 h2 h3 h4 hb2 hs2 HK HF HBX HEX HCX HB3 HN2
  have HNB : Hid (nameB q.ents q.ents.length (10, e, k) = (kindB q.ents 1 e q.ents.length && decide (0 ≤ k ∧ k < ctorsN q.ents e))) := Lib.hid name_ctor
  generalize nameB q.ents q.ents.length (10, e, k) = nb at *
  generalize q.vars = qv at *
  cases nb with
  | false =>
    have HX1 : Hid (consE q e k = 1) := Lib.hid (by rw [HX.out]; rfl)
    clear HX HNB
    go_wp2_with fail
    refine (HKN.out).mono ?_
    rintro e2 w2 ⟨rfl, hb3⟩
    have HE2 := Lib.hid (HE1.out.below hb3 (by simp; omega))
    have HC2 := Lib.hid (HC1.out.below hb3 (by simp; omega))
    have HB5 := Lib.hid (below_step HB2.out hb3)
    have z0 := HE2.out.cell 0
    have z1 := HE2.out.cell 1
    have z2 := HE2.out.cell 2
    have z3 := HE2.out.cell 3
    have z4 := HE2.out.cell 4
    have z5 := HE2.out.cell 5
    have z6 := HE2.out.cell 6
    have y0 := HC2.out.cell 0
    have y1 := HC2.out.cell 1
    have f0 := HE2.out.frozen 0
    have f1 := HE2.out.frozen 1
    have f2 := HE2.out.frozen 2
    have f3 := HE2.out.frozen 3
    have f4 := HE2.out.frozen 4
    have f5 := HE2.out.frozen 5
    have f6 := HE2.out.frozen 6
    have x0 := HC2.out.frozen 0
    have x1 := HC2.out.frozen 1
    obtain ⟨⟨q0, q1, q2, q3, q4, q5, q6⟩, ⟨p0, p1⟩, hbf⟩ := stores9 HE2.out rfl HC2.out rfl (by omega) HB5.out (by omega) (by omega) (.int .i64 0) (.slice none 0 0) (.slice none 0 0) (.slice none 0 0) (.slice none 0 0) (.slice none 0 0) (.slice none 0 0) (.slice none 0 0) (.slice none 0 0) rfl
    have HBF := Lib.hid hbf
    clear hbf hb3 HE1 HC1 HBK HB2 hz
    go_wp2_with fail
    refine bodyPost_ret (by simp [results, Tryz.results45, go_sem, q0, q1, q2, q3, q4, q5, q6, p0, p1]; try rfl) rfl ?_
    exact .err _ _ (by rw [HQ.out]; exact HX1.out) (by omega) HBF.out
  | true =>
  have hnb := HNB.out.symm
  rw [Bool.and_eq_true, decide_eq_true_eq] at hnb
  obtain ⟨hk1, hk2, hk3⟩ := hnb
  obtain ⟨hk4, hk5⟩ := kind_lt hk1
  obtain ⟨i, rfl⟩ : ∃ i : Nat, e = i := ⟨e.toNat, by omega⟩
  obtain ⟨j, rfl⟩ : ∃ j : Nat, k = j := ⟨k.toNat, by omega⟩
  have hents : q.ents = le.map EntT.p := by rw [← HQ.out]; rfl
  have hin : i < le.length := by have := congrArg List.length hents; rw [List.length_map] at this; omega
  have hie : i < q.ents.length := by omega
  have hep : q.ents[i] = le[i].p := by simp only [hents, List.getElem_map]
  rw [ctors_in hie, hep] at hk3
  have hjn : j < le[i].ctors.2.2.length := by have h5 : le[i].p.ctors.length = le[i].ctors.2.2.length := List.length_map ..; omega
  have HX1 : Hid (consE q i j = 0) := Lib.hid (by rw [HX.out]; rfl)
  obtain ⟨-, heh0, hek0⟩ := HOK.out _ (Below.refl _ _)
  have heh := heh0.below HB2.out
  have hik0 := hek0 _ (List.getElem_mem hin)
  have hik := hik0.below HB2.out
  obtain ⟨be, oe, rfl, -, -⟩ := heh.at_ (by rw [entsCV_len]; simp only; omega)
  have HEC := Lib.hid (fun W (hb : Below _ _ W) => ents_cells (heh.below hb) hin)
  obtain ⟨bc, oc2, hcA, hbc, -⟩ := hik0.ctors.2.1.at_ (by rw [ctorsCV_len]; omega)
  have HBC := Lib.hid hbc
  have hch := hik.ctors.2.1
  rw [hcA] at hch
  have HCC := Lib.hid (fun W (hb : Below _ _ W) => ctors_cells (hch.below hb) hjn)
  have HIN := Lib.hid (show i < en from by rw [← HEN.out]; exact hin)
  have HPX := Lib.hid (show le[i].val = le[i].val ∧ le[i].ctors.2.2[j].val = le[i].ctors.2.2[j].val from ⟨rfl, rfl⟩)
  obtain ⟨x, hx⟩ : ∃ x, le[i] = x := ⟨_, rfl⟩
  obtain ⟨c, hc⟩ : ∃ c, le[i].ctors.2.2[j] = c := ⟨_, rfl⟩
  have HRES : Hid (∀ W', Below w.heap.size w W' → ConsPost ⟨v, (oA, oc, lo), (some ⟨be, oe, none⟩, ec, le), nat, (pA, pc, lp)⟩ i j w (.returned (.tuple #[x.val, c.val, .int .i64 0])) W') := Lib.hid fun W' hb => by
    rw [← hx, ← hc]
    exact .ok W' i j hin hjn (by rw [HQ.out]; exact HX1.out) rfl rfl hb
  have HJN := Lib.hid (show j < x.ctors.2.2.length from by rw [← hx]; exact hjn)
  have hxA : x.ctors.1 = some ⟨bc, oc2, none⟩ := by rw [← hx]; exact hcA
  rw [hc] at HCC
  rw [hx] at HEC
  clear hbc heh0 hek0 hik0 hk1 hk2 hk3 hk4 hk5 hents hep hie heh hik hch hcA hx hc HX HNB HX1 HPX HQ HEN HOK hjn hin
  obtain ⟨kd, ⟨sA, sc, ts⟩, ⟨qA, qc, lq⟩, ⟨jA, jc, lj⟩, ⟨cA, cc, lc⟩, ⟨tA, tc, tt⟩, ⟨bA, bcc, tb⟩⟩ := x
  obtain ⟨⟨yA, yc, ly⟩, ⟨zA, zc, lz⟩⟩ := c
  simp only at hxA
  subst hxA
  simp only [EntT.val, CtorT.val, rowV, rowsV, ctorsV] at HEC HCC HRES HJN
  generalize ts.length = sn at *
  generalize lq.length = qn at *
  generalize lj.length = jn at *
  generalize lc.length = cn at *
  generalize tt.length = tn at *
  generalize tb.length = bn at *
  generalize ly.length = yn at *
  generalize lz.length = zn at *
  have k2 := HBK.out.cell (j := 2) rfl
  rw [Nat.zero_add] at k2
  clear k2
  go_wp2_with fail
  refine (HKN.out).mono ?_
  rintro e2 w2 ⟨rfl, hb3⟩
  have hk2 := HBK.out.below hb3
  have k2 := hk2.cell (j := 2) rfl
  rw [Nat.zero_add] at k2
  obtain ⟨r0, r1, r2, r3, r4, r5, r6⟩ := HEC.out _ hb3
  have hin := HIN.out
  have hb4 : Below w2.heap.size w2 (w2.alloc (.cells #[.int .i64 kd, .slice sA sn sc, .slice qA qn qc, .slice jA jn jc, .slice (some ⟨bc, oc2, none⟩) cn cc, .slice tA tn tc, .slice bA bn bcc] 60)) := (Below.refl _ _).alloc (Nat.le_refl _) _
  have HE2 := Lib.hid ((HE1.out.below hb3 (by simp; omega)).below hb4 (by have := hb3.size; simp only [World.size_alloc] at this; omega))
  have HC2 := Lib.hid ((HC1.out.below hb3 (by simp; omega)).below hb4 (by have := hb3.size; simp only [World.size_alloc] at this; omega))
  have HB5 := Lib.hid (below_step (below_step HB2.out hb3) hb4)
  have HEB := Lib.hid (holds_at w2 #[.int .i64 kd, .slice sA sn sc, .slice qA qn qc, .slice jA jn jc, .slice (some ⟨bc, oc2, none⟩) cn cc, .slice tA tn tc, .slice bA bn bcc] 60 _ rfl)
  have hz2 : w.heap.size + 1 + 1 < w2.heap.size := by have := hb3.size; simp only [World.size_alloc] at this; omega
  have HCD := Lib.hid (HCC.out _ (hb3.trans (hb4.mono hb3.size)))
  clear hb3 hb4 HKN HE1 HC1 HB2 hk2 HCC HEC HBK
  go_upto_region 7 with fail
  generalize w2.alloc (.cells #[.int .i64 kd, .slice sA sn sc, .slice qA qn qc, .slice jA jn jc, .slice (some ⟨bc, oc2, none⟩) cn cc, .slice tA tn tc, .slice bA bn bcc] 60) = wE at *
  clear r0 r1 r2 r3 r4 r5 r6 k2
  have z0 := HE2.out.cell 0
  have z1 := HE2.out.cell 1
  have z2 := HE2.out.cell 2
  have z3 := HE2.out.cell 3
  have z4 := HE2.out.cell 4
  have z5 := HE2.out.cell 5
  have z6 := HE2.out.cell 6
  have y0 := HC2.out.cell 0
  have y1 := HC2.out.cell 1
  have f0 := HE2.out.frozen 0
  have f1 := HE2.out.frozen 1
  have f2 := HE2.out.frozen 2
  have f3 := HE2.out.frozen 3
  have f4 := HE2.out.frozen 4
  have f5 := HE2.out.frozen 5
  have f6 := HE2.out.frozen 6
  have x0 := HC2.out.frozen 0
  have x1 := HC2.out.frozen 1
  have e0 := HEB.out.cell (j := 0) rfl
  have e1 := HEB.out.cell (j := 1) rfl
  have e2 := HEB.out.cell (j := 2) rfl
  have e3 := HEB.out.cell (j := 3) rfl
  have e4 := HEB.out.cell (j := 4) rfl
  have e5 := HEB.out.cell (j := 5) rfl
  have e6 := HEB.out.cell (j := 6) rfl
  rw [Nat.zero_add] at e0 e1 e2 e3 e4 e5 e6
  obtain ⟨d0, d1⟩ := HCD.out
  have hjn := HJN.out
  have n1 : bc ≠ w.heap.size + 1 := by have := HBC.out; omega
  have n2 : bc ≠ w.heap.size + 1 + 1 := by have := HBC.out; omega
  have n3 : w2.heap.size ≠ w.heap.size + 1 := by omega
  have n4 : w2.heap.size ≠ w.heap.size + 1 + 1 := by omega
  go_region
  go_wp2_with fail
  obtain ⟨⟨q0, q1, q2, q3, q4, q5, q6⟩, ⟨p0, p1⟩, hbf⟩ := stores9 HE2.out rfl HC2.out rfl (by omega) HB5.out (by omega) (by omega) (.int .i64 kd) (.slice sA sn sc) (.slice qA qn qc) (.slice jA jn jc) (.slice (some ⟨bc, oc2, none⟩) cn cc) (.slice tA tn tc) (.slice bA bn bcc) (.slice yA yn yc) (.slice zA zn zc) rfl
  refine bodyPost_ret (by simp [results, Tryz.results45, go_sem, q0, q1, q2, q3, q4, q5, q6, p0, p1]; try rfl) rfl ?_
  exact HRES.out _ hbf.drew
end Go.Proofs.YtfeodppdmbideaaGreatDoor
