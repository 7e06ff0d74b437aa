/- The way to the laws of books: BWent to BWbook. -/
import Derived.Test.YtfeodppdmbideaaGreatDoorBA17
import Derived.Test.YtfeodppdmbideaaGreatDoorBA25
import Derived.Test.YtfeodppdmbideaaGreatDoorBA5
namespace Go.Proofs.YtfeodppdmbideaaGreatDoor
open Go.RowKit

structure EntW (x : EntT) : Prop where
  kind : x.kind = 1 ∨ x.kind = 2
  sort : RowW x.sort.2.2
  pars : RowsW x.pars.2.2
  inds : RowsW x.inds.2.2
  many : x.ctors.2.2.length ≤ 16
  ctors : ∀ c ∈ x.ctors.2.2, RowsW c.args.2.2 ∧ RowsW c.out.2.2
  typ : RowW x.typ.2.2
  body : RowW x.body.2.2
theorem capTs {l : List RowT} (h : RowsW l) {m : Nat} {bs : List Nat} (hc : Cap m bs) : Cap (m + 1) (encAll (fun bs (x : RowT) => encR bs x.2.2) bs l) :=
  (Cap.all (k := 0) (fun y hy m bs h' => h'.row (h.2 y hy).wide (h.2 y hy).2) (by have := h.1; omega) hc).mono (by omega)
theorem encC_rows (bs : List Nat) (x : CtorT) : encC bs x.p = encAll (fun bs (x : RowT) => encR bs x.2.2) (encAll (fun bs (x : RowT) => encR bs x.2.2) bs x.args.2.2) x.out.2.2 := by
  simp only [encC, encAll, CtorT.p, rowsP, List.length_map, List.foldl_map]
theorem capC {x : CtorT} (h1 : RowsW x.args.2.2) (h2 : RowsW x.out.2.2) {m : Nat} {bs : List Nat} (hc : Cap m bs) : Cap (m + 2) (encC bs x.p) := by
  rw [encC_rows]
  exact capTs h2 (capTs h1 hc)
theorem encE_rows (bs : List Nat) (x : EntT) : encE bs x.p = if x.kind = 2 then encR (encR (bs ++ lebs [x.kind]) x.typ.2.2) x.body.2.2
    else encAll (fun bs (x : CtorT) => encC bs x.p) (encAll (fun bs (x : RowT) => encR bs x.2.2) (encAll (fun bs (x : RowT) => encR bs x.2.2) (encR (bs ++ lebs [x.kind]) x.sort.2.2) x.pars.2.2) x.inds.2.2) x.ctors.2.2 := by
  simp only [encE, encAll, EntT.p, rowsP, List.length_map, List.foldl_map]
theorem EntW.wide {x : EntT} (h : EntW x) : Wide [x.kind] ∧ ∀ y ∈ [x.kind], 0 ≤ y := by
  have := h.kind
  refine ⟨fun y hy => ?_, fun y hy => ?_⟩ <;> (simp only [List.mem_singleton] at hy; subst hy; omega)
theorem capE {x : EntT} (h : EntW x) {m : Nat} {bs : List Nat} (hc : Cap m bs) : Cap (m + 36) (encE bs x.p) := by
  rw [encE_rows]
  have h0 := hc.num h.wide.1
  split
  · exact ((h0.row h.typ.wide h.typ.2).row h.body.wide h.body.2).mono (by simp)
  · have h1 := capTs h.inds (capTs h.pars (h0.row h.sort.wide h.sort.2))
    have h2 := Cap.all (k := 2) (f := fun bs (x : CtorT) => encC bs x.p) (fun c hc' m bs hb => capC (h.ctors c hc').1 (h.ctors c hc').2 hb) (by have := h.many; omega) h1
    exact h2.mono (by have := h.many; simp only [List.length_cons, List.length_nil]; omega)
theorem ctor_vis (w0 : World) (K : Nat → Prop) (g : Nat) (l : List CtorT) (hok : ∀ c ∈ l, CtorIn w0 c) (hw : ∀ c ∈ l, RowsW c.args.2.2 ∧ RowsW c.out.2.2) : VisW w0 K g 186 (fun x : CtorT => x.val) (fun bs (x : CtorT) => encC bs x.p) 2000000 2 l where
  enters := fun args w => by simp [go_sem]
  call := fun i h bs v W hk hc => by
    have hin := List.getElem_mem h
    exact wctor_any w0 K g _ bs v _ W hk (hok _ hin) (hw _ hin).1 (hw _ hin).2 hc (by omega)
  cap := fun x hx m bs h => capC (hw x hx).1 (hw x hx).2 h
set_option maxRecDepth 100000 in
set_option maxHeartbeats 8000000 in
theorem wentry_any (w0 : World) (K : Nat → Prop) (g : Nat) (bs : List Nat) (v : Value) (x : EntT) (w : World) (h : WrK w0 K w g bs v) (hx : EntIn w0 x) (hw : EntW x) (hc : Cap 1000000 bs) :
    Calls Tryz.prog 151 #[.pointer (some ⟨g, 0, none⟩), x.val] w (WPost w0 K g (encE bs x.p) w) := by
  have hE := encE_rows bs x
  obtain ⟨kd, ⟨sA, sc, ts⟩, ⟨pA, pc, lp⟩, ⟨jA, jc, lj⟩, ⟨cA, cc, lc⟩, ⟨tA, tc, tt⟩, ⟨bA, bc, tb⟩⟩ := x
  obtain ⟨hi1, ⟨hp1, hp2, hp3⟩, ⟨hj1, hj2, hj3⟩, ⟨hc1, hc2, hc3⟩, hi5, hi6⟩ := hx
  have hwd := hw.wide
  obtain ⟨hkd, hsW, hpW, hjW, hcW, hcW2, htW, hbW⟩ := hw
  simp only at hi1 hi5 hi6 hp2 hp3 hj2 hj3 hc2 hc3 hkd hsW hpW hjW hcW hcW2 htW hbW hE hwd
  obtain ⟨sn, hsn⟩ : ∃ n, ts.length = n := ⟨_, rfl⟩
  obtain ⟨pn, hpn⟩ : ∃ n, lp.length = n := ⟨_, rfl⟩
  obtain ⟨jn, hjn⟩ : ∃ n, lj.length = n := ⟨_, rfl⟩
  obtain ⟨cn, hcn⟩ : ∃ n, lc.length = n := ⟨_, rfl⟩
  obtain ⟨tn, htn⟩ : ∃ n, tt.length = n := ⟨_, rfl⟩
  obtain ⟨bn, hbn⟩ : ∃ n, tb.length = n := ⟨_, rfl⟩
  have hb1 : Below w.heap.size w ((w.alloc (.cells #[.int .i64 kd, .slice sA sn sc, .slice pA pn pc, .slice jA jn jc, .slice cA cn cc, .slice tA tn tc, .slice bA bn bc] 60)).alloc (.cells #[.int .i64 kd] 3)) := ((Below.refl _ _).alloc (Nat.le_refl _) _).alloc (by simp) _
  have hA : Holds ((w.alloc (.cells #[.int .i64 kd, .slice sA sn sc, .slice pA pn pc, .slice jA jn jc, .slice cA cn cc, .slice tA tn tc, .slice bA bn bc] 60)).alloc (.cells #[.int .i64 kd] 3)) (some ⟨w.heap.size + 1, 0, none⟩) (intsV [kd]) := by
    have q := holds_lit (w.alloc (.cells #[.int .i64 kd, .slice sA sn sc, .slice pA pn pc, .slice jA jn jc, .slice cA cn cc, .slice tA tn tc, .slice bA bn bc] 60)) (intsV [kd]) 3
    rw [World.size_alloc] at q
    exact q
  have hbx := (holds_at w #[.int .i64 kd, .slice sA sn sc, .slice pA pn pc, .slice jA jn jc, .slice cA cn cc, .slice tA tn tc, .slice bA bn bc] 60 _ rfl).alloc (.cells #[.int .i64 kd] 3)
  obtain ⟨W1, hW1⟩ : ∃ W1, W1 = (w.alloc (.cells #[.int .i64 kd, .slice sA sn sc, .slice pA pn pc, .slice jA jn jc, .slice cA cn cc, .slice tA tn tc, .slice bA bn bc] 60)).alloc (.cells #[.int .i64 kd] 3) := ⟨_, rfl⟩
  have hsz : w.heap.size < W1.heap.size := by rw [hW1]; simp; omega
  rw [← hW1] at hb1 hA hbx
  obtain ⟨K1, hKK⟩ : ∃ K1 : Nat → Prop, K1 = fun k => K k ∨ (w.heap.size ≤ k ∧ k < W1.heap.size) := ⟨_, rfl⟩
  have hk1 : WrK w0 K1 W1 g bs v := by rw [hKK]; exact h.more hb1
  have HF := Lib.hid (show ∀ bs' e w2, WPost w0 K1 g bs' W1 e w2 → WPost w0 K g bs' w e w2 from fun bs' e w2 hp => by
    rw [hKK] at hp
    exact hp.fit hb1 h.old)
  have hK0 := nums_any w0 K1 g bs v (some ⟨w.heap.size + 1, 0, none⟩) 1 1 [kd] _ hk1 rfl hA hwd.1 hwd.2 (by omega) (by unfold Cap at hc; omega)
  have hc0 : Cap 1000001 (bs ++ lebs [kd]) := hc.num hwd.1
  have hst : ∀ W, Only (fun k => ¬ K1 k) W1 W → W.cell? ⟨w.heap.size, 0, none⟩ = some (.int .i64 kd) ∧ W.cell? ⟨w.heap.size, 1, none⟩ = some (.slice sA sn sc) ∧ W.cell? ⟨w.heap.size, 2, none⟩ = some (.slice pA pn pc) ∧ W.cell? ⟨w.heap.size, 3, none⟩ = some (.slice jA jn jc) ∧ W.cell? ⟨w.heap.size, 4, none⟩ = some (.slice cA cn cc) ∧ W.cell? ⟨w.heap.size, 5, none⟩ = some (.slice tA tn tc) ∧ W.cell? ⟨w.heap.size, 6, none⟩ = some (.slice bA bn bc) := fun W ho => by
    have hh := hbx.only ho fun b o e hn => hn (by rw [hKK]; exact .inr (by cases e; exact ⟨Nat.le_refl _, hsz⟩))
    have q := fun (j : Nat) (u : Value) (hu : [.int .i64 kd, .slice sA sn sc, .slice pA pn pc, .slice jA jn jc, .slice cA cn cc, .slice tA tn tc, .slice bA bn bc][j]? = some u) => hh.cell (j := j) hu
    simp only [Nat.zero_add] at q
    exact ⟨q 0 _ rfl, q 1 _ rfl, q 2 _ rfl, q 3 _ rfl, q 4 _ rfl, q 5 _ rfl, q 6 _ rfl⟩
  have hR : ∀ (A : Option Addr) (n c : Nat) (t : List Node3), t.length = n → Holds w0 A (nodesV t) → RowW t → ∀ bs v W, WrK w0 K1 W g bs v → Calls Tryz.prog 109 #[.pointer (some ⟨g, 0, none⟩), .slice A n c] W (WPost w0 K1 g (encR bs t) W) := fun A n c t hn hA hw bs v W hk =>
    wrow_any w0 K1 g bs v A n c t W hk hn hA hw.wide hw.1 (by have := hw.2; omega)
  have hT : ∀ (A : Option Addr) (n c m : Nat) (l : List RowT), l.length = n → Holds w0 A (l.map rowV) → RowsOk w0 l → RowsW l → m ≤ 2000000 → ∀ bs v W, WrK w0 K1 W g bs v → Cap m bs → Calls Tryz.prog 184 #[.pointer (some ⟨g, 0, none⟩), .slice A n c, .func (.func 109) #[.pointer (some ⟨g, 0, none⟩)] #[]] W (WPost w0 K1 g (encAll (fun bs (x : RowT) => encR bs x.2.2) bs l) W) := fun A n c m l hn hA hok hw hm bs v W hW hc' =>
    wallT_any w0 K1 g _ 3000000 0 bs v A n c m l W (row_vis w0 _ g _ l hok hw) hW hn (by have := hw.1; omega) hA hc' (by omega) (by omega)
  have hC : ∀ bs v W, WrK w0 K1 W g bs v → Cap 1000003 bs → Calls Tryz.prog 185 #[.pointer (some ⟨g, 0, none⟩), .slice cA cn cc, .func (.func 186) #[.pointer (some ⟨g, 0, none⟩)] #[]] W (WPost w0 K1 g (encAll (fun bs (x : CtorT) => encC bs x.p) bs lc) W) := fun bs v W hW hc' =>
    wallC_any w0 K1 g _ 2000000 2 bs v cA cn cc _ lc W (ctor_vis w0 _ g lc hc3 hcW2) hW hcn (by omega) hc2 hc' (by omega) (by omega)
  have HK0 := Lib.hid hK0
  have HST := Lib.hid hst
  have HC0 := Lib.hid hc0
  have HRs := Lib.hid (hR sA sn sc ts hsn hi1.2 hsW)
  have HRt := Lib.hid (hR tA tn tc tt htn hi5.2 htW)
  have HRb := Lib.hid (hR bA bn bc tb hbn hi6.2 hbW)
  have HTp := Lib.hid (hT pA pn pc 1000001 lp hpn hp2 hp3 hpW (by omega))
  have HTj := Lib.hid (hT jA jn jc 1000002 lj hjn hj2 hj3 hjW (by omega))
  have HCs := Lib.hid hC
  have HCAP := Lib.hid (show (∀ m bs, Cap m bs → Cap m (encR bs ts)) ∧ (∀ m bs, Cap m bs → Cap (m + 1) (encAll (fun bs (x : RowT) => encR bs x.2.2) bs lp)) ∧ (∀ m bs, Cap m bs → Cap (m + 1) (encAll (fun bs (x : RowT) => encR bs x.2.2) bs lj)) from ⟨fun m bs hc => hc.row hsW.wide hsW.2, fun m bs hc => capTs hpW hc, fun m bs hc => capTs hjW hc⟩)
  rw [hE]
  have HW1 := Lib.hid hW1
  simp only [EntT.val, rowV, rowsV, ctorsV, hsn, hpn, hjn, hcn, htn, hbn]
  clear h hi1 hi5 hi6 hp1 hp2 hp3 hj1 hj2 hj3 hc1 hc2 hc3 hsW hpW hjW hcW hcW2 htW hbW hE hwd hsn hpn hjn hcn htn hbn hb1 hA hbx hsz hKK hk1 hK0 hc0 hst hR hT hC hc hW1
  by_cases h2 : kd = 2
  · rw [if_pos h2]
    subst h2
    go_enter Tryz.func151, Tryz.ntmps151
    go_wp2_with fail
    rw [← HW1.out]
    refine (HK0.out).mono ?_
    rintro en w2 ⟨rfl, ⟨v2, hw2⟩, ho2⟩
    obtain ⟨d0, d1, d2, d3, d4, d5, d6⟩ := HST.out w2 ho2
    have HO2 := Lib.hid ho2
    have HK2 := Lib.hid (HRt.out _ _ _ hw2)
    clear hw2 ho2
    go_wp2_with fail
    refine (HK2.out).mono ?_
    rintro en w3 ⟨rfl, ⟨v3, hw3⟩, ho3⟩
    have HO3 := Lib.hid (HO2.out.trans ho3 fun _ _ e => e)
    obtain ⟨e0, e1, e2, e3, e4, e5, e6⟩ := HST.out w3 HO3.out
    have HK3 := Lib.hid (HRb.out _ _ _ hw3)
    clear hw3 ho3 d0 d1 d2 d3 d4 d5 d6 HK2
    go_wp2_with fail
    refine (HK3.out).mono ?_
    rintro en w4 ⟨rfl, hw4, ho4⟩
    go_wp2_with fail
    go_end0
    exact HF.out _ _ _ ⟨rfl, hw4, HO3.out.trans ho4 fun _ _ e => e⟩
  · rw [if_neg h2]
    have h2b : (kd == 2) = false := by simpa using h2
    go_enter Tryz.func151, Tryz.ntmps151
    go_wp2_with fail
    rw [← HW1.out]
    refine (HK0.out).mono ?_
    rintro en w2 ⟨rfl, ⟨v2, hw2⟩, ho2⟩
    obtain ⟨d0, d1, d2, d3, d4, d5, d6⟩ := HST.out w2 ho2
    have HO2 := Lib.hid ho2
    have HK2 := Lib.hid (HRs.out _ _ _ hw2)
    have HC1 := Lib.hid (HCAP.out.1 _ _ HC0.out)
    clear hw2 ho2
    go_wp2_with fail
    refine (HK2.out).mono ?_
    rintro en w3 ⟨rfl, ⟨v3, hw3⟩, ho3⟩
    have HO3 := Lib.hid (HO2.out.trans ho3 fun _ _ e => e)
    obtain ⟨e0, e1, e2, e3, e4, e5, e6⟩ := HST.out w3 HO3.out
    have HK3 := Lib.hid (HTp.out _ _ _ hw3 HC1.out)
    have HC2 := Lib.hid (HCAP.out.2.1 _ _ HC1.out)
    clear hw3 ho3 d0 d1 d2 d3 d4 d5 d6 HK2
    go_wp2_with fail
    refine (HK3.out).mono ?_
    rintro en w4 ⟨rfl, ⟨v4, hw4⟩, ho4⟩
    have HO4 := Lib.hid (HO3.out.trans ho4 fun _ _ e => e)
    obtain ⟨d0, d1, d2, d3, d4, d5, d6⟩ := HST.out w4 HO4.out
    have HK4 := Lib.hid (HTj.out _ _ _ hw4 HC2.out)
    have HC3 := Lib.hid (HCAP.out.2.2 _ _ HC2.out)
    clear hw4 ho4 e0 e1 e2 e3 e4 e5 e6 HK3
    go_wp2_with fail
    refine (HK4.out).mono ?_
    rintro en w5 ⟨rfl, ⟨v5, hw5⟩, ho5⟩
    have HO5 := Lib.hid (HO4.out.trans ho5 fun _ _ e => e)
    obtain ⟨e0, e1, e2, e3, e4, e5, e6⟩ := HST.out w5 HO5.out
    have HK5 := Lib.hid (HCs.out _ _ _ hw5 HC3.out)
    clear hw5 ho5 d0 d1 d2 d3 d4 d5 d6 HK4
    go_wp2_with fail
    refine (HK5.out).mono ?_
    rintro en w6 ⟨rfl, hw6, ho6⟩
    go_wp2_with fail
    go_end0
    exact HF.out _ _ _ ⟨rfl, hw6, HO5.out.trans ho6 fun _ _ e => e⟩
theorem entry_vis (w0 : World) (K : Nat → Prop) (g : Nat) (l : List EntT) (hok : ∀ c ∈ l, EntIn w0 c) (hw : ∀ c ∈ l, EntW c) : VisW w0 K g 151 (fun x : EntT => x.val) (fun bs (x : EntT) => encE bs x.p) 1000000 36 l where
  enters := fun args w => by simp [go_sem]
  call := fun i h bs v W hk hc => by
    have hin := List.getElem_mem h
    exact wentry_any w0 K g bs v _ W hk (hok _ hin) (hw _ hin) hc
  cap := fun x hx m bs h => capE (hw x hx) h
end Go.Proofs.YtfeodppdmbideaaGreatDoor
namespace Go.Proofs.YtfeodppdmbideaaGreatDoor
open Go.RowKit

def OrdW (x : Node3) : Prop := (0 ≤ x.1 ∧ x.1 ≤ 1000000) ∧ (-9223372036854775808 ≤ x.2.1 ∧ x.2.1 ≤ 9223372036854775807) ∧ 0 ≤ x.2.2 ∧ x.2.2 ≤ 1000000
theorem wide_one {a : Int} (h : 0 ≤ a ∧ a ≤ 1000000) : Wide [a] ∧ ∀ y ∈ [a], 0 ≤ y := by
  refine ⟨fun y hy => ?_, fun y hy => ?_⟩ <;> (simp only [List.mem_singleton] at hy; subst hy; omega)
theorem capO {x : Node3} (h : OrdW x) {m : Nat} {bs : List Nat} (hc : Cap m bs) : Cap (m + 3) (encO bs x) := by
  have h1 := hc.num (wide_one h.1).1
  have h2 := leb_ten (fold_bound h.2.1.1 h.2.1.2)
  have h3 : Cap (m + 2) (bs ++ lebs [x.1] ++ leb (fold x.2.1)) := by
    unfold Cap at *
    rw [List.length_append]
    simp only [List.length_cons, List.length_nil] at h1
    omega
  exact h3.num (wide_one h.2.2).1
set_option maxRecDepth 100000 in
set_option maxHeartbeats 8000000 in
theorem worder_any (w0 : World) (K : Nat → Prop) (g : Nat) (bs : List Nat) (v : Value) (xa xb xc : Int) (w : World) (h : WrK w0 K w g bs v) (hx : OrdW (xa, xb, xc)) (hc : Cap 1000000 bs) :
    Calls Tryz.prog 149 #[.pointer (some ⟨g, 0, none⟩), .agg #[.int .i64 xa, .int .i64 xb, .int .i64 xc]] w (WPost w0 K g (encO bs (xa, xb, xc)) w) := by
  obtain ⟨ha, ⟨hb0, hb9⟩, hxc⟩ := hx
  simp only at ha hb0 hb9 hxc
  have hb1 : Below w.heap.size w ((w.alloc (.cells #[.int .i64 xa, .int .i64 xb, .int .i64 xc] 118)).alloc (.cells #[.int .i64 xa] 3)) := ((Below.refl _ _).alloc (Nat.le_refl _) _).alloc (by simp) _
  have hA : Holds ((w.alloc (.cells #[.int .i64 xa, .int .i64 xb, .int .i64 xc] 118)).alloc (.cells #[.int .i64 xa] 3)) (some ⟨w.heap.size + 1, 0, none⟩) (intsV [xa]) := by
    have q := holds_lit (w.alloc (.cells #[.int .i64 xa, .int .i64 xb, .int .i64 xc] 118)) (intsV [xa]) 3
    rw [World.size_alloc] at q
    exact q
  have hbx := (holds_at w #[.int .i64 xa, .int .i64 xb, .int .i64 xc] 118 _ rfl).alloc (.cells #[.int .i64 xa] 3)
  obtain ⟨W1, hW1⟩ : ∃ W1, W1 = (w.alloc (.cells #[.int .i64 xa, .int .i64 xb, .int .i64 xc] 118)).alloc (.cells #[.int .i64 xa] 3) := ⟨_, rfl⟩
  have hsz : w.heap.size < W1.heap.size := by rw [hW1]; simp; omega
  rw [← hW1] at hb1 hA hbx
  obtain ⟨K1, hKK⟩ : ∃ K1 : Nat → Prop, K1 = fun k => K k ∨ (w.heap.size ≤ k ∧ k < W1.heap.size) := ⟨_, rfl⟩
  have hk1 : WrK w0 K1 W1 g bs v := by rw [hKK]; exact h.more hb1
  have HF := Lib.hid (show ∀ bs' e w2, WPost w0 K1 g bs' W1 e w2 → WPost w0 K g bs' w e w2 from fun bs' e w2 hp => by
    rw [hKK] at hp
    exact hp.fit hb1 h.old)
  have hK0 := nums_any w0 K1 g bs v (some ⟨w.heap.size + 1, 0, none⟩) 1 1 [xa] _ hk1 rfl hA (wide_one ha).1 (wide_one ha).2 (by omega) (by unfold Cap at hc; omega)
  have hc0 : Cap 1000001 (bs ++ lebs [xa]) := hc.num (wide_one ha).1
  have hl2 := leb_ten (fold_bound hb0 hb9)
  have hst : ∀ W, Only (fun k => ¬ K1 k) W1 W → W.cell? ⟨w.heap.size, 1, none⟩ = some (.int .i64 xb) ∧ W.cell? ⟨w.heap.size, 2, none⟩ = some (.int .i64 xc) := fun W ho => by
    have hh := hbx.only ho fun b o e hn => hn (by rw [hKK]; exact .inr (by cases e; exact ⟨Nat.le_refl _, hsz⟩))
    have q := fun (j : Nat) (u : Value) (hu : [.int .i64 xa, .int .i64 xb, .int .i64 xc][j]? = some u) => hh.cell (j := j) hu
    simp only [Nat.zero_add] at q
    exact ⟨q 1 _ rfl, q 2 _ rfl⟩
  have HK0 := Lib.hid hK0
  have HST := Lib.hid hst
  have hlen : (bs ++ lebs [xa]).length ≤ 300000000 ∧ (bs ++ lebs [xa]).length + (leb (fold xb)).length ≤ 300000000 := by unfold Cap at hc0; omega
  have HSG := Lib.hid fun W => osigned_any none 0 [] xb W ⟨Nat.le_refl _, by omega, fun _ => ⟨rfl, rfl⟩⟩ (Holds.nil _ _) hb0 hb9 (by simp)
  have HNC := Lib.hid (show ∀ bs v W, WrK w0 K1 W g bs v → bs.length ≤ 300000000 → Calls Tryz.prog 147 #[.pointer (some ⟨g, 0, none⟩), .slice (some ⟨W.heap.size, 0, none⟩) 1 1] (W.alloc (.cells #[.int .i64 xc] 3)) (WPost w0 K1 g (bs ++ lebs [xc]) (W.alloc (.cells #[.int .i64 xc] 3))) from fun bs v W hW hbs =>
    nums_any w0 K1 g bs v (some ⟨W.heap.size, 0, none⟩) 1 1 [xc] _ (hW.next ((Below.refl _ _).alloc (Nat.le_refl _) _)) rfl (holds_lit W (intsV [xc]) 3) (wide_one hxc).1 (wide_one hxc).2 (by omega) (by omega))
  have hE : encO bs (xa, xb, xc) = bs ++ lebs [xa] ++ leb (fold xb) ++ lebs [xc] := rfl
  rw [hE]
  have HLN := Lib.hid hlen
  have HW1 := Lib.hid hW1
  generalize bs ++ lebs [xa] = b1 at *
  clear h hb1 hA hbx hsz hKK hk1 hK0 hc0 hst hc hW1 hE ha hb0 hb9 hxc hlen hl2
  go_enter Tryz.func149, Tryz.ntmps149
  go_wp2_with fail
  rw [← HW1.out]
  refine (HK0.out).mono ?_
  rintro en w2 ⟨rfl, ⟨v2, hw2⟩, ho2⟩
  have hwd : WrK w0 K1 w2.drew g b1 v2 := hw2.next (Below.refl _ _).drew
  have HO2 := Lib.hid (show Only (fun k => ¬ K1 k) W1 w2.drew from ho2.drew)
  have HO2' := Lib.hid ho2
  have HPU := Lib.hid fun w1 w3 v' (hb : Below w2.drew.heap.size w2.drew w1) => WrK.put (w1 := w1) (w2 := w3) (v' := v') (r := leb (fold xb)) hwd hb rfl
  have HSG2 := Lib.hid (HSG.out w2.drew)
  have HWD := Lib.hid hwd
  clear hw2 ho2 hwd HK0
  go_wp2_with fail
  have cd : w2.drew.cell? ⟨g, 0, none⟩ = some v2 := HWD.out.whole.cell 0
  refine region_begin_any (S := fun W => W.cell? ⟨w.heap.size, 1, none⟩ = some (.int .i64 xb)) (by kernel_rfl) ((HST.out _ HO2.out).1) (fun W hW hHeld => ?_)
  subst hW
  refine region_take 0 ?_ rfl (by kernel_rfl) (by rfl) hHeld ?_ ?_
  rotate_left
  · intro w hSw
    (try dsimp only at hSw)
    go_simp
    try with_reducible rfl
  try simp only [Act.put, List.setIfInBounds_toArray, List.set_cons_zero, List.set_cons_succ]
  refine region_take 1 ?_ rfl (by kernel_rfl) (by rfl) hHeld ?_ ?_
  rotate_left
  · intro w hSw
    (try dsimp only at hSw)
    go_simp
    try with_reducible rfl
  try simp only [Act.put, List.setIfInBounds_toArray, List.set_cons_zero, List.set_cons_succ]
  refine region_take 2 ?_ rfl (by kernel_rfl) (by rfl) hHeld ?_ ?_
  rotate_left
  · intro w hSw
    (try dsimp only at hSw)
    go_simp
    try with_reducible rfl
  try simp only [Act.put, List.setIfInBounds_toArray, List.set_cons_zero, List.set_cons_succ]
  refine region_take 3 ?_ rfl (by kernel_rfl) (by rfl) hHeld ?_ ?_
  rotate_left
  · intro w hSw
    (try dsimp only at hSw)
    go_simp
    try with_reducible rfl
  try simp only [Act.put, List.setIfInBounds_toArray, List.set_cons_zero, List.set_cons_succ]
  refine region_take 5 ?_ rfl (by kernel_rfl) (by rfl) hHeld ?_ ?_
  rotate_left
  · intro w hSw
    (try dsimp only at hSw)
    go_simp
    try with_reducible rfl
  try simp only [Act.put, List.setIfInBounds_toArray, List.set_cons_zero, List.set_cons_succ]
  refine region_take 6 ?_ rfl (by kernel_rfl) (by rfl) hHeld ?_ ?_
  rotate_left
  · intro w hSw
    (try dsimp only at hSw)
    go_simp
    try with_reducible rfl
  try simp only [Act.put, List.setIfInBounds_toArray, List.set_cons_zero, List.set_cons_succ]
  refine region_two 4 7 rfl rfl (by kernel_rfl) (by rfl) (by rfl) (fun K hK => ?_) (fun K hK => ?_)
  · go_simp
    refine hK.out _ _ ((HST.out _ HO2.out).1) (fun hHeld => ?_)
    clear hK K
    try simp only [Act.put, List.setIfInBounds_toArray, List.set_cons_zero, List.set_cons_succ]
    refine region_call 7 rfl (by kernel_rfl) (by rfl) (fun K hK => ?_)
    go_simp
    go_at_call 183
    refine (HSG2.out).mono ?_
    rintro e w3 ⟨A1, c1, rfl, hown1, -, hb3, -⟩
    simp only [List.nil_append] at hown1 ⊢
    have HB3 := Lib.hid hb3
    have h3 := HWD.out.next hb3
    have c03 : w3.cell? ⟨g, 0, none⟩ = some v2 := h3.whole.cell 0
    obtain ⟨A1', c1', e1, hs1, -⟩ := own_slice hown1
    cases e1
    have HN1 := Lib.hid (own_holds hown1)
    have H3 := Lib.hid h3
    clear hown1 hb3 h3
    have hS3 := (HST.out _ (HO2.out.trans (Only.of_below (F := fun k => ¬ K1 k) HB3.out) fun _ _ e => e)).1
    refine hK.out _ _ hS3 (fun hHeld => ?_)
    clear hK K
    try simp only [Act.put, List.setIfInBounds_toArray, List.set_cons_zero, List.set_cons_succ]
    refine region_call 8 rfl (by kernel_rfl) (by rfl) (fun K hK => ?_)
    refine wp_append_at (.tmp 13) (.tmp 16) 47 47 _ rfl Tryz.underlying47 5 _ 1 1 info8 rfl (by decide) Tryz.underlying47 v2 b1.length (leb (fold xb)).length _ (bytesV (leb (fold xb))) rfl H3.out.own A1 c1 rfl hs1 HN1.out (by rw [bytesV_len, Nat.mul_one]) bytesV_one (by have := HLN.out.2; omega) (by decide) ?_
    intro v' w4 hown' hmv'
    obtain ⟨A', c', rfl, -, -⟩ := own_slice hown'
    have c04 : w4.cell? ⟨g, 0, none⟩ = some v2 := (H3.out.whole.only hmv'.only H3.out.ne).cell 0
    have f04 : w4.frozen? ⟨g, 0, none⟩ = false := (H3.out.whole.only hmv'.only H3.out.ne).frozen 0
    have HO4 := Lib.hid ((HO2.out.trans (Only.of_below (F := fun k => ¬ K1 k) HB3.out) fun _ _ e => e).trans (hmv'.only.mono (F2 := fun k => ¬ K1 k) fun k e hk => H3.out.free k (.inr e) hk) fun _ _ e => e)
    have HP4 := Lib.hid (HPU.out w3 w4 _ HB3.out hown' hmv')
    clear hown' hmv'
    refine hK.out _ _ ((HST.out _ HO4.out).1) (fun hHeld => ?_)
    clear hK K
    try simp only [Act.put, List.setIfInBounds_toArray, List.set_cons_zero, List.set_cons_succ]
    refine region_take 9 ?_ rfl (by kernel_rfl) (by rfl) hHeld ?_ ?_
    rotate_left
    · intro w hSw
      (try dsimp only at hSw)
      go_simp
      try with_reducible rfl
    try simp only [Act.put, List.setIfInBounds_toArray, List.set_cons_zero, List.set_cons_succ]
    refine region_take 10 ?_ rfl (by kernel_rfl) (by rfl) hHeld ?_ ?_
    rotate_left
    · intro w hSw
      (try dsimp only at hSw)
      go_simp
      try with_reducible rfl
    try simp only [Act.put, List.setIfInBounds_toArray, List.set_cons_zero, List.set_cons_succ]
    refine region_call 11 rfl (by kernel_rfl) (by rfl) (fun K hK => ?_)
    go_simp
    obtain ⟨-, ⟨v5, hw5⟩, ho5⟩ := HP4.out
    have HO5 := Lib.hid (HO2.out.trans ho5 fun _ _ e => e)
    refine hK.out _ _ ((HST.out _ HO5.out).1) (fun hHeld => ?_)
    clear hK K
    try simp only [Act.put, List.setIfInBounds_toArray, List.set_cons_zero, List.set_cons_succ]
    refine region_done (by kernel_rfl) ?_
    generalize w4.setCell ⟨g, 0, none⟩ (.slice A' (b1.length + (leb (fold xb)).length) c') = w5 at *
    have HN5 := Lib.hid (HNC.out _ _ _ hw5 (by rw [List.length_append]; exact HLN.out.2))
    obtain ⟨d1, d2⟩ := HST.out _ HO5.out
    clear hw5 ho5 c03 c04 f04 cd HP4 HO4 hHeld hS3
    go_wp2_with fail
    refine (HN5.out).mono ?_
    rintro en w6 ⟨rfl, hw6, ho6⟩
    go_wp2_with fail
    go_end0
    exact HF.out _ _ _ ⟨rfl, hw6, (HO5.out.trans (Only.of_below (F := fun k => ¬ K1 k) ((Below.refl _ _).alloc (Nat.le_refl _) _)) fun _ _ e => e).trans ho6 fun _ _ e => e⟩
  · go_simp
    go_at_call 183
    refine (HSG2.out).mono ?_
    rintro e w3 ⟨A1, c1, rfl, hown1, -, hb3, -⟩
    simp only [List.nil_append] at hown1 ⊢
    have HB3 := Lib.hid hb3
    have h3 := HWD.out.next hb3
    have c03 : w3.cell? ⟨g, 0, none⟩ = some v2 := h3.whole.cell 0
    obtain ⟨A1', c1', e1, hs1, -⟩ := own_slice hown1
    cases e1
    have HN1 := Lib.hid (own_holds hown1)
    have H3 := Lib.hid h3
    clear hown1 hb3 h3
    have hS3 := (HST.out _ (HO2.out.trans (Only.of_below (F := fun k => ¬ K1 k) HB3.out) fun _ _ e => e)).1
    refine hK.out _ _ hS3 (fun hHeld => ?_)
    clear hK K
    try simp only [Act.put, List.setIfInBounds_toArray, List.set_cons_zero, List.set_cons_succ]
    refine region_call 4 rfl (by kernel_rfl) (by rfl) (fun K hK => ?_)
    go_simp
    refine hK.out _ _ hS3 (fun hHeld => ?_)
    clear hK K
    try simp only [Act.put, List.setIfInBounds_toArray, List.set_cons_zero, List.set_cons_succ]
    refine region_call 8 rfl (by kernel_rfl) (by rfl) (fun K hK => ?_)
    refine wp_append_at (.tmp 13) (.tmp 16) 47 47 _ rfl Tryz.underlying47 5 _ 1 1 info8 rfl (by decide) Tryz.underlying47 v2 b1.length (leb (fold xb)).length _ (bytesV (leb (fold xb))) rfl H3.out.own A1 c1 rfl hs1 HN1.out (by rw [bytesV_len, Nat.mul_one]) bytesV_one (by have := HLN.out.2; omega) (by decide) ?_
    intro v' w4 hown' hmv'
    obtain ⟨A', c', rfl, -, -⟩ := own_slice hown'
    have c04 : w4.cell? ⟨g, 0, none⟩ = some v2 := (H3.out.whole.only hmv'.only H3.out.ne).cell 0
    have f04 : w4.frozen? ⟨g, 0, none⟩ = false := (H3.out.whole.only hmv'.only H3.out.ne).frozen 0
    have HO4 := Lib.hid ((HO2.out.trans (Only.of_below (F := fun k => ¬ K1 k) HB3.out) fun _ _ e => e).trans (hmv'.only.mono (F2 := fun k => ¬ K1 k) fun k e hk => H3.out.free k (.inr e) hk) fun _ _ e => e)
    have HP4 := Lib.hid (HPU.out w3 w4 _ HB3.out hown' hmv')
    clear hown' hmv'
    refine hK.out _ _ ((HST.out _ HO4.out).1) (fun hHeld => ?_)
    clear hK K
    try simp only [Act.put, List.setIfInBounds_toArray, List.set_cons_zero, List.set_cons_succ]
    refine region_take 9 ?_ rfl (by kernel_rfl) (by rfl) hHeld ?_ ?_
    rotate_left
    · intro w hSw
      (try dsimp only at hSw)
      go_simp
      try with_reducible rfl
    try simp only [Act.put, List.setIfInBounds_toArray, List.set_cons_zero, List.set_cons_succ]
    refine region_take 10 ?_ rfl (by kernel_rfl) (by rfl) hHeld ?_ ?_
    rotate_left
    · intro w hSw
      (try dsimp only at hSw)
      go_simp
      try with_reducible rfl
    try simp only [Act.put, List.setIfInBounds_toArray, List.set_cons_zero, List.set_cons_succ]
    refine region_call 11 rfl (by kernel_rfl) (by rfl) (fun K hK => ?_)
    go_simp
    obtain ⟨-, ⟨v5, hw5⟩, ho5⟩ := HP4.out
    have HO5 := Lib.hid (HO2.out.trans ho5 fun _ _ e => e)
    refine hK.out _ _ ((HST.out _ HO5.out).1) (fun hHeld => ?_)
    clear hK K
    try simp only [Act.put, List.setIfInBounds_toArray, List.set_cons_zero, List.set_cons_succ]
    refine region_done (by kernel_rfl) ?_
    generalize w4.setCell ⟨g, 0, none⟩ (.slice A' (b1.length + (leb (fold xb)).length) c') = w5 at *
    have HN5 := Lib.hid (HNC.out _ _ _ hw5 (by rw [List.length_append]; exact HLN.out.2))
    obtain ⟨d1, d2⟩ := HST.out _ HO5.out
    clear hw5 ho5 c03 c04 f04 cd HP4 HO4 hHeld hS3
    go_wp2_with fail
    refine (HN5.out).mono ?_
    rintro en w6 ⟨rfl, hw6, ho6⟩
    go_wp2_with fail
    go_end0
    exact HF.out _ _ _ ⟨rfl, hw6, (HO5.out.trans (Only.of_below (F := fun k => ¬ K1 k) ((Below.refl _ _).alloc (Nat.le_refl _) _)) fun _ _ e => e).trans ho6 fun _ _ e => e⟩
theorem order_vis (w0 : World) (K : Nat → Prop) (g : Nat) (l : List Node3) (hw : ∀ c ∈ l, OrdW c) : VisW w0 K g 149 (fun x : Node3 => .agg #[.int .i64 x.1, .int .i64 x.2.1, .int .i64 x.2.2]) encO 1000000 3 l where
  enters := fun args w => by simp [go_sem]
  call := fun i h bs v W hk hc => worder_any w0 K g bs v _ _ _ W hk (hw _ (List.getElem_mem h)) hc
  cap := fun x hx m bs h => capO (hw x hx) h
end Go.Proofs.YtfeodppdmbideaaGreatDoor
namespace Go.Proofs.YtfeodppdmbideaaGreatDoor
open Go.RowKit

def Small (a : Int) : Prop := 0 ≤ a ∧ a ≤ 1000000
structure BookW (b : BookT) : Prop where
  vars : Small b.vars
  ords : ∀ x ∈ b.ords.2.2, OrdW x
  nords : b.ords.2.2.length ≤ 1000
  ents : ∀ x ∈ b.ents.2.2, EntW x
  nents : b.ents.2.2.length ≤ 64
  nat : Small (b.nat + 1)
  prims : ∀ x ∈ b.prims.2.2, Small x.1 ∧ Small x.2
  nprims : b.prims.2.2.length ≤ 1000
theorem capP {x : Int × Int} (h : Small x.1 ∧ Small x.2) {m : Nat} {bs : List Nat} (hc : Cap m bs) : Cap (m + 2) (encP bs x) := hc.num (l := [x.1, x.2]) fun y hy => by
  obtain ⟨⟨h1, h2⟩, h3, h4⟩ := h
  simp only [List.mem_cons, List.not_mem_nil, or_false] at hy
  rcases hy with rfl | rfl <;> omega
theorem prim_vis (w0 : World) (K : Nat → Prop) (g : Nat) (l : List (Int × Int)) (hw : ∀ x ∈ l, Small x.1 ∧ Small x.2) : VisW w0 K g 153 (fun x : Int × Int => .agg #[.int .i64 x.1, .int .i64 x.2]) encP 1000000 2 l where
  enters := fun args w => by simp [go_sem]
  call := fun i h bs v W hk hc => by
    obtain ⟨⟨h1, h2⟩, h3, h4⟩ := hw _ (List.getElem_mem h)
    exact wprim_any w0 K g bs v _ _ W hk ⟨by omega, by omega⟩ ⟨by omega, by omega⟩ h1 h3 (by unfold Cap at hc; omega)
  cap := fun x hx m bs h => capP (hw x hx) h
theorem encB_rows (bs : List Nat) (b : BookT) : encB bs b.p = encAll encP (encAll (fun bs (x : EntT) => encE bs x.p) (encAll encO (bs ++ lebs [b.vars]) b.ords.2.2) b.ents.2.2 ++ lebs [b.nat + 1]) b.prims.2.2 := by
  simp only [encB, encAll, BookT.p, List.length_map, List.foldl_map]
set_option maxRecDepth 100000 in
set_option maxHeartbeats 8000000 in
theorem wbook_any (w0 : World) (K : Nat → Prop) (g : Nat) (bs : List Nat) (v : Value) (b : BookT) (w : World) (h : WrK w0 K w g bs v) (hx : BookIn w0 b) (hw : BookW b) (hc : Cap 0 bs) :
    Calls Tryz.prog 108 #[.pointer (some ⟨g, 0, none⟩), b.val] w (WPost w0 K g (encB bs b.p) w) := by
  have hE := encB_rows bs b
  obtain ⟨va, ⟨oA, oc, lo⟩, ⟨eA, ec, le⟩, nat, ⟨pA, pc, lp⟩⟩ := b
  obtain ⟨⟨ho1, ho2⟩, ⟨he1, he2, he3⟩, ⟨hp1, hp2⟩⟩ := hx
  obtain ⟨hva, hoW, hon, heW, hen, hna, hpW, hpn⟩ := hw
  simp only at ho1 ho2 he1 he2 he3 hp1 hp2 hva hoW hon heW hen hna hpW hpn hE
  obtain ⟨on_, hol⟩ : ∃ n, lo.length = n := ⟨_, rfl⟩
  obtain ⟨en, hel⟩ : ∃ n, le.length = n := ⟨_, rfl⟩
  obtain ⟨pn, hpl⟩ : ∃ n, lp.length = n := ⟨_, rfl⟩
  have hb1 : Below w.heap.size w ((w.alloc (.cells #[.int .i64 va, .slice oA on_ oc, .slice eA en ec, .int .i64 nat, .slice pA pn pc] 26)).alloc (.cells #[.int .i64 va] 3)) := ((Below.refl _ _).alloc (Nat.le_refl _) _).alloc (by simp) _
  have hA : Holds ((w.alloc (.cells #[.int .i64 va, .slice oA on_ oc, .slice eA en ec, .int .i64 nat, .slice pA pn pc] 26)).alloc (.cells #[.int .i64 va] 3)) (some ⟨w.heap.size + 1, 0, none⟩) (intsV [va]) := by
    have q := holds_lit (w.alloc (.cells #[.int .i64 va, .slice oA on_ oc, .slice eA en ec, .int .i64 nat, .slice pA pn pc] 26)) (intsV [va]) 3
    rw [World.size_alloc] at q
    exact q
  have hbx := (holds_at w #[.int .i64 va, .slice oA on_ oc, .slice eA en ec, .int .i64 nat, .slice pA pn pc] 26 _ rfl).alloc (.cells #[.int .i64 va] 3)
  obtain ⟨W1, hW1⟩ : ∃ W1, W1 = (w.alloc (.cells #[.int .i64 va, .slice oA on_ oc, .slice eA en ec, .int .i64 nat, .slice pA pn pc] 26)).alloc (.cells #[.int .i64 va] 3) := ⟨_, rfl⟩
  have hsz : w.heap.size < W1.heap.size := by rw [hW1]; simp; omega
  rw [← hW1] at hb1 hA hbx
  obtain ⟨K1, hKK⟩ : ∃ K1 : Nat → Prop, K1 = fun k => K k ∨ (w.heap.size ≤ k ∧ k < W1.heap.size) := ⟨_, rfl⟩
  have hk1 : WrK w0 K1 W1 g bs v := by rw [hKK]; exact h.more hb1
  have HF := Lib.hid (show ∀ bs' e w2, WPost w0 K1 g bs' W1 e w2 → WPost w0 K g bs' w e w2 from fun bs' e w2 hp => by
    rw [hKK] at hp
    exact hp.fit hb1 h.old)
  have hK0 := nums_any w0 K1 g bs v (some ⟨w.heap.size + 1, 0, none⟩) 1 1 [va] _ hk1 rfl hA (wide_one hva).1 (wide_one hva).2 (by omega) (by unfold Cap at hc; omega)
  have hc0 : Cap 1 (bs ++ lebs [va]) := hc.num (wide_one hva).1
  have hst : ∀ W, Only (fun k => ¬ K1 k) W1 W → W.cell? ⟨w.heap.size, 1, none⟩ = some (.slice oA on_ oc) ∧ W.cell? ⟨w.heap.size, 2, none⟩ = some (.slice eA en ec) ∧ W.cell? ⟨w.heap.size, 3, none⟩ = some (.int .i64 nat) ∧ W.cell? ⟨w.heap.size, 4, none⟩ = some (.slice pA pn pc) := fun W ho => by
    have hh := hbx.only ho fun b o e hn => hn (by rw [hKK]; exact .inr (by cases e; exact ⟨Nat.le_refl _, hsz⟩))
    have q := fun (j : Nat) (u : Value) (hu : [.int .i64 va, .slice oA on_ oc, .slice eA en ec, .int .i64 nat, .slice pA pn pc][j]? = some u) => hh.cell (j := j) hu
    simp only [Nat.zero_add] at q
    exact ⟨q 1 _ rfl, q 2 _ rfl, q 3 _ rfl, q 4 _ rfl⟩
  have hO : ∀ bs v W, WrK w0 K1 W g bs v → Cap 1 bs → Calls Tryz.prog 148 #[.pointer (some ⟨g, 0, none⟩), .slice oA on_ oc, .func (.func 149) #[.pointer (some ⟨g, 0, none⟩)] #[]] W (WPost w0 K1 g (encAll encO bs lo) W) := fun bs v W hW hc' =>
    wallO_any w0 K1 g _ 1000000 3 bs v oA on_ oc 1 lo W (order_vis w0 _ g lo hoW) hW hol (by omega) ho2 hc' (by omega) (by omega)
  have hEn : ∀ bs v W, WrK w0 K1 W g bs v → Cap 3002 bs → Calls Tryz.prog 150 #[.pointer (some ⟨g, 0, none⟩), .slice eA en ec, .func (.func 151) #[.pointer (some ⟨g, 0, none⟩)] #[]] W (WPost w0 K1 g (encAll (fun bs (x : EntT) => encE bs x.p) bs le) W) := fun bs v W hW hc' =>
    wallE_any w0 K1 g _ 1000000 36 bs v eA en ec 3002 le W (entry_vis w0 _ g le he3 heW) hW hel (by omega) he2 hc' (by omega) (by omega)
  have hNn : ∀ bs v W, WrK w0 K1 W g bs v → Cap 6000 bs → Calls Tryz.prog 147 #[.pointer (some ⟨g, 0, none⟩), .slice (some ⟨W.heap.size, 0, none⟩) 1 1] (W.alloc (.cells #[.int .i64 (nat + 1)] 3)) (WPost w0 K1 g (bs ++ lebs [nat + 1]) (W.alloc (.cells #[.int .i64 (nat + 1)] 3))) := fun bs v W hW hbs =>
    nums_any w0 K1 g bs v (some ⟨W.heap.size, 0, none⟩) 1 1 [nat + 1] _ (hW.next ((Below.refl _ _).alloc (Nat.le_refl _) _)) rfl (holds_lit W (intsV [nat + 1]) 3) (wide_one hna).1 (wide_one hna).2 (by omega) (by unfold Cap at hbs; omega)
  have hP : ∀ bs v W, WrK w0 K1 W g bs v → Cap 6001 bs → Calls Tryz.prog 152 #[.pointer (some ⟨g, 0, none⟩), .slice pA pn pc, .func (.func 153) #[.pointer (some ⟨g, 0, none⟩)] #[]] W (WPost w0 K1 g (encAll encP bs lp) W) := fun bs v W hW hc' =>
    wallP_any w0 K1 g _ 1000000 2 bs v pA pn pc 6001 lp W (prim_vis w0 _ g lp hpW) hW hpl (by omega) hp2 hc' (by omega) (by omega)
  have hcO : Cap 3002 (encAll encO (bs ++ lebs [va]) lo) := (Cap.all (k := 3) (fun x hx m bs h' => capO (hoW x hx) h') (by omega) hc0).mono (by omega)
  have hcE : Cap 6000 (encAll (fun bs (x : EntT) => encE bs x.p) (encAll encO (bs ++ lebs [va]) lo) le) := (Cap.all (k := 36) (fun x hx m bs h' => capE (heW x hx) h') (by omega) hcO).mono (by omega)
  have hcN : Cap 6001 (encAll (fun bs (x : EntT) => encE bs x.p) (encAll encO (bs ++ lebs [va]) lo) le ++ lebs [nat + 1]) := hcE.num (wide_one hna).1
  have hnw : IntKind.i64.wrap (nat + 1) = nat + 1 := IntWalk.i64_in (nat + 1) (by unfold Small at hna; omega)
  have HK0 := Lib.hid hK0
  have HST := Lib.hid hst
  have HC0 := Lib.hid hc0
  have HCO := Lib.hid hcO
  have HCE := Lib.hid hcE
  have HCN := Lib.hid hcN
  have HKO := Lib.hid hO
  have HKE := Lib.hid hEn
  have HKN := Lib.hid hNn
  have HKP := Lib.hid hP
  rw [hE]
  have HW1 := Lib.hid hW1
  show Calls Tryz.prog 108 #[.pointer (some ⟨g, 0, none⟩), .agg #[.int .i64 va, .slice oA lo.length oc, .slice eA le.length ec, .int .i64 nat, .slice pA lp.length pc]] w (WPost w0 K g (encAll encP (encAll (fun bs (x : EntT) => encE bs x.p) (encAll encO (bs ++ lebs [va]) lo) le ++ lebs [nat + 1]) lp) w)
  rw [hol, hel, hpl]
  clear h ho1 ho2 he1 he2 he3 hp1 hp2 hva hoW hon heW hen hna hpW hpn hE hol hel hpl hb1 hA hbx hsz hKK hk1 hK0 hc0 hst hO hEn hNn hP hcO hcE hcN hc hW1
  go_enter Tryz.func108, Tryz.ntmps108
  go_wp2_with fail
  rw [← HW1.out]
  refine (HK0.out).mono ?_
  rintro en_ w2 ⟨rfl, ⟨v2, hw2⟩, ho2⟩
  obtain ⟨d1, d2, d3, d4⟩ := HST.out w2 ho2
  have HO2 := Lib.hid ho2
  have HK2 := Lib.hid (HKO.out _ _ _ hw2 HC0.out)
  clear hw2 ho2
  go_wp2_with fail
  refine (HK2.out).mono ?_
  rintro en_ w3 ⟨rfl, ⟨v3, hw3⟩, ho3⟩
  have HO3 := Lib.hid (HO2.out.trans ho3 fun _ _ e => e)
  obtain ⟨e1, e2, e3, e4⟩ := HST.out w3 HO3.out
  have HK3 := Lib.hid (HKE.out _ _ _ hw3 HCO.out)
  clear hw3 ho3 d1 d2 d3 d4 HK2
  go_wp2_with fail
  refine (HK3.out).mono ?_
  rintro en_ w4 ⟨rfl, ⟨v4, hw4⟩, ho4⟩
  have HO4 := Lib.hid (HO3.out.trans ho4 fun _ _ e => e)
  obtain ⟨d1, d2, d3, d4⟩ := HST.out w4 HO4.out
  have HK4 := Lib.hid (HKN.out _ _ _ hw4 HCE.out)
  clear hw4 ho4 e1 e2 e3 e4 HK3
  go_wp2_with fail
  refine (HK4.out).mono ?_
  rintro en_ w5 ⟨rfl, ⟨v5, hw5⟩, ho5⟩
  have HO5 := Lib.hid ((HO4.out.trans (Only.of_below (F := fun k => ¬ K1 k) ((Below.refl _ _).alloc (Nat.le_refl _) _)) fun _ _ e => e).trans ho5 fun _ _ e => e)
  obtain ⟨e1, e2, e3, e4⟩ := HST.out w5 HO5.out
  have HK5 := Lib.hid (HKP.out _ _ _ hw5 HCN.out)
  clear hw5 ho5 d1 d2 d3 d4 HK4
  go_wp2_with fail
  refine (HK5.out).mono ?_
  rintro en_ w6 ⟨rfl, hw6, ho6⟩
  go_wp2_with fail
  go_end0
  exact HF.out _ _ _ ⟨rfl, hw6, HO5.out.trans ho6 fun _ _ e => e⟩
structure ProgW (x : ProgT) : Prop where
  book : BookW x.book
  main : RowW x.main.2.2
  typ : RowW x.typ.2.2
set_option maxRecDepth 100000 in
set_option maxHeartbeats 8000000 in
theorem wprog_any (w0 : World) (K : Nat → Prop) (g : Nat) (v : Value) (x : ProgT) (w : World) (h : WrK w0 K w g [] v) (hx : ProgIn w0 x) (hw : ProgW x) :
    Calls Tryz.prog 59 #[.pointer (some ⟨g, 0, none⟩), x.val] w (WPost w0 K g (encG x.p) w) := by
  have hE : encG x.p = encR (encR (encB [] x.book.p) x.main.2.2) x.typ.2.2 := rfl
  obtain ⟨⟨va, ⟨oA, oc, lo⟩, ⟨eA, ec, le⟩, nat, ⟨pA, pc, lp⟩⟩, ⟨mA, mc, tm⟩, ⟨tA, tc, tt⟩⟩ := x
  have hB := fun K1 W1 hk1 => wbook_any w0 K1 g [] v _ W1 hk1 hx.book hw.book (by unfold Cap; simp)
  obtain ⟨-, hi5, hi6⟩ := hx
  obtain ⟨-, hmW, htW⟩ := hw
  simp only at hi5 hi6 hmW htW hE
  obtain ⟨on_, hol⟩ : ∃ n, lo.length = n := ⟨_, rfl⟩
  obtain ⟨en, hel⟩ : ∃ n, le.length = n := ⟨_, rfl⟩
  obtain ⟨pn, hpl⟩ : ∃ n, lp.length = n := ⟨_, rfl⟩
  obtain ⟨mn, hmn⟩ : ∃ n, tm.length = n := ⟨_, rfl⟩
  obtain ⟨tn, htn⟩ : ∃ n, tt.length = n := ⟨_, rfl⟩
  have hb1 : Below w.heap.size w (w.alloc (.cells #[.int .i64 va, .slice oA on_ oc, .slice eA en ec, .int .i64 nat, .slice pA pn pc, .slice mA mn mc, .slice tA tn tc] 46)) := (Below.refl _ _).alloc (Nat.le_refl _) _
  have hbx := holds_at w #[.int .i64 va, .slice oA on_ oc, .slice eA en ec, .int .i64 nat, .slice pA pn pc, .slice mA mn mc, .slice tA tn tc] 46 _ rfl
  obtain ⟨W1, hW1⟩ : ∃ W1, W1 = w.alloc (.cells #[.int .i64 va, .slice oA on_ oc, .slice eA en ec, .int .i64 nat, .slice pA pn pc, .slice mA mn mc, .slice tA tn tc] 46) := ⟨_, rfl⟩
  have hsz : w.heap.size < W1.heap.size := by rw [hW1]; simp
  rw [← hW1] at hb1 hbx
  obtain ⟨K1, hKK⟩ : ∃ K1 : Nat → Prop, K1 = fun k => K k ∨ (w.heap.size ≤ k ∧ k < W1.heap.size) := ⟨_, rfl⟩
  have hk1 : WrK w0 K1 W1 g [] v := by rw [hKK]; exact h.more hb1
  have HF := Lib.hid (show ∀ bs' e w2, WPost w0 K1 g bs' W1 e w2 → WPost w0 K g bs' w e w2 from fun bs' e w2 hp => by
    rw [hKK] at hp
    exact hp.fit hb1 h.old)
  have hB1 := hB K1 W1 hk1
  have hst : ∀ W, Only (fun k => ¬ K1 k) W1 W → W.cell? ⟨w.heap.size, 5, none⟩ = some (.slice mA mn mc) ∧ W.cell? ⟨w.heap.size, 6, none⟩ = some (.slice tA tn tc) := fun W ho => by
    have hh := hbx.only ho fun b o e hn => hn (by rw [hKK]; exact .inr (by cases e; exact ⟨Nat.le_refl _, hsz⟩))
    have q := fun (j : Nat) (u : Value) (hu : [.int .i64 va, .slice oA on_ oc, .slice eA en ec, .int .i64 nat, .slice pA pn pc, .slice mA mn mc, .slice tA tn tc][j]? = some u) => hh.cell (j := j) hu
    simp only [Nat.zero_add] at q
    exact ⟨q 5 _ rfl, q 6 _ rfl⟩
  have hR : ∀ (A : Option Addr) (n c : Nat) (t : List Node3), t.length = n → Holds w0 A (nodesV t) → RowW t → ∀ bs v W, WrK w0 K1 W g bs v → Calls Tryz.prog 109 #[.pointer (some ⟨g, 0, none⟩), .slice A n c] W (WPost w0 K1 g (encR bs t) W) := fun A n c t hn hA hw bs v W hk =>
    wrow_any w0 K1 g bs v A n c t W hk hn hA hw.wide hw.1 (by have := hw.2; omega)
  have HK0 := Lib.hid hB1
  have HST := Lib.hid hst
  have HRm := Lib.hid (hR mA mn mc tm hmn hi5.2 hmW)
  have HRt := Lib.hid (hR tA tn tc tt htn hi6.2 htW)
  rw [hE]
  have HW1 := Lib.hid hW1
  show Calls Tryz.prog 59 #[.pointer (some ⟨g, 0, none⟩), .agg #[.int .i64 va, .slice oA lo.length oc, .slice eA le.length ec, .int .i64 nat, .slice pA lp.length pc, .slice mA tm.length mc, .slice tA tt.length tc]] w _
  simp only [BookT.val, entsV] at HK0
  rw [hol, hel, hpl] at HK0
  rw [hol, hel, hpl, hmn, htn]
  clear h hi5 hi6 hmW htW hE hol hel hpl hmn htn hb1 hbx hsz hKK hk1 hst hR hB hB1 hW1
  go_enter Tryz.func59, Tryz.ntmps59
  go_wp2_with fail
  rw [← HW1.out]
  refine (HK0.out).mono ?_
  rintro en_ w2 ⟨rfl, ⟨v2, hw2⟩, ho2⟩
  obtain ⟨d5, d6⟩ := HST.out w2 ho2
  have HO2 := Lib.hid ho2
  have HK2 := Lib.hid (HRm.out _ _ _ hw2)
  clear hw2 ho2
  go_wp2_with fail
  refine (HK2.out).mono ?_
  rintro en_ w3 ⟨rfl, ⟨v3, hw3⟩, ho3⟩
  have HO3 := Lib.hid (HO2.out.trans ho3 fun _ _ e => e)
  obtain ⟨e5, e6⟩ := HST.out w3 HO3.out
  have HK3 := Lib.hid (HRt.out _ _ _ hw3)
  clear hw3 ho3 d5 d6 HK2
  go_wp2_with fail
  refine (HK3.out).mono ?_
  rintro en_ w4 ⟨rfl, hw4, ho4⟩
  go_wp2_with fail
  go_end0
  exact HF.out _ _ _ ⟨rfl, hw4, HO3.out.trans ho4 fun _ _ e => e⟩
end Go.Proofs.YtfeodppdmbideaaGreatDoor
