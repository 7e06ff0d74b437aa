/- The way to the laws of books: BFirst to BConcat. -/
import Derived.Test.YtfeodppdmbideaaGreatDoorBA7
import Derived.Test.YtfeodppdmbideaaGreatDoorBA8
import Derived.Test.YtfeodppdmbideaaGreatDoorBA9
import Derived.Deep.AppendLies
import Derived.Deep.RegionHeld3
import Derived.Lib.AppendZeros
import Derived.Deep.DeepCutAuto
namespace Go.Proofs.YtfeodppdmbideaaGreatDoor
open Go.RowKit

/-- What is asked of each row of a list: it answers e i t, and leaves what there is. -/
structure FVisT (Vf : FuncId) (rcv cap : Array Value) (w : World) (e : Nat → List Node3 → Int) (l : List RowT) : Prop where
  enters : ∀ args w, (callFunc Vf args).run Tryz.prog w = .ok (.enter Vf args) w
  call : ∀ i (h : i < l.length) W, Below w.heap.size w W → Calls Tryz.prog Vf (rcv ++ (#[.int .i64 (i : Int), .slice l[i].1 l[i].2.2.length l[i].2.1] ++ cap)) W (fun en W' => en = .returned (.int .i64 (e i l[i].2.2)) ∧ Below W.heap.size W W')
set_option maxRecDepth 100000 in
set_option maxHeartbeats 4000000 in
theorem firstT_any (Vf : FuncId) (rcv cap : Array Value) (e : Nat → List Node3 → Int) (A : Option Addr) (n c : Nat) (l : List RowT) (w : World) (V : FVisT Vf rcv cap w e l) (hn : l.length = n) (hnb : n ≤ 4611686018427387904) (hA : Holds w A (l.map rowV)) :
    Calls Tryz.prog 52 #[.slice A n c, .func (.func Vf) rcv cap] w fun en w' => en = .returned (.int .i64 (firstE e 0 (l.map fun x => x.2.2))) ∧ Below w.heap.size w w' := by
  have hen := V.enters
  have HV := Lib.hid V
  have HA := Lib.hid (show ∀ w', Below w.heap.size w w' → Holds w' A (l.map rowV) from fun w' hb => hA.below hb)
  have HL := Lib.hid hn
  clear V hA hn
  go_enter Tryz.func52, Tryz.ntmps52
  go_wp2_with fail
  go_loopw [10] (fun i wr => ∃ k : Nat, i = .int .i64 (k : Int) ∧ k ≤ n ∧ Hid (∀ j (h : j < l.length), j < k → e j l[j].2.2 = 0) ∧ Hid (Below w.heap.size w wr)) (fun i _ => n - (intOf i).toNat)
  case atStart => exact ⟨0, rfl, Nat.zero_le _, Lib.hid (fun j _ hj => absurd hj (by omega)), Lib.hid (Below.refl _ _)⟩
  case round =>
    obtain ⟨k, rfl, hk, HZ, HB⟩ := hrel
    by_cases hlt : k < n
    · have hkl : k < l.length := by have := HL.out; omega
      have hA2 := HA.out _ HB.out
      obtain ⟨b, o, rfl, -, -⟩ := hA2.at_ (by rw [List.length_map]; omega)
      have r0 := rows_cell hA2 hkl
      have HC := Lib.hid (HV.out.call k hkl wr HB.out)
      have HS : Hid (∀ q, e k l[k].2.2 = q → (q ≠ 0 → firstE e 0 (l.map fun x => x.2.2) = q) ∧ (q = 0 → ∀ j (h : j < l.length), j < k + 1 → e j l[j].2.2 = 0)) := Lib.hid fun q hq => ⟨fun h => by
          have := firstE_at (f := e) (l := l.map fun x => x.2.2) (i := 0) (k := k) (by rw [List.length_map]; exact hkl) (fun j hj => by rw [Nat.zero_add, List.getElem_map]; exact HZ.out j (by omega) hj) (by rw [Nat.zero_add, List.getElem_map, hq]; exact h)
          rw [this, Nat.zero_add, List.getElem_map]; exact hq, fun h j hjl hj => by
          rcases Nat.lt_or_ge j k with h1 | h1
          · exact HZ.out j hjl h1
          · obtain rfl : j = k := by omega
            exact hq.trans h⟩
      clear hA2
      generalize e k l[k].2.2 = q at *
      generalize l[k] = x at *
      obtain ⟨xA, xc, xt⟩ := x
      obtain ⟨xn, hxn⟩ : ∃ xn, xt.length = xn := ⟨_, rfl⟩
      simp only [hxn] at r0 HC
      clear hxn
      go_wp2_with fail
      refine (HC.out).mono ?_
      rintro en w1 ⟨rfl, hb1⟩
      have HB1 := Lib.hid (below_step HB.out hb1)
      clear hb1
      by_cases h0 : q = 0
      · have HS1 := Lib.hid ((HS.out q rfl).2 h0)
        have h1 : (q != 0) = false := by simpa using h0
        go_wp2_with fail
        go_roundw
        case rel => exact ⟨k + 1, by go_num, by omega, HS1, HB1⟩
        case measure => simp [intOf] <;> omega
      · have HS1 := Lib.hid ((HS.out q rfl).1 h0)
        have h1 : (q != 0) = true := by simpa using h0
        go_wp2_with fail
        go_ret
        exact ⟨ret_i64 HS1.out.symm, HB1.out⟩
    · obtain rfl : k = n := by omega
      have HF : Hid (firstE e 0 (l.map fun x => x.2.2) = 0) := Lib.hid (firstE_none fun j hj => by rw [Nat.zero_add, List.getElem_map]; rw [List.length_map] at hj; exact HZ.out j hj (by rw [← HL.out]; exact hj))
      go_wp2_with fail
      go_ret
      exact ⟨ret_i64 HF.out.symm, HB.out⟩
theorem closed_vis (vars : Int) (g m : Nat) (f : Node3 → Bool) (l : List RowT) (w : World) (hok : RowsOk w l) (hw : WideRows l) (hlb : ∀ x ∈ l, x.2.2.length ≤ 4611686018427387904) (hN : OwnsN w g m f) (hL : Lim w) :
    FVisT 107 #[scopeA vars g] #[] w (fun _ t => rowF vars f 0 t) l where
  enters := fun args w => by simp [go_sem]
  call := fun i h W hb => by
    have hin := List.getElem_mem h
    have hb1 : Below W.heap.size W (W.alloc (.cells #[.int .i64 vars, .map (some g)] 74)) := (Below.refl _ _).alloc (Nat.le_refl _) _
    have hb2 := below_step hb hb1
    have HR := Lib.hid (rowFault_any vars g m f l[i].1 l[i].2.2.length l[i].2.1 l[i].2.2 0 _ rfl (hlb _ hin) ((hok _ hin).2.below hb2) (hw _ hin) (hN.below hb2) (hL.next hb2))
    have HB1 := Lib.hid hb1
    clear hok hw hlb hN hL hin hb1 hb2
    generalize rowF vars f 0 l[i].2.2 = q at *
    generalize l[i] = x at *
    obtain ⟨xA, xc, xt⟩ := x
    obtain ⟨xn, hxn⟩ : ∃ xn, xt.length = xn := ⟨_, rfl⟩
    simp only [hxn] at HR ⊢
    clear hxn
    go_enter Tryz.func107, Tryz.ntmps107
    go_wp2_with fail
    refine (HR.out).mono ?_
    rintro en w1 ⟨rfl, hb3⟩
    go_wp2_with fail
    go_ret
    exact ⟨rfl, below_step HB1.out hb3⟩
theorem at_vis (vars : Int) (g m : Nat) (f : Node3 → Bool) (l : List RowT) (w : World) (hok : RowsOk w l) (hw : WideRows l) (hlb : ∀ x ∈ l, x.2.2.length ≤ 4611686018427387904) (hN : OwnsN w g m f) (hL : Lim w) :
    FVisT 172 #[scopeA vars g] #[] w (fun j t => rowF vars f (j : Int) t) l where
  enters := fun args w => by simp [go_sem]
  call := fun i h W hb => by
    have hin := List.getElem_mem h
    have hb1 : Below W.heap.size W (W.alloc (.cells #[.int .i64 vars, .map (some g)] 74)) := (Below.refl _ _).alloc (Nat.le_refl _) _
    have hb2 := below_step hb hb1
    have HR := Lib.hid (rowFault_any vars g m f l[i].1 l[i].2.2.length l[i].2.1 l[i].2.2 (i : Int) _ rfl (hlb _ hin) ((hok _ hin).2.below hb2) (hw _ hin) (hN.below hb2) (hL.next hb2))
    have HB1 := Lib.hid hb1
    clear hok hw hlb hN hL hin hb1 hb2
    generalize rowF vars f (i : Int) l[i].2.2 = q at *
    generalize l[i] = x at *
    obtain ⟨xA, xc, xt⟩ := x
    obtain ⟨xn, hxn⟩ : ∃ xn, xt.length = xn := ⟨_, rfl⟩
    simp only [hxn] at HR ⊢
    clear hxn
    go_enter Tryz.func172, Tryz.ntmps172
    go_wp2_with fail
    refine (HR.out).mono ?_
    rintro en w1 ⟨rfl, hb3⟩
    go_wp2_with fail
    go_ret
    exact ⟨rfl, below_step HB1.out hb3⟩
/-- The closures of ctorFault: bs holds the scope, bn a number. -/
theorem ctor1_vis (vars : Int) (g m : Nat) (f : Node3 → Bool) (np : Nat) (bs bn : Nat) (l : List RowT) (w : World) (hnp : np ≤ 1000000) (hll : l.length ≤ 1000000) (hs : Holds w (some ⟨bs, 0, none⟩) [.int .i64 vars, .map (some g)]) (hn : Holds w (some ⟨bn, 0, none⟩) [.int .i64 (np : Int)])
    (hok : RowsOk w l) (hw : WideRows l) (hlb : ∀ x ∈ l, x.2.2.length ≤ 4611686018427387904) (hN : OwnsN w g m f) (hL : Lim w) :
    FVisT 197 #[] #[.pointer (some ⟨bs, 0, none⟩), .pointer (some ⟨bn, 0, none⟩)] w (fun j t => rowF vars f ((np : Int) + (j : Int)) t) l where
  enters := fun args w => by simp [go_sem]
  call := fun i h W hb => by
    have hin := List.getElem_mem h
    have hs1 := hs.below hb
    have s0 := hs1.cell (j := 0) rfl
    have s1 := hs1.cell (j := 1) rfl
    have n0 := (hn.below hb).cell (j := 0) rfl
    rw [Nat.zero_add] at s0 s1 n0
    have HR := Lib.hid (rowFault_any vars g m f l[i].1 l[i].2.2.length l[i].2.1 l[i].2.2 ((np : Int) + (i : Int)) W rfl (hlb _ hin) ((hok _ hin).2.below hb) (hw _ hin) (hN.below hb) (hL.next hb))
    have ew := IntWalk.i64_in ((np : Int) + (i : Int)) (by omega)
    clear hok hw hlb hN hL hin hs1 hs hn
    generalize rowF vars f ((np : Int) + (i : Int)) l[i].2.2 = q at *
    generalize l[i] = x at *
    obtain ⟨xA, xc, xt⟩ := x
    obtain ⟨xn, hxn⟩ : ∃ xn, xt.length = xn := ⟨_, rfl⟩
    simp only [hxn] at HR ⊢
    clear hxn
    go_enter Tryz.func197, Tryz.ntmps197
    go_wp2_with fail
    refine (HR.out).mono ?_
    rintro en w1 ⟨rfl, hb3⟩
    go_wp2_with fail
    go_ret
    exact ⟨rfl, hb3⟩
theorem ctor2_vis (vars : Int) (g m : Nat) (f : Node3 → Bool) (no : Int) (bs bn : Nat) (l : List RowT) (w : World) (hs : Holds w (some ⟨bs, 0, none⟩) [.int .i64 vars, .map (some g)]) (hn : Holds w (some ⟨bn, 0, none⟩) [.int .i64 no])
    (hok : RowsOk w l) (hw : WideRows l) (hlb : ∀ x ∈ l, x.2.2.length ≤ 4611686018427387904) (hN : OwnsN w g m f) (hL : Lim w) :
    FVisT 198 #[] #[.pointer (some ⟨bs, 0, none⟩), .pointer (some ⟨bn, 0, none⟩)] w (fun _ t => rowF vars f no t) l where
  enters := fun args w => by simp [go_sem]
  call := fun i h W hb => by
    have hin := List.getElem_mem h
    have hs1 := hs.below hb
    have s0 := hs1.cell (j := 0) rfl
    have s1 := hs1.cell (j := 1) rfl
    have n0 := (hn.below hb).cell (j := 0) rfl
    rw [Nat.zero_add] at s0 s1 n0
    have HR := Lib.hid (rowFault_any vars g m f l[i].1 l[i].2.2.length l[i].2.1 l[i].2.2 no W rfl (hlb _ hin) ((hok _ hin).2.below hb) (hw _ hin) (hN.below hb) (hL.next hb))
    clear hok hw hlb hN hL hin hs1 hs hn
    generalize rowF vars f no l[i].2.2 = q at *
    generalize l[i] = x at *
    obtain ⟨xA, xc, xt⟩ := x
    obtain ⟨xn, hxn⟩ : ∃ xn, xt.length = xn := ⟨_, rfl⟩
    simp only [hxn] at HR ⊢
    clear hxn
    go_enter Tryz.func198, Tryz.ntmps198
    go_wp2_with fail
    refine (HR.out).mono ?_
    rintro en w1 ⟨rfl, hb3⟩
    go_wp2_with fail
    go_ret
    exact ⟨rfl, hb3⟩
end Go.Proofs.YtfeodppdmbideaaGreatDoor
namespace Go.Proofs.YtfeodppdmbideaaGreatDoor
open Go.RowKit

def LongR (l : List RowT) : Prop := ∀ x ∈ l, x.2.2.length ≤ 4611686018427387904
/-- Rows of a constructor that may be looked at. -/
structure CtorOk (w : World) (c : CtorT) : Prop where
  inn : CtorIn w c
  wide : WideRows c.args.2.2 ∧ WideRows c.out.2.2
  long : LongR c.args.2.2 ∧ LongR c.out.2.2
  few : c.args.2.2.length ≤ 4611686018427387904 ∧ c.out.2.2.length ≤ 4611686018427387904
theorem CtorOk.below {w w' : World} {c : CtorT} (h : CtorOk w c) (hb : Below w.heap.size w w') : CtorOk w' c := ⟨h.inn.below hb, h.wide, h.long, h.few⟩
set_option maxRecDepth 100000 in
set_option maxHeartbeats 4000000 in
theorem ctorFault_any (vars : Int) (g m : Nat) (f : Node3 → Bool) (kd : Int) (sA pA iA cA tA bA : Option Addr) (sn sc pn pc jn jc cn cc tn tc bn bc : Nat) (c : CtorT) (w : World) (hc : CtorOk w c) (hp : pn ≤ 16) (hN : OwnsN w g m f) (hL : Lim w) :
    Calls Tryz.prog 176 #[scopeA vars g, .agg #[.int .i64 kd, .slice sA sn sc, .slice pA pn pc, .slice iA jn jc, .slice cA cn cc, .slice tA tn tc, .slice bA bn bc], c.val] w fun e w' => e = .returned (.int .i64 (ctorE (rowF vars f) pn jn c.p)) ∧ Below w.heap.size w w' := by
  obtain ⟨⟨aA, ac, la⟩, ⟨oA, oc, lo⟩⟩ := c
  obtain ⟨⟨⟨qs, ah, ak⟩, os, oh, ok⟩, ⟨wa, wo⟩, ⟨lga, lgo⟩, fa, fo⟩ := hc
  obtain ⟨an, han⟩ : ∃ an, la.length = an := ⟨_, rfl⟩
  obtain ⟨on_, hon⟩ : ∃ on_, lo.length = on_ := ⟨_, rfl⟩
  obtain ⟨r, hr⟩ : ∃ r, r = ctorE (rowF vars f) pn jn (CtorT.p ⟨(aA, ac, la), (oA, oc, lo)⟩) := ⟨_, rfl⟩
  rw [← hr]
  unfold ctorE CtorT.p rowsP at hr
  simp only [List.length_map, han, hon] at hr qs os fa fo
  have HR := Lib.hid hr
  have HB0 := Lib.hid (show Below w.heap.size w (((w.alloc (.cells #[.int .i64 vars, .map (some g)] 74)).alloc (.cells #[.int .i64 kd, .slice sA sn sc, .slice pA pn pc, .slice iA jn jc, .slice cA cn cc, .slice tA tn tc, .slice bA bn bc] 60)).alloc (.cells #[.slice aA an ac, .slice oA on_ oc] 62)) from
    (((Below.refl _ _).alloc (Nat.le_refl _) _).alloc (by simp) _).alloc (by simp; omega) _)
  show Calls Tryz.prog 176 #[scopeA vars g, .agg #[.int .i64 kd, .slice sA sn sc, .slice pA pn pc, .slice iA jn jc, .slice cA cn cc, .slice tA tn tc, .slice bA bn bc], .agg #[.slice aA la.length ac, .slice oA lo.length oc]] w _
  rw [han, hon]
  have HS0 := Lib.hid (holds_at w #[.int .i64 vars, .map (some g)] 74 _ rfl)
  have HLA := Lib.hid han
  have HLO := Lib.hid hon
  have HN := Lib.hid (show ∀ w', Below w.heap.size w w' → OwnsN w' g m f from fun w' hb => hN.below hb)
  have HL := Lib.hid (show ∀ w', Below w.heap.size w w' → Lim w' from fun w' hb => hL.next hb)
  have HA := Lib.hid (show ∀ w', Below w.heap.size w w' → Holds w' aA (la.map rowV) ∧ RowsOk w' la from fun w' hb => ⟨ah.below hb, ak.below hb⟩)
  have HO := Lib.hid (show ∀ w', Below w.heap.size w w' → Holds w' oA (lo.map rowV) ∧ RowsOk w' lo from fun w' hb => ⟨oh.below hb, ok.below hb⟩)
  have HWA := Lib.hid (show WideRows la ∧ LongR la from ⟨wa, lga⟩)
  have HWO := Lib.hid (show WideRows lo ∧ LongR lo from ⟨wo, lgo⟩)
  clear hr hN hL ah ak oh ok wa wo lga lgo qs os han hon
  by_cases h16 : 16 < an
  · have HX : Hid (r = 5) := Lib.hid (by rw [HR.out, if_pos h16])
    go_enter Tryz.func176, Tryz.ntmps176
    go_wp2_with fail
    go_ret
    exact ⟨ret_i64 HX.out.symm, HB0.out⟩
  by_cases ho : on_ = jn
  case neg =>
    have HX : Hid (r = 8) := Lib.hid (by rw [HR.out, if_neg h16, if_pos ho])
    have hne : ((on_ : Int) != (jn : Int)) = true := by simp; omega
    go_enter Tryz.func176, Tryz.ntmps176
    go_wp2_with fail
    go_ret
    exact ⟨ret_i64 HX.out.symm, HB0.out⟩
  subst ho
  have HX : Hid (r = if firstE (fun j t => rowF vars f ((pn : Int) + (j : Int)) t) 0 (la.map fun x => x.2.2) ≠ 0 then firstE (fun j t => rowF vars f ((pn : Int) + (j : Int)) t) 0 (la.map fun x => x.2.2)
    else firstE (fun _ t => rowF vars f ((pn : Int) + (an : Int)) t) 0 (lo.map fun x => x.2.2)) := Lib.hid (by rw [HR.out, if_neg h16, if_neg (by omega)])
  clear HR
  have ew := IntWalk.i64_in ((pn : Int) + (an : Int)) (by omega)
  have hne : ((on_ : Int) != (on_ : Int)) = false := by simp
  go_enter Tryz.func176, Tryz.ntmps176
  go_wp2_with fail
  obtain ⟨w3, hw3⟩ : ∃ w3, ((w.alloc (.cells #[.int .i64 vars, .map (some g)] 74)).alloc (.cells #[.int .i64 kd, .slice sA sn sc, .slice pA pn pc, .slice iA on_ jc, .slice cA cn cc, .slice tA tn tc, .slice bA bn bc] 60)).alloc (.cells #[.slice aA an ac, .slice oA on_ oc] 62) = w3 := ⟨_, rfl⟩
  have hz3 : w3.heap.size = w.heap.size + 1 + 1 + 1 := by rw [← hw3]; simp
  have hS3 : Holds w3 (some ⟨w.heap.size, 0, none⟩) [.int .i64 vars, .map (some g)] := by rw [← hw3]; exact (HS0.out.alloc _).alloc _
  have hC3 : Holds w3 (some ⟨w.heap.size + 1 + 1, 0, none⟩) [.slice aA an ac, .slice oA on_ oc] := by
    rw [← hw3]
    have := holds_at ((w.alloc (.cells #[.int .i64 vars, .map (some g)] 74)).alloc (.cells #[.int .i64 kd, .slice sA sn sc, .slice pA pn pc, .slice iA on_ jc, .slice cA cn cc, .slice tA tn tc, .slice bA bn bc] 60)) #[.slice aA an ac, .slice oA on_ oc] 62 _ rfl
    simpa using this
  rw [hw3] at HB0 ⊢
  clear hw3
  have hn4 := holds_at w3 #[.int .i64 (pn : Int)] 3 _ rfl
  have hn5 := holds_at (w3.alloc (.cells #[.int .i64 (pn : Int)] 3)) #[.int .i64 ((pn : Int) + (an : Int))] 3 _ rfl
  rw [World.size_alloc] at hn5
  have hb35 : Below w3.heap.size w3 ((w3.alloc (.cells #[.int .i64 (pn : Int)] 3)).alloc (.cells #[.int .i64 ((pn : Int) + (an : Int))] 3)) := ((Below.refl _ _).alloc (Nat.le_refl _) _).alloc (by simp) _
  have HN4 := Lib.hid (hn4.alloc (.cells #[.int .i64 ((pn : Int) + (an : Int))] 3))
  have HN5 := Lib.hid hn5
  have HS5 := Lib.hid (hS3.below hb35)
  have HC5 := Lib.hid (hC3.below hb35)
  have HB5 := Lib.hid (below_step HB0.out hb35)
  rw [hz3] at HN4 HN5
  generalize (w3.alloc (.cells #[.int .i64 (pn : Int)] 3)).alloc (.cells #[.int .i64 ((pn : Int) + (an : Int))] 3) = w5 at *
  clear hn4 hn5 hb35 hz3 hS3 hC3 HB0 HS0 ew
  have hA5 := HA.out _ HB5.out
  have hO5 := HO.out _ HB5.out
  refine (firstT_any 197 #[] #[.pointer (some ⟨w.heap.size, 0, none⟩), .pointer (some ⟨w.heap.size + 1 + 1 + 1, 0, none⟩)] _ aA an ac la w5 (ctor1_vis vars g m f pn _ _ la w5 (by omega) (by rw [HLA.out]; omega) HS5.out HN4.out hA5.2 HWA.out.1 HWA.out.2 (HN.out _ HB5.out) (HL.out _ HB5.out)) HLA.out fa hA5.1).mono ?_
  rintro en w6 ⟨rfl, hb6⟩
  have HB6 := Lib.hid (below_step HB5.out hb6)
  have hV2 := Lib.hid (ctor2_vis vars g m f ((pn : Int) + (an : Int)) _ _ lo w6 (HS5.out.below hb6) (HN5.out.below hb6) (hO5.2.below hb6) HWO.out.1 HWO.out.2 (HN.out _ HB6.out) (HL.out _ HB6.out))
  have HO6 := Lib.hid (hO5.1.below hb6)
  have hc6 := HC5.out.below hb6
  have c0 := hc6.cell (j := 0) rfl
  have c1 := hc6.cell (j := 1) rfl
  rw [Nat.zero_add] at c0 c1
  clear hA5 hO5 hb6 hc6
  generalize firstE (fun j t => rowF vars f ((pn : Int) + (j : Int)) t) 0 (la.map fun x => x.2.2) = q at *
  by_cases h0 : q = 0
  · have HX0 : Hid (r = firstE (fun _ t => rowF vars f ((pn : Int) + (an : Int)) t) 0 (lo.map fun x => x.2.2)) := Lib.hid (by rw [HX.out, if_neg (by omega)])
    have h1 : (q != 0) = false := by simpa using h0
    clear HX
    go_wp2_with fail
    refine (firstT_any 198 #[] #[.pointer (some ⟨w.heap.size, 0, none⟩), .pointer (some ⟨w.heap.size + 1 + 1 + 1 + 1, 0, none⟩)] _ oA on_ oc lo w6 hV2.out HLO.out fo HO6.out).mono ?_
    rintro en w7 ⟨rfl, hb7⟩
    go_wp2_with fail
    go_ret
    exact ⟨ret_i64 HX0.out.symm, below_step HB6.out hb7⟩
  · have HX0 : Hid (r = q) := Lib.hid (by rw [HX.out, if_pos h0])
    have h1 : (q != 0) = true := by simpa using h0
    clear HX
    go_wp2_with fail
    go_ret
    exact ⟨ret_i64 HX0.out.symm, HB6.out⟩
structure FVisC (Vf : FuncId) (rcv cap : Array Value) (w : World) (e : Nat → CtorP → Int) (l : List CtorT) : Prop where
  enters : ∀ args w, (callFunc Vf args).run Tryz.prog w = .ok (.enter Vf args) w
  call : ∀ i (h : i < l.length) W, Below w.heap.size w W → Calls Tryz.prog Vf (rcv ++ (#[.int .i64 (i : Int), l[i].val] ++ cap)) W (fun en W' => en = .returned (.int .i64 (e i l[i].p)) ∧ Below W.heap.size W W')
set_option maxRecDepth 100000 in
set_option maxHeartbeats 4000000 in
theorem firstC_any (Vf : FuncId) (rcv cap : Array Value) (e : Nat → CtorP → Int) (A : Option Addr) (n c : Nat) (l : List CtorT) (w : World) (V : FVisC Vf rcv cap w e l) (hn : l.length = n) (hnb : n ≤ 4611686018427387904) (hA : Holds w A (ctorsCV l)) :
    Calls Tryz.prog 174 #[.slice A n c, .func (.func Vf) rcv cap] w fun en w' => en = .returned (.int .i64 (firstE e 0 (l.map CtorT.p))) ∧ Below w.heap.size w w' := by
  have hen := V.enters
  have HV := Lib.hid V
  have HA := Lib.hid (show ∀ w', Below w.heap.size w w' → Holds w' A (ctorsCV l) from fun w' hb => hA.below hb)
  have HL := Lib.hid hn
  clear V hA hn
  go_enter Tryz.func174, Tryz.ntmps174
  go_wp2_with fail
  go_loopw [10] (fun i wr => ∃ k : Nat, i = .int .i64 (k : Int) ∧ k ≤ n ∧ Hid (∀ j (h : j < l.length), j < k → e j l[j].p = 0) ∧ Hid (Below w.heap.size w wr)) (fun i _ => n - (intOf i).toNat)
  case atStart => exact ⟨0, rfl, Nat.zero_le _, Lib.hid (fun j _ hj => absurd hj (by omega)), Lib.hid (Below.refl _ _)⟩
  case round =>
    obtain ⟨k, rfl, hk, HZ, HB⟩ := hrel
    by_cases hlt : k < n
    · have hkl : k < l.length := by have := HL.out; omega
      have hA2 := HA.out _ HB.out
      obtain ⟨b, o, rfl, -, -⟩ := hA2.at_ (by rw [ctorsCV_len]; omega)
      obtain ⟨r0, r1⟩ := ctors_cells hA2 hkl
      have HC0 := Lib.hid (fun W (hb : Below wr.heap.size wr W) => HV.out.call k hkl W (below_step HB.out hb))
      have HS : Hid (∀ q, e k l[k].p = q → (q ≠ 0 → firstE e 0 (l.map CtorT.p) = q) ∧ (q = 0 → ∀ j (h : j < l.length), j < k + 1 → e j l[j].p = 0)) := Lib.hid fun q hq => ⟨fun h => by
          have := firstE_at (f := e) (l := l.map CtorT.p) (i := 0) (k := k) (by rw [List.length_map]; exact hkl) (fun j hj => by rw [Nat.zero_add, List.getElem_map]; exact HZ.out j (by omega) hj) (by rw [Nat.zero_add, List.getElem_map, hq]; exact h)
          rw [this, Nat.zero_add, List.getElem_map]; exact hq, fun h j hjl hj => by
          rcases Nat.lt_or_ge j k with h1 | h1
          · exact HZ.out j hjl h1
          · obtain rfl : j = k := by omega
            exact hq.trans h⟩
      clear hA2
      generalize e k l[k].p = q at *
      generalize l[k] = x at *
      obtain ⟨⟨xA, xc, xt⟩, ⟨yA, yc, yt⟩⟩ := x
      obtain ⟨xn, hxn⟩ : ∃ xn, xt.length = xn := ⟨_, rfl⟩
      obtain ⟨yn, hyn⟩ : ∃ yn, yt.length = yn := ⟨_, rfl⟩
      simp only [CtorT.val, rowsV, hxn, hyn] at r0 r1 HC0
      have HBA := Lib.hid (show Below wr.heap.size wr (wr.alloc (.cells #[.slice xA xn xc, .slice yA yn yc] 62)) from (Below.refl _ _).alloc (Nat.le_refl _) _)
      have HC := Lib.hid (HC0.out _ HBA.out)
      clear hxn hyn HC0
      go_wp2_with fail
      refine (HC.out).mono ?_
      rintro en w1 ⟨rfl, hb1⟩
      have HB1 := Lib.hid (below_step (below_step HB.out HBA.out) hb1)
      clear hb1
      by_cases h0 : q = 0
      · have HS1 := Lib.hid ((HS.out q rfl).2 h0)
        have h1 : (q != 0) = false := by simpa using h0
        go_wp2_with fail
        go_roundw
        case rel => exact ⟨k + 1, by go_num, by omega, HS1, HB1⟩
        case measure => simp [intOf] <;> omega
      · have HS1 := Lib.hid ((HS.out q rfl).1 h0)
        have h1 : (q != 0) = true := by simpa using h0
        go_wp2_with fail
        go_ret
        exact ⟨ret_i64 HS1.out.symm, HB1.out⟩
    · obtain rfl : k = n := by omega
      have HF : Hid (firstE e 0 (l.map CtorT.p) = 0) := Lib.hid (firstE_none fun j hj => by rw [Nat.zero_add, List.getElem_map]; rw [List.length_map] at hj; exact HZ.out j hj (by rw [← HL.out]; exact hj))
      go_wp2_with fail
      go_ret
      exact ⟨ret_i64 HF.out.symm, HB.out⟩
/-- The closure of familyFault: bs holds the scope, be the entry. -/
theorem family_vis (vars : Int) (g m : Nat) (f : Node3 → Bool) (kd : Int) (sA pA iA cA tA bA : Option Addr) (sn sc pn pc jn jc cn cc tn tc bn bc : Nat) (bs be : Nat) (l : List CtorT) (w : World) (hp : pn ≤ 16) (hs : Holds w (some ⟨bs, 0, none⟩) [.int .i64 vars, .map (some g)])
    (he : Holds w (some ⟨be, 0, none⟩) [.int .i64 kd, .slice sA sn sc, .slice pA pn pc, .slice iA jn jc, .slice cA cn cc, .slice tA tn tc, .slice bA bn bc]) (hc : ∀ c ∈ l, CtorOk w c) (hN : OwnsN w g m f) (hL : Lim w) :
    FVisC 175 #[] #[.pointer (some ⟨bs, 0, none⟩), .pointer (some ⟨be, 0, none⟩)] w (fun _ c => ctorE (rowF vars f) pn jn c) l where
  enters := fun args w => by simp [go_sem]
  call := fun i h W hb => by
    have hin := List.getElem_mem h
    have hb1 : Below W.heap.size W (W.alloc (.cells #[rowsV l[i].args, rowsV l[i].out] 62)) := (Below.refl _ _).alloc (Nat.le_refl _) _
    have hb2 := below_step hb hb1
    have HR := Lib.hid (ctorFault_any vars g m f kd sA pA iA cA tA bA sn sc pn pc jn jc cn cc tn tc bn bc l[i] _ ((hc _ hin).below hb2) hp (hN.below hb2) (hL.next hb2))
    have HB1 := Lib.hid hb1
    have hs1 := hs.below hb2
    have s0 := hs1.cell (j := 0) rfl
    have s1 := hs1.cell (j := 1) rfl
    have he1 := he.below hb2
    have e0 := he1.cell (j := 0) rfl
    have e1 := he1.cell (j := 1) rfl
    have e2 := he1.cell (j := 2) rfl
    have e3 := he1.cell (j := 3) rfl
    have e4 := he1.cell (j := 4) rfl
    have e5 := he1.cell (j := 5) rfl
    have e6 := he1.cell (j := 6) rfl
    rw [Nat.zero_add] at s0 s1 e0 e1 e2 e3 e4 e5 e6
    clear hs he hc hN hL hin hb1 hb2 hs1 he1
    generalize ctorE (rowF vars f) pn jn l[i].p = q at *
    generalize l[i] = x at *
    obtain ⟨⟨xA, xc, xt⟩, ⟨yA, yc, yt⟩⟩ := x
    obtain ⟨xn, hxn⟩ : ∃ xn, xt.length = xn := ⟨_, rfl⟩
    obtain ⟨yn, hyn⟩ : ∃ yn, yt.length = yn := ⟨_, rfl⟩
    simp only [CtorT.val, rowsV, hxn, hyn] at HR HB1 s0 s1 e0 e1 e2 e3 e4 e5 e6 ⊢
    clear hxn hyn
    go_enter Tryz.func175, Tryz.ntmps175
    go_wp2_with fail
    refine (HR.out).mono ?_
    rintro en w1 ⟨rfl, hb3⟩
    go_wp2_with fail
    go_ret
    exact ⟨rfl, below_step HB1.out hb3⟩
end Go.Proofs.YtfeodppdmbideaaGreatDoor
namespace Go.Proofs.YtfeodppdmbideaaGreatDoor
open Go.RowKit

theorem infoRowQ : (Tryz.prog.info? 28).map (fun i => (i.zero, i.size, i.bytes)) = some (some (.slice none 0 0), 1, 24) := by kernel_rfl
/-- Rows in an own list. -/
def OwnR (w : World) (base : Nat) (v : Value) (l : List RowT) : Prop := w.ownsRow base 28 1 v l.length (l.map rowV)
theorem OwnR.nil (w : World) (base : Nat) : OwnR w base (.slice none 0 0) [] := ⟨by simp, .inl ⟨rfl, rfl⟩⟩
theorem OwnR.below {w w' : World} {base : Nat} {v : Value} {l : List RowT} (h : OwnR w base v l) (hb : Below w.heap.size w w') : OwnR w' base v l := own_below h hb
theorem rowsV_one {l : List RowT} : ∀ u ∈ l.map rowV, u.oneCell' = true := by
  intro u hu
  obtain ⟨j, _, rfl⟩ := List.mem_map.1 hu
  rfl
/-- append(s, x...) of rows, onto an own row: nil or not. -/
theorem wpList_append_rows {w : World} {ops : Array Oper} {rest : List Oper} {o : Oper} {a : Act} {Q : Exit → Act → World → Prop} (hgd : o.guard = none) (s x : Operand) (t : TypeId)
    (ho : o.op = .call { callee := .builtin .append, args := #[s, x], argTypes := #[t, t] }) (ht : Tryz.prog.underlying t = some (.slice 28))
    (base : Nat) (v : Value) (l r : List RowT) (hs : a.eval s = v) (hown : OwnR w base v l) (A : Option Addr) (m c : Nat) (hx : a.eval x = .slice A m c)
    (hl : r.length = m) (hsl : Slice A m c) (hh : Holds w A (r.map rowV)) (hbig : l.length + m ≤ 1000000000) (w0 : World) (hb : Below base w0 w) (hbase : base ≤ w.heap.size)
    (h : ∀ v' w', OwnR w' base v' (l ++ r) → Below base w0 w' → base ≤ w'.heap.size → w.grownBy w' v.ownBlock →
      wpList Tryz.prog ops Q rest (a.put o.dst v') w') : wpList Tryz.prog ops Q (o :: rest) a w := by
  refine wpList_append_cells hgd s x t ho 28 (.slice none 0 0) 1 24 infoRowQ rfl (by decide) ht base v l.length m (l.map rowV) (r.map rowV) hs hown A c hx hsl hh (by rw [List.length_map, hl, Nat.mul_one]) rowsV_one hbig (by decide) w0 hb hbase ?_
  intro A' c' w' h1 h2 h3 h4 h5
  refine h _ w' ?_ h3 h4 h5
  show w'.ownsRow _ _ _ _ _ _
  rw [List.length_append, hl, List.map_append]
  exact h1
/-- append(nil, make(..)...). -/
theorem wpList_append_zeroR {w : World} {ops : Array Oper} {rest : List Oper} {o : Oper} {a : Act} {Q : Exit → Act → World → Prop} (hgd : o.guard = none) (s x : Operand)
    (ho : o.op = .call { callee := .builtin .append, args := #[s, x], argTypes := #[40, 3] }) (n : Nat) (h0 : 0 < n) (h1 : n ≤ 1000000) (hs : a.eval s = .slice none 0 0) (hx : a.eval x = .int .i64 n)
    (h : ∀ g c w', n ≤ c → c ≤ 9223372036854775807 → g = w.heap.size → OwnR w' w.heap.size (.slice (some ⟨g, 0, none⟩) 0 c) [] → Below w.heap.size w w' → wpList Tryz.prog ops Q rest (a.put o.dst (.slice (some ⟨g, 0, none⟩) n c)) w') : wpList Tryz.prog ops Q (o :: rest) a w := by
  obtain ⟨i0, hi, hz0, hz1, hz2⟩ := info_parts infoRowQ
  have hr := Lib.run_append_nil_zeros (P := Tryz.prog) w 40 3 o.type 28 i0 _ .i64 .i64 Tryz.underlying40 Tryz.underlying3 hi hz0 n h0 (by rw [hz1]; omega) (by omega) (by rw [hz2]; omega)
  have hG := grownCap_ge w n 0 28
  have hG2 := grownCap_le_maxLen w n 0 28 (by unfold maxLen; omega)
  generalize grownCap w n 0 28 = G at *
  refine wpList_plain hgd fun K hK => ?_
  unfold Oper.wp execOp
  simp only [ho, resolve, invoke, builtin, Sem.run_bind, Sem.run_pure, Result.andThen_ok, List.map_toArray, List.map_cons, List.map_nil, hs, hx, hr]
  refine hK _ _ (h _ G _ hG hG2 rfl ⟨by simp, .inr ⟨_, G, _, rfl, Nat.le_refl _, (MapKept.heap_alloc w.drew _).1, Nat.zero_le _, hG2, ?_, by simp⟩⟩ ((Below.refl _ _).drew.alloc (Nat.le_refl _) _))
  simp only [Array.size_append, size_zeroCells, Value.cells]
  show n * 1 + (G - n) * 1 = G * 1
  omega
/-- What Grow of nil answers: an own row without elements. -/
def GrowPostR (w : World) (e : Ending) (w' : World) : Prop := ∃ v, e = .returned v ∧ OwnR w' w.heap.size v [] ∧ Below w.heap.size w w'
set_option maxRecDepth 100000 in
set_option maxHeartbeats 1000000 in
theorem growR_any (x : Int) (n : Nat) (w : World) (hx : x = n) (hn2 : n ≤ 1000000) :
    Calls Tryz.prog 95 #[.slice none 0 0, .int .i64 x] w (GrowPostR w) := by
  subst hx
  rcases Nat.eq_zero_or_pos n with rfl | hn
  · go_enter Tryz.func95, Tryz.ntmps95
    go_wp2_with fail
    go_ret
    exact ⟨_, rfl, OwnR.nil _ _, Below.refl _ _⟩
  · have p1 : (0 : Int) < (n : Int) := by omega
    go_enter Tryz.func95, Tryz.ntmps95
    go_wp2_with (at_builtin; refine wpList_append_zeroR rfl _ _ rfl n hn hn2 rfl rfl ?_; rintro g c w' hc hc2 rfl hown hb)
    go_ret
    exact ⟨_, rfl, hown, hb⟩
/-- What Concat answers. -/
def ConcatPostR (l : List RowT) (w : World) (e : Ending) (w' : World) : Prop := ∃ v, e = .returned v ∧ OwnR w' w.heap.size v l ∧ Below w.heap.size w w'
set_option maxRecDepth 100000 in
set_option maxHeartbeats 2000000 in
theorem concat2_any (g : Nat) (A0 A1 : Option Addr) (n0 n1 c0 c1 : Nat) (l0 l1 : List RowT) (w : World) (hg : Holds w (some ⟨g, 0, none⟩) [.slice A0 n0 c0, .slice A1 n1 c1])
    (e0 : l0.length = n0) (s0 : Slice A0 n0 c0) (h0 : Holds w A0 (l0.map rowV)) (e1 : l1.length = n1) (s1 : Slice A1 n1 c1) (h1 : Holds w A1 (l1.map rowV)) (hb : n0 + n1 ≤ 1000000) :
    Calls Tryz.prog 43 #[.slice (some ⟨g, 0, none⟩) 2 2] w (ConcatPostR (l0 ++ l1) w) := by
  have t0 : w.cell? ⟨g, 0, none⟩ = some (.slice A0 n0 c0) := hg.cell (j := 0) rfl
  have t1 : w.cell? ⟨g, 1, none⟩ = some (.slice A1 n1 c1) := hg.cell (j := 1) rfl
  have HE0 := Lib.hid e0
  have HE1 := Lib.hid e1
  have HS0 := Lib.hid s0
  have HS1 := Lib.hid s1
  have HG := Lib.hid (show ∀ w', Below w.heap.size w w' → Holds w' (some ⟨g, 0, none⟩) [.slice A0 n0 c0, .slice A1 n1 c1] from fun w' hb => hg.below hb)
  have HH := Lib.hid (show ∀ w', Below w.heap.size w w' → Holds w' A0 (l0.map rowV) ∧ Holds w' A1 (l1.map rowV) from fun w' hb => ⟨h0.below hb, h1.below hb⟩)
  clear e0 e1 s0 s1 h0 h1 hg
  go_enter Tryz.func43, Tryz.ntmps43
  go_wp2_with fail
  refine wp_loop_rounds 3 ?_
  rw [rounds_succ]
  go_wp2_with fail
  rw [rounds_succ]
  go_wp2_with fail
  rw [rounds_succ]
  go_wp2_with fail
  refine (growR_any _ (n0 + n1) _ (by omega) (by omega)).mono ?_
  rintro e w1 ⟨v, rfl, hown, hb1⟩
  have HB1 := Lib.hid hb1
  have HO1 := Lib.hid hown
  have hg1 := HG.out _ hb1
  have t0 : w1.cell? ⟨g, 0, none⟩ = some (.slice A0 n0 c0) := hg1.cell (j := 0) rfl
  clear hb1 hown hg1 t1
  go_wp2_with fail
  refine wp_loop_rounds 3 ?_
  rw [rounds_succ]
  go_wp2_with (at_builtin; go_must (refine wpList_append_rows rfl (.tmp 31) (.tmp 32) _ rfl Tryz.underlying40 w.heap.size _ [] l0 rfl HO1.out A0 n0 c0 rfl HE0.out HS0.out (HH.out _ HB1.out).1 (by simp only [List.length_nil]; omega) w HB1.out HB1.out.size ?_); intro v1 w2 hown1 hb2 hz2 _)
  have HB2 := Lib.hid hb2
  have HO2 := Lib.hid hown1
  have hg2 := HG.out _ hb2
  have t1 : w2.cell? ⟨g, 1, none⟩ = some (.slice A1 n1 c1) := hg2.cell (j := 1) rfl
  clear hb2 hown1 hg2 t0
  rw [rounds_succ]
  go_wp2_with (at_builtin; go_must (refine wpList_append_rows rfl (.tmp 31) (.tmp 32) _ rfl Tryz.underlying40 w.heap.size _ ([] ++ l0) l1 rfl HO2.out A1 n1 c1 rfl HE1.out HS1.out (HH.out _ HB2.out).2 (by simp only [List.length_append, List.length_nil, HE0.out]; omega) w HB2.out HB2.out.size ?_); intro v2 w3 hown2 hb3 hz3 _)
  have HB3 := Lib.hid hb3
  have HO3 := Lib.hid hown2
  clear hb3 hown2 t1
  rw [rounds_succ]
  go_wp2_with fail
  go_ret
  exact ⟨_, rfl, by simpa using HO3.out, HB3.out⟩
/-- The same, with a letter for the length. -/
def NewRows (l : List RowT) (w : World) (e : Ending) (w' : World) : Prop := ∃ A n c, e = .returned (.slice A n c) ∧ l.length = n ∧ Slice A n c ∧ Holds w' A (l.map rowV) ∧ (∀ b o, A = some ⟨b, o, none⟩ → w.heap.size ≤ b) ∧ Below w.heap.size w w'
theorem ConcatPostR.n {l : List RowT} {w w' : World} {e : Ending} (h : ConcatPostR l w e w') : NewRows l w e w' := by
  obtain ⟨v, rfl, ho, hb⟩ := h
  obtain ⟨A, c, rfl, hs, hg⟩ := own_slice ho
  exact ⟨A, _, c, rfl, rfl, hs, own_holds ho, fun b o e => (hg b o e).1, hb⟩
end Go.Proofs.YtfeodppdmbideaaGreatDoor
