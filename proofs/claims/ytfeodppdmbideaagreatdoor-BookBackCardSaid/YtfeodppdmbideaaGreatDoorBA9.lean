/- The way to the laws of books: BRow to BRight. -/
import Derived.Test.YtfeodppdmbideaaGreatDoorBA5
import Derived.Test.YtfeodppdmbideaaGreatDoorBA8
namespace Go.Proofs.YtfeodppdmbideaaGreatDoor
open Go.RowKit

set_option maxRecDepth 100000 in
set_option maxHeartbeats 4000000 in
theorem strange_any (vars : Int) (g m : Nat) (f : Node3 → Bool) (n : Node3) (w : World) (hN : OwnsN w g m f) (hw : Wide3 n) :
    Calls Tryz.prog 88 #[scopeA vars g, nodeA n] w fun e w' => e = .returned (.bool (strangeB vars f n)) ∧ Below w.heap.size w w' := by
  have hb1 : Below w.heap.size w ((w.alloc (.cells #[.int .i64 vars, .map (some g)] 74)).alloc (.cells #[.int .i64 n.1, .int .i64 n.2.1, .int .i64 n.2.2] 67)) := ((Below.refl _ _).alloc (Nat.le_refl _) _).alloc (by simp) _
  have HN := Lib.hid (hN.below hb1)
  have HB := Lib.hid hb1
  clear hN hb1
  obtain ⟨o, A, B⟩ := n
  obtain ⟨r, hr⟩ : ∃ r, r = strangeB vars f (o, A, B) := ⟨_, rfl⟩
  rw [← hr]
  unfold strangeB at hr
  simp only at hr
  have HR := Lib.hid hr
  clear hr
  have HK := Lib.hid (knows_any vars g m f (o, A, B) _ HN.out hw)
  have HK2 := Lib.hid (knows_any vars g m f (11, A, 0) _ HN.out ⟨by unfold I64; simp, hw.2.1, by unfold I64; simp⟩)
  by_cases h3 : o = 3
  · subst h3
    by_cases hv : vars < A
    · go_enter Tryz.func88, Tryz.ntmps88
      go_wp2_with fail
      go_ret
      exact ⟨ret_bool (by rw [HR.out]; simp [hv]), HB.out⟩
    · go_enter Tryz.func88, Tryz.ntmps88
      go_wp2_with fail
      go_ret
      exact ⟨ret_bool (by rw [HR.out]; simp [hv]), HB.out⟩
  have e3 : (o == 3) = false := by simpa using h3
  by_cases h8 : o = 8 ∨ o = 9 ∨ o = 10
  · have HX : Hid (r = !(f (o, A, B))) := Lib.hid (by rw [HR.out, if_neg h3, if_pos h8])
    rcases h8 with rfl | rfl | rfl
    all_goals
      go_enter Tryz.func88, Tryz.ntmps88
      go_wp2_with fail
      refine (HK.out).mono ?_
      rintro e w1 ⟨rfl, hb1⟩
      go_wp2_with fail
      go_ret
      exact ⟨ret_bool HX.out.symm, below_step HB.out hb1⟩
  have e8 : (o == 8) = false := by simp; omega
  have e9 : (o == 9) = false := by simp; omega
  have e10 : (o == 10) = false := by simp; omega
  by_cases h11 : o = 11
  · subst h11
    have HX : Hid (r = !(f (11, A, 0))) := Lib.hid (by rw [HR.out, if_neg h3, if_neg h8, if_pos rfl])
    go_enter Tryz.func88, Tryz.ntmps88
    go_wp2_with fail
    refine (HK2.out).mono ?_
    rintro e w1 ⟨rfl, hb1⟩
    go_wp2_with fail
    go_ret
    exact ⟨ret_bool HX.out.symm, below_step HB.out hb1⟩
  · have e11 : (o == 11) = false := by simpa using h11
    have HX : Hid (r = false) := Lib.hid (by rw [HR.out, if_neg h3, if_neg h8, if_neg h11])
    go_enter Tryz.func88, Tryz.ntmps88
    go_wp2_with fail
    go_ret
    exact ⟨ret_bool HX.out.symm, HB.out⟩
set_option maxRecDepth 100000 in
set_option maxHeartbeats 4000000 in
theorem index_strange (vars : Int) (g m : Nat) (f : Node3 → Bool) (A : Option Addr) (n c : Nat) (t : List Node3) (w : World) (hn : t.length = n) (hnb : n ≤ 4611686018427387904) (hA : Holds w A (nodesV t)) (hw : ∀ x ∈ t, Wide3 x) (hN : OwnsN w g m f) :
    Calls Tryz.prog 133 #[.slice A n c, .func (.func 88) #[scopeA vars g] #[]] w fun e w' => ∃ i : Int, e = .returned (.int .i64 i) ∧ I64 i ∧ decide (0 ≤ i) = t.any (strangeB vars f) ∧ Below w.heap.size w w' := by
  have HN := Lib.hid (show ∀ w', Below w.heap.size w w' → OwnsN w' g m f from fun w' hb => hN.below hb)
  have HA := Lib.hid (show ∀ w', Below w.heap.size w w' → Holds w' A (nodesV t) from fun w' hb => hA.below hb)
  have HL := Lib.hid hn
  have HW := Lib.hid hw
  clear hN hA hn hw
  go_enter Tryz.func133, Tryz.ntmps133
  go_wp2_with fail
  go_loopw [8] (fun i wr => ∃ k : Nat, i = .int .i64 (k : Int) ∧ k ≤ n ∧ Hid ((t.take k).any (strangeB vars f) = false) ∧ Hid (Below w.heap.size w wr)) (fun i _ => n - (intOf i).toNat)
  case atStart => exact ⟨0, rfl, Nat.zero_le _, Lib.hid (by simp), Lib.hid (Below.refl _ _)⟩
  case round =>
    obtain ⟨k, rfl, hk, HT, HB⟩ := hrel
    by_cases hlt : k < n
    · have hkl : k < t.length := by have := HL.out; omega
      have hA2 := HA.out _ HB.out
      obtain ⟨b, o, rfl, -, -⟩ := hA2.at_ (by rw [nodesV_len]; omega)
      have r0 := hA2.cell (nodesV_get0 hkl)
      have r1 := hA2.cell (nodesV_get1 hkl)
      have r2 := hA2.cell (nodesV_get2 hkl)
      rw [← Nat.add_assoc] at r1 r2
      have HC := Lib.hid (strange_any vars g m f t[k] wr (HN.out _ HB.out) (HW.out _ (List.getElem_mem hkl)))
      have HS : Hid (∀ q, strangeB vars f t[k] = q → (t.take (k + 1)).any (strangeB vars f) = q ∧ (q = true → t.any (strangeB vars f) = true)) := Lib.hid fun q hq => ⟨by rw [List.take_succ_eq_append_getElem hkl, List.any_append, HT.out, Bool.false_or, List.any_cons, List.any_nil, Bool.or_false, hq], fun h => List.any_eq_true.2 ⟨_, List.getElem_mem hkl, hq.trans h⟩⟩
      clear hA2
      generalize strangeB vars f t[k] = q at *
      generalize t[k] = x at *
      obtain ⟨xo, xA, xB⟩ := x
      simp only at r0 r1 r2
      go_wp2_with fail
      refine (HC.out).mono ?_
      rintro e w1 ⟨rfl, hb1⟩
      have HB1 := Lib.hid (below_step HB.out hb1)
      have HS1 := Lib.hid (HS.out q rfl)
      clear hb1
      cases q with
      | true =>
        have HS2 : Hid (t.any (strangeB vars f) = true) := Lib.hid (HS1.out.2 rfl)
        go_wp2_with fail
        go_ret
        exact ⟨_, rfl, by unfold I64; omega, by rw [HS2.out]; exact decide_eq_true (by omega), HB1.out⟩
      | false =>
        have HT1 := Lib.hid HS1.out.1
        go_wp2_with fail
        go_roundw
        case rel => exact ⟨k + 1, by go_num, by omega, HT1, HB1⟩
        case measure => simp [intOf] <;> omega
    · obtain rfl : k = n := by omega
      go_wp2_with fail
      go_ret
      exact ⟨_, rfl, by unfold I64; omega, by have := HT.out; rw [List.take_of_length_le (by rw [HL.out]; exact Nat.le_refl _)] at this; rw [this]; rfl, HB.out⟩
set_option maxRecDepth 100000 in
theorem contains_strange (vars : Int) (g m : Nat) (f : Node3 → Bool) (A : Option Addr) (n c : Nat) (t : List Node3) (w : World) (hn : t.length = n) (hnb : n ≤ 4611686018427387904) (hA : Holds w A (nodesV t)) (hw : ∀ x ∈ t, Wide3 x) (hN : OwnsN w g m f) :
    Calls Tryz.prog 87 #[.slice A n c, .func (.func 88) #[scopeA vars g] #[]] w fun e w' => e = .returned (.bool (t.any (strangeB vars f))) ∧ Below w.heap.size w w' := by
  have HC := Lib.hid (index_strange vars g m f A n c t w hn hnb hA hw hN)
  clear hn hA hw hN
  go_enter Tryz.func87, Tryz.ntmps87
  go_wp2_with fail
  refine (HC.out).mono ?_
  rintro e w1 ⟨i, rfl, hi, hd, hb1⟩
  have HD := Lib.hid hd
  have HB := Lib.hid hb1
  clear hd hb1
  by_cases h0 : 0 ≤ i
  · go_wp2_with fail
    go_ret
    exact ⟨ret_bool ((decide_eq_true h0).symm.trans HD.out), HB.out⟩
  · have h1 : i < 0 := by omega
    go_wp2_with fail
    go_ret
    exact ⟨ret_bool (by rw [← HD.out]), HB.out⟩
set_option maxRecDepth 100000 in
set_option maxHeartbeats 2000000 in
theorem rowFault_any (vars : Int) (g m : Nat) (f : Node3 → Bool) (A : Option Addr) (n c : Nat) (t : List Node3) (free : Int) (w : World) (hn : t.length = n) (hnb : n ≤ 4611686018427387904) (hA : Holds w A (nodesV t)) (hw : ∀ x ∈ t, Wide3 x) (hN : OwnsN w g m f) (hL : Lim w) :
    Calls Tryz.prog 39 #[scopeA vars g, .slice A n c, .int .i64 free] w fun e w' => e = .returned (.int .i64 (rowF vars f free t)) ∧ Below w.heap.size w w' := by
  have hb1 : Below w.heap.size w (w.alloc (.cells #[.int .i64 vars, .map (some g)] 74)) := (Below.refl _ _).alloc (Nat.le_refl _) _
  have hs := holds_at w #[.int .i64 vars, .map (some g)] 74 _ rfl
  have HB := Lib.hid hb1
  have HS := Lib.hid hs
  have HBE := Lib.hid (tbelow_any A n c t free _ hn (hA.below hb1) (hL.next hb1))
  have HC := Lib.hid (fun W (hb : Below w.heap.size w W) => contains_strange vars g m f A n c t W hn hnb (hA.below hb) hw (hN.below hb))
  obtain ⟨r, hr⟩ : ∃ r, r = rowF vars f free t := ⟨_, rfl⟩
  rw [← hr]
  unfold rowF at hr
  rw [hn] at hr
  have HR := Lib.hid hr
  clear hr hs hb1 hn hA hw hN hL
  by_cases hbig : 4096 < n
  · go_enter Tryz.func39, Tryz.ntmps39
    go_wp2_with fail
    go_ret
    exact ⟨ret_i64 (by rw [HR.out, if_pos hbig]), HB.out⟩
  have HR2 : Hid (r = if (!(belowS t free) || t.any (strangeB vars f)) = true then 8 else 0) := Lib.hid (by rw [HR.out, if_neg hbig])
  clear HR
  generalize belowS t free = q at *
  cases q with
  | false =>
    go_enter Tryz.func39, Tryz.ntmps39
    go_wp2_with fail
    refine (HBE.out).mono ?_
    rintro e w1 ⟨rfl, hb2⟩
    go_wp2_with fail
    go_ret
    exact ⟨ret_i64 (by rw [HR2.out]; rfl), below_step HB.out hb2⟩
  | true =>
    go_enter Tryz.func39, Tryz.ntmps39
    go_wp2_with fail
    refine (HBE.out).mono ?_
    rintro e w1 ⟨rfl, hb2⟩
    have hs1 := HS.out.below hb2
    have s0 := hs1.cell (j := 0) rfl
    have s1 := hs1.cell (j := 1) rfl
    rw [Nat.zero_add] at s0 s1
    have HC1 := Lib.hid (HC.out _ (below_step HB.out hb2))
    have HB1 := Lib.hid (below_step HB.out hb2)
    clear hs1 hb2 HC
    generalize t.any (strangeB vars f) = z at *
    go_wp2_with fail
    refine (HC1.out).mono ?_
    rintro e w2 ⟨rfl, hb3⟩
    cases z with
    | false =>
      go_wp2_with fail
      go_ret
      exact ⟨ret_i64 (by rw [HR2.out]; rfl), below_step HB1.out hb3⟩
    | true =>
      go_wp2_with fail
      go_ret
      exact ⟨ret_i64 (by rw [HR2.out]; rfl), below_step HB1.out hb3⟩
end Go.Proofs.YtfeodppdmbideaaGreatDoor
namespace Go.Proofs.YtfeodppdmbideaaGreatDoor
open Go.RowKit

theorem rowE_zero {th : Node3 → Bool} {b : Int} {t : List Node3} (h : rowE th b t = 0) : shapeOf t = 0 ∧ belowS t b = true ∧ t.all th = true := by
  unfold rowE at h
  split at h
  · rename_i h1
    exact absurd h h1
  · rename_i h1
    split at h
    · rename_i h2
      rw [Bool.and_eq_true] at h2
      exact ⟨by simpa using h1, h2.1, h2.2⟩
    · cases h
theorem shape_len {t : List Node3} (h : shapeOf t = 0) : t.length ≤ 4096 := (right_of h).1
theorem rowE_len {th : Node3 → Bool} {b : Int} {t : List Node3} (h : rowE th b t = 0) : t.length ≤ 4096 := shape_len (rowE_zero h).1
theorem firstE_all {α : Type} {f : α → Int} : ∀ {l : List α} {i : Nat}, firstE (fun _ x => f x) i l = 0 → ∀ x ∈ l, f x = 0 := fun h x hx => by
  obtain ⟨j, hj, rfl⟩ := List.getElem_of_mem hx
  exact firstE_zero (f := fun _ x => f x) h j hj
theorem ctorE_zero {R : Int → List Node3 → Int} {np ni : Nat} {c : CtorP} (h : ctorE R np ni c = 0) :
    c.args.length ≤ 16 ∧ c.out.length = ni ∧ (∀ j (hj : j < c.args.length), R ((np : Int) + (j : Int)) c.args[j] = 0) ∧ ∀ t ∈ c.out, R ((np : Int) + (c.args.length : Int)) t = 0 := by
  unfold ctorE at h
  split at h
  · cases h
  rename_i h1
  split at h
  · cases h
  rename_i h2
  split at h
  · rename_i h3
    exact absurd h h3
  rename_i h3
  refine ⟨by omega, by omega, fun j hj => ?_, firstE_all h⟩
  have := firstE_zero (f := fun j t => R ((np : Int) + (j : Int)) t) (i := 0) (by omega) j hj
  simpa using this
theorem defE_zero {R : Int → List Node3 → Int} {x : EntP} (h : defE R x = 0) : (x.sort = [] ∧ x.pars = [] ∧ x.inds = [] ∧ x.ctors = []) ∧ R 0 x.typ = 0 ∧ R 0 x.body = 0 := by
  unfold defE at h
  split at h
  · cases h
  rename_i h1
  simp only [not_or, ne_eq, Classical.not_not] at h1
  have := firstE_all h
  exact ⟨h1, this _ (by simp), this _ (by simp)⟩
theorem famE_zero {R Rs : Int → List Node3 → Int} {x : EntP} (h : famE R Rs x = 0) :
    (x.typ = [] ∧ x.body = []) ∧ (x.pars.length ≤ 16 ∧ x.inds.length ≤ 16 ∧ x.ctors.length ≤ 16) ∧ R 0 x.sort = 0 ∧ (x.sort.head?.getD (0, 0, 0)).1 = 2 ∧ (∀ j (hj : j < (x.pars ++ x.inds).length), R (j : Int) (x.pars ++ x.inds)[j] = 0) ∧ ∀ c ∈ x.ctors, ctorE Rs x.pars.length x.inds.length c = 0 := by
  unfold famE at h
  split at h
  · cases h
  rename_i h1
  simp only [not_or, ne_eq, Classical.not_not] at h1
  split at h
  · cases h
  rename_i h2
  split at h
  · rename_i h3
    exact absurd h h3
  rename_i h3
  split at h
  · cases h
  rename_i h4
  split at h
  · rename_i h5
    exact absurd h h5
  rename_i h5
  refine ⟨h1, by omega, by omega, by omega, fun j hj => ?_, firstE_all h⟩
  have := firstE_zero (f := fun j t => R (j : Int) t) (i := 0) (by omega) j hj
  simpa using this
/-- The rows of a right entry. -/
theorem entE_rows {v : Int} {ents : List EntP} {i : Nat} {x : EntP} (h : entE v ents i x = 0) :
    x.sort.length ≤ 4096 ∧ x.typ.length ≤ 4096 ∧ x.body.length ≤ 4096 ∧ (∀ t ∈ x.pars ++ x.inds, t.length ≤ 4096) ∧ (x.pars.length ≤ 16 ∧ x.inds.length ≤ 16 ∧ x.ctors.length ≤ 16) ∧
    ∀ c ∈ x.ctors, c.args.length ≤ 16 ∧ c.out.length = x.inds.length ∧ (∀ t ∈ c.args, t.length ≤ 4096) ∧ ∀ t ∈ c.out, t.length ≤ 4096 := by
  unfold entE at h
  split at h
  · obtain ⟨⟨h1, h2⟩, h3, h4, -, h5, h6⟩ := famE_zero h
    refine ⟨rowE_len h4, by rw [h1]; simp, by rw [h2]; simp, fun t ht => ?_, h3, fun c hc => ?_⟩
    · obtain ⟨j, hj, rfl⟩ := List.getElem_of_mem ht
      exact rowE_len (h5 j hj)
    · obtain ⟨k1, k2, k3, k4⟩ := ctorE_zero (h6 c hc)
      refine ⟨k1, k2, fun t ht => ?_, fun t ht => rowE_len (k4 t ht)⟩
      obtain ⟨j, hj, rfl⟩ := List.getElem_of_mem ht
      exact rowE_len (k3 j hj)
  · split at h
    · obtain ⟨⟨h1, h2, h3, h4⟩, h5, h6⟩ := defE_zero h
      rw [h1, h2, h3, h4]
      exact ⟨by simp, rowE_len h5, rowE_len h6, by simp, by simp, by simp⟩
    · cases h
end Go.Proofs.YtfeodppdmbideaaGreatDoor
