/- The way to the laws of books: BPrim to BPrims. -/
import Derived.Test.YtfeodppdmbideaaGreatDoorBA11
import Derived.Test.YtfeodppdmbideaaGreatDoorBA3
import Derived.Test.YtfeodppdmbideaaGreatDoorBA5
namespace Go.Proofs.YtfeodppdmbideaaGreatDoor
open Go.RowKit

set_option maxRecDepth 100000 in
set_option maxHeartbeats 1000000 in
theorem equal_any (A B : Option Addr) (c d : Nat) (l r : List Node3) (w : World) (hA : Holds w A (nodesV l)) (hB : Holds w B (nodesV r)) (hl : l.length ≤ 1000000000) (v : Bool) (hv : v = decide (l = r)) :
    Calls Tryz.prog 127 #[.slice A l.length c, .slice B r.length d] w fun e w' => e = .returned (.bool v) ∧ ∃ q, w' = w.drewN q := by
  have HV := Lib.hid hv
  clear hv
  by_cases hn : l.length = r.length
  · have HN := Lib.hid hn
    obtain ⟨n, hnl⟩ : ∃ n, n = l.length := ⟨_, rfl⟩
    rw [← hn, ← hnl]
    rw [← hnl] at hl
    have HNL := Lib.hid hnl
    clear hn hnl
    go_enter Tryz.func127, Tryz.ntmps127
    go_wp2_with fail
    go_loopw [13] (fun i wr => (∃ q, wr = w.drewN q) ∧ ∃ k : Nat, k ≤ n ∧ i = .int .i64 k ∧ Hid (l.take k = r.take k)) (fun i _ => n - (intOf i).toNat)
    case atStart => exact ⟨⟨0, rfl⟩, 0, Nat.zero_le _, rfl, show _ = _ by simp⟩
    case round =>
      obtain ⟨⟨q, hq⟩, k, hk, rfl, HA⟩ := hrel
      have HQ : Hid (∃ q, wr = w.drewN q) := ⟨q, hq⟩
      have hA' : Holds wr A (nodesV l) := by rw [hq]; exact hA
      have hB' : Holds wr B (nodesV r) := by rw [hq]; exact hB
      clear hq
      by_cases hlt : k < n
      · have kl : k < l.length := by have := HNL.out; omega
        have kr : k < r.length := by have := HN.out; omega
        obtain ⟨b, o, rfl, hcM⟩ := hA' (by rw [nodesV_len]; omega)
        obtain ⟨b', o', rfl, hcN⟩ := hB' (by rw [nodesV_len]; omega)
        have s0 := hcM (k * 3) _ (nodesV_get0 kl)
        have s1 := hcM (k * 3 + 1) _ (nodesV_get1 kl)
        have s2 := hcM (k * 3 + 2) _ (nodesV_get2 kl)
        have t0 := hcN (k * 3) _ (nodesV_get0 kr)
        have t1 := hcN (k * 3 + 1) _ (nodesV_get1 kr)
        have t2 := hcN (k * 3 + 2) _ (nodesV_get2 kr)
        rw [← Nat.add_assoc] at s1 s2 t1 t2
        have ht1 := List.take_succ_eq_append_getElem kl
        have ht2 := List.take_succ_eq_append_getElem kr
        have hne : l[k] ≠ r[k] → v = false := fun h => by
          rw [HV.out, decide_eq_false_iff_not]
          intro e
          subst e
          exact h rfl
        have HNE := Lib.hid hne
        have HT1 := Lib.hid ht1
        have HT2 := Lib.hid ht2
        clear hcM hcN hne ht1 ht2
        generalize l[k] = x at *
        generalize r[k] = y at *
        obtain ⟨p, q, u⟩ := x
        obtain ⟨p', q', u'⟩ := y
        simp only at s0 s1 s2 t0 t1 t2
        by_cases e1 : p = p'
        · subst e1
          by_cases e2 : q = q'
          · subst e2
            by_cases e3 : u = u'
            · subst e3
              go_wp2_with fail
              go_region
              go_wp2_with fail
              go_roundw
              case rel => exact ⟨by obtain ⟨q, hq⟩ := HQ.out; exact ⟨q + 1, by rw [hq]; rfl⟩, k + 1, by omega, by go_num, show _ = _ by rw [HT1.out, HT2.out, HA.out]⟩
              case measure => simp [intOf] <;> omega
            · have HF := Lib.hid (HNE.out (by simp [e3]))
              go_wp2_with fail
              go_region
              go_wp2_with fail
              go_ret
              exact ⟨ret_bool HF.out.symm, by obtain ⟨q, hq⟩ := HQ.out; exact ⟨q + 1, by rw [hq]; rfl⟩⟩
          · have HF := Lib.hid (HNE.out (by simp [e2]))
            go_wp2_with fail
            go_region
            go_wp2_with fail
            go_ret
            exact ⟨ret_bool HF.out.symm, by obtain ⟨q, hq⟩ := HQ.out; exact ⟨q + 1, by rw [hq]; rfl⟩⟩
        · have HF := Lib.hid (HNE.out (by simp [e1]))
          go_wp2_with fail
          go_region
          go_wp2_with fail
          go_ret
          exact ⟨ret_bool HF.out.symm, by obtain ⟨q, hq⟩ := HQ.out; exact ⟨q + 1, by rw [hq]; rfl⟩⟩
      · have hk' : k = n := by omega
        subst hk'
        have he : v = true := by
          have h1 := HA.out
          rw [List.take_of_length_le (by have := HNL.out; omega), List.take_of_length_le (by have := HNL.out; have := HN.out; omega)] at h1
          rw [HV.out, h1]; simp
        have HD := Lib.hid he
        clear he
        go_wp2_with fail
        go_ret
        exact ⟨ret_bool HD.out.symm, HQ.out⟩
  · have hz : ((l.length : Int) != (r.length : Int)) = true := by simp; omega
    have he : v = false := by
      rw [HV.out, decide_eq_false_iff_not]
      intro e
      exact hn (by rw [e])
    have HF := Lib.hid he
    clear hn he
    go_enter Tryz.func127, Tryz.ntmps127
    go_wp2_with fail
    go_ret
    exact ⟨ret_bool HF.out.symm, 0, rfl⟩

theorem equal_n (A B : Option Addr) (n m c d : Nat) (l r : List Node3) (w : World) (hn : l.length = n) (hm : r.length = m) (hA : Holds w A (nodesV l)) (hB : Holds w B (nodesV r)) (hl : n ≤ 1000000000) (v : Bool) (hv : v = decide (l = r)) :
    Calls Tryz.prog 127 #[.slice A n c, .slice B m d] w fun e w' => e = .returned (.bool v) ∧ Below w.heap.size w w' := by
  subst hn hm
  exact (equal_any A B c d l r w hA hB hl v hv).mono fun e w' h => ⟨h.1, by obtain ⟨q, hq⟩ := h.2; rw [hq]; exact below_drewN (Below.refl _ _) q⟩
set_option maxRecDepth 100000 in
set_option maxHeartbeats 1000000 in
theorem clash_any (p q : Int × Int) (w : World) : Calls Tryz.prog 129 #[.agg #[.int .i64 p.1, .int .i64 p.2], .agg #[.int .i64 q.1, .int .i64 q.2]] w fun e w' => e = .returned (.bool (clashB p q)) ∧ Below w.heap.size w w' := by
  obtain ⟨p1, p2⟩ := p
  obtain ⟨q1, q2⟩ := q
  have HB := Lib.hid (show Below w.heap.size w ((w.alloc (.cells #[.int .i64 p1, .int .i64 p2] 80)).alloc (.cells #[.int .i64 q1, .int .i64 q2] 80)) from ((Below.refl _ _).alloc (Nat.le_refl _) _).alloc (by simp) _)
  have HC := Lib.hid (show clashB (p1, p2) (q1, q2) = (decide (p1 = q1) || decide (p2 = q2)) from rfl)
  generalize clashB (p1, p2) (q1, q2) = v at *
  by_cases h1 : p1 = q1
  · subst h1
    go_enter Tryz.func129, Tryz.ntmps129
    go_wp2_with fail
    go_ret
    exact ⟨ret_bool (by rw [HC.out]; simp), HB.out⟩
  · by_cases h2 : p2 = q2
    · subst h2
      go_enter Tryz.func129, Tryz.ntmps129
      go_wp2_with fail
      go_ret
      exact ⟨ret_bool (by rw [HC.out]; simp), HB.out⟩
    · go_enter Tryz.func129, Tryz.ntmps129
      go_wp2_with fail
      go_ret
      exact ⟨ret_bool (by rw [HC.out]; simp [h1, h2]), HB.out⟩
set_option maxRecDepth 100000 in
theorem prims1_any (b : Nat) (p q : Int × Int) (w : World) (hp : Holds w (some ⟨b, 0, none⟩) [.int .i64 p.1, .int .i64 p.2]) :
    Calls Tryz.prog 128 #[.agg #[.int .i64 q.1, .int .i64 q.2], .pointer (some ⟨b, 0, none⟩)] w fun e w' => e = .returned (.bool (clashB p q)) ∧ Below w.heap.size w w' := by
  have hb : Below w.heap.size w (w.alloc (.cells #[.int .i64 q.1, .int .i64 q.2] 80)) := (Below.refl _ _).alloc (Nat.le_refl _) _
  have h2 := hp.below hb
  have s0 := h2.cell (j := 0) rfl
  have s1 := h2.cell (j := 1) rfl
  rw [Nat.zero_add] at s0 s1
  have HC := Lib.hid (clash_any p q (w.alloc (.cells #[.int .i64 q.1, .int .i64 q.2] 80)))
  have HB := Lib.hid hb
  clear h2 hp hb
  generalize clashB p q = v at *
  obtain ⟨p1, p2⟩ := p
  obtain ⟨q1, q2⟩ := q
  simp only at s0 s1
  go_enter Tryz.func128, Tryz.ntmps128
  go_wp2_with fail
  refine (HC.out).mono ?_
  rintro e w1 ⟨rfl, hb1⟩
  go_wp2_with fail
  go_ret
  exact ⟨rfl, below_step HB.out hb1⟩
theorem enters_prims1 : ∀ args w, (callFunc 128 args).run Tryz.prog w = .ok (.enter 128 args) w := fun args w => by simp [go_sem]
set_option maxRecDepth 100000 in
set_option maxHeartbeats 4000000 in
theorem index_prims (bp : Nat) (p : Int × Int) (A : Option Addr) (n c : Nat) (l : List (Int × Int)) (w : World) (hn : l.length = n) (hnb : n ≤ 4611686018427387904) (hA : Holds w A (atomsV l)) (hp : Holds w (some ⟨bp, 0, none⟩) [.int .i64 p.1, .int .i64 p.2]) :
    Calls Tryz.prog 177 #[.slice A n c, .func (.func 128) #[] #[.pointer (some ⟨bp, 0, none⟩)]] w fun e w' => ∃ i : Int, e = .returned (.int .i64 i) ∧ I64 i ∧ decide (0 ≤ i) = l.any (fun q => clashB p q) ∧ Below w.heap.size w w' := by
  have HP := Lib.hid (show ∀ w', Below w.heap.size w w' → Holds w' (some ⟨bp, 0, none⟩) [.int .i64 p.1, .int .i64 p.2] from fun w' hb => hp.below hb)
  have HA := Lib.hid (show ∀ w', Below w.heap.size w w' → Holds w' A (atomsV l) from fun w' hb => hA.below hb)
  have HL := Lib.hid hn
  have hen := enters_prims1
  clear hp hA hn
  go_enter Tryz.func177, Tryz.ntmps177
  go_wp2_with fail
  go_loopw [8] (fun i wr => ∃ k : Nat, i = .int .i64 (k : Int) ∧ k ≤ n ∧ Hid ((l.take k).any (fun q => clashB p q) = false) ∧ Hid (Below w.heap.size w wr)) (fun i _ => n - (intOf i).toNat)
  case atStart => exact ⟨0, rfl, Nat.zero_le _, Lib.hid (by simp), Lib.hid (Below.refl _ _)⟩
  case round =>
    obtain ⟨k, rfl, hk, HT, HB⟩ := hrel
    by_cases hlt : k < n
    · have hkl : k < l.length := by have := HL.out; omega
      have hA2 := HA.out _ HB.out
      obtain ⟨b, o, rfl, -, -⟩ := hA2.at_ (by rw [atomsV_len]; omega)
      have r0 := hA2.cell (atomsV_get0 hkl)
      have r1 := hA2.cell (atomsV_get1 hkl)
      rw [← Nat.add_assoc] at r1
      have HC := Lib.hid (prims1_any bp p l[k] wr (HP.out _ HB.out))
      have HS : Hid (∀ v, clashB p l[k] = v → (l.take (k + 1)).any (fun q => clashB p q) = v ∧ (v = true → l.any (fun q => clashB p q) = true)) := Lib.hid fun v hv => ⟨by rw [List.take_succ_eq_append_getElem hkl, List.any_append, HT.out, Bool.false_or, List.any_cons, List.any_nil, Bool.or_false, hv], fun h => List.any_eq_true.2 ⟨_, List.getElem_mem hkl, hv.trans h⟩⟩
      clear hA2
      generalize clashB p l[k] = v at *
      generalize l[k] = x at *
      obtain ⟨x1, x2⟩ := x
      simp only at r0 r1 HC
      go_wp2_with fail
      refine (HC.out).mono ?_
      rintro e w1 ⟨rfl, hb1⟩
      have HB1 := Lib.hid (below_step HB.out hb1)
      have HS1 := Lib.hid (HS.out v rfl)
      clear hb1
      cases v with
      | true =>
        have HS2 : Hid (l.any (fun q => clashB p q) = true) := Lib.hid (HS1.out.2 rfl)
        go_wp2_with fail
        go_ret
        exact ⟨_, rfl, by unfold I64; omega, by rw [HS2.out]; exact decide_eq_true (by omega), HB1.out⟩
      | false =>
        have HT1 := Lib.hid HS1.out.1
        go_wp2_with fail
        go_roundw
        case rel => exact ⟨k + 1, by go_num, by omega, HT1, HB1⟩
        case measure => simp [intOf] <;> omega
    · obtain rfl : k = n := by omega
      go_wp2_with fail
      go_ret
      exact ⟨_, rfl, by unfold I64; omega, by have := HT.out; rw [List.take_of_length_le (by rw [HL.out]; exact Nat.le_refl _)] at this; rw [this]; rfl, HB.out⟩
set_option maxRecDepth 100000 in
theorem contains_prims (bp : Nat) (p : Int × Int) (A : Option Addr) (n c : Nat) (l : List (Int × Int)) (w : World) (hn : l.length = n) (hnb : n ≤ 4611686018427387904) (hA : Holds w A (atomsV l)) (hp : Holds w (some ⟨bp, 0, none⟩) [.int .i64 p.1, .int .i64 p.2]) (v : Bool) (hv : l.any (fun q => clashB p q) = v) :
    Calls Tryz.prog 130 #[.slice A n c, .func (.func 128) #[] #[.pointer (some ⟨bp, 0, none⟩)]] w fun e w' => e = .returned (.bool v) ∧ Below w.heap.size w w' := by
  have HC := Lib.hid (index_prims bp p A n c l w hn hnb hA hp)
  rw [hv] at HC
  clear hn hA hp hv
  go_enter Tryz.func130, Tryz.ntmps130
  go_wp2_with fail
  refine (HC.out).mono ?_
  rintro e w1 ⟨i, rfl, hi, hd, hb1⟩
  have HD := Lib.hid hd
  have HB := Lib.hid hb1
  clear hd hb1
  by_cases h0 : 0 ≤ i
  · go_wp2_with fail
    go_ret
    exact ⟨ret_bool ((decide_eq_true h0).symm.trans HD.out), HB.out⟩
  · have h1 : i < 0 := by omega
    go_wp2_with fail
    go_ret
    exact ⟨ret_bool (by rw [← HD.out]), HB.out⟩
end Go.Proofs.YtfeodppdmbideaaGreatDoor
namespace Go.Proofs.YtfeodppdmbideaaGreatDoor
open Go.RowKit

theorem name_const {ents : List EntP} {n : Nat} {e : Int} : nameB ents n (8, e, 0) = kindB ents 2 e n := by simp [nameB]
/-- One primitive is as it must be, behind these. -/
def primOk (ents : List EntP) (pre : List (Int × Int)) (p : Int × Int) : Bool := primB ents p && !(pre.any fun q => clashB p q)
theorem primsA_step (ents : List EntP) : ∀ (pre l : List (Int × Int)), primsA ents pre l = (List.range l.length).all fun k => primOk ents (pre ++ l.take k) (l.getD k (0, 0))
  | pre, [] => rfl
  | pre, p :: l => by
    rw [primsA, primsA_step ents (pre ++ [p]) l, List.length_cons, List.range_succ_eq_map, List.all_cons, List.all_map]
    simp only [List.take_zero, List.append_nil, List.getD_cons_zero]
    have e : (fun k => primOk ents (pre ++ [p] ++ l.take k) (l.getD k (0, 0))) = (fun k => primOk ents (pre ++ (p :: l).take k) ((p :: l).getD k (0, 0))) ∘ Nat.succ := by
      funext k
      simp
    rw [e]
    rfl
theorem primsA_no {ents : List EntP} {l : List (Int × Int)} {k : Nat} (h : k < l.length) (hk : primOk ents (l.take k) l[k] = false) : primsA ents [] l = false := by
  rw [primsA_step]
  refine List.all_eq_false.2 ⟨k, List.mem_range.2 h, ?_⟩
  rw [List.nil_append, List.getD_eq_getElem?_getD, List.getElem?_eq_getElem h]
  simp only [Option.getD_some]
  rw [hk]; simp
theorem primsA_yes {ents : List EntP} {l : List (Int × Int)} (h : ∀ k (hk : k < l.length), primOk ents (l.take k) l[k] = true) : primsA ents [] l = true := by
  rw [primsA_step]
  refine List.all_eq_true.2 fun k hk => ?_
  have hk := List.mem_range.1 hk
  rw [List.nil_append, List.getD_eq_getElem?_getD, List.getElem?_eq_getElem hk]
  exact h k hk
theorem prims_run (b o n c k : Nat) (hk : k ≤ c) (w : World) : (Instr.slice 24 (.slice (some ⟨b, o, none⟩) n c) none (some (.int .i64 (k : Int))) none).run Tryz.prog w = .ok (.slice (some ⟨b, o, none⟩) k c) w := by
  have ht : Tryz.prog.underlying 24 = some (.slice (Tryz.prog.elem 24)) := by kernel_rfl
  have hz : (sizeOf (Tryz.prog.elem 24)).run Tryz.prog w = .ok 2 w := by kernel_rfl
  rw [run_slice_h (P := Tryz.prog) (t := 24) (len := n) (cap := c) (ht := ht) (kh := .i64) (h := (k : Int)) (h0 := by omega) (h2 := by omega), hz]
  simp [Result.andThen, sliced, add_off]
theorem take_atoms {w : World} {b o k : Nat} {l : List (Int × Int)} (h : Holds w (some ⟨b, o, none⟩) (atomsV l)) : Holds w (some ⟨b, o, none⟩) (atomsV (l.take k)) := fun hn => by
  refine ⟨b, o, rfl, fun j u hu => ?_⟩
  have e : atomsV l = atomsV (l.take k) ++ atomsV (l.drop k) := by rw [← atomsV_append, List.take_append_drop]
  exact h.cell (by rw [e, List.getElem?_append_left (List.getElem?_eq_some_iff.1 hu).1]; exact hu)
abbrev bookBox (v : Int) (oA eA pA : Option Addr) (on_ oc en ec pn pc : Nat) (nat : Int) : Obj := .cells #[.int .i64 v, .slice oA on_ oc, .slice eA en ec, .int .i64 nat, .slice pA pn pc] 26
set_option maxRecDepth 100000 in
set_option maxHeartbeats 8000000 in
theorem prims_any (vars : Int) (g m : Nat) (v : Int) (oA eA pA : Option Addr) (on_ oc en ec pn pc : Nat) (nat : Int) (ents : List EntP) (ords : List Node3) (l : List (Int × Int)) (w : World) (hl : l.length = pn) (hs : Slice pA pn pc) (hA : Holds w pA (atomsV l)) (hpb : pn ≤ 4611686018427387904)
    (hwp : ∀ x ∈ l, I64 x.1 ∧ I64 x.2) (hel : ents.length = en) (hN : OwnsN w g m (nameB ents en)) :
    Calls Tryz.prog 83 #[scopeA vars g, .agg #[.int .i64 v, .slice oA on_ oc, .slice eA en ec, .int .i64 nat, .slice pA pn pc]] w fun e w' => e = .returned (.bool (primsB ⟨v, ords, ents, nat, l⟩)) ∧ Below w.heap.size w w' := by
  obtain ⟨r, hr⟩ : ∃ r, r = primsB ⟨v, ords, ents, nat, l⟩ := ⟨_, rfl⟩
  rw [← hr]
  unfold primsB at hr
  simp only at hr
  have HR := Lib.hid hr
  have hbx : Below w.heap.size w ((w.alloc (.cells #[.int .i64 vars, .map (some g)] 74)).alloc (bookBox v oA eA pA on_ oc en ec pn pc nat)) := ((Below.refl _ _).alloc (Nat.le_refl _) _).alloc (by simp) _
  have hS0 := (holds_at w #[.int .i64 vars, .map (some g)] 74 _ rfl).alloc (bookBox v oA eA pA on_ oc en ec pn pc nat)
  have hB0 := holds_at (w.alloc (.cells #[.int .i64 vars, .map (some g)] 74)) #[.int .i64 v, .slice oA on_ oc, .slice eA en ec, .int .i64 nat, .slice pA pn pc] 26 _ rfl
  rw [World.size_alloc] at hB0
  have HA := Lib.hid (show ∀ w', Below w.heap.size w w' → Holds w' pA (atomsV l) from fun w' hb => hA.below hb)
  have HN := Lib.hid (show ∀ w', Below w.heap.size w w' → OwnsN w' g m (nameB ents en) from fun w' hb => hN.below hb)
  have HL := Lib.hid hl
  have HEL := Lib.hid hel
  have HS := Lib.hid hs
  have HW := Lib.hid hwp
  clear hr hA hN hl hel hs hwp
  go_enter Tryz.func83, Tryz.ntmps83
  go_wp2_with fail
  obtain ⟨w2, hw2⟩ : ∃ w2, (w.alloc (.cells #[.int .i64 vars, .map (some g)] 74)).alloc (bookBox v oA eA pA on_ oc en ec pn pc nat) = w2 := ⟨_, rfl⟩
  rw [hw2] at hbx hS0 hB0 ⊢
  have HB2 := Lib.hid hbx
  have HS2 := Lib.hid hS0
  have HK2 := Lib.hid hB0
  clear hw2 hbx hS0 hB0
  go_loopw [11] (fun i wr => ∃ k : Nat, i = .int .i64 (k : Int) ∧ k ≤ pn ∧ Hid (∀ j (h : j < l.length), j < k → primOk ents (l.take j) l[j] = true) ∧ Hid (Below w2.heap.size w2 wr)) (fun i _ => pn - (intOf i).toNat)
  case atStart => exact ⟨0, rfl, Nat.zero_le _, Lib.hid (fun j _ hj => absurd hj (by omega)), Lib.hid (Below.refl _ _)⟩
  case round =>
    obtain ⟨k, rfl, hk, HZ, HB⟩ := hrel
    by_cases hlt : k < pn
    · have hkl : k < l.length := by have := HL.out; omega
      have hbw := below_step HB2.out HB.out
      have hA2 := HA.out _ hbw
      obtain ⟨b, o, rfl, -, -⟩ := hA2.at_ (by rw [atomsV_len]; omega)
      have r0 := hA2.cell (atomsV_get0 hkl)
      have r1 := hA2.cell (atomsV_get1 hkl)
      rw [← Nat.add_assoc] at r1
      have hpc : pn ≤ pc := HS.out.1
      have hpm : pc ≤ 9223372036854775807 := HS.out.2.1
      have hwk := HW.out _ (List.getElem_mem hkl)
      have HRN : Hid (primOk ents (l.take k) l[k] = false → r = false) := Lib.hid fun h => by rw [HR.out, primsA_no hkl h, Bool.false_and]
      have HRY : Hid (primOk ents (l.take k) l[k] = true → ∀ j (h : j < l.length), j < k + 1 → primOk ents (l.take j) l[j] = true) := Lib.hid fun h j hjl hj => by
        rcases Nat.lt_or_ge j k with h1 | h1
        · exact HZ.out j hjl h1
        · obtain rfl : j = k := by omega
          exact h
      have HPE : Hid (primOk ents (l.take k) l[k] = (primB ents l[k] && !((l.take k).any fun q => clashB l[k] q))) := Lib.hid rfl
      have HTK := Lib.hid (show (l.take k).length = k by rw [List.length_take]; omega)
      generalize primOk ents (l.take k) l[k] = ok at *
      obtain ⟨cl, hcl⟩ : ∃ cl, ((l.take k).any fun q => clashB l[k] q) = cl := ⟨_, rfl⟩
      have HCL := Lib.hid hcl
      rw [hcl] at HPE
      clear hcl
      generalize l[k] = x at *
      obtain ⟨x1, x2⟩ := x
      simp only at r0 r1 hwk
      have hbp : Below wr.heap.size wr (wr.alloc (.cells #[.int .i64 x1, .int .i64 x2] 80)) := (Below.refl _ _).alloc (Nat.le_refl _) _
      have HBP := Lib.hid (below_step HB.out hbp)
      have HP0 := Lib.hid (holds_at wr #[.int .i64 x1, .int .i64 x2] 80 _ rfl)
      have hs2 := (HS2.out.below HBP.out)
      have s0 := hs2.cell (j := 0) rfl
      have s1 := hs2.cell (j := 1) rfl
      rw [Nat.zero_add] at s0 s1
      have HK := Lib.hid (knows_any vars g m (nameB ents en) (8, x1, 0) _ (HN.out _ (below_step HB2.out HBP.out)) ⟨by unfold I64; simp, hwk.1, by unfold I64; simp⟩)
      rw [name_const] at HK
      have HKB : Hid (primB ents (x1, x2) = (kindB ents 2 x1 en && decide (1 ≤ x2 ∧ x2 ≤ 3))) := Lib.hid (by unfold primB; rw [HEL.out])
      clear hA2 hbw hbp hs2
      generalize kindB ents 2 x1 en = kb at *
      cases kb with
      | false =>
        have HX := Lib.hid (HRN.out (by rw [HPE.out, HKB.out]; rfl))
        clear HRN HRY HPE HKB
        go_wp2_with fail
        refine (HK.out).mono ?_
        rintro e w3 ⟨rfl, hb3⟩
        go_wp2_with fail
        go_ret
        exact ⟨ret_bool HX.out.symm, below_step (below_step HB2.out HBP.out) hb3⟩
      | true =>
        go_wp2_with fail
        refine (HK.out).mono ?_
        rintro e w3 ⟨rfl, hb3⟩
        have HB3 := Lib.hid (below_step HBP.out hb3)
        have HP3 := Lib.hid (HP0.out.below hb3)
        have p1 := HP3.out.cell (j := 1) rfl
        have hk3 := HK2.out.below HB3.out
        have b4 := hk3.cell (j := 4) rfl
        rw [Nat.zero_add] at p1 b4
        have hrun := prims_run b o pn pc k (by omega)
        have HC := Lib.hid (contains_prims wr.heap.size (x1, x2) (some ⟨b, o, none⟩) k pc (l.take k) w3 HTK.out (by omega) (take_atoms (HA.out _ (below_step HB2.out HB3.out))) HP3.out cl HCL.out)
        clear hb3 hk3 HK
        by_cases hx1 : x2 < 1
        · have HX := Lib.hid (HRN.out (by rw [HPE.out, HKB.out, decide_eq_false (by omega)]; rfl))
          clear HRN HRY HPE HKB
          go_wp2_with fail
          go_ret
          exact ⟨ret_bool HX.out.symm, below_step HB2.out HB3.out⟩
        by_cases hx3 : 3 < x2
        · have HX := Lib.hid (HRN.out (by rw [HPE.out, HKB.out, decide_eq_false (by omega)]; rfl))
          clear HRN HRY HPE HKB
          go_wp2_with fail
          go_ret
          exact ⟨ret_bool HX.out.symm, below_step HB2.out HB3.out⟩
        have HOK : Hid (ok = !cl) := Lib.hid (by rw [HPE.out, HKB.out, decide_eq_true (by omega)]; rfl)
        clear HPE HKB
        go_wp2_with fail
        refine (HC.out).mono ?_
        rintro e w4 ⟨rfl, hb4⟩
        have HB4 := Lib.hid (below_step HB3.out hb4)
        clear hb4
        cases cl with
        | true =>
          have HX := Lib.hid (HRN.out HOK.out)
          clear HRN HRY
          go_wp2_with fail
          go_ret
          exact ⟨ret_bool HX.out.symm, below_step HB2.out HB4.out⟩
        | false =>
          have HY := Lib.hid (HRY.out HOK.out)
          clear HRN HRY
          go_wp2_with fail
          go_roundw
          case rel => exact ⟨k + 1, by go_num, by omega, HY, HB4⟩
          case measure => simp [intOf] <;> omega
    · obtain rfl : k = pn := by omega
      have hk3 := HK2.out.below HB.out
      have b3 := hk3.cell (j := 3) rfl
      have b4 := hk3.cell (j := 4) rfl
      rw [Nat.zero_add] at b3 b4
      have HX : Hid (r = (decide (l = []) || decide (nat ≠ -1))) := Lib.hid (by rw [HR.out, primsA_yes fun j hj => HZ.out j hj (by have := HL.out; omega), Bool.true_and])
      have HLE : Hid (l = [] ↔ k = 0) := Lib.hid (by rw [← HL.out]; exact List.length_eq_zero_iff.symm)
      clear hk3
      by_cases h0 : k = 0
      · subst h0
        have HX2 : Hid (r = true) := Lib.hid (by rw [HX.out, decide_eq_true (HLE.out.2 rfl)]; rfl)
        go_wp2_with fail
        go_ret
        exact ⟨ret_bool HX2.out.symm, below_step HB2.out HB.out⟩
      · have HX2 : Hid (r = decide (nat ≠ -1)) := Lib.hid (by rw [HX.out, decide_eq_false (fun h => h0 (HLE.out.1 h)), Bool.false_or])
        have h0b : ((k : Int) == 0) = false := by simp; omega
        by_cases hn : nat = -1
        · have hnb : (nat != -1) = false := by simp [hn]
          go_wp2_with fail
          go_ret
          exact ⟨ret_bool (by rw [HX2.out]; simp [hn]), below_step HB2.out HB.out⟩
        · have hnb : (nat != -1) = true := by simpa using hn
          go_wp2_with fail
          go_ret
          exact ⟨ret_bool (by rw [HX2.out]; simp [hn]), below_step HB2.out HB.out⟩
end Go.Proofs.YtfeodppdmbideaaGreatDoor
