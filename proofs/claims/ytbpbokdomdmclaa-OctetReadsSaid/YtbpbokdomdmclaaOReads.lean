/- OctetReads: any reads of any bytes tell what the document says, to the first error and behind it. -/
import Derived.Test.YtbpbokdomdmclaaOKeeps
import Derived.Test.YtbpbokdomdmclaaOOpen
namespace Go.Proofs.Ytbpbokdomdmclaa
open Go.ChangeShapes Go.WideShapes Go.ChangeAt Go.RowKit

/-- Rows of reads as cells. -/
def readsV (t : List (Int × Int)) : List Value := t.flatMap fun x => [.int .i64 x.1, .int .i64 x.2]
theorem readsV_cons (x : Int × Int) (t : List (Int × Int)) : readsV (x :: t) = [.int .i64 x.1, .int .i64 x.2] ++ readsV t := by unfold readsV; rw [List.flatMap_cons]
theorem readsV_len (t : List (Int × Int)) : (readsV t).length = t.length * 2 := by
  induction t with
  | nil => rfl
  | cons x t ih => rw [readsV_cons, List.length_append, ih, List.length_cons]; simp; omega
theorem readsV_get {t : List (Int × Int)} {j f : Nat} (h : j < t.length) (hf : f < 2) : (readsV t)[j * 2 + f]? = ([Value.int .i64 t[j].1, Value.int .i64 t[j].2] : List Value)[f]? := by
  induction t generalizing j with
  | nil => simp at h
  | cons x t ih =>
    rw [readsV_cons]
    cases j with
    | zero => rw [List.getElem?_append_left (by simp; omega)]; simp
    | succ j =>
      rw [List.getElem?_append_right (by simp; omega), show (j + 1) * 2 + f - ([Value.int .i64 x.1, Value.int .i64 x.2] : List Value).length = j * 2 + f by simp; omega, ih (by simpa using h)]
      rfl
theorem readsV_get0 {t : List (Int × Int)} {j : Nat} (h : j < t.length) : (readsV t)[j * 2]? = some (.int .i64 t[j].1) := readsV_get (f := 0) h (by decide)
theorem readsV_get1 {t : List (Int × Int)} {j : Nat} (h : j < t.length) : (readsV t)[j * 2 + 1]? = some (.int .i64 t[j].2) := readsV_get (f := 1) h (by decide)
def WideR (t : List (Int × Int)) : Prop := ∀ x ∈ t, (-9223372036854775808 ≤ x.1 ∧ x.1 ≤ 9223372036854775807) ∧ -9223372036854775808 ≤ x.2 ∧ x.2 ≤ 9223372036854775807
theorem Try.cellsRead : Try.prog.cellsOf 42 = 2 := by kernel_rfl

section
variable {H : Type} {enc : TypeId × Value → H}
def readAt (W : World) (b o i : Nat) : Int × Int := let f := fun k => intOf ((W.cell? ⟨b, o + (i * 2 + k), none⟩).getD undef); (f 0, f 1)
theorem open_reads {W : World} {base : Nat} {v : Value} {d : DataW H} {p : List MemPlace} (hv : Value.okWide Try.prog W .any base 35 v) (h : DataW.Trod enc Try.prog W 0 (fun _ => true) true 35 v d p) :
    ∃ A c t, v = .slice A t.length c ∧ Slice A t.length c ∧ Holds W A (readsV t) ∧ WideR t := by
  obtain ⟨A, n, c, rfl⟩ := okWide_slice Try.underlying35 hv
  obtain ⟨fuel, hf⟩ := h
  rcases Deep.open_slice Try.underlying35 hf with ⟨hcs, _⟩ | ⟨a, len, cap, m, q, D, Pl, hcs, _, hl, hm, hmm, _, hi⟩
  · simp [Value.cells] at hcs
    obtain ⟨rfl, rfl, rfl⟩ := hcs
    exact ⟨none, 0, [], rfl, slice_nil, Holds.nil _ _, fun x hx => by cases hx⟩
  · simp [Value.cells] at hcs
    obtain ⟨rfl, rfl, rfl⟩ := hcs
    simp only [if_true] at hmm
    subst hmm
    rw [Try.cellsRead] at hi
    have hel : ∀ i, i < n → ∃ x y : Int, W.cell? (a.add (i * 2)) = some (.int .i64 x) ∧ W.cell? ((a.add (i * 2)).add 1) = some (.int .i64 y) ∧
        (-9223372036854775808 ≤ x ∧ x ≤ 9223372036854775807) ∧ -9223372036854775808 ≤ y ∧ y ≤ 9223372036854775807 := by
      intro i hin
      obtain ⟨cs', hc, ht⟩ := hi i (by omega)
      obtain ⟨_, hcl, hat⟩ := World.cells?_some hc
      obtain ⟨xs, k, _, _, _, hxl, hfl⟩ := DataW.trod_struct Try.underlying42 ht
      match cs', hcl with
      | [u0, u1], _ =>
        match xs, hxl with
        | [y0, y1], _ =>
          have g0 := hfl 0 _ rfl
          have g1 := hfl 1 _ rfl
          simp [Try.cellsInt] at g0 g1
          obtain ⟨x, e0, _, w0⟩ := DataW.trod_int Try.underlying3 g0
          obtain ⟨y, e1, _, w1⟩ := DataW.trod_int Try.underlying3 g1
          simp at e0 e1
          subst e0 e1
          refine ⟨x, y, ?_, hat 1 (by omega), i64_wf w0, i64_wf w1⟩
          have := hat 0 (by omega)
          simpa [Addr.add] using this
    rcases Nat.eq_zero_or_pos n with h0 | h0
    · subst h0
      exact ⟨some a, m, [], rfl, ⟨Nat.zero_le _, hm, fun h => (by cases h)⟩, Holds.nil _ _, fun x hx => by cases hx⟩
    · obtain ⟨b, off, spot⟩ := a
      have hspot : spot = none := by
        obtain ⟨x, _, hx, _⟩ := hel 0 h0
        simpa [Addr.add] using World.cell?_spot hx
      subst hspot
      have hnode : ∀ i, i < n → ∃ x y : Int, readAt W b off i = (x, y) ∧ W.cell? ⟨b, off + i * 2, none⟩ = some (.int .i64 x) ∧ W.cell? ⟨b, off + i * 2 + 1, none⟩ = some (.int .i64 y) ∧
          (-9223372036854775808 ≤ x ∧ x ≤ 9223372036854775807) ∧ -9223372036854775808 ≤ y ∧ y ≤ 9223372036854775807 := by
        intro i hin
        obtain ⟨x, y, c0, c1, hw⟩ := hel i hin
        rw [add_off] at c0
        rw [add_off, add_off] at c1
        refine ⟨x, y, ?_, c0, c1, hw⟩
        unfold readAt
        simp only [Nat.add_zero, ← Nat.add_assoc]
        rw [c0, c1]
        rfl
      have hlen : ((List.range n).map (readAt W b off)).length = n := by simp
      refine ⟨some ⟨b, off, none⟩, m, (List.range n).map (readAt W b off), by rw [hlen], ⟨by rw [hlen]; exact hl, hm, fun h => (by cases h)⟩, fun _ => ⟨b, off, rfl, fun j u hu => ?_⟩, fun x hx => ?_⟩
      · have hj : j < n * 2 := by
          have := (List.getElem?_eq_some_iff.1 hu).1
          rw [readsV_len, hlen] at this
          exact this
        obtain ⟨i, f, rfl, hf⟩ : ∃ i f, j = i * 2 + f ∧ f < 2 := ⟨j / 2, j % 2, by omega, by omega⟩
        have hin : i < n := by omega
        obtain ⟨x, y, hnd, c0, c1, _⟩ := hnode i hin
        rw [readsV_get (by rw [hlen]; exact hin) hf] at hu
        rw [List.getElem_map, List.getElem_range, hnd] at hu
        rcases (by omega : f = 0 ∨ f = 1) with rfl | rfl
        · rw [← hu, Nat.add_zero, c0]; rfl
        · rw [← hu, ← Nat.add_assoc, c1]; rfl
      · obtain ⟨i, hi, rfl⟩ := List.mem_map.1 hx
        obtain ⟨x, y, hnd, _, _, hw⟩ := hnode i (List.mem_range.1 hi)
        rw [hnd]
        exact hw
end

theorem reads_long (A B : Option Addr) (n m c d : Nat) (w : World) (h : 4000 < n ∨ 300 < m) :
    Calls Try.prog 4 #[.slice A n c, .slice B m d] w fun e w' => e = .returned (.bool true) ∧ Below w.heap.size w w' := by
  by_cases h1 : 4000 < n
  · have t1 : (4000 : Int) < (n : Int) := by omega
    clear h
    go_enter Try.func4, Try.ntmps4
    go_wp2_with (refine (awake_any _).mono ?_; rintro e w0 ⟨rfl, hb0⟩)
    go_ret
    exact ⟨rfl, hb0⟩
  · have t1 : ¬ (4000 : Int) < (n : Int) := by omega
    have t2 : (300 : Int) < (m : Int) := by omega
    clear h
    go_enter Try.func4, Try.ntmps4
    go_wp2_with (refine (awake_any _).mono ?_; rintro e w0 ⟨rfl, hb0⟩)
    go_ret
    exact ⟨rfl, hb0⟩

set_option maxRecDepth 100000 in
set_option maxHeartbeats 8000000 in
theorem reads_some (A B : Option Addr) (n m c d : Nat) (b : List Nat) (l : List (Int × Int)) (w : World) (hn : b.length = n) (hm : l.length = m) (hs : Slice A n c) (hA : Holds w A (bytesV b)) (hby : Bytes b)
    (hB : Holds w B (readsV l)) (hl : WideR l) (h1 : n ≤ 4000) (h2 : m ≤ 300) :
    Calls Try.prog 4 #[.slice A n c, .slice B m d] w fun e w' => e = .returned (.bool true) ∧ Below w.heap.size w w' := by
  have t1 : ¬ (4000 : Int) < (n : Int) := by omega
  have t2 : ¬ (300 : Int) < (m : Int) := by omega
  have HN := Lib.hid hn
  have HM := Lib.hid hm
  have HBY := Lib.hid hby
  have HWR := Lib.hid hl
  clear hn hm hby hl
  go_enter Try.func4, Try.ntmps4
  go_wp2_with fail
  refine (awake_any _).mono ?_
  rintro e w0 ⟨rfl, hb0⟩
  have hlit := World.ownsRow_lit (base := w0.heap.size) (e := 5) (size := 1) w0 #[] 0 (Nat.le_refl _) (by unfold maxLen; omega) rfl
  have hbw := (Below.refl w0.heap.size w0).alloc (Nat.le_refl _) (.cells #[] 5)
  have x0 := (hA.below hb0).alloc (.cells #[] 5)
  go_wp2_with (at_builtin; go_must (refine wpList_append_cells rfl (.tmp 20) (.tmp 21) _ rfl 5 (.int .u8 0) 1 1 info8 rfl (by decide) Try.underlying22 w0.heap.size _ 0 n _ (bytesV b) rfl hlit A c rfl hs x0 (by rw [bytesV_len, HN.out]; omega) bytesV_one (by omega) (by omega) w0 hbw hbw.size ?_); intro A1 c1 w1 ho1 hs1 hb1 hz1 _; simp only [Nat.zero_add, List.nil_append] at ho1 hs1 ⊢)
  have hb2 := below_step hb0 hb1
  have x1 := own_holds ho1
  have sz0 := hb0.size
  have sz1 := hb1.size
  clear hlit hbw x0 hb0 hz1
  refine (new_n A1 n c1 b _ HN.out hs1 x1 (by omega) HBY.out).mono ?_
  rintro e w2 ⟨g, rfl, hg, hR, gb⟩
  have hb3 := below_step hb2 gb
  have sz2 := gb.size
  have hglt := hR.lt
  have HGW : Hid (w.heap.size ≤ g) := by show _ ≤ _; omega
  have hOWN : 0 < n → ∃ gm cs, A1 = some ⟨gm, 0, none⟩ ∧ w0.heap.size ≤ gm ∧ gm < w1.heap.size ∧ Whole w2 gm cs 5 ∧ n ≤ cs.size := fun h => by
    obtain ⟨gm, cs, e, l1, l2, hw, hsz⟩ := own_whole ho1 h
    exact ⟨gm, cs, e, l1, l2, hw.below gb l2, hsz⟩
  have HOWN := Lib.hid hOWN
  clear hOWN hb2 x1 ho1 hs1 hb1 gb
  go_wp2_with fail
  go_loopw [7] (fun i wr => ∃ k : Nat, i = .int .i64 k ∧ k ≤ n ∧ Rd (47, w1.heap.size) wr g (b, 0) ∧ Below w.heap.size w wr ∧ w2.heap.size ≤ wr.heap.size ∧ Hid (0 < n → ∃ gm cs, A1 = some ⟨gm, 0, none⟩ ∧ w0.heap.size ≤ gm ∧ gm < w1.heap.size ∧ Whole wr gm cs 5 ∧ n ≤ cs.size)) (fun i _ => n - (intOf i).toNat)
  case atStart => exact ⟨0, rfl, Nat.zero_le _, hR, hb3, Nat.le_refl _, HOWN.out⟩
  case round =>
    clear hR hb3 HOWN
    obtain ⟨k, rfl, hk, hR, hb, hsz, HOW⟩ := hrel
    by_cases hlt : k < n
    · obtain ⟨gm, cs, e, l1, l2, hw, hcs⟩ := HOW.out (by omega)
      subst e
      have cc : wr.cell? ⟨gm, k, none⟩ = some cs[k] := by rw [hw.cell, Array.getElem?_eq_getElem]
      have ff : wr.frozen? ⟨gm, k, none⟩ = false := hw.frozen k
      have hT1 := (Touch.refl gm wr).set_ k (.int .u8 7)
      have HW1 : Hid (0 < n → ∃ gm' cs, some ⟨gm, 0, none⟩ = some (⟨gm', 0, none⟩ : Addr) ∧ w0.heap.size ≤ gm' ∧ gm' < w1.heap.size ∧ Whole (wr.setCell ⟨gm, k, none⟩ (.int .u8 7)) gm' cs 5 ∧ n ≤ cs.size) := fun _ => ⟨gm, _, rfl, l1, l2, hw.set_ k _, by simpa using hcs⟩
      have HR1 := Lib.hid (hR.grown hT1 (fun k hk => by cases hk; exact ⟨by omega, .inl l2⟩))
      have HB1 := Lib.hid (hT1.below hb hb.size (by omega))
      generalize cs[k] = u at *
      clear hw hT1 hR hb HOW
      go_wp2_with fail
      go_roundw
      case rel => exact ⟨k + 1, by go_num, by omega, HR1.out, HB1.out, by simpa [World.setCell] using hsz, HW1.out⟩
      case measure => simp [intOf] <;> omega
    · obtain ⟨wo, rfl⟩ : ∃ wo : World, wo = wr := ⟨_, rfl⟩
      have hlit := World.ownsRow_lit (base := wo.heap.size) (e := 5) (size := 1) wo #[] 0 (Nat.le_refl _) (by unfold maxLen; omega) rfl
      have hbw := (Below.refl wo.heap.size wo).alloc (Nat.le_refl _) (.cells #[] 5)
      have x0 := (hA.below hb).alloc (.cells #[] 5)
      go_wp2_with (at_builtin; go_must (refine wpList_append_cells rfl (.tmp 36) (.tmp 37) _ rfl 5 (.int .u8 0) 1 1 info8 rfl (by decide) Try.underlying22 wo.heap.size _ 0 n _ (bytesV b) rfl hlit A c rfl hs x0 (by rw [bytesV_len, HN.out]; omega) bytesV_one (by omega) (by omega) wo hbw hbw.size ?_); intro A3 c3 w3 ho3 hs3 hb3 hz3 _; simp only [Nat.zero_add, List.nil_append] at ho3 hs3 ⊢)
      have hi3 := own_in ho3
      have x3 := own_holds ho3
      have hbN := (Below.refl w3.heap.size w3).alloc (Nat.le_refl _) (.cells #[.slice A3 n c3, .int .i64 0] 40)
      have hS : Rd (40, wo.heap.size) (w3.alloc (.cells #[.slice A3 n c3, .int .i64 0] 40)) w3.heap.size (b, 0) :=
        ⟨A3, c3, by rw [show (b, 0).1.length = n from HN.out]; exact Whole.new _ _ _, by rw [show (b, 0).1.length = n from HN.out]; exact hs3, x3.alloc _, hi3, HBY.out, by show b.length ≤ _; rw [HN.out]; omega⟩
      have hR4 := (hR.below hb3).below hbN
      have hb4 := below_step (below_step hb hb3) hbN
      have sz3 := hb3.size
      have HLT : Hid (g < wo.heap.size ∧ wo.heap.size ≤ w3.heap.size ∧ w1.heap.size ≤ g) := ⟨by omega, sz3, hg⟩
      have HSW : Hid (w.heap.size ≤ w3.heap.size) := by show _ ≤ _; omega
      obtain ⟨gs, hgs⟩ : ∃ gs, gs = w3.heap.size := ⟨_, rfl⟩
      rw [← hgs] at hS HLT HSW
      have HGS := Lib.hid hgs
      obtain ⟨tO, htO⟩ : ∃ tO : TypeId × Nat, tO = (47, w1.heap.size) := ⟨_, rfl⟩
      obtain ⟨tR, htR⟩ : ∃ tR : TypeId × Nat, tR = (40, wo.heap.size) := ⟨_, rfl⟩
      have HLO : Hid (tO.2 = w1.heap.size ∧ tR.2 = wo.heap.size) := ⟨by rw [htO], by rw [htR]⟩
      rw [← htO] at hR4
      rw [← htR] at hS
      have HLT : Hid (g < tR.2 ∧ tR.2 ≤ gs ∧ tO.2 ≤ g ∧ g < gs) := ⟨by rw [HLO.out.2]; exact HLT.out.1, by rw [HLO.out.2]; exact HLT.out.2.1, by rw [HLO.out.1]; exact HLT.out.2.2, Nat.lt_of_lt_of_le HLT.out.1 HLT.out.2.1⟩
      have HGZ := Lib.hid hS.lt
      clear hlit hbw x0 ho3 hs3 hb3 hz3 hi3 x3 hbN hR hb htO htR hgs HOW
      go_wp2_with fail
      rw [← HGS.out]
      generalize w3.alloc (.cells #[.slice A3 n c3, .int .i64 0] 40) = w4 at *
      go_loopw [9] (fun i wr => ∃ (k : Nat) (st : St), i = .int .i64 k ∧ k ≤ m ∧ Rd tO wr g st ∧ Rd tR wr gs st ∧ Below w.heap.size w wr) (fun i _ => m - (intOf i).toNat)
      case atStart => exact ⟨0, (b, 0), rfl, Nat.zero_le _, hR4, hS, hb4⟩
      case round =>
        clear hR4 hS hb4 HGZ
        obtain ⟨k, st, rfl, hk, hR1, hR3, hb⟩ := hrel
        have HGZ := Lib.hid hR3.lt
        by_cases hlt : k < m
        · have hkl : k < l.length := by have := HM.out; omega
          obtain ⟨bb, o, rfl, hc⟩ := hB (by rw [readsV_len]; omega)
          have e0 := hc (k * 2) _ (readsV_get0 hkl)
          have e1 := hc (k * 2 + 1) _ (readsV_get1 hkl)
          rw [← Nat.add_assoc] at e1
          have hbb := World.block_lt_of_cell? _ _ e0
          have d0' := (hb.cell (p := ⟨bb, o + k * 2, none⟩) hbb).trans e0
          have KS : ∀ w', Below w.heap.size w w' → w'.cell? ⟨bb, o + k * 2 + 1, none⟩ = some (.int .i64 (l[k]).2) ∧ Below w.heap.size w w' := fun w' hb => ⟨(hb.cell (p := ⟨bb, o + k * 2 + 1, none⟩) hbb).trans e1, hb⟩
          have hwd := HWR.out _ (List.getElem_mem hkl)
          generalize l[k] = x at *
          obtain ⟨kind, most⟩ := x
          simp only at d0' KS hwd
          have hm1 := hwd.2.1
          have hm2 := hwd.2.2
          have HKS := Lib.hid KS
          have hki : (k : Int) < (m : Int) := by omega
          have hk0 : (0 : Int) ≤ (k : Int) := by omega
          clear KS hc e0 e1 hbb hwd
          by_cases hkind : kind = 1
          · have hk1 : ((kind : Int) == 1) = true := by simp; exact hkind
            obtain ⟨v, s', hv⟩ : ∃ v s', signedS st = (v, s') := ⟨_, _, rfl⟩
            have HA := Lib.hid fun w h => osignedR_any tO g st w h
            have HB := Lib.hid fun w h => rsignedR_any tR gs st w h
            rw [hv] at HA HB
            have q0 : ((v : Int) != v) = false := by simp
            have hkz := hkind
            clear hv hkind
            go_wp2_with fail
            refine (HA.out _ hR1).mono ?_
            rintro e w2 ⟨rfl, hR2, hT2⟩
            have hb2 := hT2.below hb hb.size HGW.out
            have hS2 := hR3.grown hT2 (fun k hk => by cases hk; have := HLT.out; omega)
            clear hR1 hR3 hT2
            go_wp2_with fail
            refine (HB.out _ hS2).mono ?_
            rintro e w5 ⟨rfl, hS5, hT3⟩
            have hb5 := hT3.below hb2 hb2.size HSW.out
            have hR5 := hR2.grown hT3 (fun k hk => by cases hk; have := HLT.out; omega)
            clear hR2 hS2 hT3 hb2
            obtain ⟨AS, cs, hw5, hr5⟩ := hS5
            obtain ⟨sl, hsl⟩ : ∃ sl, sl = s'.1.length := ⟨_, rfl⟩
            obtain ⟨sf, hsf⟩ : ∃ sf, sf = s'.2 := ⟨_, rfl⟩
            have d0 : w5.drew.cell? ⟨gs, 0, none⟩ = some (.slice AS sl cs) := by rw [hsl]; exact hw5.cell 0
            have d1 : w5.drew.cell? ⟨gs, 1, none⟩ = some (.int .i64 (sf : Int)) := by rw [hsf]; exact hw5.cell 1
            have HE := Lib.hid fun w h => oerr_any tO g s' w h
            have HL := Lib.hid fun w h => oleft_any tO g s' w h
            rw [← hsf] at HE
            rw [← hsl] at HL
            have HS5 : Hid (Rd tR w5 gs s') := ⟨AS, cs, hw5, hr5⟩
            have q1 : ((sf : Int) != (sf : Int)) = false := by simp
            have q2 : ((sl : Int) != (sl : Int)) = false := by simp
            clear hw5 hr5 hsl hsf
            go_wp2_with fail
            refine region_begin (S := fun w' => w'.cell? ⟨gs, 0, none⟩ = some (.slice AS sl cs) ∧ w'.cell? ⟨gs, 1, none⟩ = some (.int .i64 (sf : Int)) ∧ w' = w5.drew) (by kernel_rfl) (⟨d0, d1, rfl⟩) (fun hHeld => ?_)
            refine region_take 0 ?_ rfl (by kernel_rfl) (by rfl) hHeld ?_ ?_
            rotate_left
            · intro w hSw
              (try dsimp only at hSw)
              go_simp
              try with_reducible rfl
            try simp only [Act.put, List.setIfInBounds_toArray, List.set_cons_zero, List.set_cons_succ]
            refine region_take 1 ?_ rfl (by kernel_rfl) (by rfl) hHeld ?_ ?_
            rotate_left
            · intro w hSw
              (try dsimp only at hSw)
              go_simp
              try with_reducible rfl
            try simp only [Act.put, List.setIfInBounds_toArray, List.set_cons_zero, List.set_cons_succ]
            refine region_take 2 ?_ rfl (by kernel_rfl) (by rfl) hHeld ?_ ?_
            rotate_left
            · intro w hSw
              (try dsimp only at hSw)
              go_simp
              try with_reducible rfl
            try simp only [Act.put, List.setIfInBounds_toArray, List.set_cons_zero, List.set_cons_succ]
            refine region_take 4 ?_ rfl (by kernel_rfl) (by rfl) hHeld ?_ ?_
            rotate_left
            · intro w hSw
              (try dsimp only at hSw)
              go_simp
              try with_reducible rfl
            try simp only [Act.put, List.setIfInBounds_toArray, List.set_cons_zero, List.set_cons_succ]
            refine region_take 5 ?_ rfl (by kernel_rfl) (by rfl) hHeld ?_ ?_
            rotate_left
            · intro w hSw
              (try dsimp only at hSw)
              go_simp
              try with_reducible rfl
            try simp only [Act.put, List.setIfInBounds_toArray, List.set_cons_zero, List.set_cons_succ]
            refine region_take 6 ?_ rfl (by kernel_rfl) (by rfl) hHeld ?_ ?_
            rotate_left
            · intro w hSw
              (try dsimp only at hSw)
              go_simp
              try with_reducible rfl
            try simp only [Act.put, List.setIfInBounds_toArray, List.set_cons_zero, List.set_cons_succ]
            refine region_take 7 ?_ rfl (by kernel_rfl) (by rfl) hHeld ?_ ?_
            rotate_left
            · intro w hSw
              (try dsimp only at hSw)
              go_simp
              try with_reducible rfl
            try simp only [Act.put, List.setIfInBounds_toArray, List.set_cons_zero, List.set_cons_succ]
            refine region_call 3 rfl (by kernel_rfl) (by rfl) (fun K hK => ?_)
            go_simp
            go_at_call 26
            ((with_reducible refine (HE.out _ hR5.drew).mono ?_); rintro e w6 ⟨rfl, rfl⟩)
            refine hK.out _ _ (⟨d0, d1, rfl⟩) (fun hHeld => ?_)
            clear hK K
            try simp only [Act.put, List.setIfInBounds_toArray, List.set_cons_zero, List.set_cons_succ]
            refine region_take 8 ?_ rfl (by kernel_rfl) (by rfl) hHeld ?_ ?_
            rotate_left
            · intro w hSw
              (try dsimp only at hSw)
              go_simp
              try with_reducible rfl
            try simp only [Act.put, List.setIfInBounds_toArray, List.set_cons_zero, List.set_cons_succ]
            refine region_take 9 ?_ rfl (by kernel_rfl) (by rfl) hHeld ?_ ?_
            rotate_left
            · intro w hSw
              (try dsimp only at hSw)
              go_simp
              try with_reducible rfl
            try simp only [Act.put, List.setIfInBounds_toArray, List.set_cons_zero, List.set_cons_succ]
            refine region_take 10 ?_ rfl (by kernel_rfl) (by rfl) hHeld ?_ ?_
            rotate_left
            · intro w hSw
              (try dsimp only at hSw)
              go_simp
              try with_reducible rfl
            try simp only [Act.put, List.setIfInBounds_toArray, List.set_cons_zero, List.set_cons_succ]
            refine region_take 11 ?_ rfl (by kernel_rfl) (by rfl) hHeld ?_ ?_
            rotate_left
            · intro w hSw
              (try dsimp only at hSw)
              go_simp
              try with_reducible rfl
            try simp only [Act.put, List.setIfInBounds_toArray, List.set_cons_zero, List.set_cons_succ]
            refine region_take 12 ?_ rfl (by kernel_rfl) (by rfl) hHeld ?_ ?_
            rotate_left
            · intro w hSw
              (try dsimp only at hSw)
              go_simp
              try with_reducible rfl
            try simp only [Act.put, List.setIfInBounds_toArray, List.set_cons_zero, List.set_cons_succ]
            refine region_take 14 ?_ rfl (by kernel_rfl) (by rfl) hHeld ?_ ?_
            rotate_left
            · intro w hSw
              (try dsimp only at hSw)
              go_simp
              try with_reducible rfl
            try simp only [Act.put, List.setIfInBounds_toArray, List.set_cons_zero, List.set_cons_succ]
            refine region_take 15 ?_ rfl (by kernel_rfl) (by rfl) hHeld ?_ ?_
            rotate_left
            · intro w hSw
              (try dsimp only at hSw)
              go_simp
              try with_reducible rfl
            try simp only [Act.put, List.setIfInBounds_toArray, List.set_cons_zero, List.set_cons_succ]
            refine region_take 16 ?_ rfl (by kernel_rfl) (by rfl) hHeld ?_ ?_
            rotate_left
            · intro w hSw
              (try dsimp only at hSw)
              go_simp
              try with_reducible rfl
            try simp only [Act.put, List.setIfInBounds_toArray, List.set_cons_zero, List.set_cons_succ]
            refine region_take 17 ?_ rfl (by kernel_rfl) (by rfl) hHeld ?_ ?_
            rotate_left
            · intro w hSw
              (try dsimp only at hSw)
              go_simp
              try with_reducible rfl
            try simp only [Act.put, List.setIfInBounds_toArray, List.set_cons_zero, List.set_cons_succ]
            refine region_take 18 ?_ rfl (by kernel_rfl) (by rfl) hHeld ?_ ?_
            rotate_left
            · intro w hSw
              (try dsimp only at hSw)
              go_simp
              try with_reducible rfl
            try simp only [Act.put, List.setIfInBounds_toArray, List.set_cons_zero, List.set_cons_succ]
            refine region_call 13 rfl (by kernel_rfl) (by rfl) (fun K hK => ?_)
            go_simp
            go_at_call 27
            ((with_reducible refine (HL.out _ hR5.drew).mono ?_); rintro e w6 ⟨rfl, rfl⟩)
            refine hK.out _ _ (⟨d0, d1, rfl⟩) (fun hHeld => ?_)
            clear hK K
            try simp only [Act.put, List.setIfInBounds_toArray, List.set_cons_zero, List.set_cons_succ]
            refine region_take 19 ?_ rfl (by kernel_rfl) (by rfl) hHeld ?_ ?_
            rotate_left
            · intro w hSw
              (try dsimp only at hSw)
              go_simp
              try with_reducible rfl
            try simp only [Act.put, List.setIfInBounds_toArray, List.set_cons_zero, List.set_cons_succ]
            refine region_take 20 ?_ rfl (by kernel_rfl) (by rfl) hHeld ?_ ?_
            rotate_left
            · intro w hSw
              (try dsimp only at hSw)
              go_simp
              try with_reducible rfl
            try simp only [Act.put, List.setIfInBounds_toArray, List.set_cons_zero, List.set_cons_succ]
            refine region_done (by kernel_rfl) ?_
            clear hHeld d0 d1
            go_wp2_with fail
            go_roundw
            case rel => exact ⟨k + 1, s', by go_num, by omega, hR5.drew, HS5.out.drew, below_drewN hb5 1⟩
            case measure => simp [intOf] <;> omega
          · by_cases hkind2 : kind = 2
            · have hkind := hkind2
              clear hkind2
              have hk1 : ((kind : Int) == 1) = false := by simp; omega
              have hk2 : ((kind : Int) == 2) = true := by simp; exact hkind
              obtain ⟨v, s', hv⟩ : ∃ v s', rowS st = (v, s') := ⟨_, _, rfl⟩
              have HA := Lib.hid fun w h => orowR_any tO g st w h
              have HB := Lib.hid fun w h => rrowR_any tR gs st w h
              have hvl : v.length ≤ 4096 := by
                have h1 := rowA_len (numS 4096 st).1 [] (numS 4096 st).2
                have h2 := numS_le 4096 st
                have h3 : rowA (numS 4096 st).1 [] (numS 4096 st).2 = (v, s') := hv
                rw [h3] at h1
                simp at h1
                omega
              rw [hv] at HA HB
              clear hv hkind
              go_wp2_with fail
              refine (HA.out _ hR1).mono ?_
              rintro e w2 ⟨A2, c2, rfl, ho2, hR2, hT2⟩
              have hb2 := hT2.below hb hb.size HGW.out
              have hS2 := hR3.grown hT2 (fun k hk => by cases hk; have := HLT.out; omega)
              have hWZ := hb.size
              have x2 := own_holds ho2
              have i2 := own_in ho2
              clear hR1 hR3 hT2 ho2
              go_wp2_with fail
              refine (HB.out _ hS2).mono ?_
              rintro e w3 ⟨A3, c3, rfl, ho3, hS3, hT3⟩
              have hb3 := hT3.below hb2 hb2.size HSW.out
              have hR4 := hR2.grown hT3 (fun k hk => by cases hk; have := HLT.out; omega)
              have x3 := own_holds ho3
              have x4 := x2.away hT3 (fun _ b o e => by have := i2 b o e; have := HGZ.out; omega)
              clear hR2 hS2 hT3 hb2 ho3 x2 i2
              go_wp2_with fail
              refine (sameRow_n A2 A3 v.length v.length c2 c3 v v _ rfl rfl x4 x3 (by omega) true (by simp)).mono ?_
              rintro e w5 ⟨rfl, gb⟩
              have hb5 := below_step hb3 gb
              have hR5 := hR4.below gb
              have hS5 := hS3.below gb
              clear hb3 gb hR4 hS3 x3 x4
              obtain ⟨AS, cs, hw5, hr5⟩ := hS5
              obtain ⟨sl, hsl⟩ : ∃ sl, sl = s'.1.length := ⟨_, rfl⟩
              obtain ⟨sf, hsf⟩ : ∃ sf, sf = s'.2 := ⟨_, rfl⟩
              have d0 : w5.drew.cell? ⟨gs, 0, none⟩ = some (.slice AS sl cs) := by rw [hsl]; exact hw5.cell 0
              have d1 : w5.drew.cell? ⟨gs, 1, none⟩ = some (.int .i64 (sf : Int)) := by rw [hsf]; exact hw5.cell 1
              have HE := Lib.hid fun w h => oerr_any tO g s' w h
              have HL := Lib.hid fun w h => oleft_any tO g s' w h
              rw [← hsf] at HE
              rw [← hsl] at HL
              have HS5 : Hid (Rd tR w5 gs s') := ⟨AS, cs, hw5, hr5⟩
              have q1 : ((sf : Int) != (sf : Int)) = false := by simp
              have q2 : ((sl : Int) != (sl : Int)) = false := by simp
              clear hw5 hr5 hsl hsf
              go_wp2_with fail
              refine region_begin (S := fun w' => w'.cell? ⟨gs, 0, none⟩ = some (.slice AS sl cs) ∧ w'.cell? ⟨gs, 1, none⟩ = some (.int .i64 (sf : Int)) ∧ w' = w5.drew) (by kernel_rfl) (⟨d0, d1, rfl⟩) (fun hHeld => ?_)
              refine region_take 0 ?_ rfl (by kernel_rfl) (by rfl) hHeld ?_ ?_
              rotate_left
              · intro w hSw
                (try dsimp only at hSw)
                go_simp
                try with_reducible rfl
              try simp only [Act.put, List.setIfInBounds_toArray, List.set_cons_zero, List.set_cons_succ]
              refine region_take 1 ?_ rfl (by kernel_rfl) (by rfl) hHeld ?_ ?_
              rotate_left
              · intro w hSw
                (try dsimp only at hSw)
                go_simp
                try with_reducible rfl
              try simp only [Act.put, List.setIfInBounds_toArray, List.set_cons_zero, List.set_cons_succ]
              refine region_take 2 ?_ rfl (by kernel_rfl) (by rfl) hHeld ?_ ?_
              rotate_left
              · intro w hSw
                (try dsimp only at hSw)
                go_simp
                try with_reducible rfl
              try simp only [Act.put, List.setIfInBounds_toArray, List.set_cons_zero, List.set_cons_succ]
              refine region_take 4 ?_ rfl (by kernel_rfl) (by rfl) hHeld ?_ ?_
              rotate_left
              · intro w hSw
                (try dsimp only at hSw)
                go_simp
                try with_reducible rfl
              try simp only [Act.put, List.setIfInBounds_toArray, List.set_cons_zero, List.set_cons_succ]
              refine region_take 5 ?_ rfl (by kernel_rfl) (by rfl) hHeld ?_ ?_
              rotate_left
              · intro w hSw
                (try dsimp only at hSw)
                go_simp
                try with_reducible rfl
              try simp only [Act.put, List.setIfInBounds_toArray, List.set_cons_zero, List.set_cons_succ]
              refine region_take 6 ?_ rfl (by kernel_rfl) (by rfl) hHeld ?_ ?_
              rotate_left
              · intro w hSw
                (try dsimp only at hSw)
                go_simp
                try with_reducible rfl
              try simp only [Act.put, List.setIfInBounds_toArray, List.set_cons_zero, List.set_cons_succ]
              refine region_take 7 ?_ rfl (by kernel_rfl) (by rfl) hHeld ?_ ?_
              rotate_left
              · intro w hSw
                (try dsimp only at hSw)
                go_simp
                try with_reducible rfl
              try simp only [Act.put, List.setIfInBounds_toArray, List.set_cons_zero, List.set_cons_succ]
              refine region_call 3 rfl (by kernel_rfl) (by rfl) (fun K hK => ?_)
              go_simp
              go_at_call 26
              ((with_reducible refine (HE.out _ hR5.drew).mono ?_); rintro e w6 ⟨rfl, rfl⟩)
              refine hK.out _ _ (⟨d0, d1, rfl⟩) (fun hHeld => ?_)
              clear hK K
              try simp only [Act.put, List.setIfInBounds_toArray, List.set_cons_zero, List.set_cons_succ]
              refine region_take 8 ?_ rfl (by kernel_rfl) (by rfl) hHeld ?_ ?_
              rotate_left
              · intro w hSw
                (try dsimp only at hSw)
                go_simp
                try with_reducible rfl
              try simp only [Act.put, List.setIfInBounds_toArray, List.set_cons_zero, List.set_cons_succ]
              refine region_take 9 ?_ rfl (by kernel_rfl) (by rfl) hHeld ?_ ?_
              rotate_left
              · intro w hSw
                (try dsimp only at hSw)
                go_simp
                try with_reducible rfl
              try simp only [Act.put, List.setIfInBounds_toArray, List.set_cons_zero, List.set_cons_succ]
              refine region_take 10 ?_ rfl (by kernel_rfl) (by rfl) hHeld ?_ ?_
              rotate_left
              · intro w hSw
                (try dsimp only at hSw)
                go_simp
                try with_reducible rfl
              try simp only [Act.put, List.setIfInBounds_toArray, List.set_cons_zero, List.set_cons_succ]
              refine region_take 11 ?_ rfl (by kernel_rfl) (by rfl) hHeld ?_ ?_
              rotate_left
              · intro w hSw
                (try dsimp only at hSw)
                go_simp
                try with_reducible rfl
              try simp only [Act.put, List.setIfInBounds_toArray, List.set_cons_zero, List.set_cons_succ]
              refine region_take 12 ?_ rfl (by kernel_rfl) (by rfl) hHeld ?_ ?_
              rotate_left
              · intro w hSw
                (try dsimp only at hSw)
                go_simp
                try with_reducible rfl
              try simp only [Act.put, List.setIfInBounds_toArray, List.set_cons_zero, List.set_cons_succ]
              refine region_take 14 ?_ rfl (by kernel_rfl) (by rfl) hHeld ?_ ?_
              rotate_left
              · intro w hSw
                (try dsimp only at hSw)
                go_simp
                try with_reducible rfl
              try simp only [Act.put, List.setIfInBounds_toArray, List.set_cons_zero, List.set_cons_succ]
              refine region_take 15 ?_ rfl (by kernel_rfl) (by rfl) hHeld ?_ ?_
              rotate_left
              · intro w hSw
                (try dsimp only at hSw)
                go_simp
                try with_reducible rfl
              try simp only [Act.put, List.setIfInBounds_toArray, List.set_cons_zero, List.set_cons_succ]
              refine region_take 16 ?_ rfl (by kernel_rfl) (by rfl) hHeld ?_ ?_
              rotate_left
              · intro w hSw
                (try dsimp only at hSw)
                go_simp
                try with_reducible rfl
              try simp only [Act.put, List.setIfInBounds_toArray, List.set_cons_zero, List.set_cons_succ]
              refine region_take 17 ?_ rfl (by kernel_rfl) (by rfl) hHeld ?_ ?_
              rotate_left
              · intro w hSw
                (try dsimp only at hSw)
                go_simp
                try with_reducible rfl
              try simp only [Act.put, List.setIfInBounds_toArray, List.set_cons_zero, List.set_cons_succ]
              refine region_take 18 ?_ rfl (by kernel_rfl) (by rfl) hHeld ?_ ?_
              rotate_left
              · intro w hSw
                (try dsimp only at hSw)
                go_simp
                try with_reducible rfl
              try simp only [Act.put, List.setIfInBounds_toArray, List.set_cons_zero, List.set_cons_succ]
              refine region_call 13 rfl (by kernel_rfl) (by rfl) (fun K hK => ?_)
              go_simp
              go_at_call 27
              ((with_reducible refine (HL.out _ hR5.drew).mono ?_); rintro e w6 ⟨rfl, rfl⟩)
              refine hK.out _ _ (⟨d0, d1, rfl⟩) (fun hHeld => ?_)
              clear hK K
              try simp only [Act.put, List.setIfInBounds_toArray, List.set_cons_zero, List.set_cons_succ]
              refine region_take 19 ?_ rfl (by kernel_rfl) (by rfl) hHeld ?_ ?_
              rotate_left
              · intro w hSw
                (try dsimp only at hSw)
                go_simp
                try with_reducible rfl
              try simp only [Act.put, List.setIfInBounds_toArray, List.set_cons_zero, List.set_cons_succ]
              refine region_take 20 ?_ rfl (by kernel_rfl) (by rfl) hHeld ?_ ?_
              rotate_left
              · intro w hSw
                (try dsimp only at hSw)
                go_simp
                try with_reducible rfl
              try simp only [Act.put, List.setIfInBounds_toArray, List.set_cons_zero, List.set_cons_succ]
              refine region_done (by kernel_rfl) ?_
              clear hHeld d0 d1
              go_wp2_with fail
              go_roundw
              case rel => exact ⟨k + 1, s', by go_num, by omega, hR5.drew, HS5.out.drew, below_drewN hb5 1⟩
              case measure => simp [intOf] <;> omega
            · have hk1 : ((kind : Int) == 1) = false := by simp; omega
              have hk2 : ((kind : Int) == 2) = false := by simp; omega
              obtain ⟨v, s', hv⟩ : ∃ v s', numS most st = (v, s') := ⟨_, _, rfl⟩
              have HA := Lib.hid fun w h => onum_any tO g most st w h hm1 hm2
              have HB := Lib.hid fun w h => rnum_any tR gs most st w h hm1 hm2
              rw [hv] at HA HB
              have q0 : ((v : Int) != (v : Int)) = false := by simp
              clear hv
              go_wp2_with fail
              refine region_begin (S := fun w' => w'.cell? ⟨bb, o + k * 2 + 1, none⟩ = some (.int .i64 most) ∧ Below w.heap.size w w') (by kernel_rfl) (HKS.out _ (below_drewN hb 1)) (fun hHeld => ?_)
              refine region_take 0 ?_ rfl (by kernel_rfl) (by rfl) hHeld ?_ ?_
              rotate_left
              · intro w hSw
                (try dsimp only at hSw)
                go_simp
                try with_reducible rfl
              try simp only [Act.put, List.setIfInBounds_toArray, List.set_cons_zero, List.set_cons_succ]
              refine region_take 1 ?_ rfl (by kernel_rfl) (by rfl) hHeld ?_ ?_
              rotate_left
              · intro w hSw
                (try dsimp only at hSw)
                go_simp
                try with_reducible rfl
              try simp only [Act.put, List.setIfInBounds_toArray, List.set_cons_zero, List.set_cons_succ]
              refine region_take 2 ?_ rfl (by kernel_rfl) (by rfl) hHeld ?_ ?_
              rotate_left
              · intro w hSw
                (try dsimp only at hSw)
                go_simp
                try with_reducible rfl
              try simp only [Act.put, List.setIfInBounds_toArray, List.set_cons_zero, List.set_cons_succ]
              refine region_take 3 ?_ rfl (by kernel_rfl) (by rfl) hHeld ?_ ?_
              rotate_left
              · intro w hSw
                (try dsimp only at hSw)
                go_simp
                try with_reducible rfl
              try simp only [Act.put, List.setIfInBounds_toArray, List.set_cons_zero, List.set_cons_succ]
              refine region_take 4 ?_ rfl (by kernel_rfl) (by rfl) hHeld ?_ ?_
              rotate_left
              · intro w hSw
                (try dsimp only at hSw)
                go_simp
                try with_reducible rfl
              try simp only [Act.put, List.setIfInBounds_toArray, List.set_cons_zero, List.set_cons_succ]
              refine region_take 5 ?_ rfl (by kernel_rfl) (by rfl) hHeld ?_ ?_
              rotate_left
              · intro w hSw
                (try dsimp only at hSw)
                go_simp
                try with_reducible rfl
              try simp only [Act.put, List.setIfInBounds_toArray, List.set_cons_zero, List.set_cons_succ]
              refine region_take 6 ?_ rfl (by kernel_rfl) (by rfl) hHeld ?_ ?_
              rotate_left
              · intro w hSw
                (try dsimp only at hSw)
                go_simp
                try with_reducible rfl
              try simp only [Act.put, List.setIfInBounds_toArray, List.set_cons_zero, List.set_cons_succ]
              refine region_take 7 ?_ rfl (by kernel_rfl) (by rfl) hHeld ?_ ?_
              rotate_left
              · intro w hSw
                (try dsimp only at hSw)
                go_simp
                try with_reducible rfl
              try simp only [Act.put, List.setIfInBounds_toArray, List.set_cons_zero, List.set_cons_succ]
              refine region_take 9 ?_ rfl (by kernel_rfl) (by rfl) hHeld ?_ ?_
              rotate_left
              · intro w hSw
                (try dsimp only at hSw)
                go_simp
                try with_reducible rfl
              try simp only [Act.put, List.setIfInBounds_toArray, List.set_cons_zero, List.set_cons_succ]
              refine region_take 10 ?_ rfl (by kernel_rfl) (by rfl) hHeld ?_ ?_
              rotate_left
              · intro w hSw
                (try dsimp only at hSw)
                go_simp
                try with_reducible rfl
              try simp only [Act.put, List.setIfInBounds_toArray, List.set_cons_zero, List.set_cons_succ]
              refine region_take 11 ?_ rfl (by kernel_rfl) (by rfl) hHeld ?_ ?_
              rotate_left
              · intro w hSw
                (try dsimp only at hSw)
                go_simp
                try with_reducible rfl
              try simp only [Act.put, List.setIfInBounds_toArray, List.set_cons_zero, List.set_cons_succ]
              refine region_take 12 ?_ rfl (by kernel_rfl) (by rfl) hHeld ?_ ?_
              rotate_left
              · intro w hSw
                (try dsimp only at hSw)
                go_simp
                try with_reducible rfl
              try simp only [Act.put, List.setIfInBounds_toArray, List.set_cons_zero, List.set_cons_succ]
              refine region_take 13 ?_ rfl (by kernel_rfl) (by rfl) hHeld ?_ ?_
              rotate_left
              · intro w hSw
                (try dsimp only at hSw)
                go_simp
                try with_reducible rfl
              try simp only [Act.put, List.setIfInBounds_toArray, List.set_cons_zero, List.set_cons_succ]
              refine region_take 14 ?_ rfl (by kernel_rfl) (by rfl) hHeld ?_ ?_
              rotate_left
              · intro w hSw
                (try dsimp only at hSw)
                go_simp
                try with_reducible rfl
              try simp only [Act.put, List.setIfInBounds_toArray, List.set_cons_zero, List.set_cons_succ]
              refine region_call 8 rfl (by kernel_rfl) (by rfl) (fun K hK => ?_)
              go_simp
              go_at_call 24
              ((with_reducible refine (HA.out _ hR1.drew).mono ?_); rintro e w2 ⟨rfl, hR2, hT2⟩)
              have hT2d := Touch.of_drew hT2
              have hb2 := hT2d.below hb hb.size HGW.out
              have hS2 := hR3.grown hT2d (fun k hk => by cases hk; have := HLT.out; omega)
              refine hK.out _ _ (HKS.out _ hb2) (fun hHeld => ?_)
              clear hK K
              try simp only [Act.put, List.setIfInBounds_toArray, List.set_cons_zero, List.set_cons_succ]
              refine region_call 15 rfl (by kernel_rfl) (by rfl) (fun K hK => ?_)
              go_simp
              go_at_call 25
              ((with_reducible refine (HB.out _ hS2).mono ?_); rintro e w3 ⟨rfl, hS3, hT3⟩)
              have hb3 := hT3.below hb2 hb2.size HSW.out
              have hR4 := hR2.grown hT3 (fun k hk => by cases hk; have := HLT.out; omega)
              refine hK.out _ _ (HKS.out _ hb3) (fun hHeld => ?_)
              clear hK K
              try simp only [Act.put, List.setIfInBounds_toArray, List.set_cons_zero, List.set_cons_succ]
              refine region_take 16 ?_ rfl (by kernel_rfl) (by rfl) hHeld ?_ ?_
              rotate_left
              · intro w hSw
                (try dsimp only at hSw)
                go_simp
                try with_reducible rfl
              try simp only [Act.put, List.setIfInBounds_toArray, List.set_cons_zero, List.set_cons_succ]
              refine region_done (by kernel_rfl) ?_
              have hb5 := hb3
              have hR5 := hR4
              have hS5 := hS3
              clear hHeld hb3 hR4 hS3 hR2 hS2 hb2 hR1 hR3 hT2 hT3
              obtain ⟨w5, rfl⟩ : ∃ w5 : World, w5 = w3 := ⟨_, rfl⟩
              obtain ⟨AS, cs, hw5, hr5⟩ := hS5
              obtain ⟨sl, hsl⟩ : ∃ sl, sl = s'.1.length := ⟨_, rfl⟩
              obtain ⟨sf, hsf⟩ : ∃ sf, sf = s'.2 := ⟨_, rfl⟩
              have d0 : w5.drew.cell? ⟨gs, 0, none⟩ = some (.slice AS sl cs) := by rw [hsl]; exact hw5.cell 0
              have d1 : w5.drew.cell? ⟨gs, 1, none⟩ = some (.int .i64 (sf : Int)) := by rw [hsf]; exact hw5.cell 1
              have HE := Lib.hid fun w h => oerr_any tO g s' w h
              have HL := Lib.hid fun w h => oleft_any tO g s' w h
              rw [← hsf] at HE
              rw [← hsl] at HL
              have HS5 : Hid (Rd tR w5 gs s') := ⟨AS, cs, hw5, hr5⟩
              have q1 : ((sf : Int) != (sf : Int)) = false := by simp
              have q2 : ((sl : Int) != (sl : Int)) = false := by simp
              clear hw5 hr5 hsl hsf
              go_wp2_with fail
              refine region_begin (S := fun w' => w'.cell? ⟨gs, 0, none⟩ = some (.slice AS sl cs) ∧ w'.cell? ⟨gs, 1, none⟩ = some (.int .i64 (sf : Int)) ∧ w' = w5.drew) (by kernel_rfl) (⟨d0, d1, rfl⟩) (fun hHeld => ?_)
              refine region_take 0 ?_ rfl (by kernel_rfl) (by rfl) hHeld ?_ ?_
              rotate_left
              · intro w hSw
                (try dsimp only at hSw)
                go_simp
                try with_reducible rfl
              try simp only [Act.put, List.setIfInBounds_toArray, List.set_cons_zero, List.set_cons_succ]
              refine region_take 1 ?_ rfl (by kernel_rfl) (by rfl) hHeld ?_ ?_
              rotate_left
              · intro w hSw
                (try dsimp only at hSw)
                go_simp
                try with_reducible rfl
              try simp only [Act.put, List.setIfInBounds_toArray, List.set_cons_zero, List.set_cons_succ]
              refine region_take 2 ?_ rfl (by kernel_rfl) (by rfl) hHeld ?_ ?_
              rotate_left
              · intro w hSw
                (try dsimp only at hSw)
                go_simp
                try with_reducible rfl
              try simp only [Act.put, List.setIfInBounds_toArray, List.set_cons_zero, List.set_cons_succ]
              refine region_take 4 ?_ rfl (by kernel_rfl) (by rfl) hHeld ?_ ?_
              rotate_left
              · intro w hSw
                (try dsimp only at hSw)
                go_simp
                try with_reducible rfl
              try simp only [Act.put, List.setIfInBounds_toArray, List.set_cons_zero, List.set_cons_succ]
              refine region_take 5 ?_ rfl (by kernel_rfl) (by rfl) hHeld ?_ ?_
              rotate_left
              · intro w hSw
                (try dsimp only at hSw)
                go_simp
                try with_reducible rfl
              try simp only [Act.put, List.setIfInBounds_toArray, List.set_cons_zero, List.set_cons_succ]
              refine region_take 6 ?_ rfl (by kernel_rfl) (by rfl) hHeld ?_ ?_
              rotate_left
              · intro w hSw
                (try dsimp only at hSw)
                go_simp
                try with_reducible rfl
              try simp only [Act.put, List.setIfInBounds_toArray, List.set_cons_zero, List.set_cons_succ]
              refine region_take 7 ?_ rfl (by kernel_rfl) (by rfl) hHeld ?_ ?_
              rotate_left
              · intro w hSw
                (try dsimp only at hSw)
                go_simp
                try with_reducible rfl
              try simp only [Act.put, List.setIfInBounds_toArray, List.set_cons_zero, List.set_cons_succ]
              refine region_call 3 rfl (by kernel_rfl) (by rfl) (fun K hK => ?_)
              go_simp
              go_at_call 26
              ((with_reducible refine (HE.out _ hR5.drew).mono ?_); rintro e w6 ⟨rfl, rfl⟩)
              refine hK.out _ _ (⟨d0, d1, rfl⟩) (fun hHeld => ?_)
              clear hK K
              try simp only [Act.put, List.setIfInBounds_toArray, List.set_cons_zero, List.set_cons_succ]
              refine region_take 8 ?_ rfl (by kernel_rfl) (by rfl) hHeld ?_ ?_
              rotate_left
              · intro w hSw
                (try dsimp only at hSw)
                go_simp
                try with_reducible rfl
              try simp only [Act.put, List.setIfInBounds_toArray, List.set_cons_zero, List.set_cons_succ]
              refine region_take 9 ?_ rfl (by kernel_rfl) (by rfl) hHeld ?_ ?_
              rotate_left
              · intro w hSw
                (try dsimp only at hSw)
                go_simp
                try with_reducible rfl
              try simp only [Act.put, List.setIfInBounds_toArray, List.set_cons_zero, List.set_cons_succ]
              refine region_take 10 ?_ rfl (by kernel_rfl) (by rfl) hHeld ?_ ?_
              rotate_left
              · intro w hSw
                (try dsimp only at hSw)
                go_simp
                try with_reducible rfl
              try simp only [Act.put, List.setIfInBounds_toArray, List.set_cons_zero, List.set_cons_succ]
              refine region_take 11 ?_ rfl (by kernel_rfl) (by rfl) hHeld ?_ ?_
              rotate_left
              · intro w hSw
                (try dsimp only at hSw)
                go_simp
                try with_reducible rfl
              try simp only [Act.put, List.setIfInBounds_toArray, List.set_cons_zero, List.set_cons_succ]
              refine region_take 12 ?_ rfl (by kernel_rfl) (by rfl) hHeld ?_ ?_
              rotate_left
              · intro w hSw
                (try dsimp only at hSw)
                go_simp
                try with_reducible rfl
              try simp only [Act.put, List.setIfInBounds_toArray, List.set_cons_zero, List.set_cons_succ]
              refine region_take 14 ?_ rfl (by kernel_rfl) (by rfl) hHeld ?_ ?_
              rotate_left
              · intro w hSw
                (try dsimp only at hSw)
                go_simp
                try with_reducible rfl
              try simp only [Act.put, List.setIfInBounds_toArray, List.set_cons_zero, List.set_cons_succ]
              refine region_take 15 ?_ rfl (by kernel_rfl) (by rfl) hHeld ?_ ?_
              rotate_left
              · intro w hSw
                (try dsimp only at hSw)
                go_simp
                try with_reducible rfl
              try simp only [Act.put, List.setIfInBounds_toArray, List.set_cons_zero, List.set_cons_succ]
              refine region_take 16 ?_ rfl (by kernel_rfl) (by rfl) hHeld ?_ ?_
              rotate_left
              · intro w hSw
                (try dsimp only at hSw)
                go_simp
                try with_reducible rfl
              try simp only [Act.put, List.setIfInBounds_toArray, List.set_cons_zero, List.set_cons_succ]
              refine region_take 17 ?_ rfl (by kernel_rfl) (by rfl) hHeld ?_ ?_
              rotate_left
              · intro w hSw
                (try dsimp only at hSw)
                go_simp
                try with_reducible rfl
              try simp only [Act.put, List.setIfInBounds_toArray, List.set_cons_zero, List.set_cons_succ]
              refine region_take 18 ?_ rfl (by kernel_rfl) (by rfl) hHeld ?_ ?_
              rotate_left
              · intro w hSw
                (try dsimp only at hSw)
                go_simp
                try with_reducible rfl
              try simp only [Act.put, List.setIfInBounds_toArray, List.set_cons_zero, List.set_cons_succ]
              refine region_call 13 rfl (by kernel_rfl) (by rfl) (fun K hK => ?_)
              go_simp
              go_at_call 27
              ((with_reducible refine (HL.out _ hR5.drew).mono ?_); rintro e w6 ⟨rfl, rfl⟩)
              refine hK.out _ _ (⟨d0, d1, rfl⟩) (fun hHeld => ?_)
              clear hK K
              try simp only [Act.put, List.setIfInBounds_toArray, List.set_cons_zero, List.set_cons_succ]
              refine region_take 19 ?_ rfl (by kernel_rfl) (by rfl) hHeld ?_ ?_
              rotate_left
              · intro w hSw
                (try dsimp only at hSw)
                go_simp
                try with_reducible rfl
              try simp only [Act.put, List.setIfInBounds_toArray, List.set_cons_zero, List.set_cons_succ]
              refine region_take 20 ?_ rfl (by kernel_rfl) (by rfl) hHeld ?_ ?_
              rotate_left
              · intro w hSw
                (try dsimp only at hSw)
                go_simp
                try with_reducible rfl
              try simp only [Act.put, List.setIfInBounds_toArray, List.set_cons_zero, List.set_cons_succ]
              refine region_done (by kernel_rfl) ?_
              clear hHeld d0 d1
              go_wp2_with fail
              go_roundw
              case rel => exact ⟨k + 1, s', by go_num, by omega, hR5.drew, HS5.out.drew, below_drewN hb5 1⟩
              case measure => simp [intOf] <;> omega
        · obtain rfl : k = m := by omega
          go_wp2_with fail
          go_ret
          exact ⟨rfl, hb⟩
theorem reads_any (A B : Option Addr) (c d : Nat) (b : List Nat) (l : List (Int × Int)) (w : World) (hs : Slice A b.length c) (hA : Holds w A (bytesV b)) (hby : Bytes b) (_ : Slice B l.length d) (hB : Holds w B (readsV l)) (hl : WideR l) :
    Calls Try.prog 4 #[.slice A b.length c, .slice B l.length d] w fun e w' => e = .returned (.bool true) ∧ Below w.heap.size w w' := by
  by_cases h : 4000 < b.length ∨ 300 < l.length
  · exact reads_long A B _ _ c d w h
  · exact reads_some A B _ _ c d b l w rfl rfl hs hA hby hB hl (by omega) (by omega)
end Go.Proofs.Ytbpbokdomdmclaa
