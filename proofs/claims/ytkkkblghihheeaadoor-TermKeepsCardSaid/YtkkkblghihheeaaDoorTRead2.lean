/- The document's answer: Read: a node with kids. -/
import Derived.Test.YtkkkblghihheeaaDoorTReadQ
namespace Go.Proofs.YtkkkblghihheeaaDoor
open Go.RowKit

set_option maxRecDepth 100000 in
set_option maxHeartbeats 4000000 in
theorem read_plain (g o n c : Nat) (t : List Node3) (w : World) (hn : t.length = n) (h0 : 0 < n) (hnb : n ≤ 100000) (hsl : Slice (some ⟨g, o, none⟩) n c) (hA : Holds w (some ⟨g, o, none⟩) (nodesV t)) (hw : ∀ x ∈ t, Wide3 x) (h : topB (t[0]'(by omega)) = true) (h2 : (t[0]'(by omega)).1 ≠ 2) (hx12 : (t[0]'(by omega)).1 ≠ 12)
    (ih : ∀ (at_ : Nat) (A : Option Addr) (c' : Nat) (w' : World), 0 < at_ → at_ ≤ n → Slice A (n - at_) c' → Holds w' A (nodesV (t.drop at_)) → Calls Tryd.prog 42 #[.slice A (n - at_) c'] w' (ReadPost (t.drop at_) w')) :
    Calls Tryd.prog 42 #[.slice (some ⟨g, o, none⟩) n c] w (ReadPost t w) := by
  have hb0 : Below w.heap.size w (w.alloc (.cells #[.int .i64 0, .int .i64 0, .int .i64 0, .slice none 0 0, .slice none 0 0, .slice none 0 0] 59)) := (Below.refl _ _).alloc (Nat.le_refl _) _
  have hA1 := hA.below hb0
  have r0 := hA1.cell (nodesV_get0 (j := 0) (by omega))
  have r1 := hA1.cell (nodesV_get1 (j := 0) (by omega))
  have r2 := hA1.cell (nodesV_get2 (j := 0) (by omega))
  have hc := count_any t[0] (w.alloc (.cells #[.int .i64 0, .int .i64 0, .int .i64 0, .slice none 0 0, .slice none 0 0, .slice none 0 0] 59)) (hw _ (List.getElem_mem _))
  obtain ⟨x, hx⟩ : ∃ x, t[0]'(by omega) = x := ⟨_, rfl⟩
  have hz := Whole.new w #[.int .i64 0, .int .i64 0, .int .i64 0, .slice none 0 0, .slice none 0 0, .slice none 0 0] 59
  rw [hx] at r0 r1 r2 hc h h2 hx12
  simp only [Nat.zero_mul, Nat.add_zero, Nat.zero_add] at r0 r1 r2
  have HC := Lib.hid hc
  have HB0 := Lib.hid hb0
  have HZ := Lib.hid hz
  have HH := Lib.hid h
  have HA1 := Lib.hid hA1
  have HN := Lib.hid hn
  have HXX : Hid (t[0]? = some x) := Lib.hid (by rw [List.getElem?_eq_getElem (by omega), hx])
  have HIH := Lib.hid ih
  have HW := Lib.hid hw
  have HSL := Lib.hid hsl
  clear hc hb0 hA hA1 hw hx h hz hn ih
  obtain ⟨xo, xA, xB⟩ := x
  simp only at r0 r1 r2 h2 hx12
  have HX12 := Lib.hid hx12
  clear hx12
  have e2 : (xo == 2) = false := by simpa using h2
  go_enter Tryd.func42, Tryd.ntmps42
  go_wp2_with fail
  refine (HC.out).mono ?_
  rintro e w1 ⟨k, rfl, hk, hb1⟩
  rw [HH.out]
  have hk' := hk HH.out
  have hA2 := HA1.out.below hb1
  have s0 := hA2.cell (nodesV_get0 (j := 0) (by have := HN.out; omega))
  have s1 := hA2.cell (nodesV_get1 (j := 0) (by have := HN.out; omega))
  have s2 := hA2.cell (nodesV_get2 (j := 0) (by have := HN.out; omega))
  have HX0 : Hid (t[0]'(by have := HN.out; omega) = (xo, xA, xB)) := Lib.hid (by have := HXX.out; rwa [List.getElem?_eq_getElem (by have := HN.out; omega), Option.some.injEq] at this)
  rw [HX0.out] at s0 s1 s2
  simp only [Nat.zero_mul, Nat.add_zero, Nat.zero_add] at s0 s1 s2
  have HK18 := Lib.hid (kidsN_le HH.out)
  have HGL : Hid (g < w1.heap.size) := Lib.hid (by
    obtain ⟨b', o', e', hb', -⟩ := hA2.at_ (by rw [nodesV_len]; have := HN.out; omega)
    cases e'
    exact hb')
  have HB1 := Lib.hid (below_step HB0.out hb1)
  have HZ1 := Lib.hid (HZ.out.below hb1 HZ.out.lt)
  have HG0 := Lib.hid (RdGrow.start w1 (xo, xA, xB))
  have HBO := Lib.hid (show Below w1.heap.size w1 (w1.alloc (.cells #[.int .i64 xo, .int .i64 xA, .int .i64 xB, .slice none 0 0, .slice none 0 0, .slice none 0 0] 59)) from (Below.refl _ _).alloc (Nat.le_refl _) _)
  have hA3 := hA2.below HBO.out
  have u0 := hA3.cell (nodesV_get0 (j := 0) (by have := HN.out; omega))
  rw [HX0.out] at u0
  simp only [Nat.zero_mul, Nat.add_zero] at u0
  have HA2 := Lib.hid hA2
  clear hA3
  have hkn := hk HH.out
  subst hkn
  clear hb1 hA2 r0 r1 r2 hk hk'
  go_wp2_with fail
  have HST : Hid (Cont t (treeA (xo, xA, xB) [] [] []) 1 (kidsP (xo, xA, xB) (kidsN (xo, xA, xB)) 0)) := Lib.hid (by
    rw [← follow_kids (n := (xo, xA, xB)) (by simpa using h2)]
    obtain ⟨r, hr⟩ : ∃ r, t = (xo, xA, xB) :: r := by
      cases t with
      | nil => have := HN.out; simp at this; omega
      | cons y r => exact ⟨r, by have := HX0.out; simp at this; rw [this]⟩
    exact cont_top hr HH.out)
  go_loopw [8, 10] (fun at_ i wr => ∃ (i' p : Nat) (Kv Fv : Value) (os : List (TV × Ann)) (fs : List Node3), at_ = .int .i64 (p : Int) ∧ i = .int .i64 (i' : Int) ∧ i' ≤ kidsN (xo, xA, xB) ∧ p ≤ n ∧ 0 < p ∧ os.length = i' ∧ Hid (fs.length = if xo = 12 then (i' + 1) / 2 else 0) ∧ Hid ((treeA (xo, xA, xB) [] fs (os.map Prod.snd)).length = p) ∧ Hid (Cont t (treeA (xo, xA, xB) [] fs (os.map Prod.snd)) p (kidsP (xo, xA, xB) (kidsN (xo, xA, xB) - i') i')) ∧ Hid (RdGrow wr w1.heap.size (xo, xA, xB) Kv (.slice none 0 0) Fv os [] fs) ∧ Hid (∀ x ∈ fs, x.1 = 13) ∧ Hid (Below w1.heap.size w1 wr)) (fun _ i _ => kidsN (xo, xA, xB) - (intOf i).toNat)
  case atStart => exact ⟨0, 1, _, _, [], [], rfl, rfl, Nat.zero_le _, h0, by omega, rfl, Lib.hid (by simp), Lib.hid rfl, HST, HG0, Lib.hid (by simp), HBO⟩
  case round =>
    obtain ⟨i', p, Kv, Fv, os, fs, rfl, rfl, hi, hp, hp0, hlen, HFS, HPL, HCT, HG, HFN, HBR⟩ := hrel
    have hAr := HA2.out.below HBR.out
    have s0r := hAr.cell (nodesV_get0 (j := 0) (by have := HN.out; omega))
    rw [HX0.out] at s0r
    simp only [Nat.zero_mul, Nat.add_zero] at s0r
    have HAR := Lib.hid hAr
    have HBW := Lib.hid (below_step HB1.out HBR.out)
    clear hAr
    by_cases hlt : i' < kidsN (xo, xA, xB)
    · have hk18 : kidsN (xo, xA, xB) ≤ 18 := HK18.out
      by_cases hf : xo = 12 ∧ i' % 2 = 0
      · exact absurd hf.1 HX12.out
      · have HC0 : Hid (Cont t (treeA (xo, xA, xB) [] fs (os.map Prod.snd)) p (⟨0, aroundN (xo, xA, xB) i'⟩ :: kidsP (xo, xA, xB) (kidsN (xo, xA, xB) - (i' + 1)) (i' + 1))) := Lib.hid (by
          have := HCT.out
          rw [show kidsN (xo, xA, xB) - i' = (kidsN (xo, xA, xB) - (i' + 1)) + 1 by omega] at this
          unfold kidsP funP at this
          rwa [if_neg hf] at this)
        have HF1 : Hid (fs.length = if xo = 12 then (i' + 1 + 1) / 2 else 0) := Lib.hid (by
          rw [HFS.out]
          by_cases h : xo = 12
          · rw [if_pos h, if_pos h]; omega
          · rw [if_neg h, if_neg h])
        have HSN : Hid (∀ (v : TV) (a : Ann), treeA (xo, xA, xB) [] fs ((os ++ [(v, a)]).map Prod.snd) = treeA (xo, xA, xB) [] fs (os.map Prod.snd) ++ shA (aroundN (xo, xA, xB) i') a) := Lib.hid fun v a => by
          rw [List.map_append, List.map_cons, List.map_nil, treeA_snoc, List.length_map, hlen]
          unfold funA
          rw [if_neg hf, List.nil_append]
        by_cases h12 : xo = 12
        · have e12 : (xo == 12) = true := by simpa using h12
          have et : (i' : Int).tmod 2 = 1 := by rw [Int.tmod_eq_emod_of_nonneg (Int.natCast_nonneg i')]; omega
          clear h12 hf
          exact absurd (by simpa using e12) HX12.out
        · have e12 : (xo == 12) = false := by simpa using h12
          clear h12 hf
          by_cases hpn : p = n
          · have HRN := Lib.hid (fun A c' => show Calls Tryd.prog 42 #[.slice A (n - p) c'] wr (ReadPost [] wr) by rw [show n - p = 0 by omega]; exact read_nil A c' wr)
            have HDN : Hid (t.drop (p) = []) := Lib.hid (List.drop_eq_nil_of_le (by have := HN.out; omega))
            have hcl : n ≤ c := HSL.out.1
            have hcm : c ≤ 9223372036854775807 := HSL.out.2.1
            have hpc : p ≤ n := by omega
            clear hpn
            go_wp2_with fail
            all_goals
              refine (HRN.out _ _).mono ?_
              rintro e w5 h5
              obtain ⟨rfl, hb5⟩ := h5.nil
              have hwz := HZ1.out.below ((HBR.out.trans (hb5.mono HBR.out.size)).alloc (Nat.le_trans HBR.out.size hb5.size) (.cells #[.int .i64 0, .int .i64 0, .int .i64 0, .slice none 0 0, .slice none 0 0, .slice none 0 0] 59)) HZ1.out.lt
              have z0 : (w5.alloc (.cells #[.int .i64 0, .int .i64 0, .int .i64 0, .slice none 0 0, .slice none 0 0, .slice none 0 0] 59)).cell? ⟨w.heap.size, 0, none⟩ = some (.int .i64 0) := hwz.cell 0
              have f0 := hwz.frozen 0
              have z1 : (w5.alloc (.cells #[.int .i64 0, .int .i64 0, .int .i64 0, .slice none 0 0, .slice none 0 0, .slice none 0 0] 59)).cell? ⟨w.heap.size, 1, none⟩ = some (.int .i64 0) := hwz.cell 1
              have f1 := hwz.frozen 1
              have z2 : (w5.alloc (.cells #[.int .i64 0, .int .i64 0, .int .i64 0, .slice none 0 0, .slice none 0 0, .slice none 0 0] 59)).cell? ⟨w.heap.size, 2, none⟩ = some (.int .i64 0) := hwz.cell 2
              have f2 := hwz.frozen 2
              have z3 : (w5.alloc (.cells #[.int .i64 0, .int .i64 0, .int .i64 0, .slice none 0 0, .slice none 0 0, .slice none 0 0] 59)).cell? ⟨w.heap.size, 3, none⟩ = some (.slice none 0 0) := hwz.cell 3
              have f3 := hwz.frozen 3
              have z4 : (w5.alloc (.cells #[.int .i64 0, .int .i64 0, .int .i64 0, .slice none 0 0, .slice none 0 0, .slice none 0 0] 59)).cell? ⟨w.heap.size, 4, none⟩ = some (.slice none 0 0) := hwz.cell 4
              have f4 := hwz.frozen 4
              have z5 : (w5.alloc (.cells #[.int .i64 0, .int .i64 0, .int .i64 0, .slice none 0 0, .slice none 0 0, .slice none 0 0] 59)).cell? ⟨w.heap.size, 5, none⟩ = some (.slice none 0 0) := hwz.cell 5
              have f5 := hwz.frozen 5
              have HWZ := Lib.hid hwz
              clear hwz
              have HBF := Lib.hid (((HBR.out.trans (hb5.mono HBR.out.size)).alloc (Nat.le_trans HBR.out.size hb5.size) (.cells #[.int .i64 0, .int .i64 0, .int .i64 0, .slice none 0 0, .slice none 0 0, .slice none 0 0] 59)))
              have HTF : Hid (top0 t = none) := Lib.hid (cont_kidno HC0.out (kidsP_noAt _ _ _) (by rw [HDN.out]; exact top0_nil))
              go_wp2_with fail
              have hw6 := ((((((HWZ.out).set_ 0 (.int .i64 0)).set_ 1 (.int .i64 0)).set_ 2 (.int .i64 0)).set_ 3 (.slice none 0 0)).set_ 4 (.slice none 0 0)).set_ 5 (.slice none 0 0)
              have ho6 : Only (fun j => j = w.heap.size) (w5.alloc (.cells #[.int .i64 0, .int .i64 0, .int .i64 0, .slice none 0 0, .slice none 0 0, .slice none 0 0] 59)) (((((((w5.alloc (.cells #[.int .i64 0, .int .i64 0, .int .i64 0, .slice none 0 0, .slice none 0 0, .slice none 0 0] 59)).setCell ⟨w.heap.size, 0, none⟩ (.int .i64 0)).setCell ⟨w.heap.size, 1, none⟩ (.int .i64 0)).setCell ⟨w.heap.size, 2, none⟩ (.int .i64 0)).setCell ⟨w.heap.size, 3, none⟩ (.slice none 0 0)).setCell ⟨w.heap.size, 4, none⟩ (.slice none 0 0)).setCell ⟨w.heap.size, 5, none⟩ (.slice none 0 0)) := ((((((Only.refl (fun j => j = w.heap.size) (w5.alloc (.cells #[.int .i64 0, .int .i64 0, .int .i64 0, .slice none 0 0, .slice none 0 0, .slice none 0 0] 59))).set_ (.inl rfl) 0 _).set_ (.inl rfl) 1 _).set_ (.inl rfl) 2 _).set_ (.inl rfl) 3 _).set_ (.inl rfl) 4 _).set_ (.inl rfl) 5 _
              generalize (((((((w5.alloc (.cells #[.int .i64 0, .int .i64 0, .int .i64 0, .slice none 0 0, .slice none 0 0, .slice none 0 0] 59)).setCell ⟨w.heap.size, 0, none⟩ (.int .i64 0)).setCell ⟨w.heap.size, 1, none⟩ (.int .i64 0)).setCell ⟨w.heap.size, 2, none⟩ (.int .i64 0)).setCell ⟨w.heap.size, 3, none⟩ (.slice none 0 0)).setCell ⟨w.heap.size, 4, none⟩ (.slice none 0 0)).setCell ⟨w.heap.size, 5, none⟩ (.slice none 0 0)) = W6 at *
              have q0 : W6.cell? ⟨w.heap.size, 0, none⟩ = some (.int .i64 0) := hw6.cell 0
              have q1 : W6.cell? ⟨w.heap.size, 1, none⟩ = some (.int .i64 0) := hw6.cell 1
              have q2 : W6.cell? ⟨w.heap.size, 2, none⟩ = some (.int .i64 0) := hw6.cell 2
              have q3 : W6.cell? ⟨w.heap.size, 3, none⟩ = some (.slice none 0 0) := hw6.cell 3
              have q4 : W6.cell? ⟨w.heap.size, 4, none⟩ = some (.slice none 0 0) := hw6.cell 4
              have q5 : W6.cell? ⟨w.heap.size, 5, none⟩ = some (.slice none 0 0) := hw6.cell 5
              have hb6 := ((HB1.out.trans (HBF.out.mono HB1.out.size))).trans (ho6.below (B := w.heap.size) (Nat.le_trans HB1.out.size HBF.out.size) fun k hk e => by omega)
              clear hw6 ho6
              (try simp only [Exit.inBlock, Exit.then])
              refine bodyPost_ret (by simp [results, Tryd.results42, go_sem, q0, q1, q2, q3, q4, q5]; try rfl) rfl ?_
              exact ReadPost.no HTF.out hb6
          · have hpl : p < n := by omega
            have HRST := Lib.hid ((HA2.out.below HBR.out).skip_nodes (j := p) (by have := HN.out; omega))
            have hcl : n ≤ c := HSL.out.1
            have hcm : c ≤ 9223372036854775807 := HSL.out.2.1
            have hpc : p < c := by omega
            have hnc : n - (p) ≤ c - (p) := by omega
            have HREC := Lib.hid (HIH.out (p) (some ⟨g, o + (p) * 3, none⟩) (c - (p)) wr (by omega) (by omega) ⟨by omega, by omega, fun h => by cases h⟩ HRST.out)
            clear hpn
            go_wp2_with fail
            refine HREC.out.mono ?_
            rintro e w5 (⟨hno, rfl, hb5⟩ | ⟨a, s, v, hyes, rfl, ht, hb5⟩)
            · skip
              have hwz := HZ1.out.below ((HBR.out.trans (hb5.mono HBR.out.size)).alloc (Nat.le_trans HBR.out.size hb5.size) (.cells #[.int .i64 0, .int .i64 0, .int .i64 0, .slice none 0 0, .slice none 0 0, .slice none 0 0] 59)) HZ1.out.lt
              have z0 : (w5.alloc (.cells #[.int .i64 0, .int .i64 0, .int .i64 0, .slice none 0 0, .slice none 0 0, .slice none 0 0] 59)).cell? ⟨w.heap.size, 0, none⟩ = some (.int .i64 0) := hwz.cell 0
              have f0 := hwz.frozen 0
              have z1 : (w5.alloc (.cells #[.int .i64 0, .int .i64 0, .int .i64 0, .slice none 0 0, .slice none 0 0, .slice none 0 0] 59)).cell? ⟨w.heap.size, 1, none⟩ = some (.int .i64 0) := hwz.cell 1
              have f1 := hwz.frozen 1
              have z2 : (w5.alloc (.cells #[.int .i64 0, .int .i64 0, .int .i64 0, .slice none 0 0, .slice none 0 0, .slice none 0 0] 59)).cell? ⟨w.heap.size, 2, none⟩ = some (.int .i64 0) := hwz.cell 2
              have f2 := hwz.frozen 2
              have z3 : (w5.alloc (.cells #[.int .i64 0, .int .i64 0, .int .i64 0, .slice none 0 0, .slice none 0 0, .slice none 0 0] 59)).cell? ⟨w.heap.size, 3, none⟩ = some (.slice none 0 0) := hwz.cell 3
              have f3 := hwz.frozen 3
              have z4 : (w5.alloc (.cells #[.int .i64 0, .int .i64 0, .int .i64 0, .slice none 0 0, .slice none 0 0, .slice none 0 0] 59)).cell? ⟨w.heap.size, 4, none⟩ = some (.slice none 0 0) := hwz.cell 4
              have f4 := hwz.frozen 4
              have z5 : (w5.alloc (.cells #[.int .i64 0, .int .i64 0, .int .i64 0, .slice none 0 0, .slice none 0 0, .slice none 0 0] 59)).cell? ⟨w.heap.size, 5, none⟩ = some (.slice none 0 0) := hwz.cell 5
              have f5 := hwz.frozen 5
              have HWZ := Lib.hid hwz
              clear hwz
              have HBF := Lib.hid (((HBR.out.trans (hb5.mono HBR.out.size)).alloc (Nat.le_trans HBR.out.size hb5.size) (.cells #[.int .i64 0, .int .i64 0, .int .i64 0, .slice none 0 0, .slice none 0 0, .slice none 0 0] 59)))
              have HTF : Hid (top0 t = none) := Lib.hid (cont_kidno HC0.out (kidsP_noAt _ _ _) hno)
              go_wp2_with fail
              have hw6 := ((((((HWZ.out).set_ 0 (.int .i64 0)).set_ 1 (.int .i64 0)).set_ 2 (.int .i64 0)).set_ 3 (.slice none 0 0)).set_ 4 (.slice none 0 0)).set_ 5 (.slice none 0 0)
              have ho6 : Only (fun j => j = w.heap.size) (w5.alloc (.cells #[.int .i64 0, .int .i64 0, .int .i64 0, .slice none 0 0, .slice none 0 0, .slice none 0 0] 59)) (((((((w5.alloc (.cells #[.int .i64 0, .int .i64 0, .int .i64 0, .slice none 0 0, .slice none 0 0, .slice none 0 0] 59)).setCell ⟨w.heap.size, 0, none⟩ (.int .i64 0)).setCell ⟨w.heap.size, 1, none⟩ (.int .i64 0)).setCell ⟨w.heap.size, 2, none⟩ (.int .i64 0)).setCell ⟨w.heap.size, 3, none⟩ (.slice none 0 0)).setCell ⟨w.heap.size, 4, none⟩ (.slice none 0 0)).setCell ⟨w.heap.size, 5, none⟩ (.slice none 0 0)) := ((((((Only.refl (fun j => j = w.heap.size) (w5.alloc (.cells #[.int .i64 0, .int .i64 0, .int .i64 0, .slice none 0 0, .slice none 0 0, .slice none 0 0] 59))).set_ (.inl rfl) 0 _).set_ (.inl rfl) 1 _).set_ (.inl rfl) 2 _).set_ (.inl rfl) 3 _).set_ (.inl rfl) 4 _).set_ (.inl rfl) 5 _
              generalize (((((((w5.alloc (.cells #[.int .i64 0, .int .i64 0, .int .i64 0, .slice none 0 0, .slice none 0 0, .slice none 0 0] 59)).setCell ⟨w.heap.size, 0, none⟩ (.int .i64 0)).setCell ⟨w.heap.size, 1, none⟩ (.int .i64 0)).setCell ⟨w.heap.size, 2, none⟩ (.int .i64 0)).setCell ⟨w.heap.size, 3, none⟩ (.slice none 0 0)).setCell ⟨w.heap.size, 4, none⟩ (.slice none 0 0)).setCell ⟨w.heap.size, 5, none⟩ (.slice none 0 0)) = W6 at *
              have q0 : W6.cell? ⟨w.heap.size, 0, none⟩ = some (.int .i64 0) := hw6.cell 0
              have q1 : W6.cell? ⟨w.heap.size, 1, none⟩ = some (.int .i64 0) := hw6.cell 1
              have q2 : W6.cell? ⟨w.heap.size, 2, none⟩ = some (.int .i64 0) := hw6.cell 2
              have q3 : W6.cell? ⟨w.heap.size, 3, none⟩ = some (.slice none 0 0) := hw6.cell 3
              have q4 : W6.cell? ⟨w.heap.size, 4, none⟩ = some (.slice none 0 0) := hw6.cell 4
              have q5 : W6.cell? ⟨w.heap.size, 5, none⟩ = some (.slice none 0 0) := hw6.cell 5
              have hb6 := ((HB1.out.trans (HBF.out.mono HB1.out.size))).trans (ho6.below (B := w.heap.size) (Nat.le_trans HB1.out.size HBF.out.size) fun k hk e => by omega)
              clear hw6 ho6
              (try simp only [Exit.inBlock, Exit.then])
              refine bodyPost_ret (by simp [results, Tryd.results42, go_sem, q0, q1, q2, q3, q4, q5]; try rfl) rfl ?_
              exact ReadPost.no HTF.out hb6
            · obtain ⟨⟨yo, yA, yB⟩, yK, ynk, yck, yP, ynp, ycp, yF, ynf, ycf⟩ := v
              dsimp only [TV.val]
              have hrw := top0_row hyes
              obtain ⟨m, hm⟩ : ∃ m, a.length = m := ⟨_, rfl⟩
              have hml : p + m ≤ n := by
                have := congrArg List.length hrw.1
                rw [List.length_drop, List.length_append, List.length_map, HN.out] at this
                omega
              rw [hm]
              have HM := Lib.hid hm
              have HIT := Lib.hid (isT_of hyes)
              have HCN := Lib.hid (cont_kid HC0.out (kidsP_noAt _ _ _) hyes)
              have hg5 := HG.out.next hb5
              have HT := Lib.hid ht
              have HB5 := Lib.hid hb5
              have HLL := Lib.hid (show Below w5.heap.size w5 ((w5.alloc (.cells #[.int .i64 yo, .int .i64 yA, .int .i64 yB, .slice yK ynk yck, .slice yP ynp ycp, .slice yF ynf ycf] 59)).alloc (.cells #[.int .i64 yo, .int .i64 yA, .int .i64 yB, .slice yK ynk yck, .slice yP ynp ycp, .slice yF ynf ycf] 59)) from ((Below.refl _ _).alloc (Nat.le_refl _) _).alloc (by simp) _)
              have HLH : Hid (Holds ((w5.alloc (.cells #[.int .i64 yo, .int .i64 yA, .int .i64 yB, .slice yK ynk yck, .slice yP ynp ycp, .slice yF ynf ycf] 59)).alloc (.cells #[.int .i64 yo, .int .i64 yA, .int .i64 yB, .slice yK ynk yck, .slice yP ynp ycp, .slice yF ynf ycf] 59)) (some ⟨w5.heap.size + 1, 0, none⟩) (TV.cells ⟨(yo, yA, yB), yK, ynk, yck, yP, ynp, ycp, yF, ynf, ycf⟩)) := Lib.hid (by
                have := holds_at (w5.alloc (.cells #[.int .i64 yo, .int .i64 yA, .int .i64 yB, .slice yK ynk yck, .slice yP ynp ycp, .slice yF ynf ycf] 59)) #[.int .i64 yo, .int .i64 yA, .int .i64 yB, .slice yK ynk yck, .slice yP ynp ycp, .slice yF ynf ycf] 59 _ rfl
                rwa [World.size_alloc] at this)
              have hg7 := hg5.next (w1 := ((w5.alloc (.cells #[.int .i64 yo, .int .i64 yA, .int .i64 yB, .slice yK ynk yck, .slice yP ynp ycp, .slice yF ynf ycf] 59)).alloc (.cells #[.int .i64 yo, .int .i64 yA, .int .i64 yB, .slice yK ynk yck, .slice yP ynp ycp, .slice yF ynf ycf] 59))) HLL.out
              have hown := hg7.ownK
              rw [hlen] at hown
              obtain ⟨Ko, cko, rfl, -, -⟩ := own_slice hown
              have hgl := hg5.next (w1 := (w5.alloc (.cells #[.int .i64 yo, .int .i64 yA, .int .i64 yB, .slice yK ynk yck, .slice yP ynp ycp, .slice yF ynf ycf] 59))) ((Below.refl _ _).alloc (Nat.le_refl _) _)
              have cb0 : (w5.alloc (.cells #[.int .i64 yo, .int .i64 yA, .int .i64 yB, .slice yK ynk yck, .slice yP ynp ycp, .slice yF ynf ycf] 59)).cell? ⟨w1.heap.size, 3, none⟩ = some (.slice Ko i' cko) := hgl.whole.cell 3
              have HOWN := Lib.hid hown
              have HW7 := Lib.hid hg7.whole
              have HK7 := Lib.hid hg7.kK
              have hb1k : w1.heap.size < w5.heap.size := hg5.whole.lt
              have ewm := IntWalk.i64_in (((p : Nat) : Int) + (m : Int)) (by omega)
              clear hm hyes hrw ht hb5 hg5 hg7 hown hgl
              go_wp2_with (at_builtin; go_must (refine wpList_append_tx rfl (.tmp 173) (.tmp 175) _ _ _ rfl Tryd.underlying57 59 _ 6 96 infoTree rfl (by decide) Tryd.underlying57 (.slice Ko i' cko) i' 1 _ _ rfl HOWN.out (some ⟨w5.heap.size + 1, 0, none⟩) 1 rfl ⟨by omega, by omega, fun h => by cases h⟩ HLH.out rfl (cells_one _) (by omega) (by decide) ?_); intro v7 w7 hown7 hmv7; obtain ⟨K7, c7, rfl, -, -⟩ := own_slice hown7; have hw7 := HW7.out.only hmv7.only (fun e => by have := HK7.out _ e; omega); have cb7 : w7.cell? ⟨w1.heap.size, 3, none⟩ = some (.slice Ko i' cko) := hw7.cell 3; have fb7 : w7.frozen? ⟨w1.heap.size, 3, none⟩ = false := hw7.frozen 3; have HO7 := Lib.hid hown7; have HM7 := Lib.hid hmv7; clear hown7 hmv7 hw7)
              obtain ⟨hg8, hb8⟩ := HG.out.addK (vk := ⟨(yo, yA, yB), yK, ynk, yck, yP, ynp, ycp, yF, ynf, ycf⟩) (ak := a) HB5.out HT.out HIT.out HLL.out (by rw [hlen]; exact HO7.out) HM7.out
              have HG8 := Lib.hid hg8
              have HB8 := Lib.hid (HBR.out.trans hb8)
              have HTL := Lib.hid (HSN.out ⟨(yo, yA, yB), yK, ynk, yck, yP, ynp, ycp, yF, ynf, ycf⟩ a)
              clear hg8 hb8
              go_roundw
              case rel => exact ⟨i' + 1, p + m, _, Fv, os ++ [(⟨(yo, yA, yB), yK, ynk, yck, yP, ynp, ycp, yF, ynf, ycf⟩, a)], fs, by go_num, by go_num, by omega, by omega, by omega, by rw [List.length_append, hlen]; rfl, HF1, Lib.hid (by rw [HTL.out, List.length_append, HPL.out]; unfold shA; rw [List.length_map, HM.out]), Lib.hid (by rw [HTL.out, ← HM.out]; exact HCN.out), HG8, HFN, HB8⟩
              case measure => simp [intOf] <;> omega
    · have hik : i' = kidsN (xo, xA, xB) := by omega
      have HTP : Hid (top0 t = some (treeA (xo, xA, xB) [] fs (os.map Prod.snd), t.drop p)) := Lib.hid (by
        have := HCT.out
        rw [hik, Nat.sub_self] at this
        exact cont_done this)
      have hG := HG.out
      have hownK := hG.ownK
      rw [hlen] at hownK
      obtain ⟨Ko, cko, rfl, -, -⟩ := own_slice hownK
      obtain ⟨Fo, cfo, rfl, -, -⟩ := own_slice hG.ownF
      have HDN := Lib.hid (hG.done hlen rfl rfl (fun h1 => ⟨by rw [hlen, hik]; exact (top_var HH.out h1).1, rfl, (top_var HH.out h1).2⟩) (fun h12 => by
        have h1 := top_fix HH.out h12
        have h2 := HFS.out
        simp only at h12 h1
        rw [if_pos h12] at h2
        exact ⟨by show (0 : Int) ≤ xB; omega, by show xB ≤ 4; omega, by omega⟩) (fun x hx => by
        rcases hx with hx | hx
        · cases hx
        · rw [HFN.out x hx]; decide) (by rw [hlen, hik]) (fun _ => rfl))
      have hwo := hG.whole
      have o0 : wr.cell? ⟨w1.heap.size, 0, none⟩ = some (.int .i64 xo) := hwo.cell 0
      have o1 : wr.cell? ⟨w1.heap.size, 1, none⟩ = some (.int .i64 xA) := hwo.cell 1
      have o2 : wr.cell? ⟨w1.heap.size, 2, none⟩ = some (.int .i64 xB) := hwo.cell 2
      have o3 : wr.cell? ⟨w1.heap.size, 3, none⟩ = some (.slice Ko i' cko) := hwo.cell 3
      have o4 : wr.cell? ⟨w1.heap.size, 4, none⟩ = some (.slice none 0 0) := hwo.cell 4
      have o5 : wr.cell? ⟨w1.heap.size, 5, none⟩ = some (.slice Fo fs.length cfo) := hwo.cell 5
      clear hik hG hwo hownK
      have hwz := HZ1.out.below HBR.out HZ1.out.lt
      have z0 : wr.cell? ⟨w.heap.size, 0, none⟩ = some (.int .i64 0) := hwz.cell 0
      have f0 := hwz.frozen 0
      have z1 : wr.cell? ⟨w.heap.size, 1, none⟩ = some (.int .i64 0) := hwz.cell 1
      have f1 := hwz.frozen 1
      have z2 : wr.cell? ⟨w.heap.size, 2, none⟩ = some (.int .i64 0) := hwz.cell 2
      have f2 := hwz.frozen 2
      have z3 : wr.cell? ⟨w.heap.size, 3, none⟩ = some (.slice none 0 0) := hwz.cell 3
      have f3 := hwz.frozen 3
      have z4 : wr.cell? ⟨w.heap.size, 4, none⟩ = some (.slice none 0 0) := hwz.cell 4
      have f4 := hwz.frozen 4
      have z5 : wr.cell? ⟨w.heap.size, 5, none⟩ = some (.slice none 0 0) := hwz.cell 5
      have f5 := hwz.frozen 5
      have HWZ := Lib.hid hwz
      clear hwz
      go_wp2_with fail
      have hw6 := ((((((HWZ.out).set_ 0 (.int .i64 xo)).set_ 1 (.int .i64 xA)).set_ 2 (.int .i64 xB)).set_ 3 (.slice Ko i' cko)).set_ 4 (.slice none 0 0)).set_ 5 (.slice Fo fs.length cfo)
      have ho6 : Only (fun j => j = w.heap.size) wr ((((((wr.setCell ⟨w.heap.size, 0, none⟩ (.int .i64 xo)).setCell ⟨w.heap.size, 1, none⟩ (.int .i64 xA)).setCell ⟨w.heap.size, 2, none⟩ (.int .i64 xB)).setCell ⟨w.heap.size, 3, none⟩ (.slice Ko i' cko)).setCell ⟨w.heap.size, 4, none⟩ (.slice none 0 0)).setCell ⟨w.heap.size, 5, none⟩ (.slice Fo fs.length cfo)) := ((((((Only.refl (fun j => j = w.heap.size) wr).set_ (.inl rfl) 0 _).set_ (.inl rfl) 1 _).set_ (.inl rfl) 2 _).set_ (.inl rfl) 3 _).set_ (.inl rfl) 4 _).set_ (.inl rfl) 5 _
      generalize ((((((wr.setCell ⟨w.heap.size, 0, none⟩ (.int .i64 xo)).setCell ⟨w.heap.size, 1, none⟩ (.int .i64 xA)).setCell ⟨w.heap.size, 2, none⟩ (.int .i64 xB)).setCell ⟨w.heap.size, 3, none⟩ (.slice Ko i' cko)).setCell ⟨w.heap.size, 4, none⟩ (.slice none 0 0)).setCell ⟨w.heap.size, 5, none⟩ (.slice Fo fs.length cfo)) = W6 at *
      have q0 : W6.cell? ⟨w.heap.size, 0, none⟩ = some (.int .i64 xo) := hw6.cell 0
      have q1 : W6.cell? ⟨w.heap.size, 1, none⟩ = some (.int .i64 xA) := hw6.cell 1
      have q2 : W6.cell? ⟨w.heap.size, 2, none⟩ = some (.int .i64 xB) := hw6.cell 2
      have q3 : W6.cell? ⟨w.heap.size, 3, none⟩ = some (.slice Ko i' cko) := hw6.cell 3
      have q4 : W6.cell? ⟨w.heap.size, 4, none⟩ = some (.slice none 0 0) := hw6.cell 4
      have q5 : W6.cell? ⟨w.heap.size, 5, none⟩ = some (.slice Fo fs.length cfo) := hw6.cell 5
      have hb6 := HBW.out.trans (ho6.below (B := w.heap.size) (HBW.out.size) fun k hk e => by omega)
      have ht6 := (HDN.out.keep fun k hk hl => ho6.block k hl (by have := HZ1.out.lt; omega)).mono (G' := fun k => w.heap.size ≤ k) fun k hk _ => by have := HZ1.out.lt; omega
      clear hw6 ho6
      (try simp only [Exit.inBlock, Exit.then])
      refine bodyPost_ret (by simp [results, Tryd.results42, go_sem, q0, q1, q2, q3, q4, q5]; try rfl) rfl ?_
      exact ReadPost.yes HTP.out HPL.out ht6 hb6
end Go.Proofs.YtkkkblghihheeaaDoor
