/- TermLifts holds for every input, where the program's table of limits is what its text says (the tied card): lifted terms, and which variables stand free, are as the document says. -/
import Derived.Test.YtkkkblghihheeaaDoorTOfAll
import Derived.Test.YtkkkblghihheeaaDoorTHighest
import Derived.Test.YtkkkblghihheeaaDoorTRaise
import Derived.Test.YtkkkblghihheeaaDoorTRow
import Derived.Test.YtkkkblghihheeaaDoorTTimes
import Derived.Test.YtkkkblghihheeaaDoorTLawKitAll
import Derived.Test.YtkkkblghihheeaaDoorTie
import Derived.Test.YtkkkblghihheeaaDoorCards
import Derived.Stop.Joined
namespace Go.Proofs.YtkkkblghihheeaaDoor
open Go.RowKit

set_option maxRecDepth 100000 in
set_option maxHeartbeats 4000000 in
theorem rlift_any (A : Option Addr) (n c : Nat) (t : List Node3) (by_ from_ : Int) (w : World) (hn : t.length = n) (hsl : Slice A n c) (hA : Holds w A (nodesV t)) (hw : ∀ x ∈ t, Wide3 x) (hby : I64 by_) (hfr : I64 from_) :
    Calls Tryd.prog 26 #[.slice A n c, .int .i64 by_, .int .i64 from_] w (RowAns (liftS t by_ from_) w) := by
  obtain ⟨hby1, hby2⟩ := hby
  obtain ⟨hfr1, hfr2⟩ := hfr
  have HN := Lib.hid hn
  have HS0 := Lib.hid (fun w1 (hb : Below w.heap.size w w1) => rshape_any A n c t w1 hn hsl (hA.below hb) hw)
  have HO0 := Lib.hid (fun w1 (hb : Below w.heap.size w w1) => rof_any A n c t w1 hn hsl (hA.below hb) hw)
  clear hn hA hw hsl
  by_cases hs : shapeOf t = 0
  · have HS := HS0
    rw [hs] at HS
    have HSS := Lib.hid hs
    by_cases hneg : by_ < 0 ∨ from_ < 0
    · have HR := Lib.hid (liftR1 hs hneg)
      clear hs
      by_cases hb0 : by_ < 0
      · clear hneg
        go_enter Tryd.func26, Tryd.ntmps26
        go_wp2_with fail
        refine (HS.out w (Below.refl _ _)).mono ?_
        rintro e w1 ⟨rfl, hb1⟩
        go_wp2_with fail
        go_ret2
        exact RowAns.err HR.out hb1
      · have hf0 : from_ < 0 := hneg.resolve_left hb0
        clear hneg
        go_enter Tryd.func26, Tryd.ntmps26
        go_wp2_with fail
        refine (HS.out w (Below.refl _ _)).mono ?_
        rintro e w1 ⟨rfl, hb1⟩
        go_wp2_with fail
        go_ret2
        exact RowAns.err HR.out hb1
    · obtain ⟨by_, rfl⟩ : ∃ b : Nat, (b : Int) = by_ := ⟨by_.toNat, by omega⟩
      obtain ⟨f, rfl⟩ : ∃ b : Nat, (b : Int) = from_ := ⟨from_.toNat, by omega⟩
      clear hneg
      have HSM := Lib.hid (small_of hs)
      have HLN := Lib.hid (len_of hs)
      have HR2 : Hid (gr 0 (annOf t) < (f : Int) → liftS t by_ f = ((annOf t).map Prod.fst, 0)) := Lib.hid (liftR2 hs (by omega) (by omega) (by omega))
      have HR3 : Hid ((f : Int) ≤ gr 0 (annOf t) → 1048576 < (by_ : Int) → liftS t by_ f = ([], 6)) := Lib.hid (liftR3 hs (by omega) (by omega))
      have HR4 : Hid (by_ ≤ 4000000 → 1048576 < hi by_ f (annOf t) → liftS t by_ f = ([], 6)) := Lib.hid (liftR4 hs)
      have HR5 : Hid (by_ ≤ 4000000 → ¬ 1048576 < hi by_ f (annOf t) → liftS t by_ f = ((rz by_ f (annOf t)).map Prod.fst, 0)) := Lib.hid (liftR5 hs)
      have HGS := Lib.hid (gr_small (ann_of hs).1.ok)
      have HRL := Lib.hid (rz_len (ann_of hs).1.ok by_ f)
      have HALN : Hid ((annOf t).length ≤ 4096) := Lib.hid (by have := HLN.out; omega)
      clear hs
      go_enter Tryd.func26, Tryd.ntmps26
      go_wp2_with fail
      refine (HS.out w (Below.refl _ _)).mono ?_
      rintro e w1 ⟨rfl, hb1⟩
      have HB1 := Lib.hid hb1
      clear hb1
      go_wp2_with fail
      refine (HO0.out w1 HB1.out).mono ?_
      rintro e w2 (⟨hno, -, -⟩ | ⟨v, -, rfl, ht, hb2⟩)
      · exact absurd HSS.out hno
      obtain ⟨⟨yo, yA, yB⟩, yK, ynk, yck, yP, ynp, ycp, yF, ynf, ycf⟩ := v
      dsimp only [TV.val]
      have HL := Lib.hid (show Below w2.heap.size w2 (w2.alloc (.cells #[.int .i64 yo, .int .i64 yA, .int .i64 yB, .slice yK ynk yck, .slice yP ynp ycp, .slice yF ynf ycf] 59)) from (Below.refl _ _).alloc (Nat.le_refl _) _)
      have HT := Lib.hid (ht.next HL.out)
      have HB2 := Lib.hid (below_step (below_step HB1.out hb2) HL.out)
      have hbox := holds_at w2 #[.int .i64 yo, .int .i64 yA, .int .i64 yB, .slice yK ynk yck, .slice yP ynp ycp, .slice yF ynf ycf] 59 _ rfl
      have HBX := Lib.hid hbox
      clear hb2 ht hbox
      go_wp2_with fail
      have hg := greatest_any (annOf t).length ⟨(yo, yA, yB), yK, ynk, yck, yP, ynp, ycp, yF, ynf, ycf⟩ (annOf t) (w2.alloc (.cells #[.int .i64 yo, .int .i64 yA, .int .i64 yB, .slice yK ynk yck, .slice yP ynp ycp, .slice yF ynf ycf] 59)) (fun k => w1.heap.size ≤ k) 0 (Nat.le_refl _) HT.out HSM.out (by have := HALN.out; omega)
      dsimp only [TV.val] at hg
      refine hg.mono ?_
      clear hg
      rintro e w3 ⟨rfl, hb3⟩
      have HT3 := Lib.hid (HT.out.next hb3)
      have HB3 := Lib.hid (below_step HB2.out hb3)
      have hbox := HBX.out.below hb3
      have c0 : w3.cell? ⟨w2.heap.size, 0, none⟩ = some (.int .i64 yo) := hbox.cell (j := 0) rfl
      have c1 : w3.cell? ⟨w2.heap.size, 1, none⟩ = some (.int .i64 yA) := by simpa using hbox.cell (j := 1) rfl
      have c2 : w3.cell? ⟨w2.heap.size, 2, none⟩ = some (.int .i64 yB) := by simpa using hbox.cell (j := 2) rfl
      have c3 : w3.cell? ⟨w2.heap.size, 3, none⟩ = some (.slice yK ynk yck) := by simpa using hbox.cell (j := 3) rfl
      have c4 : w3.cell? ⟨w2.heap.size, 4, none⟩ = some (.slice yP ynp ycp) := by simpa using hbox.cell (j := 4) rfl
      have c5 : w3.cell? ⟨w2.heap.size, 5, none⟩ = some (.slice yF ynf ycf) := by simpa using hbox.cell (j := 5) rfl
      have HBX3 := Lib.hid hbox
      clear hbox hb3
      have HGSm : Hid (gr 0 (annOf t) ≤ 1048576) := HGS
      generalize hgg : gr 0 (annOf t) = gg at *
      clear hgg
      by_cases hlt : gg < (f : Int)
      · have hgt : ¬ (f : Int) ≤ gg := by omega
        go_wp2_with fail
        have hr := row_any (annOf t).length ⟨(yo, yA, yB), yK, ynk, yck, yP, ynp, ycp, yF, ynf, ycf⟩ (annOf t) w3 (fun k => w1.heap.size ≤ k) (Nat.le_refl _) HT3.out (by have := HALN.out; omega)
        dsimp only [TV.val] at hr
        refine hr.mono ?_
        clear hr
        rintro e w4 ⟨A4, n4, c4', rfl, hn4, ho4, hb4⟩
        go_wp2_with fail
        go_ret2
        exact RowAns.of (HR2.out hlt) (by rw [List.length_map]; exact hn4) HB3.out.size ho4 (below_step HB3.out hb4)
      · by_cases hbb : 1048576 < (by_ : Int)
        · go_wp2_with fail
          go_ret2
          exact RowAns.err (HR3.out (by omega) hbb) HB3.out
        · have hb4m : by_ ≤ 4000000 := by omega
          have hfm : f ≤ 1048576 := by have := HGSm.out; omega
          go_wp2_with fail
          have hh := highest_any (annOf t).length ⟨(yo, yA, yB), yK, ynk, yck, yP, ynp, ycp, yF, ynf, ycf⟩ (annOf t) w3 (fun k => w1.heap.size ≤ k) by_ f hb4m (Nat.le_refl _) HT3.out HSM.out (by have := HALN.out; omega)
          dsimp only [TV.val] at hh
          refine hh.mono ?_
          clear hh
          rintro e w4 ⟨rfl, hb4⟩
          have HT4 := Lib.hid (HT3.out.next hb4)
          have HB4 := Lib.hid (below_step HB3.out hb4)
          have hbox := HBX3.out.below hb4
          replace c0 : w4.cell? ⟨w2.heap.size, 0, none⟩ = some (.int .i64 yo) := hbox.cell (j := 0) rfl
          replace c1 : w4.cell? ⟨w2.heap.size, 1, none⟩ = some (.int .i64 yA) := by simpa using hbox.cell (j := 1) rfl
          replace c2 : w4.cell? ⟨w2.heap.size, 2, none⟩ = some (.int .i64 yB) := by simpa using hbox.cell (j := 2) rfl
          replace c3 : w4.cell? ⟨w2.heap.size, 3, none⟩ = some (.slice yK ynk yck) := by simpa using hbox.cell (j := 3) rfl
          replace c4 : w4.cell? ⟨w2.heap.size, 4, none⟩ = some (.slice yP ynp ycp) := by simpa using hbox.cell (j := 4) rfl
          replace c5 : w4.cell? ⟨w2.heap.size, 5, none⟩ = some (.slice yF ynf ycf) := by simpa using hbox.cell (j := 5) rfl
          clear hbox hb4
          generalize hhi : hi by_ f (annOf t) = hh at *
          clear hhi
          by_cases hhg : 1048576 < hh
          · go_wp2_with fail
            go_ret2
            exact RowAns.err (HR4.out hb4m hhg) HB4.out
          · go_wp2_with fail
            have hz := raise_any (annOf t).length ⟨(yo, yA, yB), yK, ynk, yck, yP, ynp, ycp, yF, ynf, ycf⟩ (annOf t) w4 (fun k => w1.heap.size ≤ k) by_ f hb4m (Nat.le_refl _) HT4.out HSM.out (by have := HALN.out; omega)
            dsimp only [TV.val] at hz
            refine hz.mono ?_
            clear hz
            rintro e w5 ⟨v5, rfl, ht5, hb5⟩
            obtain ⟨⟨zo, zA, zB⟩, zK, znk, zck, zP, znp, zcp, zF, znf, zcf⟩ := v5
            dsimp only [TV.val]
            have HT5 := Lib.hid ht5
            have HB5 := Lib.hid (below_step HB4.out hb5)
            clear ht5 hb5
            go_wp2_with fail
            have hr := row_any (rz by_ f (annOf t)).length ⟨(zo, zA, zB), zK, znk, zck, zP, znp, zcp, zF, znf, zcf⟩ (rz by_ f (annOf t)) w5 _ (Nat.le_refl _) HT5.out (by rw [HRL.out]; have := HALN.out; omega)
            dsimp only [TV.val] at hr
            refine hr.mono ?_
            clear hr
            rintro e w6 ⟨A6, n6, c6, rfl, hn6, ho6, hb6⟩
            go_wp2_with fail
            go_ret2
            exact RowAns.of (HR5.out hb4m hhg) (by rw [List.length_map]; exact hn6) HB5.out.size ho6 (below_step HB5.out hb6)
  · have HR := Lib.hid (liftR0 (by_ := by_) (f := from_) hs)
    have HS := HS0
    have e1 : (shapeOf t != 0) = true := by simpa using hs
    have e2 : (shapeOf t == 0) = false := by simpa using hs
    clear hs
    generalize shapeOf t = sh at *
    go_enter Tryd.func26, Tryd.ntmps26
    go_wp2_with fail
    refine (HS.out w (Below.refl _ _)).mono ?_
    rintro e w1 ⟨rfl, hb1⟩
    go_wp2_with fail
    go_ret2
    exact RowAns.err HR.out hb1
end Go.Proofs.YtkkkblghihheeaaDoor
namespace Go.Proofs.YtkkkblghihheeaaDoor
open Go.RowKit

set_option maxRecDepth 100000 in
set_option maxHeartbeats 4000000 in
theorem rfree_any (A : Option Addr) (n c : Nat) (t : List Node3) (v : Int) (w : World) (hn : t.length = n) (hsl : Slice A n c) (hA : Holds w A (nodesV t)) (hw : ∀ x ∈ t, Wide3 x) (hv : I64 v) :
    Calls Tryd.prog 29 #[.slice A n c, .int .i64 v] w fun e w' => e = .returned (.bool (freeS t v)) ∧ Below w.heap.size w w' := by
  obtain ⟨hv1, hv2⟩ := hv
  have HB1 : Hid (Below w.heap.size w w) := Lib.hid (Below.refl _ _)
  have HN := Lib.hid hn
  have HS0 := Lib.hid (fun w1 (hb : Below w.heap.size w w1) => rshape_any A n c t w1 hn hsl (hA.below hb) hw)
  have HO0 := Lib.hid (fun w1 (hb : Below w.heap.size w w1) => rof_any A n c t w1 hn hsl (hA.below hb) hw)
  clear hn hA hw hsl
  clear HS0
  by_cases hs : shapeOf t = 0
  · have HSS := Lib.hid hs
    have HSM := Lib.hid (small_of hs)
    have HDP := Lib.hid (deep_of hs)
    have HALN : Hid ((annOf t).length ≤ 4096) := Lib.hid (by have := len_of hs; omega)
    by_cases hvr : v < 0 ∨ 1048576 < v
    · rw [freeR1 hs hvr]
      clear hs
      by_cases hv0 : v < 0
      · clear hvr
        go_enter Tryd.func29, Tryd.ntmps29
        go_wp2_with fail
        refine (HO0.out w HB1.out).mono ?_
        rintro e w2 (⟨hno, -, -⟩ | ⟨v, -, rfl, ht, hb2⟩)
        · exact absurd HSS.out hno
        obtain ⟨⟨yo, yA, yB⟩, yK, ynk, yck, yP, ynp, ycp, yF, ynf, ycf⟩ := v
        dsimp only [TV.val]
        have HL := Lib.hid (show Below w2.heap.size w2 (w2.alloc (.cells #[.int .i64 yo, .int .i64 yA, .int .i64 yB, .slice yK ynk yck, .slice yP ynp ycp, .slice yF ynf ycf] 59)) from (Below.refl _ _).alloc (Nat.le_refl _) _)
        have HT := Lib.hid (ht.next HL.out)
        have HB2 := Lib.hid (below_step (below_step HB1.out hb2) HL.out)
        have hbox := holds_at w2 #[.int .i64 yo, .int .i64 yA, .int .i64 yB, .slice yK ynk yck, .slice yP ynp ycp, .slice yF ynf ycf] 59 _ rfl
        have HBX := Lib.hid hbox
        clear hb2 ht hbox
        go_wp2_with fail
        go_ret
        exact ⟨rfl, HB2.out⟩
      · have hvb := hvr.resolve_left hv0
        clear hvr
        go_enter Tryd.func29, Tryd.ntmps29
        go_wp2_with fail
        refine (HO0.out w HB1.out).mono ?_
        rintro e w2 (⟨hno, -, -⟩ | ⟨v, -, rfl, ht, hb2⟩)
        · exact absurd HSS.out hno
        obtain ⟨⟨yo, yA, yB⟩, yK, ynk, yck, yP, ynp, ycp, yF, ynf, ycf⟩ := v
        dsimp only [TV.val]
        have HL := Lib.hid (show Below w2.heap.size w2 (w2.alloc (.cells #[.int .i64 yo, .int .i64 yA, .int .i64 yB, .slice yK ynk yck, .slice yP ynp ycp, .slice yF ynf ycf] 59)) from (Below.refl _ _).alloc (Nat.le_refl _) _)
        have HT := Lib.hid (ht.next HL.out)
        have HB2 := Lib.hid (below_step (below_step HB1.out hb2) HL.out)
        have hbox := holds_at w2 #[.int .i64 yo, .int .i64 yA, .int .i64 yB, .slice yK ynk yck, .slice yP ynp ycp, .slice yF ynf ycf] 59 _ rfl
        have HBX := Lib.hid hbox
        clear hb2 ht hbox
        go_wp2_with fail
        go_ret
        exact ⟨rfl, HB2.out⟩
    · obtain ⟨v, rfl⟩ : ∃ b : Nat, (b : Int) = v := ⟨v.toNat, by omega⟩
      have HFR := Lib.hid (freeR2 (v := v) hs)
      have hvb : ¬ (1048576 : Int) < (v : Int) := by omega
      clear hs hvr
      go_enter Tryd.func29, Tryd.ntmps29
      go_wp2_with fail
      refine (HO0.out w HB1.out).mono ?_
      rintro e w2 (⟨hno, -, -⟩ | ⟨v, -, rfl, ht, hb2⟩)
      · exact absurd HSS.out hno
      obtain ⟨⟨yo, yA, yB⟩, yK, ynk, yck, yP, ynp, ycp, yF, ynf, ycf⟩ := v
      dsimp only [TV.val]
      have HL := Lib.hid (show Below w2.heap.size w2 (w2.alloc (.cells #[.int .i64 yo, .int .i64 yA, .int .i64 yB, .slice yK ynk yck, .slice yP ynp ycp, .slice yF ynf ycf] 59)) from (Below.refl _ _).alloc (Nat.le_refl _) _)
      have HT := Lib.hid (ht.next HL.out)
      have HB2 := Lib.hid (below_step (below_step HB1.out hb2) HL.out)
      have hbox := holds_at w2 #[.int .i64 yo, .int .i64 yA, .int .i64 yB, .slice yK ynk yck, .slice yP ynp ycp, .slice yF ynf ycf] 59 _ rfl
      have HBX := Lib.hid hbox
      clear hb2 ht hbox
      go_wp2_with fail
      have hg := times_any (annOf t).length ⟨(yo, yA, yB), yK, ynk, yck, yP, ynp, ycp, yF, ynf, ycf⟩ (annOf t) (w2.alloc (.cells #[.int .i64 yo, .int .i64 yA, .int .i64 yB, .slice yK ynk yck, .slice yP ynp ycp, .slice yF ynf ycf] 59)) (fun k => w.heap.size ≤ k) 16384 v (by omega) HDP.out (Nat.le_refl _) HT.out HSM.out (by have := HALN.out; omega)
      dsimp only [TV.val] at hg
      refine hg.mono ?_
      clear hg
      rintro e w3 ⟨rfl, hb3⟩
      generalize tmN v (annOf t) = m at *
      go_wp2_with fail
      go_ret
      refine ⟨ret_bool ?_, below_step HB2.out hb3⟩
      rw [HFR.out]
  · rw [freeR0 hs]
    have HSS := Lib.hid hs
    clear hs
    go_enter Tryd.func29, Tryd.ntmps29
    go_wp2_with fail
    refine (HO0.out w HB1.out).mono ?_
    rintro e w2 (⟨-, rfl, hb2⟩ | ⟨v, hy, -⟩)
    · have HB2 := Lib.hid (hb2.alloc hb2.size (.cells #[.int .i64 0, .int .i64 0, .int .i64 0, .slice none 0 0, .slice none 0 0, .slice none 0 0] 59))
      clear hb2
      go_wp2_with fail
      go_ret
      exact ⟨rfl, HB2.out⟩
    · exact absurd hy HSS.out
set_option maxRecDepth 100000 in
set_option maxHeartbeats 4000000 in
theorem rbelow_any (A : Option Addr) (n c : Nat) (t : List Node3) (v : Int) (w : World) (hn : t.length = n) (hsl : Slice A n c) (hA : Holds w A (nodesV t)) (hw : ∀ x ∈ t, Wide3 x) (hv : I64 v) :
    Calls Tryd.prog 31 #[.slice A n c, .int .i64 v] w fun e w' => e = .returned (.bool (belowS t v)) ∧ Below w.heap.size w w' := by
  obtain ⟨hv1, hv2⟩ := hv
  have HB1 : Hid (Below w.heap.size w w) := Lib.hid (Below.refl _ _)
  have HN := Lib.hid hn
  have HS0 := Lib.hid (fun w1 (hb : Below w.heap.size w w1) => rshape_any A n c t w1 hn hsl (hA.below hb) hw)
  have HO0 := Lib.hid (fun w1 (hb : Below w.heap.size w w1) => rof_any A n c t w1 hn hsl (hA.below hb) hw)
  clear hn hA hw hsl
  clear HS0
  by_cases hs : shapeOf t = 0
  · have HSS := Lib.hid hs
    have HSM := Lib.hid (small_of hs)
    have HALN : Hid ((annOf t).length ≤ 4096) := Lib.hid (by have := len_of hs; omega)
    have HBR := Lib.hid (belowR (v := v) hs)
    clear hs
    go_enter Tryd.func31, Tryd.ntmps31
    go_wp2_with fail
    refine (HO0.out w HB1.out).mono ?_
    rintro e w2 (⟨hno, -, -⟩ | ⟨v, -, rfl, ht, hb2⟩)
    · exact absurd HSS.out hno
    obtain ⟨⟨yo, yA, yB⟩, yK, ynk, yck, yP, ynp, ycp, yF, ynf, ycf⟩ := v
    dsimp only [TV.val]
    have HL := Lib.hid (show Below w2.heap.size w2 (w2.alloc (.cells #[.int .i64 yo, .int .i64 yA, .int .i64 yB, .slice yK ynk yck, .slice yP ynp ycp, .slice yF ynf ycf] 59)) from (Below.refl _ _).alloc (Nat.le_refl _) _)
    have HT := Lib.hid (ht.next HL.out)
    have HB2 := Lib.hid (below_step (below_step HB1.out hb2) HL.out)
    have hbox := holds_at w2 #[.int .i64 yo, .int .i64 yA, .int .i64 yB, .slice yK ynk yck, .slice yP ynp ycp, .slice yF ynf ycf] 59 _ rfl
    have HBX := Lib.hid hbox
    clear hb2 ht hbox
    go_wp2_with fail
    have hg := greatest_any (annOf t).length ⟨(yo, yA, yB), yK, ynk, yck, yP, ynp, ycp, yF, ynf, ycf⟩ (annOf t) (w2.alloc (.cells #[.int .i64 yo, .int .i64 yA, .int .i64 yB, .slice yK ynk yck, .slice yP ynp ycp, .slice yF ynf ycf] 59)) (fun k => w.heap.size ≤ k) 0 (Nat.le_refl _) HT.out HSM.out (by have := HALN.out; omega)
    dsimp only [TV.val] at hg
    refine hg.mono ?_
    clear hg
    rintro e w3 ⟨rfl, hb3⟩
    have HB3 := Lib.hid (below_step HB2.out hb3)
    clear hb3
    generalize gr 0 (annOf t) = m at *
    by_cases hm : m < 0
    · have HBR2 := Lib.hid (HBR.out.trans (decide_eq_true (.inl hm)))
      go_wp2_with fail
      go_ret
      exact ⟨by rw [HBR2.out]; rfl, HB3.out⟩
    · have HBR2 := Lib.hid (HBR.out.trans (show decide (m < 0 ∨ m < v) = decide (m < v) from decide_eq_decide.2 (by omega)))
      go_wp2_with fail
      go_ret
      refine ⟨ret_bool ?_, HB3.out⟩
      rw [HBR2.out, decide_eq_false (p := m < 0) (by omega), Bool.false_or]
  · rw [belowR0 hs]
    have HSS := Lib.hid hs
    clear hs
    go_enter Tryd.func31, Tryd.ntmps31
    go_wp2_with fail
    refine (HO0.out w HB1.out).mono ?_
    rintro e w2 (⟨-, rfl, hb2⟩ | ⟨v, hy, -⟩)
    · have HB2 := Lib.hid (hb2.alloc hb2.size (.cells #[.int .i64 0, .int .i64 0, .int .i64 0, .slice none 0 0, .slice none 0 0, .slice none 0 0] 59))
      clear hb2
      go_wp2_with fail
      have ht : TreeAt (w2.alloc (.cells #[.int .i64 0, .int .i64 0, .int .i64 0, .slice none 0 0, .slice none 0 0, .slice none 0 0] 59)) (fun _ => True) TV.zero (treeA (0, 0, 0) [] [] []) := .mk TV.zero [] [] [] ⟨rfl, rfl, rfl, slice_nil, slice_nil, slice_nil, fun h => by simp [TV.zero] at h, fun h => by simp [TV.zero] at h⟩
        ⟨Holds.nil _ _, fun b o e => by cases e⟩ ⟨Holds.nil _ _, fun b o e => by cases e⟩ ⟨Holds.nil _ _, fun b o e => by cases e⟩ (fun x hx => by rcases hx with hx | hx <;> cases hx) (fun p hp => by cases hp)
      have hg := greatest_any 1 TV.zero (treeA (0, 0, 0) [] [] []) (w2.alloc (.cells #[.int .i64 0, .int .i64 0, .int .i64 0, .slice none 0 0, .slice none 0 0, .slice none 0 0] 59)) (fun _ => True) 0 (Nat.le_refl _) ht (fun x hx => by simp only [treeA, kidsA, List.map_nil, List.nil_append, List.mem_cons, List.not_mem_nil, or_false] at hx; subst hx; exact ⟨by decide, by decide⟩) (by simp [treeA, kidsA])
      dsimp only [TV.val, TV.zero] at hg
      refine hg.mono ?_
      clear hg ht
      rintro e w3 ⟨rfl, hb3⟩
      have HB3 := Lib.hid (below_step HB2.out hb3)
      clear hb3
      generalize gr 0 (treeA (0, 0, 0) [] [] []) = m at *
      go_wp2_with fail
      go_ret
      exact ⟨rfl, HB3.out⟩
    · exact absurd hy HSS.out
end Go.Proofs.YtkkkblghihheeaaDoor
namespace Go.Proofs.YtkkkblghihheeaaDoor
open Go.RowKit

set_option maxHeartbeats 8000000 in
theorem tlifts_any (A : Option Addr) (n c : Nat) (t : List Node3) (by_ from_ : Int) (w : World) (hn : t.length = n) (hs : Slice A n c) (hA : Holds w A (nodesV t)) (hw : ∀ x ∈ t, Wide3 x) (hL : Lim w) (hnb : n ≤ 4611686018427387904) (hby : I64 by_) (hfr : I64 from_) :
    Calls Tryd.prog 4 #[.slice A n c, .int .i64 by_, .int .i64 from_] w fun e w' => e = .returned (.bool true) ∧ Below w.heap.size w w' := by
  have HR1 := Lib.hid (show ∀ w', Below w.heap.size w w' → RowIn w' A n c t from fun w' hb => ⟨hn, hs, hA.below hb⟩)
  have HL := Lib.hid (show ∀ w', Below w.heap.size w w' → Lim w' from fun w' hb => hL.next hb)
  have HAW := Lib.hid (awake_any w hL)
  have HN := Lib.hid hn
  have HW := Lib.hid hw
  have HBY := Lib.hid hby
  have HFR := Lib.hid hfr
  have HLIT := Lib.hid (show ∀ w1 : World, Holds (w1.alloc (.cells #[.slice A n c] 23)) (some ⟨w1.heap.size, 0, none⟩) (([(A, c, t)] : List RowT).map rowV) from fun w1 => by
    have := holds_at w1 #[.slice A n c] 23 (([(A, c, t)] : List RowT).map rowV) (by simp [rowV, hn])
    exact this)
  have HLO := Lib.hid (show ∀ w1 : World, _ from fun w1 => long_any (some ⟨w1.heap.size, 0, none⟩) 1 1 [(A, c, t)] (w1.alloc (.cells #[.slice A n c] 23)) rfl (by omega) (HLIT.out w1) (by
    intro y hy
    simp only [List.mem_cons, List.not_mem_nil, or_false] at hy
    subst hy
    simp only; omega))
  clear hA hL hn hs hnb hw hby hfr
  go_enter Tryd.func4, Tryd.ntmps4
  go_wp2_with fail
  refine (HAW.out).mono ?_
  rintro e w1 ⟨rfl, hb1⟩
  have HB1 := Lib.hid hb1
  have HB2 := Lib.hid (below_alloc hb1 (.cells #[.slice A n c] 23))
  clear hb1
  go_wp2_with fail
  refine (HLO.out w1).mono ?_
  rintro e w2 ⟨rfl, (rfl | ⟨hlen, rfl⟩)⟩
  · go_wp2_with fail
    go_ret
    exact ⟨rfl, HB2.out⟩
  · clear hlen
    go_wp2_with fail
    refine (lift_in (HR1.out _ HB2.out) (HL.out _ HB2.out) by_ from_).mono ?_
    rintro e w3 ⟨A3, n3, c3, rfl, hr3, hb3⟩
    have HB3 := Lib.hid (below_step HB2.out hb3)
    have HRx := Lib.hid hr3
    clear hr3 hb3
    go_wp2_with fail
    refine ((rlift_any A n c t by_ from_ _ HN.out (HR1.out _ HB3.out).sl (HR1.out _ HB3.out).ho HW.out HBY.out HFR.out).mono fun _ _ h => h.in_).mono ?_
    rintro e w4 ⟨A4, n4, c4, rfl, hr4, hb4⟩
    have HB4 := Lib.hid (below_step HB3.out hb4)
    have HRx4 := Lib.hid (HRx.out.below hb4)
    have HRy := Lib.hid hr4
    have HLL := Lib.hid (lift_len t by_ from_)
    clear hr4 hb4
    generalize (liftS t by_ from_).2 = e3 at *
    generalize (liftS t by_ from_).1 = la at *
    go_wp2_with fail
    refine (same_in HRx4.out HRy.out (by have := HRx4.out.len; have := HLL.out; omega) true (by simp)).mono ?_
    rintro e w5 ⟨rfl, hb5⟩
    have HB5 := Lib.hid (below_step HB4.out hb5)
    clear hb5
    go_wp2_with fail
    refine (free_in_ (HR1.out _ HB5.out) (HL.out _ HB5.out) from_).mono ?_
    rintro e w6 ⟨rfl, hb6⟩
    have HB6 := Lib.hid (below_step HB5.out hb6)
    clear hb6
    go_wp2_with fail
    refine (rfree_any A n c t from_ _ HN.out (HR1.out _ HB6.out).sl (HR1.out _ HB6.out).ho HW.out HFR.out).mono ?_
    rintro e w7 ⟨rfl, hb7⟩
    have HB7 := Lib.hid (below_step HB6.out hb7)
    clear hb7
    generalize freeS t from_ = r0 at *
    go_wp2_with fail
    refine (below_in (HR1.out _ HB7.out) (HL.out _ HB7.out) from_).mono ?_
    rintro e w8 ⟨rfl, hb8⟩
    have HB8 := Lib.hid (below_step HB7.out hb8)
    clear hb8
    go_wp2_with fail
    refine (rbelow_any A n c t from_ _ HN.out (HR1.out _ HB8.out).sl (HR1.out _ HB8.out).ho HW.out HFR.out).mono ?_
    rintro e w9 ⟨rfl, hb9⟩
    have HB9 := Lib.hid (below_step HB8.out hb9)
    clear hb9
    generalize belowS t from_ = r1 at *
    go_wp2_with fail
    go_ret
    exact ⟨by simp, HB9.out⟩
end Go.Proofs.YtkkkblghihheeaaDoor
namespace Go.Proofs.YtkkkblghihheeaaDoor
open Go.ChangeShapes Go.WideShapes Go.ChangeAt Go.RowKit

set_option maxRecDepth 100000 in
theorem termLifts_lifted (os : Os) (started : os.Started) (H : Type) (enc : TypeId × Value → H) :
    ReturnsInHanded {} Tryd.checked os 4 .any (fun w args => (Rows.termLiftsSpec.pre enc Tryd.prog Tryd.f4 [] false w args ∧ laidMetH Tryd.prog laidV w) ∧ sizedMet enc Tryd.prog Tryd.f4 (OpenSpec.ofChange Rows.termLiftsSpec) false w args)
      (Rows.termLiftsSpec.post enc Tryd.prog Tryd.f4 false true false false) := by
  refine returnsInHanded_of_change_and (C := Tryd.checked) (X := fun w _ => laidMetH Tryd.prog laidV w) (fun _ _ _ hh h => h.of_heap hh) Tryd.own started (by kernel_rfl) Tryd.func4
    (ChangeSpec.witness_shaped (enc := enc) (C := Tryd.checked) (os := os) (X := fun w _ => laidMetH Tryd.prog laidV w) false (World.doorLaid Tryd.prog 400 os) #[.slice none 0 0, .int .i64 0, .int .i64 0] 8 rfl (World.shaped_of_RefB (by kernel_rfl) (by kernel_rfl)) (by kernel_rfl) (by kernel_rfl) (by kernel_rfl) (door_met os _)) ?_
  intro W base args ds gs before hval0 hW _ hsz0 hL _
  have hval : ∀ (j : Nat) t v, Tryd.f4.params[j]? = some t → args[j]? = some v → Value.okWide Tryd.prog W .any base t v := hval0
  have hsz : (DataW.weightsEach Tryd.prog (Tryd.f4.params.toList ++ Rows.termLiftsSpec.plain.varTypes Tryd.prog) (ds ++ gs)).all (· ≤ reachBytes) = true := hsz0
  have hW' := hW
  obtain ⟨p, q, hA0, hV, rfl, hfz, hnd⟩ := hW
  have hA : DataW.TrodAll enc Tryd.prog W 0 (fun _ => true) true Tryd.f4.params.toList args.toList ds p := hA0
  have hlt : ∀ x ∈ p, x.block < W.heap.size := fun x hx => by simpa using hW'.lt x (List.mem_append_left _ hx)
  have hkeep : ∀ W', Below W.heap.size W W' → DataW.TrodAll enc Tryd.prog W' 0 (fun b => decide (b < W.heap.size)) true Tryd.f4.params.toList args.toList ds p :=
    fun W' hb => trodAll_below Tryd.laidOut hb (by kernel_rfl) hA hlt
  rw [Tryd.params4] at hA hval hsz
  obtain ⟨v0, v1, v2, d0, d1, d2, p0, p1, p2, rfl, rfl, rfl, g0, g1, g2⟩ := trodAll_three hA
  obtain ⟨rfl, rfl⟩ := trodVars_none hV
  obtain ⟨A0, c0, l0, rfl, s0, h0, wd0⟩ := open_nodes (hval 0 23 v0 rfl rfl) g0
  have b0 := node_weight hsz (j := 0) rfl rfl g0 s0
  obtain ⟨x1, rfl, y1⟩ := open_i64 (hval 1 3 v1 rfl rfl) g1
  obtain ⟨x2, rfl, y2⟩ := open_i64 (hval 2 3 v2 rfl rfl) g2
  have hLim := lim_of_laid hL
  clear hA0 hval0 hL hsz0 hsz
  refine (tlifts_any A0 _ c0 l0 x1 x2 W rfl s0 h0 wd0 hLim b0 y1 y2).mono fun e W' ⟨he, hb⟩ => ?_
  subst he
  exact ⟨_, rfl, _, _, _, [], _, [], hW', trodAll_mk1 (shut_bool Tryd.underlying4 true), hkeep W' hb, rfl, hb.frame _, fun h => by cases h⟩
/-- TermLifts: whatever the input, it answers true, and the input reads as it did. -/
theorem termLifts_row : Rows.TermLiftsSaid :=
  OpenClaim.holds_of_wide 4 Tryd.f4 rfl rfl rfl rfl rfl rfl rfl ⟨rfl, rfl, rfl, rfl, rfl⟩ rfl rfl rfl rfl rfl (by kernel_rfl) Tryd.func4 (by kernel_rfl)
    (of_decide_eq_true (by kernel_rfl)) (by unfold Func.isWrapper; first | (rw [if_pos (by decide +kernel)]; kernel_rfl) | (rw [if_neg (by decide +kernel)]; exact ⟨rfl, rfl⟩))
    (fun os started H enc _ => termLifts_lifted os started H enc)
/-- The card: the variable limits is tied to the program's text. -/
theorem termLifts_holds : Rows.TermLiftsCardSaid :=
  Claim7.holds_tied_plain_at .later [] [.data] true _ true termLifts_row (fun _ h => by cases h) (by kernel_rfl) (fun _ h => by cases h) termLifts_row_tie rfl ⟨rfl, rfl⟩ (by kernel_rfl) rfl
    (fun f fn hf hfn => by
      obtain rfl : f = 4 := Option.some.inj ((show Tryd.prog.funcNamed "retort/retortlaw04.TermLifts" = some 4 by kernel_rfl).symm.trans hf) |>.symm
      obtain rfl : fn = Tryd.f4 := (Option.some.inj (Tryd.func4.symm.trans hfn)).symm
      exact ⟨by kernel_rfl, fun j t ht => by
        rw [Tryd.params4] at ht
        have hm : t ∈ [23, 3, 3] := by simpa using Array.mem_of_getElem? ht
        have hall : ([23, 3, 3].all fun u => !Tryd.prog.wantsStandIn u) = true := by kernel_rfl
        exact (show Tryd.prog.wantsStandIn t = false by simpa using List.all_eq_true.1 hall t hm)⟩)
    (by kernel_rfl)
end Go.Proofs.YtkkkblghihheeaaDoor
