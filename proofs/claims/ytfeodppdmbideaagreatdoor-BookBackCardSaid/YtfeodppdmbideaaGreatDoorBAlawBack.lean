/- BookBack holds for every input, where the program's table of limits is what its text says (the tied card): a program that is written is read as it was; a beginning of its bytes is none, nor are they with more behind. -/
import Derived.Test.YtfeodppdmbideaaGreatDoorBA29
import Derived.Test.YtfeodppdmbideaaGreatDoorBA30
import Derived.Test.YtfeodppdmbideaaGreatDoorBA32
import Derived.Test.YtfeodppdmbideaaGreatDoorBA14
import Derived.Test.YtfeodppdmbideaaGreatDoorBA28
import Derived.Test.YtfeodppdmbideaaGreatDoorBA17
import Derived.Test.YtfeodppdmbideaaGreatDoorTie
import Derived.Test.YtfeodppdmbideaaGreatDoorCards
import Derived.Stop.Joined
namespace Go.Proofs.YtfeodppdmbideaaGreatDoor
open Go.RowKit

theorem progN_sm : ProgSm progN := ⟨⟨fun _ hx => (by cases hx), by simp [progN], by simp [progN], by simp [progN]⟩, by unfold RowSm; simp [progN], by unfold RowSm; simp [progN]⟩
theorem progZ_in (w : World) : ProgIn w progZ := ⟨⟨⟨slice_nil, Holds.nil _ _⟩, ⟨slice_nil, Holds.nil _ _, fun _ hx => (by cases hx)⟩, ⟨slice_nil, Holds.nil _ _⟩⟩, row_nilIn w, row_nilIn w⟩
theorem rsame_n (A B : Option Addr) (n m c d : Nat) (l r : List Nat) (w : World) (hn : l.length = n) (hm : r.length = m) (hA : Holds w A (bytesV l)) (hB : Holds w B (bytesV r)) (hl : n ≤ 4611686018427387904) (v : Bool) (hv : v = decide (l = r)) :
    Calls Tryz.prog 28 #[.slice A n c, .slice B m d] w fun e w' => e = .returned (.bool v) ∧ Below w.heap.size w w' := by
  subst hn hm
  exact (rsame_any A B c d l r w hA hB hl v hv).mono fun e w' h => ⟨h.1, by obtain ⟨q, hq⟩ := h.2; rw [hq]; exact below_drewN (Below.refl _ _) q⟩
theorem progN_B : ProgB progN := ⟨⟨i64_few (by decide) (by decide), i64_few (by decide) (by decide), fun _ hx => (by cases hx), by simp [progN], fun _ hx => (by cases hx), by simp [progN], fun _ hx => (by cases hx), by simp [progN]⟩, nil_B, nil_B⟩
/-- What is read may be looked at. -/
theorem dec_B (b : List Nat) : ProgB (decodeS b).1 := by
  unfold decodeS
  split
  · exact progN_B
  split
  · exact progN_B
  split
  · exact progN_B
  split
  · exact progN_B
  · exact prog_B (b, 0)
set_option maxRecDepth 100000 in
set_option maxHeartbeats 8000000 in
theorem bone_any (A : Option Addr) (c n : Nat) (b : List Nat) (w : World) (hn : b.length = n) (hs : Slice A n c) (hA : Holds w A (bytesV b)) (hb : Bytes b) (hL : Lim w) :
    Calls Tryz.prog 8 #[.slice A n c] w (fun e w' => e = .returned (.bool true) ∧ Below w.heap.size w w') := by
  have HL := Lib.hid (show ∀ W, Below w.heap.size w W → Lim W from fun W h => hL.next h)
  have HA := Lib.hid (show ∀ W, Below w.heap.size w W → Holds W A (bytesV b) from fun W h => hA.below h)
  have HD := Lib.hid (show n ≤ 20000 → ∀ W, Below w.heap.size w W → Calls Tryz.prog 26 #[.slice A n c] W (DecPost (decodeS b) W) from fun h W g => decode_any A c n b W hn hs (hA.below g) hb (hL.next g) (by omega))
  have HN := Lib.hid hn
  clear hL hA hb hs hn
  by_cases hbig : 20000 < n
  · have hbi : (20000 : Int) < (n : Int) := by omega
    go_enter Tryz.func8, Tryz.ntmps8
    go_wp2_with fail
    refine (bawake_any _ (HL.out _ (Below.refl _ _))).mono ?_
    rintro e w1 ⟨rfl, g1⟩
    go_wp2_with fail
    go_ret
    exact ⟨rfl, g1⟩
  have hbi : ¬ (20000 : Int) < (n : Int) := by omega
  have HD1 := Lib.hid (HD.out (by omega))
  clear HD
  go_enter Tryz.func8, Tryz.ntmps8
  go_wp2_with fail
  refine (bawake_any _ (HL.out _ (Below.refl _ _))).mono ?_
  rintro e w1 ⟨rfl, g1⟩
  have HB1 := Lib.hid g1
  clear g1
  go_wp2_with fail
  refine (HD1.out _ HB1.out).mono ?_
  rintro e w2 ⟨⟨⟨va, ⟨oA, oc, ol⟩, ⟨eA, ec, el⟩, nt, ⟨pA, pc, pl⟩⟩, ⟨mA, mc, ml⟩, ⟨tA, tc, tl⟩⟩, rfl, hx, ho, g⟩
  simp only [ProgT.val, entsV, rowV]
  have HX := Lib.hid hx
  have hB2 : Below w.heap.size w w2 := HB1.out.trans (g.mono HB1.out.size)
  have hpb := dec_B b
  rw [← hx] at hpb
  have hw := holds_at w2 #[.int .i64 va, .slice oA ol.length oc, .slice eA el.length ec, .int .i64 nt, .slice pA pl.length pc, .slice mA ml.length mc, .slice tA tl.length tc] 46 _ rfl
  have h23 : Below w2.heap.size w2 (w2.alloc (.cells #[.int .i64 va, .slice oA ol.length oc, .slice eA el.length ec, .int .i64 nt, .slice pA pl.length pc, .slice mA ml.length mc, .slice tA tl.length tc] 46)) := (Below.refl _ _).alloc (Nat.le_refl _) _
  obtain ⟨V, hV⟩ : ∃ V, V = w2.alloc (.cells #[.int .i64 va, .slice oA ol.length oc, .slice eA el.length ec, .int .i64 nt, .slice pA pl.length pc, .slice mA ml.length mc, .slice tA tl.length tc] 46) := ⟨_, rfl⟩
  rw [← hV] at hw h23
  have HV := Lib.hid hV
  have HBV := Lib.hid (hB2.trans (h23.mono hB2.size))
  have hok : ProgOk V (⟨⟨va, (oA, oc, ol), (eA, ec, el), nt, (pA, pc, pl)⟩, (mA, mc, ml), (tA, tc, tl)⟩ : ProgT) := (OwnG.ok ho hpb).below h23
  have HOK := Lib.hid (show ∀ W, Below V.heap.size V W → ProgOk W (⟨⟨va, (oA, oc, ol), (eA, ec, el), nt, (pA, pc, pl)⟩, (mA, mc, ml), (tA, tc, tl)⟩ : ProgT) from fun W h => hok.below h)
  have HC := Lib.hid (show ∀ W, Below V.heap.size V W → W.cell? ⟨w2.heap.size, 0, none⟩ = some (.int .i64 va) ∧ W.cell? ⟨w2.heap.size, 1, none⟩ = some (.slice oA ol.length oc) ∧ W.cell? ⟨w2.heap.size, 2, none⟩ = some (.slice eA el.length ec) ∧ W.cell? ⟨w2.heap.size, 3, none⟩ = some (.int .i64 nt) ∧ W.cell? ⟨w2.heap.size, 4, none⟩ = some (.slice pA pl.length pc) ∧ W.cell? ⟨w2.heap.size, 5, none⟩ = some (.slice mA ml.length mc) ∧ W.cell? ⟨w2.heap.size, 6, none⟩ = some (.slice tA tl.length tc) from fun W h => by
    have q := hw.below h
    exact ⟨(by have := q.cell (j := 0) rfl; rwa [Nat.zero_add] at this), q.cell (j := 1) rfl, q.cell (j := 2) rfl, q.cell (j := 3) rfl, q.cell (j := 4) rfl, q.cell (j := 5) rfl, q.cell (j := 6) rfl⟩)
  have HUP := Lib.hid (show ∀ W, Below V.heap.size V W → Below w.heap.size w W from fun W h => HBV.out.trans (h.mono HBV.out.size))
  clear hx ho g hB2 hpb hw h23 hV hok HD1
  obtain ⟨res, hres⟩ : ∃ r, decodeS b = r := ⟨_, rfl⟩
  rw [hres] at HX ⊢
  obtain ⟨rp, re⟩ := res
  simp only at HX ⊢
  have HRES := Lib.hid hres
  have HZ := Lib.hid (Below.refl V.heap.size V)
  by_cases h0 : re = 0
  · subst h0
    have hd := encode_decode hres
    have hxp := HX.out
    rw [← hxp] at hd
    have HE := Lib.hid (show ∀ W, Below V.heap.size V W → Calls Tryz.prog 24 #[.agg #[.int .i64 va, .slice oA ol.length oc, .slice eA el.length ec, .int .i64 nt, .slice pA pl.length pc, .slice mA ml.length mc, .slice tA tl.length tc]] W (BytesAns (b, 0) W) from fun W h => by
      have q := encode_any (⟨⟨va, (oA, oc, ol), (eA, ec, el), nt, (pA, pc, pl)⟩, (mA, mc, ml), (tA, tc, tl)⟩ : ProgT) W (HOK.out W h) (HL.out W (HUP.out W h))
      rw [hd.1] at q
      exact q)
    have hz := prog_zero hd.2
    have HR := Lib.hid (show ∀ W, Below V.heap.size V W → Calls Tryz.prog 13 #[.agg #[.int .i64 va, .slice oA ol.length oc, .slice eA el.length ec, .int .i64 nt, .slice pA pl.length pc]] W (fun e w' => e = .returned (.int .i64 0) ∧ Below W.heap.size W w') from fun W h => by
      have q := right_any ((⟨⟨va, (oA, oc, ol), (eA, ec, el), nt, (pA, pc, pl)⟩, (mA, mc, ml), (tA, tc, tl)⟩ : ProgT)).book W (HOK.out W h).book (HL.out W (HUP.out W h))
      have e : rightE ((⟨⟨va, (oA, oc, ol), (eA, ec, el), nt, (pA, pc, pl)⟩, (mA, mc, ml), (tA, tc, tl)⟩ : ProgT)).book.p = 0 := hz.1
      rw [e] at q
      exact q)
    have HM := Lib.hid (show ∀ W, Below V.heap.size V W → Calls Tryz.prog 15 #[.agg #[.int .i64 va, .slice oA ol.length oc, .slice eA el.length ec, .int .i64 nt, .slice pA pl.length pc], .int .i64 0, .slice mA ml.length mc] W (fun e w' => e = .returned (.int .i64 0) ∧ Below W.heap.size W w') from fun W h => by
      have hp := HOK.out W h
      have q := bfits_any ((⟨⟨va, (oA, oc, ol), (eA, ec, el), nt, (pA, pc, pl)⟩, (mA, mc, ml), (tA, tc, tl)⟩ : ProgT)).book 0 mA ml.length mc ml W hp.book (HL.out W (HUP.out W h)) rfl (hp.long (mA, mc, ml) (by simp)) (hp.rows (mA, mc, ml) (by simp)).2 (hp.wide (mA, mc, ml) (by simp))
      have e : fitsE ((⟨⟨va, (oA, oc, ol), (eA, ec, el), nt, (pA, pc, pl)⟩, (mA, mc, ml), (tA, tc, tl)⟩ : ProgT)).book.p 0 ml = 0 := hz.2.1
      rw [e] at q
      exact q)
    have HT := Lib.hid (show ∀ W, Below V.heap.size V W → Calls Tryz.prog 15 #[.agg #[.int .i64 va, .slice oA ol.length oc, .slice eA el.length ec, .int .i64 nt, .slice pA pl.length pc], .int .i64 0, .slice tA tl.length tc] W (fun e w' => e = .returned (.int .i64 0) ∧ Below W.heap.size W w') from fun W h => by
      have hp := HOK.out W h
      have q := bfits_any ((⟨⟨va, (oA, oc, ol), (eA, ec, el), nt, (pA, pc, pl)⟩, (mA, mc, ml), (tA, tc, tl)⟩ : ProgT)).book 0 tA tl.length tc tl W hp.book (HL.out W (HUP.out W h)) rfl (hp.long (tA, tc, tl) (by simp)) (hp.rows (tA, tc, tl) (by simp)).2 (hp.wide (tA, tc, tl) (by simp))
      have e : fitsE ((⟨⟨va, (oA, oc, ol), (eA, ec, el), nt, (pA, pc, pl)⟩, (mA, mc, ml), (tA, tc, tl)⟩ : ProgT)).book.p 0 tl = 0 := hz.2.2
      rw [e] at q
      exact q)
    have HS := Lib.hid (show ∀ W B d, Below V.heap.size V W → Holds W B (bytesV b) → Calls Tryz.prog 28 #[.slice A n c, .slice B n d] W (fun e w' => e = .returned (.bool true) ∧ Below W.heap.size W w') from fun W B d h hB => rsame_n A B n n c d b b W HN.out HN.out (HA.out W (HUP.out W h)) hB (by omega) true (by simp))
    clear hd hxp hz hres
    obtain ⟨k0, k1, k2, k3, k4, k5, k6⟩ := HC.out _ HZ.out
    go_wp2_with fail
    rw [← HV.out]
    go_wp2_with fail
    refine (HE.out _ HZ.out).mono ?_
    rintro e w3 hp
    have hp' : ∃ B d, e = .returned (.tuple #[.slice B n d, .int .i64 0]) ∧ Holds w3 B (bytesV b) ∧ Below V.heap.size V w3 := by
      cases hp with
      | none _ x hx h0 _ =>
        simp only [Prod.mk.injEq] at hx
        exact absurd hx.2.symm h0
      | some _ B m d hm _ ho hs hb' =>
        have : n = m := by have := HN.out; simp only at hm; omega
        subst this
        exact ⟨B, d, rfl, own_holds ho, hb'⟩
    obtain ⟨B, d, rfl, hB, g3⟩ := hp'
    have HB3 := Lib.hid g3
    have HS3 := Lib.hid (HS.out _ B d g3 hB)
    clear hp hB g3 k0 k1 k2 k3 k4 k5 k6
    obtain ⟨k0, k1, k2, k3, k4, k5, k6⟩ := HC.out _ HB3.out
    go_wp2_with fail
    refine (HS3.out).mono ?_
    rintro e w4 ⟨rfl, g4⟩
    have HB4 := Lib.hid (HB3.out.trans (g4.mono HB3.out.size))
    clear g4 k0 k1 k2 k3 k4 k5 k6
    obtain ⟨k0, k1, k2, k3, k4, k5, k6⟩ := HC.out _ HB4.out
    go_wp2_with fail
    refine (HR.out _ HB4.out).mono ?_
    rintro e w5 ⟨rfl, g5⟩
    have HB5 := Lib.hid (HB4.out.trans (g5.mono HB4.out.size))
    clear g5 k0 k1 k2 k3 k4 k5 k6
    obtain ⟨k0, k1, k2, k3, k4, k5, k6⟩ := HC.out _ HB5.out
    go_wp2_with fail
    refine (HM.out _ HB5.out).mono ?_
    rintro e w6 ⟨rfl, g6⟩
    have HB6 := Lib.hid (HB5.out.trans (g6.mono HB5.out.size))
    clear g6 k0 k1 k2 k3 k4 k5 k6
    obtain ⟨k0, k1, k2, k3, k4, k5, k6⟩ := HC.out _ HB6.out
    go_wp2_with fail
    refine (HT.out _ HB6.out).mono ?_
    rintro e w7 ⟨rfl, g7⟩
    have HB7 := Lib.hid (HB6.out.trans (g7.mono HB6.out.size))
    clear g7 k0 k1 k2 k3 k4 k5 k6
    go_wp2_with fail
    go_ret
    exact ⟨rfl, HUP.out _ HB7.out⟩
  · have hr := decode_fault hres h0
    subst hr
    have HQ := Lib.hid (show ∀ W, Below V.heap.size V W → Calls Tryz.prog 29 #[.agg #[.int .i64 va, .slice oA ol.length oc, .slice eA el.length ec, .int .i64 nt, .slice pA pl.length pc, .slice mA ml.length mc, .slice tA tl.length tc], .agg #[.int .i64 0, .slice none 0 0, .slice none 0 0, .int .i64 0, .slice none 0 0, .slice none 0 0, .slice none 0 0]] W (fun e w' => e = .returned (.bool true) ∧ Below W.heap.size W w') from fun W h => sameprog_eq (⟨⟨va, (oA, oc, ol), (eA, ec, el), nt, (pA, pc, pl)⟩, (mA, mc, ml), (tA, tc, tl)⟩ : ProgT) progZ W (HOK.out W h).inn (progZ_in W) HX.out (by rw [HX.out]; exact progN_sm))
    clear hres
    obtain ⟨k0, k1, k2, k3, k4, k5, k6⟩ := HC.out _ HZ.out
    go_wp2_with fail
    rw [← HV.out]
    go_wp2_with fail
    refine (HQ.out _ HZ.out).mono ?_
    rintro e w3 ⟨rfl, g3⟩
    go_wp2_with fail
    go_ret
    exact ⟨rfl, HUP.out _ g3⟩
end Go.Proofs.YtfeodppdmbideaaGreatDoor
namespace Go.Proofs.YtfeodppdmbideaaGreatDoor
open Go.RowKit

def LongL (l : List RowT) : Prop := ∀ x ∈ l, x.2.2.length ≤ 140737488351232
/-- How many nodes and rows. -/
def szR (l : List RowT) : Nat := (flatR l).length + l.length
theorem szR_take {l : List RowT} {k : Nat} (h : k < l.length) : szR (l.take (k + 1)) = szR (l.take k) + 1 + l[k].2.2.length := by
  unfold szR flatR
  rw [List.take_succ_eq_append_getElem h, List.map_append, List.flatten_append, List.length_append, List.length_append]
  simp
  omega
/-- How much there is, up to a lid. -/
def SizePost (lid : Nat) (l : List RowT) (w : World) (e : Ending) (w' : World) : Prop := ∃ v : Nat, e = .returned (.int .i64 (v : Int)) ∧ v ≤ lid + 140737488351232 + 1 ∧ (v < lid → v = szR l) ∧ Below w.heap.size w w'
set_option maxRecDepth 100000 in
set_option maxHeartbeats 8000000 in
theorem sizes_any (A : Option Addr) (n c lid : Nat) (l : List RowT) (w : World) (hn : l.length = n) (hA : Holds w A (l.map rowV)) (hl : LongL l) (hlid : lid ≤ 1000000) (hnb : n ≤ 140737488351232) : Calls Tryz.prog 76 #[.slice A n c, .int .i64 (lid : Int)] w (SizePost lid l w) := by
  have HA := Lib.hid (show ∀ k (h : k < l.length) W, Below w.heap.size w W → ∃ b o, A = some ⟨b, o, none⟩ ∧ W.cell? ⟨b, o + k, none⟩ = some (.slice l[k].1 l[k].2.2.length l[k].2.1) from fun k h W g => by
    obtain ⟨b, o, rfl, hb, hc⟩ := hA.at_ (by rw [List.length_map]; omega)
    exact ⟨b, o, rfl, (g.cell (p := ⟨b, o + k, none⟩) hb).trans (hc k _ (rowsV_get h))⟩)
  have HN := Lib.hid hn
  have HL := Lib.hid (show ∀ k (h : k < l.length), l[k].2.2.length ≤ 140737488351232 from fun k h => hl _ (List.getElem_mem h))
  clear hA hn hl
  go_enter Tryz.func76, Tryz.ntmps76
  go_wp2_with fail
  go_loopw [5, 6] (fun s i wr => ∃ k v : Nat, s = .int .i64 (v : Int) ∧ i = .int .i64 (k : Int) ∧ k ≤ n ∧ v ≤ lid + 140737488351232 + 1 ∧ Hid (v = szR (l.take k)) ∧ Hid (Below w.heap.size w wr)) (fun _ i _ => n - (intOf i).toNat)
  case atStart => exact ⟨0, 0, rfl, rfl, Nat.zero_le _, by omega, Lib.hid (by simp [szR, flatR]), Lib.hid (Below.refl _ _)⟩
  case round =>
    obtain ⟨k, v, rfl, rfl, hk, hv, HV, HB⟩ := hrel
    by_cases hlt : k < n
    · by_cases hvl : v < lid
      · have h1 : k < l.length := by rw [HN.out]; exact hlt
        obtain ⟨b, o, rfl, c0⟩ := HA.out k h1 wr HB.out
        have hle := HL.out k h1
        have hz := szR_take h1
        have HZ := Lib.hid hz
        clear hz
        generalize l[k].2.2.length = m at *
        generalize l[k].1 = Ak at *
        generalize l[k].2.1 = ck at *
        have e1 : IntKind.i64.wrap ((v : Int) + 1) = (v : Int) + 1 := IntWalk.i64_in _ (by omega)
        have e2 : IntKind.i64.wrap ((v : Int) + 1 + (m : Int)) = (v : Int) + 1 + (m : Int) := IntWalk.i64_in _ (by omega)
        have hki : (k : Int) < (n : Int) := by omega
        have hvi : (v : Int) < (lid : Int) := by omega
        go_wp2_with fail
        go_roundw
        case rel => exact ⟨k + 1, v + 1 + m, by go_num, by go_num, by omega, by omega, Lib.hid (by rw [HZ.out, ← HV.out]), HB⟩
        case measure => simp [intOf] <;> omega
      · have hvi : ¬ (v : Int) < (lid : Int) := by omega
        go_wp2_with fail
        go_ret
        exact ⟨v, rfl, hv, fun h => absurd h hvl, HB.out⟩
    · obtain rfl : k = n := by omega
      have hz : v = szR l := by have := HV.out; rwa [← HN.out, List.take_length] at this
      have HZ := Lib.hid hz
      clear hz
      go_wp2_with fail
      go_ret
      exact ⟨v, rfl, hv, fun _ => HZ.out, HB.out⟩
/-- Nothing in it is more than the lid. -/
structure EntLite (lid : Nat) (x : EntT) : Prop where
  sort : x.sort.2.2.length ≤ lid
  typ : x.typ.2.2.length ≤ lid
  body : x.body.2.2.length ≤ lid
  pars : szR x.pars.2.2 ≤ lid
  inds : szR x.inds.2.2 ≤ lid
def CtorLite (lid : Nat) (c : CtorT) : Prop := szR c.args.2.2 ≤ lid ∧ szR c.out.2.2 ≤ lid
def EntLight (lid : Nat) (x : EntT) : Prop := EntLite lid x ∧ x.ctors.2.2.length ≤ lid ∧ ∀ c ∈ x.ctors.2.2, CtorLite lid c
structure BookLight (lid : Nat) (b : BookT) : Prop where
  ords : b.ords.2.2.length ≤ lid
  prims : b.prims.2.2.length ≤ lid
  ents : b.ents.2.2.length ≤ lid
  each : ∀ x ∈ b.ents.2.2, EntLight lid x
/-- What is short enough to be counted. -/
structure BookShort (w : World) (b : BookT) : Prop where
  inn : BookIn w b
  ords : b.ords.2.2.length ≤ 140737488351232
  prims : b.prims.2.2.length ≤ 140737488351232
  ents : b.ents.2.2.length ≤ 140737488351232
  rows : ∀ x ∈ b.ents.2.2, x.sort.2.2.length ≤ 140737488351232 ∧ x.typ.2.2.length ≤ 140737488351232 ∧ x.body.2.2.length ≤ 140737488351232 ∧ (LongL x.pars.2.2 ∧ x.pars.2.2.length ≤ 140737488351232) ∧ (LongL x.inds.2.2 ∧ x.inds.2.2.length ≤ 140737488351232) ∧ x.ctors.2.2.length ≤ 140737488351232 ∧
    ∀ c ∈ x.ctors.2.2, (LongL c.args.2.2 ∧ c.args.2.2.length ≤ 140737488351232) ∧ LongL c.out.2.2 ∧ c.out.2.2.length ≤ 140737488351232
set_option maxRecDepth 100000 in
set_option maxHeartbeats 8000000 in
theorem size_any (b : BookT) (lid : Nat) (w : World) (hb : BookShort w b) (hlid : lid ≤ 1000000) : Calls Tryz.prog 32 #[b.val, .int .i64 (lid : Int)] w (fun e w' => ∃ v : Nat, e = .returned (.int .i64 (v : Int)) ∧ (v < lid → BookLight lid b) ∧ Below w.heap.size w w') := by
  obtain ⟨va, ⟨oA, oc, ol⟩, ⟨eA, ec, el⟩, nt, ⟨qA, qc, ql⟩⟩ := b
  obtain ⟨hin, ho, hq, hen, hrows⟩ := hb
  simp only at ho hq hen hrows
  simp only [BookT.val, entsV]
  have hb1 : Below w.heap.size w (w.alloc (.cells #[.int .i64 va, .slice oA ol.length oc, .slice eA el.length ec, .int .i64 nt, .slice qA ql.length qc] 26)) := (Below.refl _ _).alloc (Nat.le_refl _) _
  have hbx := holds_at w #[.int .i64 va, .slice oA ol.length oc, .slice eA el.length ec, .int .i64 nt, .slice qA ql.length qc] 26 _ rfl
  have HE := Lib.hid (show ∀ k (h : k < el.length) W, Below w.heap.size w W → ∃ b o, eA = some ⟨b, o, none⟩ ∧ W.cell? ⟨b, o + k * 7, none⟩ = some (.int .i64 el[k].kind) ∧ W.cell? ⟨b, o + k * 7 + 1, none⟩ = some (rowV el[k].sort) ∧ W.cell? ⟨b, o + k * 7 + 2, none⟩ = some (rowsV el[k].pars) ∧ W.cell? ⟨b, o + k * 7 + 3, none⟩ = some (rowsV el[k].inds) ∧
      W.cell? ⟨b, o + k * 7 + 4, none⟩ = some (ctorsV el[k].ctors) ∧ W.cell? ⟨b, o + k * 7 + 5, none⟩ = some (rowV el[k].typ) ∧ W.cell? ⟨b, o + k * 7 + 6, none⟩ = some (rowV el[k].body) from fun k h W g => by
    obtain ⟨b, o, rfl, _, _⟩ := hin.ents.2.1.at_ (by rw [entsCV_len]; simp only; omega)
    exact ⟨b, o, rfl, ents_cells (hin.ents.2.1.below g) h⟩)
  have HI := Lib.hid (show ∀ k (h : k < el.length), EntIn w el[k] from fun k h => hin.ents.2.2 _ (List.getElem_mem h))
  have HRW := Lib.hid (show ∀ k (h : k < el.length), _ from fun k h => hrows _ (List.getElem_mem h))
  obtain ⟨W1, hW1⟩ : ∃ W1, W1 = (w.alloc (.cells #[.int .i64 va, .slice oA ol.length oc, .slice eA el.length ec, .int .i64 nt, .slice qA ql.length qc] 26)) := ⟨_, rfl⟩
  rw [← hW1] at hb1 hbx
  have KB := Lib.hid (show ∀ W, Below W1.heap.size W1 W → W.cell? ⟨w.heap.size, 1, none⟩ = some (.slice oA ol.length oc) ∧ W.cell? ⟨w.heap.size, 2, none⟩ = some (.slice eA el.length ec) ∧ W.cell? ⟨w.heap.size, 4, none⟩ = some (.slice qA ql.length qc) from fun W g => by
    have q := hbx.below g
    exact ⟨q.cell (j := 1) rfl, q.cell (j := 2) rfl, q.cell (j := 4) rfl⟩)
  have HUP := Lib.hid (show ∀ W, Below W1.heap.size W1 W → Below w.heap.size w W from fun W g => hb1.trans (g.mono hb1.size))
  have HW1 := Lib.hid hW1
  have HB0 := Lib.hid (Below.refl W1.heap.size W1)
  obtain ⟨k1, k2, k4⟩ := KB.out _ HB0.out
  clear hin hrows hb1 hbx hW1
  have e0 : IntKind.i64.wrap ((ol.length : Int) + (ql.length : Int)) = (ol.length : Int) + (ql.length : Int) := IntWalk.i64_in _ (by omega)
  go_enter Tryz.func32, Tryz.ntmps32
  go_wp2_with fail
  rw [← HW1.out]
  go_wp2_with fail
  clear k1 k2 k4 e0
  go_loopw [5, 6] (fun s i wr => ∃ k v : Nat, s = .int .i64 (v : Int) ∧ i = .int .i64 (k : Int) ∧ k ≤ el.length ∧ v ≤ 3 * lid + 6 * 140737488351232 ∧ ol.length + ql.length + k ≤ v ∧ Hid (v < lid → ∀ j (h : j < el.length), j < k → EntLight lid el[j]) ∧ Hid (Below W1.heap.size W1 wr)) (fun _ i _ => el.length - (intOf i).toNat)
  case atStart => exact ⟨0, ol.length + ql.length, by go_num, rfl, Nat.zero_le _, by omega, by omega, Lib.hid fun _ j _ h => absurd h (Nat.not_lt_zero j), HB0⟩
  case round =>
    obtain ⟨k, v, rfl, rfl, hk, hv, hkv, HV, HB⟩ := hrel
    obtain ⟨k1, k2, k4⟩ := KB.out _ HB.out
    by_cases hlt : k < el.length
    · by_cases hvl : v < lid
      · obtain ⟨b, o, rfl, c0, c1, c2, c3, c4, c5, c6⟩ := HE.out k hlt wr (HUP.out _ HB.out)
        have hxin := HI.out k hlt
        have hxr := HRW.out k hlt
        have HNX := Lib.hid (show ∀ u, v ≤ u → EntLight lid el[k] → u < lid → ∀ j (h : j < el.length), j < k + 1 → EntLight lid el[j] from fun u hu hx hul j h hj => by
          by_cases e : j = k
          · subst e; exact hx
          · exact HV.out (by omega) j h (by omega))
        generalize el[k] = x at *
        obtain ⟨kd, ⟨sA, sc, sl⟩, ⟨pA, pc, pl⟩, ⟨iA, ic, il⟩, ⟨cA, cc, cl⟩, ⟨tA, tc, tl⟩, ⟨bA, bc, bl⟩⟩ := x
        simp only [rowV, rowsV, ctorsV] at c0 c1 c2 c3 c4 c5 c6
        obtain ⟨hsl, htl, hbl, ⟨hpl, hpn⟩, ⟨hil, hin⟩, hcn, hcr⟩ := hxr
        simp only at hsl htl hbl hpl hpn hil hin hcn hcr
        have zp0 : ∀ W, Below w.heap.size w W → Calls Tryz.prog 76 #[.slice pA pl.length pc, .int .i64 (lid : Int)] W (SizePost lid pl W) := fun W g => sizes_any pA pl.length pc lid pl W rfl (hxin.pars.2.1.below g) hpl hlid hpn
        have zi0 : ∀ W, Below w.heap.size w W → Calls Tryz.prog 76 #[.slice iA il.length ic, .int .i64 (lid : Int)] W (SizePost lid il W) := fun W g => sizes_any iA il.length ic lid il W rfl (hxin.inds.2.1.below g) hil hlid hin
        have HCT := Lib.hid (show ∀ m (h : m < cl.length) W, Below w.heap.size w W → ∃ b' o', cA = some ⟨b', o', none⟩ ∧ W.cell? ⟨b', o' + m * 2, none⟩ = some (rowsV cl[m].args) ∧ W.cell? ⟨b', o' + m * 2 + 1, none⟩ = some (rowsV cl[m].out) ∧
            Calls Tryz.prog 76 #[rowsV cl[m].args, .int .i64 (lid : Int)] W (SizePost lid cl[m].args.2.2 W) ∧ Calls Tryz.prog 76 #[rowsV cl[m].out, .int .i64 (lid : Int)] W (SizePost lid cl[m].out.2.2 W) from fun m h W g => by
          obtain ⟨b', o', rfl, _, _⟩ := hxin.ctors.2.1.at_ (by rw [ctorsCV_len]; simp only; omega)
          obtain ⟨d0, d1⟩ := ctors_cells (hxin.ctors.2.1.below g) h
          have hc := hxin.ctors.2.2 _ (List.getElem_mem h)
          have hr := hcr _ (List.getElem_mem h)
          exact ⟨b', o', rfl, d0, d1, sizes_any _ _ _ lid _ W rfl (hc.1.2.1.below g) hr.1.1 hlid hr.1.2, sizes_any _ _ _ lid _ W rfl (hc.2.2.1.below g) hr.2.1 hlid hr.2.2⟩)
        have gX : Below wr.heap.size wr (wr.alloc (.cells #[.int .i64 kd, .slice sA sl.length sc, .slice pA pl.length pc, .slice iA il.length ic, .slice cA cl.length cc, .slice tA tl.length tc, .slice bA bl.length bc] 60)) := (Below.refl _ _).alloc (Nat.le_refl _) _
        have hX := holds_at wr #[.int .i64 kd, .slice sA sl.length sc, .slice pA pl.length pc, .slice iA il.length ic, .slice cA cl.length cc, .slice tA tl.length tc, .slice bA bl.length bc] 60 _ rfl
        obtain ⟨WX, hWX⟩ : ∃ WX, WX = (wr.alloc (.cells #[.int .i64 kd, .slice sA sl.length sc, .slice pA pl.length pc, .slice iA il.length ic, .slice cA cl.length cc, .slice tA tl.length tc, .slice bA bl.length bc] 60)) := ⟨_, rfl⟩
        rw [← hWX] at gX hX
        have HUX := Lib.hid (show ∀ W, Below WX.heap.size WX W → Below W1.heap.size W1 W from fun W g => (HB.out.trans (gX.mono HB.out.size)).trans (g.mono (Nat.le_trans HB.out.size gX.size)))
        have KX := Lib.hid (show ∀ W, Below WX.heap.size WX W → W.cell? ⟨wr.heap.size, 0, none⟩ = some (.int .i64 kd) ∧ W.cell? ⟨wr.heap.size, 1, none⟩ = some (.slice sA sl.length sc) ∧ W.cell? ⟨wr.heap.size, 2, none⟩ = some (.slice pA pl.length pc) ∧ W.cell? ⟨wr.heap.size, 3, none⟩ = some (.slice iA il.length ic) ∧ W.cell? ⟨wr.heap.size, 4, none⟩ = some (.slice cA cl.length cc) ∧ W.cell? ⟨wr.heap.size, 5, none⟩ = some (.slice tA tl.length tc) ∧ W.cell? ⟨wr.heap.size, 6, none⟩ = some (.slice bA bl.length bc) from fun W g => by
          have q := hX.below g
          exact ⟨(by have := q.cell (j := 0) rfl; rwa [Nat.zero_add] at this), by have := q.cell (j := 1) rfl; rwa [Nat.zero_add] at this, by have := q.cell (j := 2) rfl; rwa [Nat.zero_add] at this, by have := q.cell (j := 3) rfl; rwa [Nat.zero_add] at this, by have := q.cell (j := 4) rfl; rwa [Nat.zero_add] at this, by have := q.cell (j := 5) rfl; rwa [Nat.zero_add] at this, by have := q.cell (j := 6) rfl; rwa [Nat.zero_add] at this⟩)
        have ZP := Lib.hid (fun W g => zp0 W (HUP.out W (HUX.out W g)))
        have ZI := Lib.hid (fun W g => zi0 W (HUP.out W (HUX.out W g)))
        have HWX := Lib.hid hWX
        have HX0 := Lib.hid (show Below WX.heap.size WX WX.drew from below_drewN (Below.refl _ _) 1)
        have e1 : IntKind.i64.wrap ((v : Int) + 1) = (v : Int) + 1 := IntWalk.i64_in _ (by omega)
        have e2 : IntKind.i64.wrap ((v : Int) + 1 + (sl.length : Int)) = (v : Int) + 1 + (sl.length : Int) := IntWalk.i64_in _ (by omega)
        have e3 : IntKind.i64.wrap ((v : Int) + 1 + (sl.length : Int) + (tl.length : Int)) = (v : Int) + 1 + (sl.length : Int) + (tl.length : Int) := IntWalk.i64_in _ (by omega)
        have e4 : IntKind.i64.wrap ((v : Int) + 1 + (sl.length : Int) + (tl.length : Int) + (bl.length : Int)) = (v : Int) + 1 + (sl.length : Int) + (tl.length : Int) + (bl.length : Int) := IntWalk.i64_in _ (by omega)
        have hki : (k : Int) < (el.length : Int) := by omega
        have hvi : (v : Int) < (lid : Int) := by omega
        clear hxin hcr hpl hil zp0 zi0 gX hX hWX
        go_wp2_with fail
        rw [← HWX.out]
        refine region_begin_any (S := fun W => W.cell? ⟨wr.heap.size, 0, none⟩ = some (.int .i64 kd) ∧ W.cell? ⟨wr.heap.size, 1, none⟩ = some (.slice sA sl.length sc) ∧ W.cell? ⟨wr.heap.size, 2, none⟩ = some (.slice pA pl.length pc) ∧ W.cell? ⟨wr.heap.size, 3, none⟩ = some (.slice iA il.length ic) ∧ W.cell? ⟨wr.heap.size, 4, none⟩ = some (.slice cA cl.length cc) ∧ W.cell? ⟨wr.heap.size, 5, none⟩ = some (.slice tA tl.length tc) ∧ W.cell? ⟨wr.heap.size, 6, none⟩ = some (.slice bA bl.length bc)) (by kernel_rfl) (KX.out _ HX0.out) (fun W hW hHeld => ?_)
        subst hW
        refine region_take 0 ?_ rfl (by kernel_rfl) (by rfl) hHeld ?_ ?_
        rotate_left
        · intro w hSw
          (try dsimp only at hSw)
          go_simp
          try with_reducible rfl
        try simp only [Act.put, List.setIfInBounds_toArray, List.set_cons_zero, List.set_cons_succ]
        refine region_take 1 ?_ rfl (by kernel_rfl) (by rfl) hHeld ?_ ?_
        rotate_left
        · intro w hSw
          (try dsimp only at hSw)
          go_simp
          try with_reducible rfl
        try simp only [Act.put, List.setIfInBounds_toArray, List.set_cons_zero, List.set_cons_succ]
        refine region_take 2 ?_ rfl (by kernel_rfl) (by rfl) hHeld ?_ ?_
        rotate_left
        · intro w hSw
          (try dsimp only at hSw)
          go_simp
          try with_reducible rfl
        try simp only [Act.put, List.setIfInBounds_toArray, List.set_cons_zero, List.set_cons_succ]
        refine region_take 3 ?_ rfl (by kernel_rfl) (by rfl) hHeld ?_ ?_
        rotate_left
        · intro w hSw
          (try dsimp only at hSw)
          go_simp
          try with_reducible rfl
        try simp only [Act.put, List.setIfInBounds_toArray, List.set_cons_zero, List.set_cons_succ]
        refine region_take 4 ?_ rfl (by kernel_rfl) (by rfl) hHeld ?_ ?_
        rotate_left
        · intro w hSw
          (try dsimp only at hSw)
          go_simp
          try with_reducible rfl
        try simp only [Act.put, List.setIfInBounds_toArray, List.set_cons_zero, List.set_cons_succ]
        refine region_take 5 ?_ rfl (by kernel_rfl) (by rfl) hHeld ?_ ?_
        rotate_left
        · intro w hSw
          (try dsimp only at hSw)
          go_simp
          try with_reducible rfl
        try simp only [Act.put, List.setIfInBounds_toArray, List.set_cons_zero, List.set_cons_succ]
        refine region_take 6 ?_ rfl (by kernel_rfl) (by rfl) hHeld ?_ ?_
        rotate_left
        · intro w hSw
          (try dsimp only at hSw)
          go_simp
          try with_reducible rfl
        try simp only [Act.put, List.setIfInBounds_toArray, List.set_cons_zero, List.set_cons_succ]
        refine region_take 7 ?_ rfl (by kernel_rfl) (by rfl) hHeld ?_ ?_
        rotate_left
        · intro w hSw
          (try dsimp only at hSw)
          go_simp
          try with_reducible rfl
        try simp only [Act.put, List.setIfInBounds_toArray, List.set_cons_zero, List.set_cons_succ]
        refine region_take 8 ?_ rfl (by kernel_rfl) (by rfl) hHeld ?_ ?_
        rotate_left
        · intro w hSw
          (try dsimp only at hSw)
          go_simp
          try with_reducible rfl
        try simp only [Act.put, List.setIfInBounds_toArray, List.set_cons_zero, List.set_cons_succ]
        refine region_take 9 ?_ rfl (by kernel_rfl) (by rfl) hHeld ?_ ?_
        rotate_left
        · intro w hSw
          (try dsimp only at hSw)
          go_simp
          try with_reducible rfl
        try simp only [Act.put, List.setIfInBounds_toArray, List.set_cons_zero, List.set_cons_succ]
        refine region_take 10 ?_ rfl (by kernel_rfl) (by rfl) hHeld ?_ ?_
        rotate_left
        · intro w hSw
          (try dsimp only at hSw)
          go_simp
          try with_reducible rfl
        try simp only [Act.put, List.setIfInBounds_toArray, List.set_cons_zero, List.set_cons_succ]
        refine region_take 11 ?_ rfl (by kernel_rfl) (by rfl) hHeld ?_ ?_
        rotate_left
        · intro w hSw
          (try dsimp only at hSw)
          go_simp
          try with_reducible rfl
        try simp only [Act.put, List.setIfInBounds_toArray, List.set_cons_zero, List.set_cons_succ]
        refine region_take 12 ?_ rfl (by kernel_rfl) (by rfl) hHeld ?_ ?_
        rotate_left
        · intro w hSw
          (try dsimp only at hSw)
          go_simp
          try with_reducible rfl
        try simp only [Act.put, List.setIfInBounds_toArray, List.set_cons_zero, List.set_cons_succ]
        refine region_take 13 ?_ rfl (by kernel_rfl) (by rfl) hHeld ?_ ?_
        rotate_left
        · intro w hSw
          (try dsimp only at hSw)
          go_simp
          try with_reducible rfl
        try simp only [Act.put, List.setIfInBounds_toArray, List.set_cons_zero, List.set_cons_succ]
        refine region_take 14 ?_ rfl (by kernel_rfl) (by rfl) hHeld ?_ ?_
        rotate_left
        · intro w hSw
          (try dsimp only at hSw)
          go_simp
          try with_reducible rfl
        try simp only [Act.put, List.setIfInBounds_toArray, List.set_cons_zero, List.set_cons_succ]
        refine region_take 15 ?_ rfl (by kernel_rfl) (by rfl) hHeld ?_ ?_
        rotate_left
        · intro w hSw
          (try dsimp only at hSw)
          go_simp
          try with_reducible rfl
        try simp only [Act.put, List.setIfInBounds_toArray, List.set_cons_zero, List.set_cons_succ]
        refine region_take 16 ?_ rfl (by kernel_rfl) (by rfl) hHeld ?_ ?_
        rotate_left
        · intro w hSw
          (try dsimp only at hSw)
          go_simp
          try with_reducible rfl
        try simp only [Act.put, List.setIfInBounds_toArray, List.set_cons_zero, List.set_cons_succ]
        refine region_take 19 ?_ rfl (by kernel_rfl) (by rfl) hHeld ?_ ?_
        rotate_left
        · intro w hSw
          (try dsimp only at hSw)
          go_simp
          try with_reducible rfl
        try simp only [Act.put, List.setIfInBounds_toArray, List.set_cons_zero, List.set_cons_succ]
        refine region_take 20 ?_ rfl (by kernel_rfl) (by rfl) hHeld ?_ ?_
        rotate_left
        · intro w hSw
          (try dsimp only at hSw)
          go_simp
          try with_reducible rfl
        try simp only [Act.put, List.setIfInBounds_toArray, List.set_cons_zero, List.set_cons_succ]
        refine region_take 21 ?_ rfl (by kernel_rfl) (by rfl) hHeld ?_ ?_
        rotate_left
        · intro w hSw
          (try dsimp only at hSw)
          go_simp
          try with_reducible rfl
        try simp only [Act.put, List.setIfInBounds_toArray, List.set_cons_zero, List.set_cons_succ]
        refine region_call 17 rfl (by kernel_rfl) (by rfl) (fun K hK => ?_)
        go_simp
        refine (ZP.out _ HX0.out).mono ?_
        rintro e w8 ⟨zp, rfl, hp1, hp2, g⟩
        have HX1 := Lib.hid (HX0.out.trans (g.mono HX0.out.size))
        clear g
        have e5 : IntKind.i64.wrap ((v : Int) + 1 + (sl.length : Int) + (tl.length : Int) + (bl.length : Int) + (zp : Int)) = (v : Int) + 1 + (sl.length : Int) + (tl.length : Int) + (bl.length : Int) + (zp : Int) := IntWalk.i64_in _ (by omega)
        have HP2 := Lib.hid hp2
        clear hp2
        refine hK.out _ _ (KX.out _ HX1.out) (fun hHeld => ?_)
        clear hK K
        try simp only [Act.put, List.setIfInBounds_toArray, List.set_cons_zero, List.set_cons_succ]
        refine region_take 18 ?_ rfl (by kernel_rfl) (by rfl) hHeld ?_ ?_
        rotate_left
        · intro w hSw
          (try dsimp only at hSw)
          go_simp
          try with_reducible rfl
        try simp only [Act.put, List.setIfInBounds_toArray, List.set_cons_zero, List.set_cons_succ]
        refine region_call 22 rfl (by kernel_rfl) (by rfl) (fun K hK => ?_)
        go_simp
        refine (ZI.out _ HX1.out).mono ?_
        rintro e w9 ⟨zi, rfl, hi1, hi2, g⟩
        have HX2 := Lib.hid (HX1.out.trans (g.mono HX1.out.size))
        clear g
        have e6 : IntKind.i64.wrap ((v : Int) + 1 + (sl.length : Int) + (tl.length : Int) + (bl.length : Int) + (zp : Int) + (zi : Int)) = (v : Int) + 1 + (sl.length : Int) + (tl.length : Int) + (bl.length : Int) + (zp : Int) + (zi : Int) := IntWalk.i64_in _ (by omega)
        have HI2 := Lib.hid hi2
        clear hi2
        refine hK.out _ _ (KX.out _ HX2.out) (fun hHeld => ?_)
        clear hK K
        try simp only [Act.put, List.setIfInBounds_toArray, List.set_cons_zero, List.set_cons_succ]
        refine region_take 23 ?_ rfl (by kernel_rfl) (by rfl) hHeld ?_ ?_
        rotate_left
        · intro w hSw
          (try dsimp only at hSw)
          go_simp
          try with_reducible rfl
        try simp only [Act.put, List.setIfInBounds_toArray, List.set_cons_zero, List.set_cons_succ]
        refine region_take 24 ?_ rfl (by kernel_rfl) (by rfl) hHeld ?_ ?_
        rotate_left
        · intro w hSw
          (try dsimp only at hSw)
          go_simp
          try with_reducible rfl
        try simp only [Act.put, List.setIfInBounds_toArray, List.set_cons_zero, List.set_cons_succ]
        refine region_done (by kernel_rfl) ?_
        clear hHeld
        generalize hv6 : v + 1 + sl.length + tl.length + bl.length + zp + zi = v6 at *
        have hv6i : (v : Int) + 1 + (sl.length : Int) + (tl.length : Int) + (bl.length : Int) + (zp : Int) + (zi : Int) = (v6 : Int) := by omega
        have HHD := Lib.hid (show v6 < lid → EntLite lid ⟨kd, (sA, sc, sl), (pA, pc, pl), (iA, ic, il), (cA, cc, cl), (tA, tc, tl), (bA, bc, bl)⟩ from fun h => ⟨by simp only; omega, by simp only; omega, by simp only; omega, by have := HP2.out (by omega); simp only; omega, by have := HI2.out (by omega); simp only; omega⟩)
        have hvv : v + 1 ≤ v6 := by omega
        have hv6b : v6 ≤ 3 * lid + 6 * 140737488351232 := by omega
        rw [hv6i]
        clear hv6 hv6i e1 e2 e3 e4 e5 e6 hp1 hi1
        go_wp2_with fail
        obtain ⟨xb, hxb⟩ : ∃ xb, xb = wr.heap.size := ⟨_, rfl⟩
        rw [← hxb] at KX ⊢
        clear hxb HB HWX ZP ZI HP2 HI2 HX0 HX1 k1 k2 k4 c0 c1 c2 c3 c4 c5 c6
        go_loopw [5, 8] (fun s j wr => ∃ m u : Nat, s = .int .i64 (u : Int) ∧ j = .int .i64 (m : Int) ∧ m ≤ cl.length ∧ u ≤ 3 * lid + 6 * 140737488351232 ∧ v + 1 ≤ u ∧ m ≤ u ∧ Hid (u < lid → v6 < lid ∧ ∀ j (h : j < cl.length), j < m → CtorLite lid cl[j]) ∧ Hid (Below WX.heap.size WX wr)) (fun _ j _ => cl.length - (intOf j).toNat)
        case atStart => exact ⟨0, v6, rfl, rfl, Nat.zero_le _, hv6b, hvv, Nat.zero_le _, Lib.hid fun h => ⟨h, fun j _ h => absurd h (Nat.not_lt_zero j)⟩, HX2⟩
        case round =>
          obtain ⟨m, u, rfl, rfl, hm, hu, hvu, hmu, HU, HB⟩ := hrel
          obtain ⟨x0, x1, x2, x3, x4, x5, x6⟩ := KX.out _ HB.out
          by_cases hml : m < cl.length
          · by_cases hul : u < lid
            · obtain ⟨b', o', rfl, d0, d1, hu0, hy0⟩ := HCT.out m hml wr.drew (HUP.out _ (HUX.out _ (HB.out.trans (below_drewN (Below.refl _ _) 1))))
              have HCL := Lib.hid (show ∀ q, u ≤ q → CtorLite lid cl[m] → q < lid → v6 < lid ∧ ∀ j (h : j < cl.length), j < m + 1 → CtorLite lid cl[j] from fun q hq hx hql => ⟨(HU.out (by omega)).1, fun j h hj => by
                by_cases e : j = m
                · subst e; exact hx
                · exact (HU.out (by omega)).2 j h (by omega)⟩)
              have hC2 := HCT.out m hml
              generalize cl[m] = x at *
              obtain ⟨⟨uA, uc, ul⟩, ⟨yA, yc, yl⟩⟩ := x
              simp only [rowsV] at d0 d1 hu0 hy0 hC2
              have KY := Lib.hid (show ∀ W, Below WX.heap.size WX W → W.cell? ⟨xb, 4, none⟩ = some (.slice (some ⟨b', o', none⟩) cl.length cc) ∧ W.cell? ⟨b', o' + m * 2, none⟩ = some (.slice uA ul.length uc) ∧ W.cell? ⟨b', o' + m * 2 + 1, none⟩ = some (.slice yA yl.length yc) from fun W g => by
                obtain ⟨b1, o1, e, d2, d3, -⟩ := hC2 W (HUP.out _ (HUX.out _ g))
                cases e
                exact ⟨(KX.out W g).2.2.2.2.1, d2, d3⟩)
              have ZU := Lib.hid (show ∀ W, Below WX.heap.size WX W → Calls Tryz.prog 76 #[.slice uA ul.length uc, .int .i64 (lid : Int)] W (SizePost lid ul W) from fun W g => by
                obtain ⟨b1, o1, e, d2, d3, z, -⟩ := hC2 W (HUP.out _ (HUX.out _ g))
                exact z)
              have ZY := Lib.hid (show ∀ W, Below WX.heap.size WX W → Calls Tryz.prog 76 #[.slice yA yl.length yc, .int .i64 (lid : Int)] W (SizePost lid yl W) from fun W g => by
                obtain ⟨b1, o1, e, d2, d3, -, z⟩ := hC2 W (HUP.out _ (HUX.out _ g))
                exact z)
              have HY0 := Lib.hid (show Below WX.heap.size WX wr.drew from HB.out.trans (below_drewN (Below.refl _ _) 1))
              have f0 : IntKind.i64.wrap ((u : Int) + 1) = (u : Int) + 1 := IntWalk.i64_in _ (by omega)
              have hmi : (m : Int) < (cl.length : Int) := by omega
              have hui : (u : Int) < (lid : Int) := by omega
              clear d0 d1 hu0 hy0 hC2
              go_wp2_with fail
              refine region_begin_any (S := fun W => W.cell? ⟨xb, 4, none⟩ = some (.slice (some ⟨b', o', none⟩) cl.length cc) ∧ W.cell? ⟨b', o' + m * 2, none⟩ = some (.slice uA ul.length uc) ∧ W.cell? ⟨b', o' + m * 2 + 1, none⟩ = some (.slice yA yl.length yc)) (by kernel_rfl) (KY.out _ HY0.out) (fun W hW hHeld => ?_)
              subst hW
              refine region_take 0 ?_ rfl (by kernel_rfl) (by rfl) hHeld ?_ ?_
              rotate_left
              · intro w hSw
                (try dsimp only at hSw)
                go_simp
                try with_reducible rfl
              try simp only [Act.put, List.setIfInBounds_toArray, List.set_cons_zero, List.set_cons_succ]
              refine region_take 1 ?_ rfl (by kernel_rfl) (by rfl) hHeld ?_ ?_
              rotate_left
              · intro w hSw
                (try dsimp only at hSw)
                go_simp
                try with_reducible rfl
              try simp only [Act.put, List.setIfInBounds_toArray, List.set_cons_zero, List.set_cons_succ]
              refine region_take 2 ?_ rfl (by kernel_rfl) (by rfl) hHeld ?_ ?_
              rotate_left
              · intro w hSw
                (try dsimp only at hSw)
                go_simp
                try with_reducible rfl
              try simp only [Act.put, List.setIfInBounds_toArray, List.set_cons_zero, List.set_cons_succ]
              refine region_take 3 ?_ rfl (by kernel_rfl) (by rfl) hHeld ?_ ?_
              rotate_left
              · intro w hSw
                (try dsimp only at hSw)
                go_simp
                try with_reducible rfl
              try simp only [Act.put, List.setIfInBounds_toArray, List.set_cons_zero, List.set_cons_succ]
              refine region_take 4 ?_ rfl (by kernel_rfl) (by rfl) hHeld ?_ ?_
              rotate_left
              · intro w hSw
                (try dsimp only at hSw)
                go_simp
                try with_reducible rfl
              try simp only [Act.put, List.setIfInBounds_toArray, List.set_cons_zero, List.set_cons_succ]
              refine region_take 5 ?_ rfl (by kernel_rfl) (by rfl) hHeld ?_ ?_
              rotate_left
              · intro w hSw
                (try dsimp only at hSw)
                go_simp
                try with_reducible rfl
              try simp only [Act.put, List.setIfInBounds_toArray, List.set_cons_zero, List.set_cons_succ]
              refine region_take 6 ?_ rfl (by kernel_rfl) (by rfl) hHeld ?_ ?_
              rotate_left
              · intro w hSw
                (try dsimp only at hSw)
                go_simp
                try with_reducible rfl
              try simp only [Act.put, List.setIfInBounds_toArray, List.set_cons_zero, List.set_cons_succ]
              refine region_take 7 ?_ rfl (by kernel_rfl) (by rfl) hHeld ?_ ?_
              rotate_left
              · intro w hSw
                (try dsimp only at hSw)
                go_simp
                try with_reducible rfl
              try simp only [Act.put, List.setIfInBounds_toArray, List.set_cons_zero, List.set_cons_succ]
              refine region_take 8 ?_ rfl (by kernel_rfl) (by rfl) hHeld ?_ ?_
              rotate_left
              · intro w hSw
                (try dsimp only at hSw)
                go_simp
                try with_reducible rfl
              try simp only [Act.put, List.setIfInBounds_toArray, List.set_cons_zero, List.set_cons_succ]
              refine region_take 11 ?_ rfl (by kernel_rfl) (by rfl) hHeld ?_ ?_
              rotate_left
              · intro w hSw
                (try dsimp only at hSw)
                go_simp
                try with_reducible rfl
              try simp only [Act.put, List.setIfInBounds_toArray, List.set_cons_zero, List.set_cons_succ]
              refine region_take 12 ?_ rfl (by kernel_rfl) (by rfl) hHeld ?_ ?_
              rotate_left
              · intro w hSw
                (try dsimp only at hSw)
                go_simp
                try with_reducible rfl
              try simp only [Act.put, List.setIfInBounds_toArray, List.set_cons_zero, List.set_cons_succ]
              refine region_take 13 ?_ rfl (by kernel_rfl) (by rfl) hHeld ?_ ?_
              rotate_left
              · intro w hSw
                (try dsimp only at hSw)
                go_simp
                try with_reducible rfl
              try simp only [Act.put, List.setIfInBounds_toArray, List.set_cons_zero, List.set_cons_succ]
              refine region_take 14 ?_ rfl (by kernel_rfl) (by rfl) hHeld ?_ ?_
              rotate_left
              · intro w hSw
                (try dsimp only at hSw)
                go_simp
                try with_reducible rfl
              try simp only [Act.put, List.setIfInBounds_toArray, List.set_cons_zero, List.set_cons_succ]
              refine region_take 15 ?_ rfl (by kernel_rfl) (by rfl) hHeld ?_ ?_
              rotate_left
              · intro w hSw
                (try dsimp only at hSw)
                go_simp
                try with_reducible rfl
              try simp only [Act.put, List.setIfInBounds_toArray, List.set_cons_zero, List.set_cons_succ]
              refine region_take 16 ?_ rfl (by kernel_rfl) (by rfl) hHeld ?_ ?_
              rotate_left
              · intro w hSw
                (try dsimp only at hSw)
                go_simp
                try with_reducible rfl
              try simp only [Act.put, List.setIfInBounds_toArray, List.set_cons_zero, List.set_cons_succ]
              refine region_take 17 ?_ rfl (by kernel_rfl) (by rfl) hHeld ?_ ?_
              rotate_left
              · intro w hSw
                (try dsimp only at hSw)
                go_simp
                try with_reducible rfl
              try simp only [Act.put, List.setIfInBounds_toArray, List.set_cons_zero, List.set_cons_succ]
              refine region_call 9 rfl (by kernel_rfl) (by rfl) (fun K hK => ?_)
              go_simp
              refine (ZU.out _ HY0.out).mono ?_
              rintro e w8 ⟨zu, rfl, hu1, hu2, g⟩
              have HY1 := Lib.hid (HY0.out.trans (g.mono HY0.out.size))
              clear g
              have f1 : IntKind.i64.wrap ((u : Int) + 1 + (zu : Int)) = (u : Int) + 1 + (zu : Int) := IntWalk.i64_in _ (by omega)
              have HU2 := Lib.hid hu2
              clear hu2
              refine hK.out _ _ (KY.out _ HY1.out) (fun hHeld => ?_)
              clear hK K
              try simp only [Act.put, List.setIfInBounds_toArray, List.set_cons_zero, List.set_cons_succ]
              refine region_take 10 ?_ rfl (by kernel_rfl) (by rfl) hHeld ?_ ?_
              rotate_left
              · intro w hSw
                (try dsimp only at hSw)
                go_simp
                try with_reducible rfl
              try simp only [Act.put, List.setIfInBounds_toArray, List.set_cons_zero, List.set_cons_succ]
              refine region_call 18 rfl (by kernel_rfl) (by rfl) (fun K hK => ?_)
              go_simp
              refine (ZY.out _ HY1.out).mono ?_
              rintro e w9 ⟨zy, rfl, hy1, hy2, g⟩
              have HY2 := Lib.hid (HY1.out.trans (g.mono HY1.out.size))
              clear g
              have f2 : IntKind.i64.wrap ((u : Int) + 1 + (zu : Int) + (zy : Int)) = (u : Int) + 1 + (zu : Int) + (zy : Int) := IntWalk.i64_in _ (by omega)
              have HY2_ := Lib.hid hy2
              clear hy2
              refine hK.out _ _ (KY.out _ HY2.out) (fun hHeld => ?_)
              clear hK K
              try simp only [Act.put, List.setIfInBounds_toArray, List.set_cons_zero, List.set_cons_succ]
              refine region_take 19 ?_ rfl (by kernel_rfl) (by rfl) hHeld ?_ ?_
              rotate_left
              · intro w hSw
                (try dsimp only at hSw)
                go_simp
                try with_reducible rfl
              try simp only [Act.put, List.setIfInBounds_toArray, List.set_cons_zero, List.set_cons_succ]
              refine region_take 20 ?_ rfl (by kernel_rfl) (by rfl) hHeld ?_ ?_
              rotate_left
              · intro w hSw
                (try dsimp only at hSw)
                go_simp
                try with_reducible rfl
              try simp only [Act.put, List.setIfInBounds_toArray, List.set_cons_zero, List.set_cons_succ]
              refine region_done (by kernel_rfl) ?_
              clear hHeld
              go_wp2_with fail
              go_roundw
              case rel => exact ⟨m + 1, u + 1 + zu + zy, by go_num, by go_num, by omega, by omega, by omega, by omega, Lib.hid fun h => HCL.out (u + 1 + zu + zy) (by omega) ⟨by have h2 := HU2.out (by omega); simp only; omega, by have h2 := HY2_.out (by omega); simp only; omega⟩ h, HY2⟩
              case measure => simp [intOf] <;> omega
            · have hui : ¬ (u : Int) < (lid : Int) := by omega
              go_wp2_with fail
              go_roundw
              case rel => exact ⟨k + 1, u, rfl, by go_num, by omega, hu, by omega, Lib.hid fun h => absurd h hul, HUX.out _ HB.out⟩
              case measure => simp [intOf] <;> omega
          · obtain rfl : m = cl.length := by omega
            have HLL := Lib.hid (show u < lid → EntLight lid ⟨kd, (sA, sc, sl), (pA, pc, pl), (iA, ic, il), (cA, cc, cl), (tA, tc, tl), (bA, bc, bl)⟩ from fun h => ⟨HHD.out (HU.out h).1, by simp only; omega, fun c hc => by
              obtain ⟨j, hj, rfl⟩ := List.getElem_of_mem hc
              exact (HU.out h).2 j hj hj⟩)
            go_wp2_with fail
            go_roundw
            case rel => exact ⟨k + 1, u, rfl, by go_num, by omega, hu, by omega, Lib.hid fun h => HNX.out u (by omega) (HLL.out h) h, HUX.out _ HB.out⟩
            case measure => simp [intOf] <;> omega
      · have hvi : ¬ (v : Int) < (lid : Int) := by omega
        go_wp2_with fail
        go_ret
        exact ⟨v, rfl, fun h => absurd h hvl, HUP.out _ HB.out⟩
    · obtain rfl : k = el.length := by omega
      have HLL := Lib.hid (show v < lid → BookLight lid ⟨va, (oA, oc, ol), (eA, ec, el), nt, (qA, qc, ql)⟩ from fun h => ⟨by simp only; omega, by simp only; omega, by simp only; omega, fun x hx => by
        obtain ⟨j, hj, rfl⟩ := List.getElem_of_mem hx
        exact HV.out h j hj hj⟩)
      go_wp2_with fail
      go_ret
      exact ⟨v, rfl, HLL.out, HUP.out _ HB.out⟩
theorem BookShort.below {w w' : World} {b : BookT} (h : BookShort w b) (g : Below w.heap.size w w') : BookShort w' b := ⟨h.inn.below g, h.ords, h.prims, h.ents, h.rows⟩
theorem heavy_any (b : BookT) (w : World) (hb : BookShort w b) : Calls Tryz.prog 12 #[b.val] w (fun e w' => ∃ h : Bool, e = .returned (.bool h) ∧ (h = false → BookLight 12000 b) ∧ Below w.heap.size w w') := by
  have g0 : Below w.heap.size w (w.alloc (.cells #[.int .i64 b.vars, .slice b.ords.1 b.ords.2.2.length b.ords.2.1, entsV b.ents, .int .i64 b.nat, .slice b.prims.1 b.prims.2.2.length b.prims.2.1] 26)) := (Below.refl _ _).alloc (Nat.le_refl _) _
  have hs := size_any b 12000 _ (hb.below g0) (by omega)
  have e : ((12000 : Nat) : Int) = 12000 := rfl
  rw [e] at hs
  have HS := Lib.hid hs
  have HG := Lib.hid g0
  clear hs hb g0 e
  go_enter Tryz.func12, Tryz.ntmps12
  go_wp2_with fail
  refine (HS.out).mono ?_
  rintro e w1 ⟨v, rfl, hv, g⟩
  have HV := Lib.hid hv
  clear hv
  by_cases h : v < 12000
  · have hi : ¬ (12000 : Int) ≤ (v : Int) := by omega
    go_wp2_with fail
    go_ret
    exact ⟨false, by simp [hi], fun _ => HV.out h, HG.out.trans (g.mono HG.out.size)⟩
  · have hi : (12000 : Int) ≤ (v : Int) := by omega
    go_wp2_with fail
    go_ret
    exact ⟨true, by simp, fun h => (by cases h), HG.out.trans (g.mono HG.out.size)⟩
end Go.Proofs.YtfeodppdmbideaaGreatDoor
namespace Go.Proofs.YtfeodppdmbideaaGreatDoor
open Go.RowKit

theorem RowsG0.long {W : World} {y : RowsT} (h : RowsG0 W y) : LongL y.2.2 ∧ y.2.2.length ≤ 140737488351232 := ⟨fun x hx => (h.2.1 x hx).2.2, h.2.2⟩
theorem BookG0.short {W : World} {b : BookT} (h : BookG0 W b) : BookShort W b :=
  ⟨h.ok.inn, h.ords.2.2, h.prims.2.2, h.ents.2.2, fun x hx => by
    have q := h.ents.2.1 x hx
    exact ⟨q.sort.2.2, q.typ.2.2, q.body.2.2, q.pars.long, q.inds.long, q.ctors.2.2, fun c hc => ⟨(q.ctors.2.1 c hc).1.long, (q.ctors.2.1 c hc).2.long⟩⟩⟩
theorem bytes_run (b o n c k : Nat) (hk : k ≤ c) (w : World) : (Instr.slice 47 (.slice (some ⟨b, o, none⟩) n c) none (some (.int .i64 (k : Int))) none).run Tryz.prog w = .ok (.slice (some ⟨b, o, none⟩) k c) w := by
  have ht : Tryz.prog.underlying 47 = some (.slice (Tryz.prog.elem 47)) := by kernel_rfl
  have hz : (sizeOf (Tryz.prog.elem 47)).run Tryz.prog w = .ok 1 w := by kernel_rfl
  rw [run_slice_h (P := Tryz.prog) (t := 47) (len := n) (cap := c) (ht := ht) (kh := .i64) (h := (k : Int)) (h0 := by omega) (h2 := by omega), hz]
  simp [Result.andThen, sliced, add_off]
theorem take_bytes {w : World} {b o k : Nat} {l : List Nat} (h : Holds w (some ⟨b, o, none⟩) (bytesV l)) : Holds w (some ⟨b, o, none⟩) (bytesV (l.take k)) := fun _ => by
  refine ⟨b, o, rfl, fun j u hu => ?_⟩
  have e : bytesV l = bytesV (l.take k) ++ bytesV (l.drop k) := by rw [← bytesV_append, List.take_append_drop]
  exact h.cell (by rw [e, List.getElem?_append_left (List.getElem?_eq_some_iff.1 hu).1]; exact hu)
theorem out_pos (p : ProgP) : 0 < (outG p).length := by
  unfold outG outB
  have := leb_pos p.book.vars.toNat
  simp only [List.length_append]
  omega
theorem leb_byteB : ∀ (n : Nat), ∀ x ∈ leb n, x < 256 := by
  intro n
  induction n using Nat.strongRecOn with
  | ind n ih =>
    intro x hx
    by_cases h : n < 128
    · rw [leb_small h] at hx
      simp at hx
      omega
    · rw [leb_big h] at hx
      rcases List.mem_cons.1 hx with h1 | h1
      · omega
      · exact ih (n / 128) (by omega) x h1
theorem lebs_bytes (l : List Int) : Bytes (lebs l) := fun x hx => by
  obtain ⟨y, _, hy⟩ := List.mem_flatMap.1 hx
  exact leb_byteB _ x hy
theorem Bytes.app {a b : List Nat} (h : Bytes a) (k : Bytes b) : Bytes (a ++ b) := fun x hx => by
  rcases List.mem_append.1 hx with hx | hx
  · exact h x hx
  · exact k x hx
theorem lebT_bytes (t : List Node3) : Bytes (lebT t) := (show Bytes (leb t.length) from leb_byteB _).app (lebs_bytes _)
theorem outAll_bytes {α : Type} {f : α → List Nat} (h : ∀ x, Bytes (f x)) (l : List α) : Bytes (outAll f l) := (show Bytes (leb l.length) from leb_byteB _).app fun x hx => by
  obtain ⟨y, _, hy⟩ := List.mem_flatMap.1 hx
  exact h y x hy
theorem leb_bytes (n : Nat) : Bytes (leb n) := leb_byteB n
theorem outG_bytes (p : ProgP) : Bytes (outG p) := by
  have ho : ∀ x, Bytes (outO x) := fun x => (leb_bytes _).app ((leb_bytes _).app (leb_bytes _))
  have hc : ∀ x, Bytes (outC x) := fun x => (outAll_bytes lebT_bytes _).app (outAll_bytes lebT_bytes _)
  have he : ∀ x, Bytes (outE x) := fun x => by
    unfold outE
    split
    · exact (leb_bytes _).app ((lebT_bytes _).app (lebT_bytes _))
    · exact (leb_bytes _).app ((lebT_bytes _).app ((outAll_bytes lebT_bytes _).app ((outAll_bytes lebT_bytes _).app (outAll_bytes hc _))))
  have hp : ∀ x, Bytes (outP x) := fun x => (leb_bytes _).app (leb_bytes _)
  exact ((leb_bytes _).app ((outAll_bytes ho _).app ((outAll_bytes he _).app ((leb_bytes _).app (outAll_bytes hp _))))).app ((lebT_bytes _).app (lebT_bytes _))
/-- What is right is small. -/
theorem right_sm {p : ProgP} (h : progE p = 0) : ProgSm p := by
  obtain ⟨hb, hm, ht⟩ := prog_G h
  have hr : ∀ {t : List Node3}, RowG t → RowSm t := fun h => by unfold RowSm; have := h.2; omega
  have hrs : ∀ {l : List (List Node3)}, RowsG l → RowsSm l := fun h => ⟨by have := h.1; omega, fun t ht => hr (h.2 t ht)⟩
  have nr : RowSm [] := by unfold RowSm; simp
  have nrs : RowsSm [] := ⟨by simp, fun _ hx => (by cases hx)⟩
  refine ⟨⟨fun x hx => ?_, by have := hb.nords; omega, by have := hb.nents; omega, by have := hb.nprims; omega⟩, hr hm, hr ht⟩
  rcases hb.ents x hx with h | h
  · exact ⟨hr h.sort, hrs h.pars, hrs h.inds, by have := h.many; omega, fun c hc => ⟨hrs (h.ctors c hc).1, hrs (h.ctors c hc).2⟩, by rw [h.typ]; exact nr, by rw [h.body]; exact nr⟩
  · refine ⟨by rw [h.sort]; exact nr, by rw [h.pars]; exact nrs, by rw [h.inds]; exact nrs, by rw [h.ctors]; simp, fun c hc => ?_, hr h.typ, hr h.body⟩
    rw [h.ctors] at hc
    cases hc
set_option maxRecDepth 100000 in
set_option maxHeartbeats 8000000 in
theorem bback_any (x : ProgT) (z : Int) (w : World) (hx : ProgG0 w x) (hL : Lim w) (z1 : 0 ≤ z) (z2 : z ≤ 65535) : Calls Tryz.prog 7 #[x.val, .int .u16 z] w (fun e w' => e = .returned (.bool true) ∧ Below w.heap.size w w') := by
  obtain ⟨zn, rfl⟩ : ∃ n : Nat, z = n := ⟨z.toNat, by omega⟩
  have hok0 := hx.ok
  have hsh := hx.book.short
  obtain ⟨⟨va, ⟨oA, oc, ol⟩, ⟨eA, ec, el⟩, nt, ⟨pA, pc, pl⟩⟩, ⟨mA, mc, ml⟩, ⟨tA, tc, tl⟩⟩ := x
  simp only [ProgT.val, entsV, rowV]
  have hw := holds_at w #[.int .i64 va, .slice oA ol.length oc, .slice eA el.length ec, .int .i64 nt, .slice pA pl.length pc, .slice mA ml.length mc, .slice tA tl.length tc] 46 _ rfl
  have g1 : Below w.heap.size w (w.alloc (.cells #[.int .i64 va, .slice oA ol.length oc, .slice eA el.length ec, .int .i64 nt, .slice pA pl.length pc, .slice mA ml.length mc, .slice tA tl.length tc] 46)) := (Below.refl _ _).alloc (Nat.le_refl _) _
  obtain ⟨V, hV⟩ : ∃ V, V = w.alloc (.cells #[.int .i64 va, .slice oA ol.length oc, .slice eA el.length ec, .int .i64 nt, .slice pA pl.length pc, .slice mA ml.length mc, .slice tA tl.length tc] 46) := ⟨_, rfl⟩
  rw [← hV] at hw g1
  have HV := Lib.hid hV
  have HOK := Lib.hid (show ∀ W, Below V.heap.size V W → ProgOk W (⟨⟨va, (oA, oc, ol), (eA, ec, el), nt, (pA, pc, pl)⟩, (mA, mc, ml), (tA, tc, tl)⟩ : ProgT) from fun W h => hok0.below (g1.trans (h.mono g1.size)))
  have HLM := Lib.hid (show ∀ W, Below V.heap.size V W → Lim W from fun W h => hL.next (g1.trans (h.mono g1.size)))
  have HC := Lib.hid (show ∀ W, Below V.heap.size V W → W.cell? ⟨w.heap.size, 0, none⟩ = some (.int .i64 va) ∧ W.cell? ⟨w.heap.size, 1, none⟩ = some (.slice oA ol.length oc) ∧ W.cell? ⟨w.heap.size, 2, none⟩ = some (.slice eA el.length ec) ∧ W.cell? ⟨w.heap.size, 3, none⟩ = some (.int .i64 nt) ∧ W.cell? ⟨w.heap.size, 4, none⟩ = some (.slice pA pl.length pc) ∧ W.cell? ⟨w.heap.size, 5, none⟩ = some (.slice mA ml.length mc) ∧ W.cell? ⟨w.heap.size, 6, none⟩ = some (.slice tA tl.length tc) from fun W h => by
    have q := hw.below h
    exact ⟨(by have := q.cell (j := 0) rfl; rwa [Nat.zero_add] at this), q.cell (j := 1) rfl, q.cell (j := 2) rfl, q.cell (j := 3) rfl, q.cell (j := 4) rfl, q.cell (j := 5) rfl, q.cell (j := 6) rfl⟩)
  have HUP := Lib.hid (show ∀ W, Below V.heap.size V W → Below w.heap.size w W from fun W h => g1.trans (h.mono g1.size))
  have HH := Lib.hid (show ∀ W, Below V.heap.size V W → Calls Tryz.prog 12 #[.agg #[.int .i64 va, .slice oA ol.length oc, .slice eA el.length ec, .int .i64 nt, .slice pA pl.length pc]] W (fun e w' => ∃ h : Bool, e = .returned (.bool h) ∧ (h = false → BookLight 12000 ((⟨⟨va, (oA, oc, ol), (eA, ec, el), nt, (pA, pc, pl)⟩, (mA, mc, ml), (tA, tc, tl)⟩ : ProgT)).book) ∧ Below W.heap.size W w') from fun W h => heavy_any ((⟨⟨va, (oA, oc, ol), (eA, ec, el), nt, (pA, pc, pl)⟩, (mA, mc, ml), (tA, tc, tl)⟩ : ProgT)).book W (hsh.below (g1.trans (h.mono g1.size))))
  have HE := Lib.hid (show ∀ W, Below V.heap.size V W → Calls Tryz.prog 24 #[.agg #[.int .i64 va, .slice oA ol.length oc, .slice eA el.length ec, .int .i64 nt, .slice pA pl.length pc, .slice mA ml.length mc, .slice tA tl.length tc]] W (BytesAns (encodeS ((⟨⟨va, (oA, oc, ol), (eA, ec, el), nt, (pA, pc, pl)⟩, (mA, mc, ml), (tA, tc, tl)⟩ : ProgT)).p) W) from fun W h => encode_any (⟨⟨va, (oA, oc, ol), (eA, ec, el), nt, (pA, pc, pl)⟩, (mA, mc, ml), (tA, tc, tl)⟩ : ProgT) W (HOK.out W h) (HLM.out W h))
  have HZ0 := Lib.hid (Below.refl V.heap.size V)
  clear hx hL hok0 hsh hw g1 hV
  go_enter Tryz.func7, Tryz.ntmps7
  go_wp2_with fail
  rw [← HV.out]
  refine (bawake_any _ (HLM.out _ HZ0.out)).mono ?_
  rintro e w1 ⟨rfl, g⟩
  have HB1 := Lib.hid g
  clear g
  obtain ⟨k0, k1, k2, k3, k4, k5, k6⟩ := HC.out _ HB1.out
  go_wp2_with fail
  refine (HH.out _ HB1.out).mono ?_
  rintro e w2 ⟨hv, rfl, -, g⟩
  have HB2 := Lib.hid (HB1.out.trans (g.mono HB1.out.size))
  clear g k0 k1 k2 k3 k4 k5 k6
  obtain ⟨k0, k1, k2, k3, k4, k5, k6⟩ := HC.out _ HB2.out
  cases hv with
  | true =>
    go_wp2_with fail
    go_ret
    exact ⟨rfl, HUP.out _ HB2.out⟩
  | false =>
  by_cases hml : 3000 < ml.length
  · have hmi : (3000 : Int) < (ml.length : Int) := by omega
    go_wp2_with fail
    go_ret
    exact ⟨rfl, HUP.out _ HB2.out⟩
  have hmi : ¬ (3000 : Int) < (ml.length : Int) := by omega
  by_cases htl : 3000 < tl.length
  · have hti : (3000 : Int) < (tl.length : Int) := by omega
    go_wp2_with fail
    go_ret
    exact ⟨rfl, HUP.out _ HB2.out⟩
  have hti : ¬ (3000 : Int) < (tl.length : Int) := by omega
  go_wp2_with fail
  refine (HE.out _ HB2.out).mono ?_
  rintro e w3 hp
  have hp' : (∃ y, e = .returned (.tuple #[.slice none 0 0, .int .i64 y]) ∧ y ≠ 0 ∧ Below w2.heap.size w2 w3) ∨ (∃ b bb bo n d, e = .returned (.tuple #[.slice (some ⟨bb, bo, none⟩) n d, .int .i64 0]) ∧ b.length = n ∧ 0 < n ∧ encodeS ((⟨⟨va, (oA, oc, ol), (eA, ec, el), nt, (pA, pc, pl)⟩, (mA, mc, ml), (tA, tc, tl)⟩ : ProgT)).p = (b, 0) ∧ Slice (some ⟨bb, bo, none⟩) n d ∧ Holds w3 (some ⟨bb, bo, none⟩) (bytesV b) ∧ Below w2.heap.size w2 w3) := by
    obtain ⟨r, hr⟩ : ∃ r, encodeS ((⟨⟨va, (oA, oc, ol), (eA, ec, el), nt, (pA, pc, pl)⟩, (mA, mc, ml), (tA, tc, tl)⟩ : ProgT)).p = r := ⟨_, rfl⟩
    rw [hr] at hp
    cases hp with
    | none _ y hy h0 hb' => exact .inl ⟨y, rfl, h0, hb'⟩
    | some _ B m d hm h0 ho hs hb' =>
      obtain ⟨b, re⟩ := r
      simp only at hm h0 ho
      subst h0
      have hpos : 0 < b.length := by rw [(encode_out hr).2.1]; exact out_pos _
      have hh := own_holds ho
      obtain ⟨bb, bo, rfl, -⟩ := hh.at_ (by rw [bytesV_len]; omega)
      exact .inr ⟨b, bb, bo, m, d, rfl, hm, by omega, hr, hs, hh, hb'⟩
  clear hp
  rcases hp' with ⟨y, rfl, hy0, g⟩ | ⟨b, bb, bo, n, d, rfl, hn, hn0, hr, hs, hB, g⟩
  · have HB3 := Lib.hid (HB2.out.trans (g.mono HB2.out.size))
    clear g
    have hyb : (y != 0) = true := by simpa using hy0
    go_wp2_with fail
    go_ret
    exact ⟨rfl, HUP.out _ HB3.out⟩
  have HB3 := Lib.hid (HB2.out.trans (g.mono HB2.out.size))
  obtain ⟨hpe, hbo, hbl⟩ := encode_out hr
  have hby : Bytes b := by rw [hbo]; exact outG_bytes _
  have HSM := Lib.hid (right_sm hpe)
  have hPB := dec_B b
  rw [decode_encode hr] at hPB
  have HPB := Lib.hid hPB
  have HD1 := Lib.hid (show ∀ W, Below w3.heap.size w3 W → Calls Tryz.prog 26 #[.slice (some ⟨bb, bo, none⟩) n d] W (DecPost ((⟨⟨va, (oA, oc, ol), (eA, ec, el), nt, (pA, pc, pl)⟩, (mA, mc, ml), (tA, tc, tl)⟩ : ProgT).p, 0) W) from fun W h => by
    have q := decode_any (some ⟨bb, bo, none⟩) d n b W hn hs (hB.below h) hby (HLM.out W (HB3.out.trans (h.mono HB3.out.size))) (by omega)
    rw [decode_encode hr] at q
    exact q)
  have HD2 := Lib.hid (show ∀ k, k < n → ∀ W, Below w3.heap.size w3 W → Calls Tryz.prog 26 #[.slice (some ⟨bb, bo, none⟩) k d] W (DecPost (progN, 4) W) from fun k hk W h => by
    have q := decode_any (some ⟨bb, bo, none⟩) d k (b.take k) W (by rw [List.length_take]; omega) ⟨by have := hs.1; omega, hs.2.1, fun h => (by cases h)⟩ (take_bytes (hB.below h)) (fun x hx => hby x (List.mem_of_mem_take hx)) (HLM.out W (HB3.out.trans (h.mono HB3.out.size))) (by omega)
    rw [decode_cut hr (by omega)] at q
    exact q)
  have HD3 := Lib.hid (show ∀ W A c, Below w3.heap.size w3 W → Slice A (n + 1) c → Holds W A (bytesV (b ++ [0])) → Calls Tryz.prog 26 #[.slice A (n + 1) c] W (fun e w' => ∃ x y, e = .returned (.tuple #[ProgT.val x, .int .i64 y]) ∧ (y = 3 ∨ y = 6) ∧ Below W.heap.size W w') from fun W A c h hsl hA => by
    have hby' : Bytes (b ++ [0]) := hby.app fun x hx => by rw [List.mem_singleton] at hx; omega
    refine (decode_any A c (n + 1) (b ++ [0]) W (by rw [List.length_append, hn]; rfl) hsl hA hby' (HLM.out W (HB3.out.trans (h.mono HB3.out.size))) (by omega)).mono fun e w' hp => ?_
    obtain ⟨x, rfl, -, -, hb'⟩ := hp
    refine ⟨x, _, rfl, ?_, hb'⟩
    rcases decode_more hr with e | e <;> rw [e] <;> simp)
  have HBB := Lib.hid (show ∀ W, Below w3.heap.size w3 W → Holds W (some ⟨bb, bo, none⟩) (bytesV b) from fun W h => hB.below h)
  have HN := Lib.hid hn
  have HS := Lib.hid hs
  have HBL := Lib.hid (show n ≤ 65536 by omega)
  have HCUT := Lib.hid (fun k (hk : k ≤ n) W => bytes_run bb bo n d k (Nat.le_trans hk hs.1) W)
  have HZ3 := Lib.hid (Below.refl w3.heap.size w3)
  clear hPB g hr hs hB hpe hbo hbl hby hn HE HH HB1
  go_wp2_with fail
  refine (HD1.out _ HZ3.out).mono ?_
  rintro e w4 ⟨⟨⟨va', ⟨oA', oc', ol'⟩, ⟨eA', ec', el'⟩, nt', ⟨pA', pc', pl'⟩⟩, ⟨mA', mc', ml'⟩, ⟨tA', tc', tl'⟩⟩, rfl, hxq, ho, g⟩
  simp only [ProgT.val, entsV, rowV]
  have hpb : ProgB ((⟨⟨va', (oA', oc', ol'), (eA', ec', el'), nt', (pA', pc', pl')⟩, (mA', mc', ml'), (tA', tc', tl')⟩ : ProgT)).p := by rw [hxq]; exact HPB.out
  have h4 := holds_at w4 #[.int .i64 va', .slice oA' ol'.length oc', .slice eA' el'.length ec', .int .i64 nt', .slice pA' pl'.length pc', .slice mA' ml'.length mc', .slice tA' tl'.length tc'] 46 _ rfl
  have g4 : Below w4.heap.size w4 (w4.alloc (.cells #[.int .i64 va', .slice oA' ol'.length oc', .slice eA' el'.length ec', .int .i64 nt', .slice pA' pl'.length pc', .slice mA' ml'.length mc', .slice tA' tl'.length tc'] 46)) := (Below.refl _ _).alloc (Nat.le_refl _) _
  obtain ⟨V4, hV4⟩ : ∃ V4, V4 = w4.alloc (.cells #[.int .i64 va', .slice oA' ol'.length oc', .slice eA' el'.length ec', .int .i64 nt', .slice pA' pl'.length pc', .slice mA' ml'.length mc', .slice tA' tl'.length tc'] 46) := ⟨_, rfl⟩
  rw [← hV4] at h4 g4
  have HV4 := Lib.hid hV4
  have HB4 := Lib.hid (show Below w3.heap.size w3 V4 from g.trans (g4.mono g.size))
  have hok4 : ProgOk V4 (⟨⟨va', (oA', oc', ol'), (eA', ec', el'), nt', (pA', pc', pl')⟩, (mA', mc', ml'), (tA', tc', tl')⟩ : ProgT) := (OwnG.ok ho hpb).below g4
  have HC4 := Lib.hid (show ∀ W, Below V4.heap.size V4 W → W.cell? ⟨w4.heap.size, 0, none⟩ = some (.int .i64 va') ∧ W.cell? ⟨w4.heap.size, 1, none⟩ = some (.slice oA' ol'.length oc') ∧ W.cell? ⟨w4.heap.size, 2, none⟩ = some (.slice eA' el'.length ec') ∧ W.cell? ⟨w4.heap.size, 3, none⟩ = some (.int .i64 nt') ∧ W.cell? ⟨w4.heap.size, 4, none⟩ = some (.slice pA' pl'.length pc') ∧ W.cell? ⟨w4.heap.size, 5, none⟩ = some (.slice mA' ml'.length mc') ∧ W.cell? ⟨w4.heap.size, 6, none⟩ = some (.slice tA' tl'.length tc') from fun W h => by
    have q := h4.below h
    exact ⟨(by have := q.cell (j := 0) rfl; rwa [Nat.zero_add] at this), q.cell (j := 1) rfl, q.cell (j := 2) rfl, q.cell (j := 3) rfl, q.cell (j := 4) rfl, q.cell (j := 5) rfl, q.cell (j := 6) rfl⟩)
  have HU3 := Lib.hid (show ∀ W, Below V4.heap.size V4 W → Below w3.heap.size w3 W from fun W h => HB4.out.trans (h.mono HB4.out.size))
  have HUV := Lib.hid (show ∀ W, Below w3.heap.size w3 W → Below V.heap.size V W from fun W h => HB3.out.trans (h.mono HB3.out.size))
  have HQ := Lib.hid (show ∀ W, Below V4.heap.size V4 W → Calls Tryz.prog 29 #[.agg #[.int .i64 va, .slice oA ol.length oc, .slice eA el.length ec, .int .i64 nt, .slice pA pl.length pc, .slice mA ml.length mc, .slice tA tl.length tc], .agg #[.int .i64 va', .slice oA' ol'.length oc', .slice eA' el'.length ec', .int .i64 nt', .slice pA' pl'.length pc', .slice mA' ml'.length mc', .slice tA' tl'.length tc']] W (fun e w' => e = .returned (.bool true) ∧ Below W.heap.size W w') from fun W h => sameprog_eq (⟨⟨va, (oA, oc, ol), (eA, ec, el), nt, (pA, pc, pl)⟩, (mA, mc, ml), (tA, tc, tl)⟩ : ProgT) (⟨⟨va', (oA', oc', ol'), (eA', ec', el'), nt', (pA', pc', pl')⟩, (mA', mc', ml'), (tA', tc', tl')⟩ : ProgT) W (HOK.out W (HUV.out W (HU3.out W h))).inn (hok4.below h).inn hxq.symm HSM.out)
  have HZ4 := Lib.hid (Below.refl V4.heap.size V4)
  clear hxq ho g hpb h4 g4 hV4 hok4 k0 k1 k2 k3 k4 k5 k6 HD1
  obtain ⟨k0, k1, k2, k3, k4, k5, k6⟩ := HC.out _ (HUV.out _ (HU3.out _ HZ4.out))
  obtain ⟨l0, l1, l2, l3, l4, l5, l6⟩ := HC4.out _ HZ4.out
  have hni : ((n : Int) == 0) = false := by simp; omega
  have hnj : ¬ (n : Int) = 0 := by omega
  have hnk : ¬ n = 0 := by omega
  have hnl : decide ((n : Int) = 0) = false := by simp; omega
  rw [HV4.out] at k0 k1 k2 k3 k4 k5 k6 l0 l1 l2 l3 l4 l5 l6
  go_wp2_with fail
  rw [← HV4.out]
  refine (HQ.out _ HZ4.out).mono ?_
  rintro e w5 ⟨rfl, g⟩
  have HB5 := Lib.hid (show Below w3.heap.size w3 w5 from HU3.out _ g)
  clear g k0 k1 k2 k3 k4 k5 k6 l0 l1 l2 l3 l4 l5 l6
  have hk : zn % n < n := Nat.mod_lt _ hn0
  have htm : (zn : Int).tmod (n : Int) = ((zn % n : Nat) : Int) := by rw [Int.tmod_eq_emod_of_nonneg (Int.natCast_nonneg zn)]; rfl
  have hwr : IntKind.i64.wrap (zn : Int) = (zn : Int) := IntWalk.i64_in _ (by omega)
  have hcut := HCUT.out (zn % n) (Nat.le_of_lt hk)
  have HD2k := Lib.hid (HD2.out _ hk)
  generalize zn % n = kk at *
  go_wp2_with fail
  refine (HD2k.out _ HB5.out).mono ?_
  rintro e w6 ⟨⟨⟨va2, ⟨oA2, oc2, ol2⟩, ⟨eA2, ec2, el2⟩, nt2, ⟨pA2, pc2, pl2⟩⟩, ⟨mA2, mc2, ml2⟩, ⟨tA2, tc2, tl2⟩⟩, rfl, hxq, ho, g⟩
  simp only [ProgT.val, entsV, rowV]
  have hpb : ProgB ((⟨⟨va2, (oA2, oc2, ol2), (eA2, ec2, el2), nt2, (pA2, pc2, pl2)⟩, (mA2, mc2, ml2), (tA2, tc2, tl2)⟩ : ProgT)).p := by rw [hxq]; exact progN_B
  have h6 := holds_at w6 #[.int .i64 va2, .slice oA2 ol2.length oc2, .slice eA2 el2.length ec2, .int .i64 nt2, .slice pA2 pl2.length pc2, .slice mA2 ml2.length mc2, .slice tA2 tl2.length tc2] 46 _ rfl
  have g6 : Below w6.heap.size w6 (w6.alloc (.cells #[.int .i64 va2, .slice oA2 ol2.length oc2, .slice eA2 el2.length ec2, .int .i64 nt2, .slice pA2 pl2.length pc2, .slice mA2 ml2.length mc2, .slice tA2 tl2.length tc2] 46)) := (Below.refl _ _).alloc (Nat.le_refl _) _
  obtain ⟨V6, hV6⟩ : ∃ V6, V6 = w6.alloc (.cells #[.int .i64 va2, .slice oA2 ol2.length oc2, .slice eA2 el2.length ec2, .int .i64 nt2, .slice pA2 pl2.length pc2, .slice mA2 ml2.length mc2, .slice tA2 tl2.length tc2] 46) := ⟨_, rfl⟩
  rw [← hV6] at h6 g6
  have HV6 := Lib.hid hV6
  have HB6 := Lib.hid (show Below w3.heap.size w3 V6 from (HB5.out.trans (g.mono HB5.out.size)).trans (g6.mono (Nat.le_trans HB5.out.size g.size)))
  have hok6 : ProgOk V6 (⟨⟨va2, (oA2, oc2, ol2), (eA2, ec2, el2), nt2, (pA2, pc2, pl2)⟩, (mA2, mc2, ml2), (tA2, tc2, tl2)⟩ : ProgT) := (OwnG.ok ho hpb).below g6
  have HQ6 := Lib.hid (show Calls Tryz.prog 29 #[.agg #[.int .i64 va2, .slice oA2 ol2.length oc2, .slice eA2 el2.length ec2, .int .i64 nt2, .slice pA2 pl2.length pc2, .slice mA2 ml2.length mc2, .slice tA2 tl2.length tc2], .agg #[.int .i64 0, .slice none 0 0, .slice none 0 0, .int .i64 0, .slice none 0 0, .slice none 0 0, .slice none 0 0]] V6 (fun e w' => e = .returned (.bool true) ∧ Below V6.heap.size V6 w') from sameprog_eq (⟨⟨va2, (oA2, oc2, ol2), (eA2, ec2, el2), nt2, (pA2, pc2, pl2)⟩, (mA2, mc2, ml2), (tA2, tc2, tl2)⟩ : ProgT) progZ V6 hok6.inn (progZ_in V6) hxq (by rw [hxq]; exact progN_sm))
  have l0 := h6.cell (j := 0) rfl
  have l1 := h6.cell (j := 1) rfl
  have l2 := h6.cell (j := 2) rfl
  have l3 := h6.cell (j := 3) rfl
  have l4 := h6.cell (j := 4) rfl
  have l5 := h6.cell (j := 5) rfl
  have l6 := h6.cell (j := 6) rfl
  rw [Nat.zero_add] at l0 l1 l2 l3 l4 l5 l6
  rw [HV6.out] at l0 l1 l2 l3 l4 l5 l6
  clear hxq ho g hpb h6 g6 hV6 hok6 HD2k
  go_wp2_with fail
  rw [← HV6.out]
  refine (HQ6.out).mono ?_
  rintro e w7 ⟨rfl, g⟩
  have HB7 := Lib.hid (HB6.out.trans (g.mono HB6.out.size))
  clear g l0 l1 l2 l3 l4 l5 l6 HQ6
  have hlit := World.ownsRow_lit (base := w7.heap.size) (e := 5) (size := 1) w7 #[] 0 (Nat.le_refl _) (by unfold maxLen; omega) rfl
  have hbw := (Below.refl w7.heap.size w7).alloc (Nat.le_refl _) (.cells #[] 5)
  have x4 := (HBB.out _ HB7.out).alloc (.cells #[] 5)
  have HLB := Lib.hid (show (bytesV b).length = n * 1 from by rw [bytesV_len, HN.out, Nat.mul_one])
  go_wp2_with (first
    | (at_builtin; refine wpList_append_cells rfl (.tmp 74) (.tmp 75) _ rfl 5 (.int .u8 0) 1 1 info8 rfl (by decide) Tryz.underlying47 w7.heap.size _ 0 n _ (bytesV b) rfl hlit (some ⟨bb, bo, none⟩) d rfl HS.out x4 HLB.out bytesV_one (by have := HBL.out; omega) (by omega) w7 hbw hbw.size ?_; intro A8 c8 w8 ho8 hs8 hb8 hz8 _; simp only [Nat.zero_add, List.nil_append] at ho8 hs8 ⊢; have HO8 := Lib.hid ho8; have HB8 := Lib.hid hb8; have HZ8 := Lib.hid hz8; have y4 : Holds (w8.alloc (.cells #[.int .u8 0] 5)) (some ⟨w8.heap.size, 0, none⟩) (bytesV [0]) := holds_lit w8 [.int .u8 0] 5; have hb9 := hb8.alloc hz8 (.cells #[.int .u8 0] 5); have ho9 := ho8.alloc (.cells #[.int .u8 0] 5))
    | (at_builtin; go_must (refine wpList_append_cells rfl (.tmp 76) (.tmp 77) _ rfl 5 (.int .u8 0) 1 1 info8 rfl (by decide) Tryz.underlying47 w7.heap.size _ n 1 _ (bytesV [0]) rfl ho9 (some ⟨w8.heap.size, 0, none⟩) 1 rfl (slice_few _ _ (by omega)) y4 rfl bytesV_one (by have := HBL.out; omega) (by omega) w7 hb9 hb9.size ?_); intro A9 c9 w9 ho10 hs10 hb10 hz10 _))
  have x9 := own_holds ho10
  rw [← bytesV_append] at x9
  have hb11 : Below w3.heap.size w3 w9 := HB7.out.trans (hb10.mono HB7.out.size)
  refine (HD3.out w9 A9 c9 hb11 hs10 x9).mono ?_
  rintro e w10 ⟨x', y, rfl, hy, g⟩
  have HE := Lib.hid (HUP.out _ (HUV.out _ (hb11.trans (g.mono hb11.size))))
  clear g x9 hb11
  rcases hy with rfl | rfl
  · simp only [ProgT.val, entsV, rowV]
    go_wp2_with fail
    go_ret
    exact ⟨rfl, HE.out⟩
  · simp only [ProgT.val, entsV, rowV]
    go_wp2_with fail
    go_ret
    exact ⟨rfl, HE.out⟩
end Go.Proofs.YtfeodppdmbideaaGreatDoor
namespace Go.Proofs.YtfeodppdmbideaaGreatDoor
open Go.ChangeShapes Go.WideShapes Go.ChangeAt Go.RowKit

set_option maxRecDepth 100000 in
theorem bookBack_lifted (os : Os) (started : os.Started) (H : Type) (enc : TypeId × Value → H) :
    ReturnsInHanded {} Tryz.checked os 7 .any (fun w args => (Rows.bookBackSpec.pre enc Tryz.prog Tryz.f7 [] false w args ∧ laidMetH Tryz.prog laidV w) ∧ sizedMet enc Tryz.prog Tryz.f7 (OpenSpec.ofChange Rows.bookBackSpec) false w args)
      (Rows.bookBackSpec.post enc Tryz.prog Tryz.f7 false true false false) := by
  refine returnsInHanded_of_change_and (C := Tryz.checked) (X := fun w _ => laidMetH Tryz.prog laidV w) (fun _ _ _ hh h => h.of_heap hh) Tryz.own started (by kernel_rfl) Tryz.func7
    (ChangeSpec.witness_shaped (enc := enc) (C := Tryz.checked) (os := os) (X := fun w _ => laidMetH Tryz.prog laidV w) false (World.doorLaid Tryz.prog 400 os) #[.agg #[.int .i64 0, .slice none 0 0, .slice none 0 0, .int .i64 0, .slice none 0 0, .slice none 0 0, .slice none 0 0], .int .u16 0] 8 rfl (World.shaped_of_RefB (by kernel_rfl) (by kernel_rfl)) (by kernel_rfl) (by kernel_rfl) (by kernel_rfl) (door_met os _)) ?_
  intro W base args ds gs before hval0 hW _ hsz0 hL _
  have hval : ∀ (j : Nat) t v, Tryz.f7.params[j]? = some t → args[j]? = some v → Value.okWide Tryz.prog W .any base t v := hval0
  have hsz : (DataW.weightsEach Tryz.prog (Tryz.f7.params.toList ++ Rows.bookBackSpec.plain.varTypes Tryz.prog) (ds ++ gs)).all (· ≤ reachBytes) = true := hsz0
  have hW' := hW
  obtain ⟨p, q, hA0, hV, rfl, hfz, hnd⟩ := hW
  have hA : DataW.TrodAll enc Tryz.prog W 0 (fun _ => true) true Tryz.f7.params.toList args.toList ds p := hA0
  have hlt : ∀ x ∈ p, x.block < W.heap.size := fun x hx => by simpa using hW'.lt x (List.mem_append_left _ hx)
  have hkeep : ∀ W', Below W.heap.size W W' → DataW.TrodAll enc Tryz.prog W' 0 (fun b => decide (b < W.heap.size)) true Tryz.f7.params.toList args.toList ds p :=
    fun W' hb => trodAll_below Tryz.laidOut hb (by kernel_rfl) hA hlt
  rw [Tryz.params7] at hA hval hsz
  obtain ⟨v0, v1, d0, d1, p0, p1, rfl, rfl, rfl, g0, g1⟩ := trodAll_two hA
  obtain ⟨rfl, rfl⟩ := trodVars_none hV
  obtain ⟨x0, rfl, k0⟩ := open_program (Lite.of hsz (j := 0) rfl rfl) (hval 0 46 v0 rfl rfl) g0
  obtain ⟨x1, rfl, y1, z1⟩ := open_u16 (hval 1 55 v1 rfl rfl) g1
  have hLim := lim_of_laid hL
  clear hA0 hval0 hL hsz0 hsz
  refine (bback_any x0 x1 W k0 hLim y1 z1).mono fun e W' ⟨he, hb⟩ => ?_
  subst he
  exact ⟨_, rfl, _, _, _, [], _, [], hW', trodAll_mk1 (shut_bool Tryz.underlying4 true), hkeep W' hb, rfl, hb.frame _, fun h => by cases h⟩
/-- BookBack: whatever the input, it answers true, and the input reads as it did. -/
theorem bookBack_row : Rows.BookBackSaid :=
  OpenClaim.holds_of_wide 7 Tryz.f7 rfl rfl rfl rfl rfl rfl rfl ⟨rfl, rfl, rfl, rfl, rfl⟩ rfl rfl rfl rfl rfl (by kernel_rfl) Tryz.func7 (by kernel_rfl)
    (of_decide_eq_true (by kernel_rfl)) (by unfold Func.isWrapper; first | (rw [if_pos (by decide +kernel)]; kernel_rfl) | (rw [if_neg (by decide +kernel)]; exact ⟨rfl, rfl⟩))
    (fun os started H enc _ => bookBack_lifted os started H enc)
/-- The card: the variable limits is tied to the program's text. -/
theorem bookBack_holds : Rows.BookBackCardSaid :=
  Claim7.holds_tied_plain_at .later [] [.data] true _ true bookBack_row (fun _ h => by cases h) (by kernel_rfl) (fun _ h => by cases h) bookBack_row_tie rfl ⟨rfl, rfl⟩ (by kernel_rfl) rfl
    (fun f fn hf hfn => by
      obtain rfl : f = 7 := Option.some.inj ((show Tryz.prog.funcNamed "retort/retortlaw05.BookBack" = some 7 by kernel_rfl).symm.trans hf) |>.symm
      obtain rfl : fn = Tryz.f7 := (Option.some.inj (Tryz.func7.symm.trans hfn)).symm
      exact ⟨by kernel_rfl, fun j t ht => by
        rw [Tryz.params7] at ht
        have hm : t ∈ [46, 55] := by simpa using Array.mem_of_getElem? ht
        have hall : ([46, 55].all fun u => !Tryz.prog.wantsStandIn u) = true := by kernel_rfl
        exact (show Tryz.prog.wantsStandIn t = false by simpa using List.all_eq_true.1 hall t hm)⟩)
    (by kernel_rfl)
end Go.Proofs.YtfeodppdmbideaaGreatDoor
