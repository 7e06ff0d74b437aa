/- BookOne holds for every input, where the program's table of limits is what its text says (the tied card): bytes that are read are the bytes of what was read, and that is right. -/
import Derived.Test.YtfeodppdmbideaaGreatDoorBA29
import Derived.Test.YtfeodppdmbideaaGreatDoorBA30
import Derived.Test.YtfeodppdmbideaaGreatDoorBA32
import Derived.Test.YtfeodppdmbideaaGreatDoorTie
import Derived.Test.YtfeodppdmbideaaGreatDoorCards
import Derived.Stop.Joined
namespace Go.Proofs.YtfeodppdmbideaaGreatDoor
open Go.RowKit

theorem progN_sm : ProgSm progN := ⟨⟨fun _ hx => (by cases hx), by simp [progN], by simp [progN], by simp [progN]⟩, by unfold RowSm; simp [progN], by unfold RowSm; simp [progN]⟩
theorem progZ_in (w : World) : ProgIn w progZ := ⟨⟨⟨slice_nil, Holds.nil _ _⟩, ⟨slice_nil, Holds.nil _ _, fun _ hx => (by cases hx)⟩, ⟨slice_nil, Holds.nil _ _⟩⟩, row_nilIn w, row_nilIn w⟩
theorem rsame_n (A B : Option Addr) (n m c d : Nat) (l r : List Nat) (w : World) (hn : l.length = n) (hm : r.length = m) (hA : Holds w A (bytesV l)) (hB : Holds w B (bytesV r)) (hl : n ≤ 4611686018427387904) (v : Bool) (hv : v = decide (l = r)) :
    Calls Tryz.prog 28 #[.slice A n c, .slice B m d] w fun e w' => e = .returned (.bool v) ∧ Below w.heap.size w w' := by
  subst hn hm
  exact (rsame_any A B c d l r w hA hB hl v hv).mono fun e w' h => ⟨h.1, by obtain ⟨q, hq⟩ := h.2; rw [hq]; exact below_drewN (Below.refl _ _) q⟩
theorem progN_B : ProgB progN := ⟨⟨i64_few (by decide) (by decide), i64_few (by decide) (by decide), fun _ hx => (by cases hx), by simp [progN], fun _ hx => (by cases hx), by simp [progN], fun _ hx => (by cases hx), by simp [progN]⟩, nil_B, nil_B⟩
/-- What is read may be looked at. -/
theorem dec_B (b : List Nat) : ProgB (decodeS b).1 := by
  unfold decodeS
  split
  · exact progN_B
  split
  · exact progN_B
  split
  · exact progN_B
  split
  · exact progN_B
  · exact prog_B (b, 0)
set_option maxRecDepth 100000 in
set_option maxHeartbeats 8000000 in
theorem bone_any (A : Option Addr) (c n : Nat) (b : List Nat) (w : World) (hn : b.length = n) (hs : Slice A n c) (hA : Holds w A (bytesV b)) (hb : Bytes b) (hL : Lim w) :
    Calls Tryz.prog 8 #[.slice A n c] w (fun e w' => e = .returned (.bool true) ∧ Below w.heap.size w w') := by
  have HL := Lib.hid (show ∀ W, Below w.heap.size w W → Lim W from fun W h => hL.next h)
  have HA := Lib.hid (show ∀ W, Below w.heap.size w W → Holds W A (bytesV b) from fun W h => hA.below h)
  have HD := Lib.hid (show n ≤ 20000 → ∀ W, Below w.heap.size w W → Calls Tryz.prog 26 #[.slice A n c] W (DecPost (decodeS b) W) from fun h W g => decode_any A c n b W hn hs (hA.below g) hb (hL.next g) (by omega))
  have HN := Lib.hid hn
  clear hL hA hb hs hn
  by_cases hbig : 20000 < n
  · have hbi : (20000 : Int) < (n : Int) := by omega
    go_enter Tryz.func8, Tryz.ntmps8
    go_wp2_with fail
    refine (bawake_any _ (HL.out _ (Below.refl _ _))).mono ?_
    rintro e w1 ⟨rfl, g1⟩
    go_wp2_with fail
    go_ret
    exact ⟨rfl, g1⟩
  have hbi : ¬ (20000 : Int) < (n : Int) := by omega
  have HD1 := Lib.hid (HD.out (by omega))
  clear HD
  go_enter Tryz.func8, Tryz.ntmps8
  go_wp2_with fail
  refine (bawake_any _ (HL.out _ (Below.refl _ _))).mono ?_
  rintro e w1 ⟨rfl, g1⟩
  have HB1 := Lib.hid g1
  clear g1
  go_wp2_with fail
  refine (HD1.out _ HB1.out).mono ?_
  rintro e w2 ⟨⟨⟨va, ⟨oA, oc, ol⟩, ⟨eA, ec, el⟩, nt, ⟨pA, pc, pl⟩⟩, ⟨mA, mc, ml⟩, ⟨tA, tc, tl⟩⟩, rfl, hx, ho, g⟩
  simp only [ProgT.val, entsV, rowV]
  have HX := Lib.hid hx
  have hB2 : Below w.heap.size w w2 := HB1.out.trans (g.mono HB1.out.size)
  have hpb := dec_B b
  rw [← hx] at hpb
  have hw := holds_at w2 #[.int .i64 va, .slice oA ol.length oc, .slice eA el.length ec, .int .i64 nt, .slice pA pl.length pc, .slice mA ml.length mc, .slice tA tl.length tc] 46 _ rfl
  have h23 : Below w2.heap.size w2 (w2.alloc (.cells #[.int .i64 va, .slice oA ol.length oc, .slice eA el.length ec, .int .i64 nt, .slice pA pl.length pc, .slice mA ml.length mc, .slice tA tl.length tc] 46)) := (Below.refl _ _).alloc (Nat.le_refl _) _
  obtain ⟨V, hV⟩ : ∃ V, V = w2.alloc (.cells #[.int .i64 va, .slice oA ol.length oc, .slice eA el.length ec, .int .i64 nt, .slice pA pl.length pc, .slice mA ml.length mc, .slice tA tl.length tc] 46) := ⟨_, rfl⟩
  rw [← hV] at hw h23
  have HV := Lib.hid hV
  have HBV := Lib.hid (hB2.trans (h23.mono hB2.size))
  have hok : ProgOk V (⟨⟨va, (oA, oc, ol), (eA, ec, el), nt, (pA, pc, pl)⟩, (mA, mc, ml), (tA, tc, tl)⟩ : ProgT) := (OwnG.ok ho hpb).below h23
  have HOK := Lib.hid (show ∀ W, Below V.heap.size V W → ProgOk W (⟨⟨va, (oA, oc, ol), (eA, ec, el), nt, (pA, pc, pl)⟩, (mA, mc, ml), (tA, tc, tl)⟩ : ProgT) from fun W h => hok.below h)
  have HC := Lib.hid (show ∀ W, Below V.heap.size V W → W.cell? ⟨w2.heap.size, 0, none⟩ = some (.int .i64 va) ∧ W.cell? ⟨w2.heap.size, 1, none⟩ = some (.slice oA ol.length oc) ∧ W.cell? ⟨w2.heap.size, 2, none⟩ = some (.slice eA el.length ec) ∧ W.cell? ⟨w2.heap.size, 3, none⟩ = some (.int .i64 nt) ∧ W.cell? ⟨w2.heap.size, 4, none⟩ = some (.slice pA pl.length pc) ∧ W.cell? ⟨w2.heap.size, 5, none⟩ = some (.slice mA ml.length mc) ∧ W.cell? ⟨w2.heap.size, 6, none⟩ = some (.slice tA tl.length tc) from fun W h => by
    have q := hw.below h
    exact ⟨(by have := q.cell (j := 0) rfl; rwa [Nat.zero_add] at this), q.cell (j := 1) rfl, q.cell (j := 2) rfl, q.cell (j := 3) rfl, q.cell (j := 4) rfl, q.cell (j := 5) rfl, q.cell (j := 6) rfl⟩)
  have HUP := Lib.hid (show ∀ W, Below V.heap.size V W → Below w.heap.size w W from fun W h => HBV.out.trans (h.mono HBV.out.size))
  clear hx ho g hB2 hpb hw h23 hV hok HD1
  obtain ⟨res, hres⟩ : ∃ r, decodeS b = r := ⟨_, rfl⟩
  rw [hres] at HX ⊢
  obtain ⟨rp, re⟩ := res
  simp only at HX ⊢
  have HRES := Lib.hid hres
  have HZ := Lib.hid (Below.refl V.heap.size V)
  by_cases h0 : re = 0
  · subst h0
    have hd := encode_decode hres
    have hxp := HX.out
    rw [← hxp] at hd
    have HE := Lib.hid (show ∀ W, Below V.heap.size V W → Calls Tryz.prog 24 #[.agg #[.int .i64 va, .slice oA ol.length oc, .slice eA el.length ec, .int .i64 nt, .slice pA pl.length pc, .slice mA ml.length mc, .slice tA tl.length tc]] W (BytesAns (b, 0) W) from fun W h => by
      have q := encode_any (⟨⟨va, (oA, oc, ol), (eA, ec, el), nt, (pA, pc, pl)⟩, (mA, mc, ml), (tA, tc, tl)⟩ : ProgT) W (HOK.out W h) (HL.out W (HUP.out W h))
      rw [hd.1] at q
      exact q)
    have hz := prog_zero hd.2
    have HR := Lib.hid (show ∀ W, Below V.heap.size V W → Calls Tryz.prog 13 #[.agg #[.int .i64 va, .slice oA ol.length oc, .slice eA el.length ec, .int .i64 nt, .slice pA pl.length pc]] W (fun e w' => e = .returned (.int .i64 0) ∧ Below W.heap.size W w') from fun W h => by
      have q := right_any ((⟨⟨va, (oA, oc, ol), (eA, ec, el), nt, (pA, pc, pl)⟩, (mA, mc, ml), (tA, tc, tl)⟩ : ProgT)).book W (HOK.out W h).book (HL.out W (HUP.out W h))
      have e : rightE ((⟨⟨va, (oA, oc, ol), (eA, ec, el), nt, (pA, pc, pl)⟩, (mA, mc, ml), (tA, tc, tl)⟩ : ProgT)).book.p = 0 := hz.1
      rw [e] at q
      exact q)
    have HM := Lib.hid (show ∀ W, Below V.heap.size V W → Calls Tryz.prog 15 #[.agg #[.int .i64 va, .slice oA ol.length oc, .slice eA el.length ec, .int .i64 nt, .slice pA pl.length pc], .int .i64 0, .slice mA ml.length mc] W (fun e w' => e = .returned (.int .i64 0) ∧ Below W.heap.size W w') from fun W h => by
      have hp := HOK.out W h
      have q := bfits_any ((⟨⟨va, (oA, oc, ol), (eA, ec, el), nt, (pA, pc, pl)⟩, (mA, mc, ml), (tA, tc, tl)⟩ : ProgT)).book 0 mA ml.length mc ml W hp.book (HL.out W (HUP.out W h)) rfl (hp.long (mA, mc, ml) (by simp)) (hp.rows (mA, mc, ml) (by simp)).2 (hp.wide (mA, mc, ml) (by simp))
      have e : fitsE ((⟨⟨va, (oA, oc, ol), (eA, ec, el), nt, (pA, pc, pl)⟩, (mA, mc, ml), (tA, tc, tl)⟩ : ProgT)).book.p 0 ml = 0 := hz.2.1
      rw [e] at q
      exact q)
    have HT := Lib.hid (show ∀ W, Below V.heap.size V W → Calls Tryz.prog 15 #[.agg #[.int .i64 va, .slice oA ol.length oc, .slice eA el.length ec, .int .i64 nt, .slice pA pl.length pc], .int .i64 0, .slice tA tl.length tc] W (fun e w' => e = .returned (.int .i64 0) ∧ Below W.heap.size W w') from fun W h => by
      have hp := HOK.out W h
      have q := bfits_any ((⟨⟨va, (oA, oc, ol), (eA, ec, el), nt, (pA, pc, pl)⟩, (mA, mc, ml), (tA, tc, tl)⟩ : ProgT)).book 0 tA tl.length tc tl W hp.book (HL.out W (HUP.out W h)) rfl (hp.long (tA, tc, tl) (by simp)) (hp.rows (tA, tc, tl) (by simp)).2 (hp.wide (tA, tc, tl) (by simp))
      have e : fitsE ((⟨⟨va, (oA, oc, ol), (eA, ec, el), nt, (pA, pc, pl)⟩, (mA, mc, ml), (tA, tc, tl)⟩ : ProgT)).book.p 0 tl = 0 := hz.2.2
      rw [e] at q
      exact q)
    have HS := Lib.hid (show ∀ W B d, Below V.heap.size V W → Holds W B (bytesV b) → Calls Tryz.prog 28 #[.slice A n c, .slice B n d] W (fun e w' => e = .returned (.bool true) ∧ Below W.heap.size W w') from fun W B d h hB => rsame_n A B n n c d b b W HN.out HN.out (HA.out W (HUP.out W h)) hB (by omega) true (by simp))
    clear hd hxp hz hres
    obtain ⟨k0, k1, k2, k3, k4, k5, k6⟩ := HC.out _ HZ.out
    go_wp2_with fail
    rw [← HV.out]
    go_wp2_with fail
    refine (HE.out _ HZ.out).mono ?_
    rintro e w3 hp
    have hp' : ∃ B d, e = .returned (.tuple #[.slice B n d, .int .i64 0]) ∧ Holds w3 B (bytesV b) ∧ Below V.heap.size V w3 := by
      cases hp with
      | none _ x hx h0 _ =>
        simp only [Prod.mk.injEq] at hx
        exact absurd hx.2.symm h0
      | some _ B m d hm _ ho hs hb' =>
        have : n = m := by have := HN.out; simp only at hm; omega
        subst this
        exact ⟨B, d, rfl, own_holds ho, hb'⟩
    obtain ⟨B, d, rfl, hB, g3⟩ := hp'
    have HB3 := Lib.hid g3
    have HS3 := Lib.hid (HS.out _ B d g3 hB)
    clear hp hB g3 k0 k1 k2 k3 k4 k5 k6
    obtain ⟨k0, k1, k2, k3, k4, k5, k6⟩ := HC.out _ HB3.out
    go_wp2_with fail
    refine (HS3.out).mono ?_
    rintro e w4 ⟨rfl, g4⟩
    have HB4 := Lib.hid (HB3.out.trans (g4.mono HB3.out.size))
    clear g4 k0 k1 k2 k3 k4 k5 k6
    obtain ⟨k0, k1, k2, k3, k4, k5, k6⟩ := HC.out _ HB4.out
    go_wp2_with fail
    refine (HR.out _ HB4.out).mono ?_
    rintro e w5 ⟨rfl, g5⟩
    have HB5 := Lib.hid (HB4.out.trans (g5.mono HB4.out.size))
    clear g5 k0 k1 k2 k3 k4 k5 k6
    obtain ⟨k0, k1, k2, k3, k4, k5, k6⟩ := HC.out _ HB5.out
    go_wp2_with fail
    refine (HM.out _ HB5.out).mono ?_
    rintro e w6 ⟨rfl, g6⟩
    have HB6 := Lib.hid (HB5.out.trans (g6.mono HB5.out.size))
    clear g6 k0 k1 k2 k3 k4 k5 k6
    obtain ⟨k0, k1, k2, k3, k4, k5, k6⟩ := HC.out _ HB6.out
    go_wp2_with fail
    refine (HT.out _ HB6.out).mono ?_
    rintro e w7 ⟨rfl, g7⟩
    have HB7 := Lib.hid (HB6.out.trans (g7.mono HB6.out.size))
    clear g7 k0 k1 k2 k3 k4 k5 k6
    go_wp2_with fail
    go_ret
    exact ⟨rfl, HUP.out _ HB7.out⟩
  · have hr := decode_fault hres h0
    subst hr
    have HQ := Lib.hid (show ∀ W, Below V.heap.size V W → Calls Tryz.prog 29 #[.agg #[.int .i64 va, .slice oA ol.length oc, .slice eA el.length ec, .int .i64 nt, .slice pA pl.length pc, .slice mA ml.length mc, .slice tA tl.length tc], .agg #[.int .i64 0, .slice none 0 0, .slice none 0 0, .int .i64 0, .slice none 0 0, .slice none 0 0, .slice none 0 0]] W (fun e w' => e = .returned (.bool true) ∧ Below W.heap.size W w') from fun W h => sameprog_eq (⟨⟨va, (oA, oc, ol), (eA, ec, el), nt, (pA, pc, pl)⟩, (mA, mc, ml), (tA, tc, tl)⟩ : ProgT) progZ W (HOK.out W h).inn (progZ_in W) HX.out (by rw [HX.out]; exact progN_sm))
    clear hres
    obtain ⟨k0, k1, k2, k3, k4, k5, k6⟩ := HC.out _ HZ.out
    go_wp2_with fail
    rw [← HV.out]
    go_wp2_with fail
    refine (HQ.out _ HZ.out).mono ?_
    rintro e w3 ⟨rfl, g3⟩
    go_wp2_with fail
    go_ret
    exact ⟨rfl, HUP.out _ g3⟩
end Go.Proofs.YtfeodppdmbideaaGreatDoor
namespace Go.Proofs.YtfeodppdmbideaaGreatDoor
open Go.ChangeShapes Go.WideShapes Go.ChangeAt Go.RowKit

set_option maxRecDepth 100000 in
theorem bookOne_lifted (os : Os) (started : os.Started) (H : Type) (enc : TypeId × Value → H) :
    ReturnsInHanded {} Tryz.checked os 8 .any (fun w args => (Rows.bookOneSpec.pre enc Tryz.prog Tryz.f8 [] false w args ∧ laidMetH Tryz.prog laidV w) ∧ sizedMet enc Tryz.prog Tryz.f8 (OpenSpec.ofChange Rows.bookOneSpec) false w args)
      (Rows.bookOneSpec.post enc Tryz.prog Tryz.f8 false true false false) := by
  refine returnsInHanded_of_change_and (C := Tryz.checked) (X := fun w _ => laidMetH Tryz.prog laidV w) (fun _ _ _ hh h => h.of_heap hh) Tryz.own started (by kernel_rfl) Tryz.func8
    (ChangeSpec.witness_shaped (enc := enc) (C := Tryz.checked) (os := os) (X := fun w _ => laidMetH Tryz.prog laidV w) false (World.doorLaid Tryz.prog 400 os) #[.slice none 0 0] 8 rfl (World.shaped_of_RefB (by kernel_rfl) (by kernel_rfl)) (by kernel_rfl) (by kernel_rfl) (by kernel_rfl) (door_met os _)) ?_
  intro W base args ds gs before hval0 hW _ hsz0 hL _
  have hval : ∀ (j : Nat) t v, Tryz.f8.params[j]? = some t → args[j]? = some v → Value.okWide Tryz.prog W .any base t v := hval0
  have hsz : (DataW.weightsEach Tryz.prog (Tryz.f8.params.toList ++ Rows.bookOneSpec.plain.varTypes Tryz.prog) (ds ++ gs)).all (· ≤ reachBytes) = true := hsz0
  have hW' := hW
  obtain ⟨p, q, hA0, hV, rfl, hfz, hnd⟩ := hW
  have hA : DataW.TrodAll enc Tryz.prog W 0 (fun _ => true) true Tryz.f8.params.toList args.toList ds p := hA0
  have hlt : ∀ x ∈ p, x.block < W.heap.size := fun x hx => by simpa using hW'.lt x (List.mem_append_left _ hx)
  have hkeep : ∀ W', Below W.heap.size W W' → DataW.TrodAll enc Tryz.prog W' 0 (fun b => decide (b < W.heap.size)) true Tryz.f8.params.toList args.toList ds p :=
    fun W' hb => trodAll_below Tryz.laidOut hb (by kernel_rfl) hA hlt
  rw [Tryz.params8] at hA hval hsz
  obtain ⟨v0, d0, rfl, rfl, g0⟩ := trodAll_one hA
  obtain ⟨rfl, rfl⟩ := trodVars_none hV
  obtain ⟨A0, c0, l0, rfl, s0, h0, w0⟩ := open_bytes (Lite.of hsz (j := 0) rfl rfl) (hval 0 47 v0 rfl rfl) g0
  have hLim := lim_of_laid hL
  clear hA0 hval0 hL hsz0 hsz
  refine (bone_any A0 c0 _ l0 W rfl s0 h0 w0 hLim).mono fun e W' ⟨he, hb⟩ => ?_
  subst he
  exact ⟨_, rfl, _, _, _, [], _, [], hW', trodAll_mk1 (shut_bool Tryz.underlying4 true), hkeep W' hb, rfl, hb.frame _, fun h => by cases h⟩
/-- BookOne: whatever the input, it answers true, and the input reads as it did. -/
theorem bookOne_row : Rows.BookOneSaid :=
  OpenClaim.holds_of_wide 8 Tryz.f8 rfl rfl rfl rfl rfl rfl rfl ⟨rfl, rfl, rfl, rfl, rfl⟩ rfl rfl rfl rfl rfl (by kernel_rfl) Tryz.func8 (by kernel_rfl)
    (of_decide_eq_true (by kernel_rfl)) (by unfold Func.isWrapper; first | (rw [if_pos (by decide +kernel)]; kernel_rfl) | (rw [if_neg (by decide +kernel)]; exact ⟨rfl, rfl⟩))
    (fun os started H enc _ => bookOne_lifted os started H enc)
/-- The card: the variable limits is tied to the program's text. -/
theorem bookOne_holds : Rows.BookOneCardSaid :=
  Claim7.holds_tied_plain_at .later [] [.data] true _ true bookOne_row (fun _ h => by cases h) (by kernel_rfl) (fun _ h => by cases h) bookOne_row_tie rfl ⟨rfl, rfl⟩ (by kernel_rfl) rfl
    (fun f fn hf hfn => by
      obtain rfl : f = 8 := Option.some.inj ((show Tryz.prog.funcNamed "retort/retortlaw05.BookOne" = some 8 by kernel_rfl).symm.trans hf) |>.symm
      obtain rfl : fn = Tryz.f8 := (Option.some.inj (Tryz.func8.symm.trans hfn)).symm
      exact ⟨by kernel_rfl, fun j t ht => by
        rw [Tryz.params8] at ht
        have hm : t ∈ [47] := by simpa using Array.mem_of_getElem? ht
        have hall : ([47].all fun u => !Tryz.prog.wantsStandIn u) = true := by kernel_rfl
        exact (show Tryz.prog.wantsStandIn t = false by simpa using List.all_eq_true.1 hall t hm)⟩)
    (by kernel_rfl)
end Go.Proofs.YtfeodppdmbideaaGreatDoor
