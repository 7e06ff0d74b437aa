/- The way to the laws of books: BLook to BVars. -/
import Derived.Test.YtfeodppdmbideaaGreatDoorBA13
import Derived.Test.YtfeodppdmbideaaGreatDoorBA15
import Derived.Test.YtfeodppdmbideaaGreatDoorBA7
import Derived.Test.YtfeodppdmbideaaGreatDoorBA9
namespace Go.Proofs.YtfeodppdmbideaaGreatDoor
open Go.RowKit

/-- What look answers: the error, or what rows may name. -/
inductive LookPost (b : BookP) (w : World) : Ending → World → Prop
  | err (w' : World) (r : Int) : rightE b = r → r ≠ 0 → Below w.heap.size w w' → LookPost b w (.returned (.tuple #[.agg #[.int .i64 0, .map none], .int .i64 r])) w'
  | ok (w' : World) (g m : Nat) : rightE b = 0 → OwnsN w' g m (nameB b.ents b.ents.length) → w.heap.size ≤ g → m ≤ 10000 → Below w.heap.size w w' → LookPost b w (.returned (.tuple #[scopeA b.vars g, .int .i64 0])) w'
theorem Turn.below {g B : Nat} {w0 w w' : World} (t : Turn g w w') (h : Below B w0 w) (hB : B ≤ w.heap.size) (hg : B ≤ g) : Below B w0 w' := h.trans (t.only.below hB fun k hk e => by omega)
set_option maxRecDepth 100000 in
set_option maxHeartbeats 8000000 in
theorem look_any (b : BookT) (w : World) (hb : BookOk w b) (hL : Lim w) : Calls Tryz.prog 35 #[b.val] w (LookPost b.p w) := by
  obtain ⟨v, ⟨oA, oc, lo⟩, ⟨eA, ec, le⟩, nat, ⟨pA, pc, lp⟩⟩ := b
  obtain ⟨⟨⟨os, oh⟩, ⟨es, eh, ek⟩, ⟨ps, ph⟩⟩, ⟨wv, wn, wo, we, wp⟩, hek, fo, fe, fp⟩ := hb
  obtain ⟨on_, hon⟩ : ∃ n, lo.length = n := ⟨_, rfl⟩
  obtain ⟨en, hen⟩ : ∃ n, le.length = n := ⟨_, rfl⟩
  obtain ⟨pn, hpn⟩ : ∃ n, lp.length = n := ⟨_, rfl⟩
  obtain ⟨ents, hents⟩ : ∃ ents, le.map EntT.p = ents := ⟨_, rfl⟩
  obtain ⟨r, hr⟩ : ∃ r, rightE ⟨v, lo, ents, nat, lp⟩ = r := ⟨_, rfl⟩
  show Calls Tryz.prog 35 #[.agg #[.int .i64 v, .slice oA lo.length oc, .slice eA le.length ec, .int .i64 nat, .slice pA lp.length pc]] w (LookPost ⟨v, lo, le.map EntT.p, nat, lp⟩ w)
  simp only [hon, hen, hpn, hents] at es ps os fo fe fp ⊢
  have hel : ents.length = en := by rw [← hents, List.length_map, hen]
  have hr1 := hr
  unfold rightE at hr1
  simp only [hel] at hr1
  have HR0 := Lib.hid hr
  have HR := Lib.hid hr1
  have HEL := Lib.hid hel
  have HON := Lib.hid hon
  have HOH := Lib.hid (show ∀ W, Below w.heap.size w W → Holds W oA (ordsV lo) from fun W h => oh.below h)
  have HEE := Lib.hid (show ∀ W, Below w.heap.size w W → Holds W eA (entsCV le) ∧ ∀ x ∈ le, EntOk W x from fun W h => ⟨eh.below h, fun x hx => (hek x hx).below h⟩)
  have HEN := Lib.hid (show le.length = en ∧ le.map EntT.p = ents from ⟨hen, hents⟩)
  have HPN := Lib.hid (show lp.length = pn ∧ Slice pA pn pc ∧ (∀ x ∈ lp, I64 x.1 ∧ I64 x.2) ∧ ∀ W, Below w.heap.size w W → Holds W pA (atomsV lp) from ⟨hpn, ps, wp, fun W h => ph.below h⟩)
  have HL := Lib.hid (show ∀ W, Below w.heap.size w W → Lim W from fun W h => hL.next h)
  have HWN := Lib.hid wn
  have hb2 : Below w.heap.size w ((w.alloc (bookBox v oA eA pA on_ oc en ec pn pc nat)).alloc (.cells #[.int .i64 0, .map none] 74)) := ((Below.refl _ _).alloc (Nat.le_refl _) _).alloc (by simp) _
  have hk2 := (holds_at w #[.int .i64 v, .slice oA on_ oc, .slice eA en ec, .int .i64 nat, .slice pA pn pc] 26 _ rfl).alloc (.cells #[.int .i64 0, .map none] 74)
  have hz2 := Whole.new (w.alloc (bookBox v oA eA pA on_ oc en ec pn pc nat)) #[.int .i64 0, .map none] 74
  rw [World.size_alloc] at hz2
  have HB2 := Lib.hid hb2
  have HK2 := Lib.hid hk2
  have HZ2 := Lib.hid hz2
  clear os oh es eh ek ps ph wv wn wo we wp hek hr hr1 hL hon hen hpn hents hel hb2 hk2 hz2
  go_enter Tryz.func35, Tryz.ntmps35
  go_wp2_with fail
  refine (check_n v oA oc on_ lo _ HON.out (HOH.out _ HB2.out) (by omega)).mono ?_
  rintro e w3 ⟨rfl, hb3⟩
  have HB3 := Lib.hid (below_step HB2.out hb3)
  have HK3 := Lib.hid (HK2.out.below hb3)
  have HZ3 := Lib.hid (HZ2.out.below hb3 (by simp))
  have z0 := HZ3.out.cell 0
  have z1 := HZ3.out.cell 1
  have f0 := HZ3.out.frozen 0
  have f1 := HZ3.out.frozen 1
  have k0 := HK3.out.cell (j := 0) rfl
  have k2 := HK3.out.cell (j := 2) rfl
  rw [Nat.zero_add] at k0 k2
  clear hb3
  have hwr : ∀ (W : World) (x y : Value), Whole W (w.heap.size + 1) #[.int .i64 0, .map none] 74 → Below w.heap.size w W → ((W.setCell ⟨w.heap.size + 1, 0, none⟩ x).setCell ⟨w.heap.size + 1, 1, none⟩ y).cell? ⟨w.heap.size + 1, 0, none⟩ = some x ∧ ((W.setCell ⟨w.heap.size + 1, 0, none⟩ x).setCell ⟨w.heap.size + 1, 1, none⟩ y).cell? ⟨w.heap.size + 1, 1, none⟩ = some y ∧
      Below w.heap.size w ((W.setCell ⟨w.heap.size + 1, 0, none⟩ x).setCell ⟨w.heap.size + 1, 1, none⟩ y) := fun W x y h hb => by
    have h2 := (h.set_ 0 x).set_ 1 y
    exact ⟨h2.cell 0, h2.cell 1, (hb.setCell (by simp only; omega) _).setCell (by simp only; omega) _⟩
  have HWR := Lib.hid hwr
  clear hwr
  by_cases hc : errS v lo = 0
  case neg =>
    have HX : Hid (r = errS v lo) := Lib.hid (by rw [← HR.out, if_pos hc])
    generalize errS v lo = q at *
    have hq : (q != 0) = true := by simpa using hc
    obtain ⟨q0, q1, hbf⟩ := HWR.out w3 (.int .i64 0) (.map none) HZ3.out HB3.out
    go_wp2_with fail
    refine bodyPost_ret (by simp [results, Tryz.results35, go_sem, q0, q1]; try rfl) rfl ?_
    exact .err _ _ (HR0.out.trans HX.out) hc hbf
  have HR1 : Hid ((if 64 < en then 5 else if firstE (fun i x => entE v ents i x) 0 ents ≠ 0 then firstE (fun i x => entE v ents i x) 0 ents else if (natB ⟨v, lo, ents, nat, lp⟩ && primsB ⟨v, lo, ents, nat, lp⟩) = true then 0 else 22) = r) := Lib.hid (by
    have h1 := HR.out
    rw [if_neg (fun h => h hc)] at h1
    exact h1)
  rw [hc]
  clear HR hc
  by_cases h64 : 64 < en
  · have HX : Hid (r = 5) := Lib.hid (by rw [← HR1.out, if_pos h64])
    obtain ⟨q0, q1, hbf⟩ := HWR.out w3 (.int .i64 0) (.map none) HZ3.out HB3.out
    go_wp2_with fail
    refine bodyPost_ret (by simp [results, Tryz.results35, go_sem, q0, q1]; try rfl) rfl ?_
    exact .err _ _ (HR0.out.trans HX.out) (by omega) hbf
  have HR2 : Hid ((if firstE (fun i x => entE v ents i x) 0 ents ≠ 0 then firstE (fun i x => entE v ents i x) 0 ents else if (natB ⟨v, lo, ents, nat, lp⟩ && primsB ⟨v, lo, ents, nat, lp⟩) = true then 0 else 22) = r) := Lib.hid (by
    have h1 := HR1.out
    rw [if_neg h64] at h1
    exact h1)
  clear HR1
  have HM4 := Lib.hid (OwnsN.made w3)
  have hb45 : Below w3.heap.size w3 ((w3.alloc (.map #[] 0)).alloc (.cells #[.int .i64 v, .map (some w3.heap.size)] 74)) := ((Below.refl _ _).alloc (Nat.le_refl _) _).alloc (by simp) _
  have HM5 := Lib.hid (HM4.out.below (show Below (w3.alloc (.map #[] 0)).heap.size (w3.alloc (.map #[] 0)) ((w3.alloc (.map #[] 0)).alloc (.cells #[.int .i64 v, .map (some w3.heap.size)] 74)) from (Below.refl _ _).alloc (Nat.le_refl _) _))
  have HC5 := Lib.hid (holds_at (w3.alloc (.map #[] 0)) #[.int .i64 v, .map (some w3.heap.size)] 74 _ rfl)
  rw [World.size_alloc] at HC5
  have HB5 := Lib.hid (below_step HB3.out hb45)
  have HK5 := Lib.hid (HK3.out.below hb45)
  have HZ5 := Lib.hid (HZ3.out.below hb45 HZ3.out.lt)
  have HG5 : Hid (w.heap.size + 1 < w3.heap.size) := Lib.hid HZ3.out.lt
  clear hb45 z0 z1 f0 f1 HM4 HB3 HK3 HZ3 HK2 HZ2 HB2
  have hmm := @run_makeMap Tryz.prog
  have k5 := HK5.out.cell (j := 2) rfl
  rw [Nat.zero_add] at k5
  go_wp2_with fail
  clear hmm k5
  generalize (w3.alloc (.map #[] 0)).alloc (.cells #[.int .i64 v, .map (some w3.heap.size)] 74) = w5 at *
  obtain ⟨g, hg⟩ : ∃ g, w3.heap.size = g := ⟨_, rfl⟩
  rw [hg] at HM5 HC5 HG5 ⊢
  clear hg k0 k2
  refine (firstEnt_any v g eA en ec le ents w5 HEN.out.1 (by omega) HEN.out.2 (HEE.out _ HB5.out).1 (HEE.out _ HB5.out).2 HM5.out (HL.out _ HB5.out)).mono ?_
  rintro e w6 ⟨rfl, ht6, hn6⟩
  have HB6 := Lib.hid (ht6.below HB5.out HB5.out.size (by have := HG5.out; omega))
  have HC6 := Lib.hid (HC5.out.turn ht6)
  have HK6 := Lib.hid (HK5.out.turn ht6)
  have HZ6 := Lib.hid (HZ5.out.only ht6.only (by have := HG5.out; omega))
  have HN6 := Lib.hid hn6
  clear ht6 hn6 HM5 HC5 HK5 HZ5 HB5
  have z0 := HZ6.out.cell 0
  have z1 := HZ6.out.cell 1
  have f0 := HZ6.out.frozen 0
  have f1 := HZ6.out.frozen 1
  by_cases hq : firstE (fun i x => entE v ents i x) 0 ents = 0
  case neg =>
    have HX : Hid (r = firstE (fun i x => entE v ents i x) 0 ents) := Lib.hid (by rw [← HR2.out, if_pos hq])
    generalize firstE (fun i x => entE v ents i x) 0 ents = q at *
    have hqb : (q != 0) = true := by simpa using hq
    obtain ⟨q0, q1, hbf⟩ := HWR.out w6 (.int .i64 0) (.map none) HZ6.out HB6.out
    clear HN6
    go_wp2_with fail
    refine bodyPost_ret (by simp [results, Tryz.results35, go_sem, q0, q1]; try rfl) rfl ?_
    exact .err _ _ (HR0.out.trans HX.out) hq hbf
  have HR3 : Hid ((if (natB ⟨v, lo, ents, nat, lp⟩ && primsB ⟨v, lo, ents, nat, lp⟩) = true then 0 else 22) = r) := Lib.hid (by
    have h1 := HR2.out
    rw [if_neg (fun h => h hq)] at h1
    exact h1)
  obtain ⟨m6, hm6, hn6⟩ := HN6.out hq
  rw [HEL.out] at hn6
  have HN7 := Lib.hid hn6
  have hq4 := firstE_zero hq
  have HS4 : Hid ((∀ x ∈ le, x.sort.2.2.length ≤ 4096) ∧ ∀ x ∈ le, ∀ c ∈ x.ctors.2.2, ∀ r ∈ c.args.2.2, r.2.2.length ≤ 4096) := Lib.hid (by
    have hin : ∀ x ∈ le, ∃ i, entE v ents i x.p = 0 := fun x hx => by
      have hm : x.p ∈ ents := by rw [← HEN.out.2]; exact List.mem_map_of_mem hx
      obtain ⟨j, hj, e⟩ := List.getElem_of_mem hm
      refine ⟨0 + j, ?_⟩
      rw [← e]
      exact hq4 j hj
    refine ⟨fun x hx => ?_, fun x hx c hc r hr => ?_⟩
    · obtain ⟨i, hi⟩ := hin x hx
      exact (entE_rows hi).1
    · obtain ⟨i, hi⟩ := hin x hx
      exact ((entE_rows hi).2.2.2.2.2 c.p (List.mem_map_of_mem hc)).2.2.1 _ (List.mem_map_of_mem (f := fun y : RowT => y.2.2) hr))
  rw [hq]
  clear HN6 HR2 hn6 hq hq4
  have c0 := HC6.out.cell (j := 0) rfl
  have c1 := HC6.out.cell (j := 1) rfl
  have k0 := HK6.out.cell (j := 0) rfl
  have k1 := HK6.out.cell (j := 1) rfl
  have k2 := HK6.out.cell (j := 2) rfl
  have k3 := HK6.out.cell (j := 3) rfl
  have k4 := HK6.out.cell (j := 4) rfl
  rw [Nat.zero_add] at c0 c1 k0 k1 k2 k3 k4
  have HNU := Lib.hid (numbers_any v g m6 v oA eA pA on_ oc en ec pn pc nat le ents lo lp w6 HEN.out.1 HEN.out.2 (HEE.out _ HB6.out).1 (HEE.out _ HB6.out).2 (by omega) HS4.out.1 HS4.out.2 HWN.out HN7.out)
  generalize natB ⟨v, lo, ents, nat, lp⟩ = nb at *
  go_wp2_with fail
  refine (HNU.out).mono ?_
  rintro e w7 ⟨rfl, hb7⟩
  have HB7 := Lib.hid (below_step HB6.out hb7)
  have HC7 := Lib.hid (HC6.out.below hb7)
  have HK7 := Lib.hid (HK6.out.below hb7)
  have HZ7 := Lib.hid (HZ6.out.below hb7 HZ6.out.lt)
  have HN8 := Lib.hid (HN7.out.below hb7)
  clear hb7 c0 c1 k0 k1 k2 k3 k4 z0 z1 f0 f1 HC6 HK6 HZ6 HN7 HNU HB6
  have z0 := HZ7.out.cell 0
  have z1 := HZ7.out.cell 1
  have f0 := HZ7.out.frozen 0
  have f1 := HZ7.out.frozen 1
  cases nb with
  | false =>
    have HX : Hid (r = 22) := Lib.hid (by rw [← HR3.out]; rfl)
    obtain ⟨q0, q1, hbf⟩ := HWR.out w7 (.int .i64 0) (.map none) HZ7.out HB7.out
    go_wp2_with fail
    refine bodyPost_ret (by simp [results, Tryz.results35, go_sem, q0, q1]; try rfl) rfl ?_
    exact .err _ _ (HR0.out.trans HX.out) (by omega) hbf
  | true =>
  have c0 := HC7.out.cell (j := 0) rfl
  have c1 := HC7.out.cell (j := 1) rfl
  have k0 := HK7.out.cell (j := 0) rfl
  have k1 := HK7.out.cell (j := 1) rfl
  have k2 := HK7.out.cell (j := 2) rfl
  have k3 := HK7.out.cell (j := 3) rfl
  have k4 := HK7.out.cell (j := 4) rfl
  rw [Nat.zero_add] at c0 c1 k0 k1 k2 k3 k4
  have HPU := Lib.hid (prims_any v g m6 v oA eA pA on_ oc en ec pn pc nat ents lo lp w7 HPN.out.1 HPN.out.2.1 (HPN.out.2.2.2 _ HB7.out) (by omega) HPN.out.2.2.1 HEL.out HN8.out)
  generalize primsB ⟨v, lo, ents, nat, lp⟩ = pb at *
  go_wp2_with fail
  refine (HPU.out).mono ?_
  rintro e w8 ⟨rfl, hb8⟩
  have HB8 := Lib.hid (below_step HB7.out hb8)
  have HZ8 := Lib.hid (HZ7.out.below hb8 HZ7.out.lt)
  have HN9 := Lib.hid (HN8.out.below hb8)
  have HC8 := Lib.hid (HC7.out.below hb8)
  clear hb8 c0 c1 k0 k1 k2 k3 k4 z0 z1 f0 f1 HK7 HZ7 HN8 HPU HB7 HC7
  have c0 := HC8.out.cell (j := 0) rfl
  have c1 := HC8.out.cell (j := 1) rfl
  rw [Nat.zero_add] at c0 c1
  have z0 := HZ8.out.cell 0
  have z1 := HZ8.out.cell 1
  have f0 := HZ8.out.frozen 0
  have f1 := HZ8.out.frozen 1
  cases pb with
  | false =>
    have HX : Hid (r = 22) := Lib.hid (by rw [← HR3.out]; rfl)
    obtain ⟨q0, q1, hbf⟩ := HWR.out w8 (.int .i64 0) (.map none) HZ8.out HB8.out
    go_wp2_with fail
    refine bodyPost_ret (by simp [results, Tryz.results35, go_sem, q0, q1]; try rfl) rfl ?_
    exact .err _ _ (HR0.out.trans HX.out) (by omega) hbf
  | true =>
    have HX : Hid (r = 0) := Lib.hid (by rw [← HR3.out]; rfl)
    obtain ⟨q0, q1, hbf⟩ := HWR.out w8 (.int .i64 v) (.map (some g)) HZ8.out HB8.out
    have HNF : Hid (OwnsN ((w8.setCell ⟨w.heap.size + 1, 0, none⟩ (.int .i64 v)).setCell ⟨w.heap.size + 1, 1, none⟩ (.map (some g))) g m6 (nameB ents en)) := Lib.hid (HN9.out.block (by
      rw [Below.heap_setCell _ _ _ _ (by have := HG5.out; simp only; omega), Below.heap_setCell _ _ _ _ (by have := HG5.out; simp only; omega)]))
    go_wp2_with fail
    refine bodyPost_ret (by simp [results, Tryz.results35, go_sem, q0, q1]; try rfl) rfl ?_
    exact .ok _ g m6 (HR0.out.trans HX.out) (by rw [HEL.out]; exact HNF.out) (by have := HG5.out; omega) hm6 hbf
end Go.Proofs.YtfeodppdmbideaaGreatDoor
namespace Go.Proofs.YtfeodppdmbideaaGreatDoor
open Go.RowKit

set_option maxRecDepth 100000 in
set_option maxHeartbeats 4000000 in
theorem right_any (b : BookT) (w : World) (hb : BookOk w b) (hL : Lim w) : Calls Tryz.prog 13 #[b.val] w fun e w' => e = .returned (.int .i64 (rightE b.p)) ∧ Below w.heap.size w w' := by
  have hb1 : Below w.heap.size w (w.alloc (.cells #[.int .i64 b.vars, .slice b.ords.1 b.ords.2.2.length b.ords.2.1, entsV b.ents, .int .i64 b.nat, .slice b.prims.1 b.prims.2.2.length b.prims.2.1] 26)) := (Below.refl _ _).alloc (Nat.le_refl _) _
  have HK := Lib.hid (look_any b _ (hb.below hb1) (hL.next hb1))
  have HB := Lib.hid hb1
  clear hb hL hb1
  have HV : Hid (b.p.vars = b.vars) := Lib.hid rfl
  generalize b.p = q at *
  obtain ⟨v, ⟨oA, oc, lo⟩, ⟨eA, ec, le⟩, nat, ⟨pA, pc, lp⟩⟩ := b
  simp only [BookT.val, entsV] at HK HB HV ⊢
  generalize lo.length = on_ at *
  generalize le.length = en at *
  generalize lp.length = pn at *
  go_enter Tryz.func13, Tryz.ntmps13
  go_wp2_with fail
  refine (HK.out).mono ?_
  rintro e w1 (⟨_, r, h1, h2, hb2⟩ | ⟨_, g, m, h1, h2, h3, h4, hb2⟩)
  · have H1 := Lib.hid h1
    clear h1 h2
    go_wp2_with fail
    go_ret
    exact ⟨ret_i64 H1.out.symm, below_alloc (below_step HB.out hb2) _⟩
  · have H1 := Lib.hid h1
    clear h1 h2
    go_wp2_with fail
    go_ret
    exact ⟨ret_i64 H1.out.symm, below_alloc (below_step HB.out hb2) _⟩
set_option maxRecDepth 100000 in
set_option maxHeartbeats 4000000 in
theorem bfits_any (b : BookT) (free : Int) (A : Option Addr) (n c : Nat) (t : List Node3) (w : World) (hb : BookOk w b) (hL : Lim w) (hn : t.length = n) (hnb : n ≤ 4611686018427387904) (hA : Holds w A (nodesV t)) (hw : ∀ x ∈ t, Wide3 x) :
    Calls Tryz.prog 15 #[b.val, .int .i64 free, .slice A n c] w fun e w' => e = .returned (.int .i64 (fitsE b.p free t)) ∧ Below w.heap.size w w' := by
  have hb1 : Below w.heap.size w (w.alloc (.cells #[.int .i64 b.vars, .slice b.ords.1 b.ords.2.2.length b.ords.2.1, entsV b.ents, .int .i64 b.nat, .slice b.prims.1 b.prims.2.2.length b.prims.2.1] 26)) := (Below.refl _ _).alloc (Nat.le_refl _) _
  have HK := Lib.hid (look_any b _ (hb.below hb1) (hL.next hb1))
  have HB := Lib.hid hb1
  have HRF := Lib.hid (fun (vars : Int) (g m : Nat) (f : Node3 → Bool) W (h : Below w.heap.size w W) hN => rowFault_any vars g m f A n c t free W hn hnb (hA.below h) hw hN (hL.next h))
  clear hb hL hb1 hA hw
  have HF : Hid (∀ r, rightE b.p = r → fitsE b.p free t = if r ≠ 0 then r else if free < 0 then 1 else rowF b.p.vars (nameB b.p.ents b.p.ents.length) free t) := Lib.hid fun r h => by
    unfold fitsE
    rw [h, rowF_ahead]
  generalize fitsE b.p free t = res at *
  generalize b.p = q at *
  obtain ⟨v, ⟨oA, oc, lo⟩, ⟨eA, ec, le⟩, nat, ⟨pA, pc, lp⟩⟩ := b
  simp only [BookT.val, entsV] at HK HB ⊢
  generalize lo.length = on_ at *
  generalize le.length = en at *
  generalize lp.length = pn at *
  go_enter Tryz.func15, Tryz.ntmps15
  go_wp2_with fail
  refine (HK.out).mono ?_
  rintro e w1 (⟨_, r, h1, h2, hb2⟩ | ⟨_, g, m, h1, h2, h3, h4, hb2⟩)
  · have HX : Hid (res = r) := Lib.hid (by rw [HF.out r h1, if_pos h2])
    have h2b : (r != 0) = true := by simpa using h2
    clear h1
    go_wp2_with fail
    go_ret
    exact ⟨ret_i64 HX.out.symm, below_alloc (below_step HB.out hb2) _⟩
  · have HX := Lib.hid (HF.out 0 h1)
    have HN2 := Lib.hid h2
    have hb3 := below_alloc (below_step HB.out hb2) (.cells #[.int .i64 q.vars, .map (some g)] 74)
    have hn3 := h2.below (show Below w1.heap.size w1 (w1.alloc (.cells #[.int .i64 q.vars, .map (some g)] 74)) from (Below.refl _ _).alloc (Nat.le_refl _) _)
    have HC := Lib.hid (HRF.out q.vars g m _ _ hb3 hn3)
    have HB3 := Lib.hid hb3
    clear h1 h2 hb2 hb3 hn3 HF HRF
    generalize rowF q.vars (nameB q.ents q.ents.length) free t = rr at *
    generalize q.vars = qv at *
    by_cases hf : free < 0
    · have HY : Hid (res = 1) := Lib.hid (by rw [HX.out, if_neg (by omega), if_pos hf])
      go_wp2_with fail
      go_ret
      exact ⟨ret_i64 HY.out.symm, HB3.out⟩
    · have HY : Hid (res = rr) := Lib.hid (by rw [HX.out, if_neg (by omega), if_neg hf])
      go_wp2_with fail
      refine (HC.out).mono ?_
      rintro e w4 ⟨rfl, hb4⟩
      go_wp2_with fail
      go_ret
      exact ⟨ret_i64 HY.out.symm, below_step HB3.out hb4⟩
/-- A program that may be looked at. -/
structure ProgOk (w : World) (p : ProgT) : Prop where
  book : BookOk w p.book
  rows : RowsOk w [p.main, p.typ]
  wide : WideRows [p.main, p.typ]
  long : LongR [p.main, p.typ]
theorem ProgOk.below {w w' : World} {p : ProgT} (h : ProgOk w p) (hb : Below w.heap.size w w') : ProgOk w' p := ⟨h.book.below hb, h.rows.below hb, h.wide, h.long⟩
set_option maxRecDepth 100000 in
set_option maxHeartbeats 4000000 in
theorem progFault_any (p : ProgT) (w : World) (hp : ProgOk w p) (hL : Lim w) : Calls Tryz.prog 58 #[p.val] w fun e w' => e = .returned (.int .i64 (progE p.p)) ∧ Below w.heap.size w w' := by
  have hb1 : Below w.heap.size w (w.alloc (.cells #[.int .i64 p.book.vars, .slice p.book.ords.1 p.book.ords.2.2.length p.book.ords.2.1, entsV p.book.ents, .int .i64 p.book.nat, .slice p.book.prims.1 p.book.prims.2.2.length p.book.prims.2.1, rowV p.main, rowV p.typ] 46)) := (Below.refl _ _).alloc (Nat.le_refl _) _
  have hbox := holds_at w #[.int .i64 p.book.vars, .slice p.book.ords.1 p.book.ords.2.2.length p.book.ords.2.1, entsV p.book.ents, .int .i64 p.book.nat, .slice p.book.prims.1 p.book.prims.2.2.length p.book.prims.2.1, rowV p.main, rowV p.typ] 46 _ rfl
  have HK := Lib.hid (look_any p.book _ (hp.book.below hb1) (hL.next hb1))
  have HB := Lib.hid hb1
  have HX0 := Lib.hid hbox
  have HRW := Lib.hid (fun (vars : Int) (g m : Nat) (f : Node3 → Bool) W (h : Below w.heap.size w W) hN => closed_vis vars g m f [p.main, p.typ] W (hp.rows.below h) hp.wide hp.long hN (hL.next h))
  have HF : Hid (∀ r, rightE p.book.p = r → progE p.p = if r ≠ 0 then r else firstE (fun _ t => rowF p.book.p.vars (nameB p.book.p.ents p.book.p.ents.length) 0 t) 0 ([p.main, p.typ].map fun x => x.2.2)) := Lib.hid fun r h => by
    unfold progE
    show (if rightE p.book.p ≠ 0 then rightE p.book.p else _) = _
    rw [h, rowF_ahead]
    rfl
  clear hp hL hb1 hbox
  generalize progE p.p = res at *
  obtain ⟨bk, ⟨mA, mc, lm⟩, ⟨tA, tc, lt⟩⟩ := p
  simp only at HK HB HX0 HRW HF ⊢
  generalize bk.p = q at *
  obtain ⟨v, ⟨oA, oc, lo⟩, ⟨eA, ec, le⟩, nat, ⟨pA, pc, lp⟩⟩ := bk
  simp only [BookT.val, ProgT.val, entsV, rowV] at HK HB HX0 ⊢
  obtain ⟨mn, hmn⟩ : ∃ n, lm.length = n := ⟨_, rfl⟩
  obtain ⟨tn, htn⟩ : ∃ n, lt.length = n := ⟨_, rfl⟩
  have HMT := Lib.hid (show [rowV (mA, mc, lm), rowV (tA, tc, lt)] = [.slice mA mn mc, .slice tA tn tc] by simp only [rowV, hmn, htn])
  rw [hmn, htn] at HK HB HX0 ⊢
  clear hmn htn
  generalize lo.length = on_ at *
  generalize le.length = en at *
  generalize lp.length = pn at *
  go_enter Tryz.func58, Tryz.ntmps58
  go_wp2_with fail
  refine (HK.out).mono ?_
  rintro e w1 (⟨_, r, h1, h2, hb2⟩ | ⟨_, g, m, h1, h2, h3, h4, hb2⟩)
  · have HX : Hid (res = r) := Lib.hid (by rw [HF.out r h1, if_pos h2])
    have h2b : (r != 0) = true := by simpa using h2
    clear h1
    go_wp2_with fail
    go_ret
    exact ⟨ret_i64 HX.out.symm, below_alloc (below_step HB.out hb2) _⟩
  · have HX := Lib.hid (HF.out 0 h1)
    have hb3 := below_alloc (below_step HB.out hb2) (.cells #[.int .i64 q.vars, .map (some g)] 74)
    have hbx := (HX0.out.below hb2).alloc (.cells #[.int .i64 q.vars, .map (some g)] 74)
    have m5 := hbx.cell (j := 5) rfl
    have m6 := hbx.cell (j := 6) rfl
    rw [Nat.zero_add] at m5 m6
    obtain ⟨w3, hw3⟩ : ∃ w3, w1.alloc (.cells #[.int .i64 q.vars, .map (some g)] 74) = w3 := ⟨_, rfl⟩
    have hz3 : w3.heap.size = w1.heap.size + 1 := by rw [← hw3]; simp
    have hn3 : OwnsN w3 g m (nameB q.ents q.ents.length) := by rw [← hw3]; exact h2.below ((Below.refl _ _).alloc (Nat.le_refl _) _)
    have hb4 : Below w3.heap.size w3 (w3.alloc (.cells #[.slice mA mn mc, .slice tA tn tc] 28)) := (Below.refl _ _).alloc (Nat.le_refl _) _
    have hl4 : Holds (w3.alloc (.cells #[.slice mA mn mc, .slice tA tn tc] 28)) (some ⟨w1.heap.size + 1, 0, none⟩) ([((mA, mc, lm) : RowT), (tA, tc, lt)].map rowV) := by
      show Holds _ _ [rowV (mA, mc, lm), rowV (tA, tc, lt)]
      rw [HMT.out, ← hz3]
      exact holds_at w3 _ _ _ rfl
    rw [hw3] at hb3
    have HC := Lib.hid (firstT_any 107 #[scopeA q.vars g] #[] _ (some ⟨w1.heap.size + 1, 0, none⟩) 2 2 [(mA, mc, lm), (tA, tc, lt)] _ (HRW.out q.vars g m _ _ (below_step hb3 hb4) (hn3.below hb4)) rfl (by omega) hl4)
    have HB4 := Lib.hid (below_step hb3 hb4)
    subst hw3
    clear h1 h2 hb2 hb3 hn3 hb4 hl4 hz3 HF HRW hbx
    generalize firstE (fun _ t => rowF q.vars (nameB q.ents q.ents.length) 0 t) 0 ([((mA, mc, lm) : RowT), (tA, tc, lt)].map fun x => x.2.2) = rr at *
    have HY : Hid (res = rr) := Lib.hid (by rw [HX.out, if_neg (by omega)])
    generalize q.vars = qv at *
    go_wp2_with fail
    refine (HC.out).mono ?_
    rintro e w4 ⟨rfl, hb5⟩
    go_wp2_with fail
    go_ret
    exact ⟨ret_i64 HY.out.symm, below_step HB4.out hb5⟩
end Go.Proofs.YtfeodppdmbideaaGreatDoor
namespace Go.Proofs.YtfeodppdmbideaaGreatDoor
open Go.RowKit

/-- So many variables as rows, the outermost one first, with others inside of them. -/
def varsS (many inside : Nat) : List (List Node3) := (List.range many).map fun (i : Nat) => [((1 : Int), ((inside + many - 1 - i : Nat) : Int), (0 : Int))]
theorem varsS_len (m k : Nat) : (varsS m k).length = m := by simp [varsS]
def NewRowsOk (ls : List (List Node3)) (w : World) (e : Ending) (w' : World) : Prop := ∃ R m cr, ∃ l : List RowT, e = .returned (.slice R m cr) ∧ l.length = m ∧ l.map (fun x => x.2.2) = ls ∧ Slice R m cr ∧ Holds w' R (l.map rowV) ∧ RowsOk w' l ∧ Below w.heap.size w w'
theorem own_row (w : World) (B : Nat) (hB : B ≤ w.heap.size) (x : Node3) : OwnN (w.alloc (.cells #[.int .i64 x.1, .int .i64 x.2.1, .int .i64 x.2.2] 67)) B (.slice (some ⟨w.heap.size, 0, none⟩) 1 1) 1 [x] := by
  have := World.ownsRow_lit (base := B) (size := 3) (e := 67) w #[.int .i64 x.1, .int .i64 x.2.1, .int .i64 x.2.2] 1 hB (by decide) rfl
  simpa [OwnN, nodesV, nodeV] using this
set_option maxRecDepth 100000 in
set_option maxHeartbeats 4000000 in
theorem variables_any (m k : Nat) (w : World) (hm : m ≤ 100) (hk : k ≤ 100) : Calls Tryz.prog 46 #[.int .i64 (m : Int), .int .i64 (k : Int)] w (NewRowsOk (varsS m k) w) := by
  have hmk := make_rows m (by omega) w
  go_enter Tryz.func46, Tryz.ntmps46
  go_wp2_with fail
  have HST := Lib.hid (RowsRun.start m (Below.refl w.heap.size w))
  clear hmk
  obtain ⟨wo, hwo⟩ : ∃ wo, w.alloc (.cells (mkRows m) 28) = wo := ⟨_, rfl⟩
  rw [hwo] at HST ⊢
  clear hwo
  go_loopw [11] (fun i wr => ∃ (j : Nat) (L : List RowT), i = .int .i64 (j : Int) ∧ j ≤ m ∧ L.length = j ∧ Hid (L.map (fun x => x.2.2) = (varsS m k).take j) ∧ Hid (RowsRun w wr w.heap.size m L)) (fun i _ => m - (intOf i).toNat)
  case atStart => exact ⟨0, [], rfl, Nat.zero_le _, rfl, Lib.hid (by simp), HST⟩
  case round =>
    obtain ⟨j, L, rfl, hj, hlen, HLR, HR⟩ := hrel
    by_cases hlt : j < m
    · have e1 := IntWalk.i64_in ((k : Int) + (m : Int)) (by omega)
      have e2 := IntWalk.i64_in ((k : Int) + (m : Int) - 1) (by omega)
      have e3 := IntWalk.i64_in ((k : Int) + (m : Int) - 1 - (j : Int)) (by omega)
      have hv : ((k : Int) + (m : Int) - 1 - (j : Int)) = ((k + m - 1 - j : Nat) : Int) := by omega
      have hb := (Below.refl wr.heap.size wr).alloc (Nat.le_refl _) (.cells #[.int .i64 1, .int .i64 ((k : Int) + (m : Int) - 1 - (j : Int)), .int .i64 0] 67)
      have ho := own_row wr wr.heap.size (Nat.le_refl _) (1, (k : Int) + (m : Int) - 1 - (j : Int), 0)
      have hst := HR.out.step hb ho rfl (by omega)
      have cR := HR.out.cell (by omega)
      have fR := HR.out.whole.frozen j
      have hgR := HR.out.whole.lt
      rw [hlen] at hst cR
      rw [World.setCell_alloc_past _ _ _ _ hgR] at hst
      have cR2 := (hb.cell (p := ⟨w.heap.size, j, none⟩) hgR).trans cR
      have fR2 := (HR.out.whole.below hb hgR).frozen j
      have HS := Lib.hid hst
      have HL1 : Hid ((L ++ [((some ⟨wr.heap.size, 0, none⟩, 1, [(1, (k : Int) + (m : Int) - 1 - (j : Int), 0)]) : RowT)]).map (fun x => x.2.2) = (varsS m k).take (j + 1)) := Lib.hid (by
        rw [List.map_append, HLR.out, List.take_succ_eq_append_getElem (by rw [varsS_len]; exact hlt)]
        simp [varsS, hv])
      clear hst hb ho cR fR hv
      go_wp2_with fail
      go_roundw
      case rel => exact ⟨j + 1, _, by go_num, by omega, by rw [List.length_append, hlen]; rfl, HL1, HS⟩
      case measure => simp [intOf] <;> omega
    · obtain rfl : j = m := by omega
      have hr := HR.out
      go_wp2_with fail
      go_ret
      exact ⟨_, j, j, L, rfl, hlen, by rw [HLR.out, List.take_of_length_le (by rw [varsS_len]; exact Nat.le_refl _)], ⟨Nat.le_refl _, by omega, fun h => by cases h⟩, hr.done hlen, hr.ok, hr.bl⟩
end Go.Proofs.YtfeodppdmbideaaGreatDoor
