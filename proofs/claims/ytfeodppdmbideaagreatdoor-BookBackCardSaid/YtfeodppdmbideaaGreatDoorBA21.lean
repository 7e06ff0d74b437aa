/- The way to the laws of books: BRprim to BRctor. -/
import Derived.Test.YtfeodppdmbideaaGreatDoorBA20
import Derived.Test.YtfeodppdmbideaaGreatDoorBA5
namespace Go.Proofs.YtfeodppdmbideaaGreatDoor
open Go.RowKit

theorem own_split {w : World} {B e sz n : Nat} {v : Value} {xs : List Value} (h : w.ownsRow B e sz v n xs) : w.ownsRow 0 e sz v n xs ∧ ∀ k, v.ownBlock = some k → B ≤ k := by
  rcases h with ⟨h0, ⟨rfl, h1⟩ | ⟨g, cap, cur, rfl, hB, hr⟩⟩
  · exact ⟨⟨h0, .inl ⟨rfl, h1⟩⟩, fun k hk => by cases hk⟩
  · exact ⟨⟨h0, .inr ⟨g, cap, cur, rfl, Nat.zero_le _, hr⟩⟩, fun k hk => by cases hk; exact hB⟩
theorem Rd.only {t : TypeId × Nat} {w w' : World} {g : Nat} {s : St} {F : Nat → Prop} (h : Rd t w g s) (ho : Only F w w') (hF : ∀ k, F k → g < k) : Rd t w' g s := by
  obtain ⟨A, c, h1, h2, h3, h4, h5⟩ := h
  exact ⟨A, c, h1.only ho fun hg => Nat.lt_irrefl _ (hF g hg), h2, h3.only ho fun b o e hb => by have := (h4 b o e).2; have := hF b hb; omega, h4, h5⟩
theorem row_visR (t : TypeId × Nat) (g : Nat) : VisR t g 116 #[.pointer (some ⟨g, 0, none⟩)] tRow (fun x : RowT => rowV x) (fun x : RowT => x.2.2) rowS where
  enters := fun args w => by simp [go_sem]
  call := fun W s h => by
    refine (orowR_any t g s W h).mono ?_
    rintro e w' ⟨A, c, rfl, hown, hr, ht⟩
    exact ⟨(A, c, (rowS s).1), rfl, rfl, own_split hown, hr, ht⟩
noncomputable def primS (s : St) : (Int × Int) × St := ((((numS 255 s).1 : Int), ((numS 255 (numS 255 s).2).1 : Int)), (numS 255 (numS 255 s).2).2)
noncomputable def ordS (s : St) : Node3 × St := ((((numS 255 s).1 : Int), (signedS (numS 255 s).2).1, ((numS 255 (signedS (numS 255 s).2).2).1 : Int)), (numS 255 (signedS (numS 255 s).2).2).2)
set_option maxRecDepth 100000 in
set_option maxHeartbeats 8000000 in
theorem rprim_any (t : TypeId × Nat) (g : Nat) (s : St) (w : World) (h : Rd t w g s) :
    Calls Tryz.prog 164 #[.agg #[.pointer (some ⟨g, 0, none⟩)]] w (fun e w' => ∃ x : (Int × Int), e = .returned ((fun x : Int × Int => .agg #[.int .i64 x.1, .int .i64 x.2]) x) ∧ x = (primS s).1 ∧ tPrim.own (fun k => w.heap.size ≤ k) w' x ∧ Rd t w' g (primS s).2 ∧ Touch g w w') := by
  have hg := h.lt
  have hb1 : Below w.heap.size w ((w.alloc (.cells #[.pointer (some ⟨g, 0, none⟩)] 105)).alloc (.cells #[.int .i64 0, .int .i64 0] 80)).drew := (((Below.refl _ _).alloc (Nat.le_refl _) _).alloc (by simp) _).drew
  have hr := h.below hb1
  have hbx : Holds ((w.alloc (.cells #[.pointer (some ⟨g, 0, none⟩)] 105)).alloc (.cells #[.int .i64 0, .int .i64 0] 80)).drew (some ⟨w.heap.size, 0, none⟩) [.pointer (some ⟨g, 0, none⟩)] := (holds_at w #[.pointer (some ⟨g, 0, none⟩)] 105 _ rfl).alloc (.cells #[.int .i64 0, .int .i64 0] 80)
  have hwh : Whole ((w.alloc (.cells #[.pointer (some ⟨g, 0, none⟩)] 105)).alloc (.cells #[.int .i64 0, .int .i64 0] 80)).drew (w.heap.size + 1) #[.int .i64 0, .int .i64 0] 80 := by
    have q := Whole.new (w.alloc (.cells #[.pointer (some ⟨g, 0, none⟩)] 105)) #[.int .i64 0, .int .i64 0] 80
    rw [World.size_alloc] at q
    exact q
  obtain ⟨W0, hW0⟩ : ∃ W0, W0 = ((w.alloc (.cells #[.pointer (some ⟨g, 0, none⟩)] 105)).alloc (.cells #[.int .i64 0, .int .i64 0] 80)) := ⟨_, rfl⟩
  rw [← hW0] at hb1 hr hbx hwh
  obtain ⟨W1, hW1⟩ : ∃ W1, W1 = W0.drew := ⟨_, rfl⟩
  rw [← hW1] at hb1 hr hbx hwh
  have hsz : w.heap.size + 1 < W1.heap.size := hwh.lt
  have HS := Lib.hid (show ∀ W, Touch g W1 W → W.cell? ⟨w.heap.size, 0, none⟩ = some (.pointer (some ⟨g, 0, none⟩)) from fun W ht => by
    have := (hbx.only ht.only fun b o e hn => by cases e; omega).cell (j := 0) rfl
    rwa [Nat.zero_add] at this)
  have HW := Lib.hid (show ∀ W, Touch g W1 W → Whole W (w.heap.size + 1) #[.int .i64 0, .int .i64 0] 80 from fun W ht => hwh.only ht.only (by omega))
  have HB1 := Lib.hid hb1
  have HR1 := Lib.hid hr
  have HG := Lib.hid hg
  have HW0 := Lib.hid hW0
  have HWD := Lib.hid hW1
  obtain ⟨na, s1, hna⟩ : ∃ n s', numS 255 s = (n, s') := ⟨_, _, rfl⟩
  obtain ⟨nb, s2, hnb⟩ : ∃ n s', numS 255 s1 = (n, s') := ⟨_, _, rfl⟩
  have HE := Lib.hid (show primS s = (((na : Int), (nb : Int)), s2) from by simp only [primS, hna, hnb])
  have HC0 := Lib.hid (show ∀ W, Rd t W g s → Calls Tryz.prog 158 #[.pointer (some ⟨g, 0, none⟩), .int .i64 255] W (OReadPost t g W (.int .i64 (na : Int)) s1) from fun W hW => by
    have q := onum_any t g 255 s W hW (by omega) (by omega)
    rw [hna] at q
    exact q)
  have HC1 := Lib.hid (show ∀ W, Rd t W g s1 → Calls Tryz.prog 158 #[.pointer (some ⟨g, 0, none⟩), .int .i64 255] W (OReadPost t g W (.int .i64 (nb : Int)) s2) from fun W hW => by
    have q := onum_any t g 255 s1 W hW (by omega) (by omega)
    rw [hnb] at q
    exact q)
  clear h hb1 hr hbx hwh hg hW0 hW1 hna hnb
  go_enter Tryz.func164, Tryz.ntmps164
  go_wp2_with fail
  rw [← HW0.out]
  refine region_begin_any (S := fun W => W.cell? ⟨w.heap.size, 0, none⟩ = some (.pointer (some ⟨g, 0, none⟩))) (by kernel_rfl) (by rw [← HWD.out]; exact HS.out _ (Touch.refl _ _)) (fun W hW hHeld => ?_)
  rw [← HWD.out] at hW
  subst hW
  refine region_take 0 ?_ rfl (by kernel_rfl) (by rfl) hHeld ?_ ?_
  rotate_left
  · intro w hSw
    (try dsimp only at hSw)
    go_simp
    try with_reducible rfl
  try simp only [Act.put, List.setIfInBounds_toArray, List.set_cons_zero, List.set_cons_succ]
  refine region_take 1 ?_ rfl (by kernel_rfl) (by rfl) hHeld ?_ ?_
  rotate_left
  · intro w hSw
    (try dsimp only at hSw)
    go_simp
    try with_reducible rfl
  try simp only [Act.put, List.setIfInBounds_toArray, List.set_cons_zero, List.set_cons_succ]
  refine region_take 2 ?_ rfl (by kernel_rfl) (by rfl) hHeld ?_ ?_
  rotate_left
  · intro w hSw
    (try dsimp only at hSw)
    go_simp
    try with_reducible rfl
  try simp only [Act.put, List.setIfInBounds_toArray, List.set_cons_zero, List.set_cons_succ]
  refine region_take 3 ?_ rfl (by kernel_rfl) (by rfl) hHeld ?_ ?_
  rotate_left
  · intro w hSw
    (try dsimp only at hSw)
    go_simp
    try with_reducible rfl
  try simp only [Act.put, List.setIfInBounds_toArray, List.set_cons_zero, List.set_cons_succ]
  refine region_take 5 ?_ rfl (by kernel_rfl) (by rfl) hHeld ?_ ?_
  rotate_left
  · intro w hSw
    (try dsimp only at hSw)
    go_simp
    try with_reducible rfl
  try simp only [Act.put, List.setIfInBounds_toArray, List.set_cons_zero, List.set_cons_succ]
  refine region_take 6 ?_ rfl (by kernel_rfl) (by rfl) hHeld ?_ ?_
  rotate_left
  · intro w hSw
    (try dsimp only at hSw)
    go_simp
    try with_reducible rfl
  try simp only [Act.put, List.setIfInBounds_toArray, List.set_cons_zero, List.set_cons_succ]
  refine region_take 7 ?_ rfl (by kernel_rfl) (by rfl) hHeld ?_ ?_
  rotate_left
  · intro w hSw
    (try dsimp only at hSw)
    go_simp
    try with_reducible rfl
  try simp only [Act.put, List.setIfInBounds_toArray, List.set_cons_zero, List.set_cons_succ]
  refine region_take 8 ?_ rfl (by kernel_rfl) (by rfl) hHeld ?_ ?_
  rotate_left
  · intro w hSw
    (try dsimp only at hSw)
    go_simp
    try with_reducible rfl
  try simp only [Act.put, List.setIfInBounds_toArray, List.set_cons_zero, List.set_cons_succ]
  refine region_call 4 rfl (by kernel_rfl) (by rfl) (fun K hK => ?_)
  go_simp
  refine (HC0.out _ HR1.out).mono ?_
  rintro e w2 ⟨rfl, hrd, ht⟩
  have HRD0 := Lib.hid hrd
  have HT0 := Lib.hid (ht)
  clear hrd ht
  refine hK.out _ _ (HS.out _ HT0.out) (fun hHeld => ?_)
  clear hK K
  try simp only [Act.put, List.setIfInBounds_toArray, List.set_cons_zero, List.set_cons_succ]
  refine region_call 9 rfl (by kernel_rfl) (by rfl) (fun K hK => ?_)
  go_simp
  refine (HC1.out _ HRD0.out).mono ?_
  rintro e w3 ⟨rfl, hrd, ht⟩
  have HRD1 := Lib.hid hrd
  have HT1 := Lib.hid (HT0.out.trans ht)
  clear hrd ht
  refine hK.out _ _ (HS.out _ HT1.out) (fun hHeld => ?_)
  clear hK K
  try simp only [Act.put, List.setIfInBounds_toArray, List.set_cons_zero, List.set_cons_succ]
  refine region_take 10 ?_ rfl (by kernel_rfl) (by rfl) hHeld ?_ ?_
  rotate_left
  · intro w hSw
    (try dsimp only at hSw)
    go_simp
    try with_reducible rfl
  try simp only [Act.put, List.setIfInBounds_toArray, List.set_cons_zero, List.set_cons_succ]
  refine region_call 11 rfl (by kernel_rfl) (by rfl) (fun K hK => ?_)
  have HWW := Lib.hid (HW.out _ HT1.out)
  have k0 := HWW.out.cell 0
  have k1 := HWW.out.cell 1
  have l0 := HWW.out.frozen 0
  have l1 := HWW.out.frozen 1
  replace k0 : w3.cell? ⟨w.heap.size + 1, 0, none⟩ = some (.int .i64 0) := k0
  replace k1 : w3.cell? ⟨w.heap.size + 1, 1, none⟩ = some (.int .i64 0) := k1
  go_simp
  refine hK.out _ _ (by have q := HS.out _ HT1.out; exact ((Only.cell (F := fun k => k = w.heap.size + 1) (((Only.refl (fun k => k = w.heap.size + 1) w3).set_ (.inl rfl) 0 (.int .i64 (na : Int))).set_ (.inl rfl) 1 (.int .i64 (nb : Int))) (p := ⟨w.heap.size, 0, none⟩) (World.block_lt_of_cell? _ _ q) (by simp))).trans q) (fun hHeld => ?_)
  clear hK K
  try simp only [Act.put, List.setIfInBounds_toArray, List.set_cons_zero, List.set_cons_succ]
  refine region_done (by kernel_rfl) ?_
  have HWF := Lib.hid (show Whole ((w3.setCell ⟨w.heap.size + 1, 0, none⟩ (.int .i64 (na : Int))).setCell ⟨w.heap.size + 1, 1, none⟩ (.int .i64 (nb : Int))) (w.heap.size + 1) #[.int .i64 (na : Int), .int .i64 (nb : Int)] 80 from (((HW.out _ HT1.out).set_ 0 (.int .i64 (na : Int))).set_ 1 (.int .i64 (nb : Int))))
  have HOF := Lib.hid (show Only (fun k => k = w.heap.size + 1) w3 ((w3.setCell ⟨w.heap.size + 1, 0, none⟩ (.int .i64 (na : Int))).setCell ⟨w.heap.size + 1, 1, none⟩ (.int .i64 (nb : Int))) from ((Only.refl (fun k => k = w.heap.size + 1) w3).set_ (.inl rfl) 0 (.int .i64 (na : Int))).set_ (.inl rfl) 1 (.int .i64 (nb : Int)))
  generalize ((w3.setCell ⟨w.heap.size + 1, 0, none⟩ (.int .i64 (na : Int))).setCell ⟨w.heap.size + 1, 1, none⟩ (.int .i64 (nb : Int))) = wf at *
  have r0 : wf.cell? ⟨w.heap.size + 1, 0, none⟩ = some (.int .i64 (na : Int)) := HWF.out.cell 0
  have r1 : wf.cell? ⟨w.heap.size + 1, 1, none⟩ = some (.int .i64 (nb : Int)) := HWF.out.cell 1
  clear k0 l0 k1 l1 HWW
  go_wp2_with fail
  refine bodyPost_ret (by simp [results, Tryz.results164, go_sem, r0, r1]; try rfl) rfl ?_
  refine ⟨((na : Int), (nb : Int)), rfl, by rw [HE.out], trivial, by rw [HE.out]; exact HRD1.out.only HOF.out fun k hk => by have := HG.out; omega, ?_⟩
  have h0 := (Touch.of_below (g := g) HB1.out).trans HT1.out
  refine ⟨HOF.out.os.trans h0.os, HOF.out.tape.trans h0.tape, HOF.out.output.trans h0.output, Nat.le_trans h0.size HOF.out.size, fun k' hk' hn => (HOF.out.block k' (Nat.lt_of_lt_of_le hk' h0.size) fun e => ?_).trans (h0.block k' hk' hn)⟩
  omega
theorem prim_visR (t : TypeId × Nat) (g : Nat) : VisR t g 164 #[.agg #[.pointer (some ⟨g, 0, none⟩)]] tPrim (fun x : Int × Int => .agg #[.int .i64 x.1, .int .i64 x.2]) (fun x : Int × Int => x) primS where
  enters := fun args w => by simp [go_sem]
  call := fun W s h => rprim_any t g s W h
set_option maxRecDepth 100000 in
set_option maxHeartbeats 8000000 in
theorem rorder_any (t : TypeId × Nat) (g : Nat) (s : St) (w : World) (h : Rd t w g s) :
    Calls Tryz.prog 160 #[.agg #[.pointer (some ⟨g, 0, none⟩)]] w (fun e w' => ∃ x : Node3, e = .returned ((fun x : Node3 => .agg #[.int .i64 x.1, .int .i64 x.2.1, .int .i64 x.2.2]) x) ∧ x = (ordS s).1 ∧ tOrd.own (fun k => w.heap.size ≤ k) w' x ∧ Rd t w' g (ordS s).2 ∧ Touch g w w') := by
  have hg := h.lt
  have hb1 : Below w.heap.size w ((w.alloc (.cells #[.pointer (some ⟨g, 0, none⟩)] 105)).alloc (.cells #[.int .i64 0, .int .i64 0, .int .i64 0] 118)).drew := (((Below.refl _ _).alloc (Nat.le_refl _) _).alloc (by simp) _).drew
  have hr := h.below hb1
  have hbx : Holds ((w.alloc (.cells #[.pointer (some ⟨g, 0, none⟩)] 105)).alloc (.cells #[.int .i64 0, .int .i64 0, .int .i64 0] 118)).drew (some ⟨w.heap.size, 0, none⟩) [.pointer (some ⟨g, 0, none⟩)] := (holds_at w #[.pointer (some ⟨g, 0, none⟩)] 105 _ rfl).alloc (.cells #[.int .i64 0, .int .i64 0, .int .i64 0] 118)
  have hwh : Whole ((w.alloc (.cells #[.pointer (some ⟨g, 0, none⟩)] 105)).alloc (.cells #[.int .i64 0, .int .i64 0, .int .i64 0] 118)).drew (w.heap.size + 1) #[.int .i64 0, .int .i64 0, .int .i64 0] 118 := by
    have q := Whole.new (w.alloc (.cells #[.pointer (some ⟨g, 0, none⟩)] 105)) #[.int .i64 0, .int .i64 0, .int .i64 0] 118
    rw [World.size_alloc] at q
    exact q
  obtain ⟨W0, hW0⟩ : ∃ W0, W0 = ((w.alloc (.cells #[.pointer (some ⟨g, 0, none⟩)] 105)).alloc (.cells #[.int .i64 0, .int .i64 0, .int .i64 0] 118)) := ⟨_, rfl⟩
  rw [← hW0] at hb1 hr hbx hwh
  obtain ⟨W1, hW1⟩ : ∃ W1, W1 = W0.drew := ⟨_, rfl⟩
  rw [← hW1] at hb1 hr hbx hwh
  have hsz : w.heap.size + 1 < W1.heap.size := hwh.lt
  have HS := Lib.hid (show ∀ W, Touch g W1 W → W.cell? ⟨w.heap.size, 0, none⟩ = some (.pointer (some ⟨g, 0, none⟩)) from fun W ht => by
    have := (hbx.only ht.only fun b o e hn => by cases e; omega).cell (j := 0) rfl
    rwa [Nat.zero_add] at this)
  have HW := Lib.hid (show ∀ W, Touch g W1 W → Whole W (w.heap.size + 1) #[.int .i64 0, .int .i64 0, .int .i64 0] 118 from fun W ht => hwh.only ht.only (by omega))
  have HB1 := Lib.hid hb1
  have HR1 := Lib.hid hr
  have HG := Lib.hid hg
  have HW0 := Lib.hid hW0
  have HWD := Lib.hid hW1
  obtain ⟨na, s1, hna⟩ : ∃ n s', numS 255 s = (n, s') := ⟨_, _, rfl⟩
  obtain ⟨ib, s2, hib⟩ : ∃ n s', signedS s1 = (n, s') := ⟨_, _, rfl⟩
  obtain ⟨nc, s3, hnc⟩ : ∃ n s', numS 255 s2 = (n, s') := ⟨_, _, rfl⟩
  have HE := Lib.hid (show ordS s = (((na : Int), ib, (nc : Int)), s3) from by simp only [ordS, hna, hib, hnc])
  have HC0 := Lib.hid (show ∀ W, Rd t W g s → Calls Tryz.prog 158 #[.pointer (some ⟨g, 0, none⟩), .int .i64 255] W (OReadPost t g W (.int .i64 (na : Int)) s1) from fun W hW => by
    have q := onum_any t g 255 s W hW (by omega) (by omega)
    rw [hna] at q
    exact q)
  have HC1 := Lib.hid (show ∀ W, Rd t W g s1 → Calls Tryz.prog 190 #[.pointer (some ⟨g, 0, none⟩)] W (OReadPost t g W (.int .i64 ib) s2) from fun W hW => by
    have q := osignedR_any t g s1 W hW
    rw [hib] at q
    exact q)
  have HC2 := Lib.hid (show ∀ W, Rd t W g s2 → Calls Tryz.prog 158 #[.pointer (some ⟨g, 0, none⟩), .int .i64 255] W (OReadPost t g W (.int .i64 (nc : Int)) s3) from fun W hW => by
    have q := onum_any t g 255 s2 W hW (by omega) (by omega)
    rw [hnc] at q
    exact q)
  clear h hb1 hr hbx hwh hg hW0 hW1 hna hib hnc
  go_enter Tryz.func160, Tryz.ntmps160
  go_wp2_with fail
  rw [← HW0.out]
  refine region_begin_any (S := fun W => W.cell? ⟨w.heap.size, 0, none⟩ = some (.pointer (some ⟨g, 0, none⟩))) (by kernel_rfl) (by rw [← HWD.out]; exact HS.out _ (Touch.refl _ _)) (fun W hW hHeld => ?_)
  rw [← HWD.out] at hW
  subst hW
  refine region_take 0 ?_ rfl (by kernel_rfl) (by rfl) hHeld ?_ ?_
  rotate_left
  · intro w hSw
    (try dsimp only at hSw)
    go_simp
    try with_reducible rfl
  try simp only [Act.put, List.setIfInBounds_toArray, List.set_cons_zero, List.set_cons_succ]
  refine region_take 1 ?_ rfl (by kernel_rfl) (by rfl) hHeld ?_ ?_
  rotate_left
  · intro w hSw
    (try dsimp only at hSw)
    go_simp
    try with_reducible rfl
  try simp only [Act.put, List.setIfInBounds_toArray, List.set_cons_zero, List.set_cons_succ]
  refine region_take 2 ?_ rfl (by kernel_rfl) (by rfl) hHeld ?_ ?_
  rotate_left
  · intro w hSw
    (try dsimp only at hSw)
    go_simp
    try with_reducible rfl
  try simp only [Act.put, List.setIfInBounds_toArray, List.set_cons_zero, List.set_cons_succ]
  refine region_take 3 ?_ rfl (by kernel_rfl) (by rfl) hHeld ?_ ?_
  rotate_left
  · intro w hSw
    (try dsimp only at hSw)
    go_simp
    try with_reducible rfl
  try simp only [Act.put, List.setIfInBounds_toArray, List.set_cons_zero, List.set_cons_succ]
  refine region_take 5 ?_ rfl (by kernel_rfl) (by rfl) hHeld ?_ ?_
  rotate_left
  · intro w hSw
    (try dsimp only at hSw)
    go_simp
    try with_reducible rfl
  try simp only [Act.put, List.setIfInBounds_toArray, List.set_cons_zero, List.set_cons_succ]
  refine region_take 6 ?_ rfl (by kernel_rfl) (by rfl) hHeld ?_ ?_
  rotate_left
  · intro w hSw
    (try dsimp only at hSw)
    go_simp
    try with_reducible rfl
  try simp only [Act.put, List.setIfInBounds_toArray, List.set_cons_zero, List.set_cons_succ]
  refine region_take 7 ?_ rfl (by kernel_rfl) (by rfl) hHeld ?_ ?_
  rotate_left
  · intro w hSw
    (try dsimp only at hSw)
    go_simp
    try with_reducible rfl
  try simp only [Act.put, List.setIfInBounds_toArray, List.set_cons_zero, List.set_cons_succ]
  refine region_take 8 ?_ rfl (by kernel_rfl) (by rfl) hHeld ?_ ?_
  rotate_left
  · intro w hSw
    (try dsimp only at hSw)
    go_simp
    try with_reducible rfl
  try simp only [Act.put, List.setIfInBounds_toArray, List.set_cons_zero, List.set_cons_succ]
  refine region_take 10 ?_ rfl (by kernel_rfl) (by rfl) hHeld ?_ ?_
  rotate_left
  · intro w hSw
    (try dsimp only at hSw)
    go_simp
    try with_reducible rfl
  try simp only [Act.put, List.setIfInBounds_toArray, List.set_cons_zero, List.set_cons_succ]
  refine region_take 11 ?_ rfl (by kernel_rfl) (by rfl) hHeld ?_ ?_
  rotate_left
  · intro w hSw
    (try dsimp only at hSw)
    go_simp
    try with_reducible rfl
  try simp only [Act.put, List.setIfInBounds_toArray, List.set_cons_zero, List.set_cons_succ]
  refine region_take 12 ?_ rfl (by kernel_rfl) (by rfl) hHeld ?_ ?_
  rotate_left
  · intro w hSw
    (try dsimp only at hSw)
    go_simp
    try with_reducible rfl
  try simp only [Act.put, List.setIfInBounds_toArray, List.set_cons_zero, List.set_cons_succ]
  refine region_take 13 ?_ rfl (by kernel_rfl) (by rfl) hHeld ?_ ?_
  rotate_left
  · intro w hSw
    (try dsimp only at hSw)
    go_simp
    try with_reducible rfl
  try simp only [Act.put, List.setIfInBounds_toArray, List.set_cons_zero, List.set_cons_succ]
  refine region_call 4 rfl (by kernel_rfl) (by rfl) (fun K hK => ?_)
  go_simp
  refine (HC0.out _ HR1.out).mono ?_
  rintro e w2 ⟨rfl, hrd, ht⟩
  have HRD0 := Lib.hid hrd
  have HT0 := Lib.hid (ht)
  clear hrd ht
  refine hK.out _ _ (HS.out _ HT0.out) (fun hHeld => ?_)
  clear hK K
  try simp only [Act.put, List.setIfInBounds_toArray, List.set_cons_zero, List.set_cons_succ]
  refine region_call 9 rfl (by kernel_rfl) (by rfl) (fun K hK => ?_)
  go_simp
  refine (HC1.out _ HRD0.out).mono ?_
  rintro e w3 ⟨rfl, hrd, ht⟩
  have HRD1 := Lib.hid hrd
  have HT1 := Lib.hid (HT0.out.trans ht)
  clear hrd ht
  refine hK.out _ _ (HS.out _ HT1.out) (fun hHeld => ?_)
  clear hK K
  try simp only [Act.put, List.setIfInBounds_toArray, List.set_cons_zero, List.set_cons_succ]
  refine region_call 14 rfl (by kernel_rfl) (by rfl) (fun K hK => ?_)
  go_simp
  refine (HC2.out _ HRD1.out).mono ?_
  rintro e w4 ⟨rfl, hrd, ht⟩
  have HRD2 := Lib.hid hrd
  have HT2 := Lib.hid (HT1.out.trans ht)
  clear hrd ht
  refine hK.out _ _ (HS.out _ HT2.out) (fun hHeld => ?_)
  clear hK K
  try simp only [Act.put, List.setIfInBounds_toArray, List.set_cons_zero, List.set_cons_succ]
  refine region_take 15 ?_ rfl (by kernel_rfl) (by rfl) hHeld ?_ ?_
  rotate_left
  · intro w hSw
    (try dsimp only at hSw)
    go_simp
    try with_reducible rfl
  try simp only [Act.put, List.setIfInBounds_toArray, List.set_cons_zero, List.set_cons_succ]
  refine region_call 16 rfl (by kernel_rfl) (by rfl) (fun K hK => ?_)
  have HWW := Lib.hid (HW.out _ HT2.out)
  have k0 := HWW.out.cell 0
  have k1 := HWW.out.cell 1
  have k2 := HWW.out.cell 2
  have l0 := HWW.out.frozen 0
  have l1 := HWW.out.frozen 1
  have l2 := HWW.out.frozen 2
  replace k0 : w4.cell? ⟨w.heap.size + 1, 0, none⟩ = some (.int .i64 0) := k0
  replace k1 : w4.cell? ⟨w.heap.size + 1, 1, none⟩ = some (.int .i64 0) := k1
  replace k2 : w4.cell? ⟨w.heap.size + 1, 2, none⟩ = some (.int .i64 0) := k2
  go_simp
  refine hK.out _ _ (by have q := HS.out _ HT2.out; exact ((Only.cell (F := fun k => k = w.heap.size + 1) ((((Only.refl (fun k => k = w.heap.size + 1) w4).set_ (.inl rfl) 0 (.int .i64 (na : Int))).set_ (.inl rfl) 1 (.int .i64 ib)).set_ (.inl rfl) 2 (.int .i64 (nc : Int))) (p := ⟨w.heap.size, 0, none⟩) (World.block_lt_of_cell? _ _ q) (by simp))).trans q) (fun hHeld => ?_)
  clear hK K
  try simp only [Act.put, List.setIfInBounds_toArray, List.set_cons_zero, List.set_cons_succ]
  refine region_done (by kernel_rfl) ?_
  have HWF := Lib.hid (show Whole (((w4.setCell ⟨w.heap.size + 1, 0, none⟩ (.int .i64 (na : Int))).setCell ⟨w.heap.size + 1, 1, none⟩ (.int .i64 ib)).setCell ⟨w.heap.size + 1, 2, none⟩ (.int .i64 (nc : Int))) (w.heap.size + 1) #[.int .i64 (na : Int), .int .i64 ib, .int .i64 (nc : Int)] 118 from ((((HW.out _ HT2.out).set_ 0 (.int .i64 (na : Int))).set_ 1 (.int .i64 ib)).set_ 2 (.int .i64 (nc : Int))))
  have HOF := Lib.hid (show Only (fun k => k = w.heap.size + 1) w4 (((w4.setCell ⟨w.heap.size + 1, 0, none⟩ (.int .i64 (na : Int))).setCell ⟨w.heap.size + 1, 1, none⟩ (.int .i64 ib)).setCell ⟨w.heap.size + 1, 2, none⟩ (.int .i64 (nc : Int))) from (((Only.refl (fun k => k = w.heap.size + 1) w4).set_ (.inl rfl) 0 (.int .i64 (na : Int))).set_ (.inl rfl) 1 (.int .i64 ib)).set_ (.inl rfl) 2 (.int .i64 (nc : Int)))
  generalize (((w4.setCell ⟨w.heap.size + 1, 0, none⟩ (.int .i64 (na : Int))).setCell ⟨w.heap.size + 1, 1, none⟩ (.int .i64 ib)).setCell ⟨w.heap.size + 1, 2, none⟩ (.int .i64 (nc : Int))) = wf at *
  have r0 : wf.cell? ⟨w.heap.size + 1, 0, none⟩ = some (.int .i64 (na : Int)) := HWF.out.cell 0
  have r1 : wf.cell? ⟨w.heap.size + 1, 1, none⟩ = some (.int .i64 ib) := HWF.out.cell 1
  have r2 : wf.cell? ⟨w.heap.size + 1, 2, none⟩ = some (.int .i64 (nc : Int)) := HWF.out.cell 2
  clear k0 l0 k1 l1 k2 l2 HWW
  go_wp2_with fail
  refine bodyPost_ret (by simp [results, Tryz.results160, go_sem, r0, r1, r2]; try rfl) rfl ?_
  refine ⟨((na : Int), ib, (nc : Int)), rfl, by rw [HE.out], trivial, by rw [HE.out]; exact HRD2.out.only HOF.out fun k hk => by have := HG.out; omega, ?_⟩
  have h0 := (Touch.of_below (g := g) HB1.out).trans HT2.out
  refine ⟨HOF.out.os.trans h0.os, HOF.out.tape.trans h0.tape, HOF.out.output.trans h0.output, Nat.le_trans h0.size HOF.out.size, fun k' hk' hn => (HOF.out.block k' (Nat.lt_of_lt_of_le hk' h0.size) fun e => ?_).trans (h0.block k' hk' hn)⟩
  omega
theorem order_visR (t : TypeId × Nat) (g : Nat) : VisR t g 160 #[.agg #[.pointer (some ⟨g, 0, none⟩)]] tOrd (fun x : Node3 => .agg #[.int .i64 x.1, .int .i64 x.2.1, .int .i64 x.2.2]) (fun x : Node3 => x) ordS where
  enters := fun args w => by simp [go_sem]
  call := fun W s h => rorder_any t g s W h
end Go.Proofs.YtfeodppdmbideaaGreatDoor
namespace Go.Proofs.YtfeodppdmbideaaGreatDoor
open Go.RowKit

noncomputable def ctorS (s : St) : CtorP × St := (⟨(allS rowS s).1, (allS rowS (allS rowS s).2).1⟩, (allS rowS (allS rowS s).2).2)
set_option maxRecDepth 100000 in
set_option maxHeartbeats 8000000 in
theorem rctor_any (t : TypeId × Nat) (g : Nat) (s : St) (w : World) (h : Rd t w g s) :
    Calls Tryz.prog 193 #[.agg #[.pointer (some ⟨g, 0, none⟩)]] w (fun e w' => ∃ x : CtorT, e = .returned x.val ∧ x.p = (ctorS s).1 ∧ tCtor.own (fun k => w.heap.size ≤ k) w' x ∧ Rd t w' g (ctorS s).2 ∧ Touch g w w') := by
  have hg := h.lt
  have hb1 : Below w.heap.size w ((w.alloc (.cells #[.pointer (some ⟨g, 0, none⟩)] 105)).alloc (.cells #[.slice none 0 0, .slice none 0 0] 62)).drew := (((Below.refl _ _).alloc (Nat.le_refl _) _).alloc (by simp) _).drew
  have hr := h.below hb1
  have hbx : Holds ((w.alloc (.cells #[.pointer (some ⟨g, 0, none⟩)] 105)).alloc (.cells #[.slice none 0 0, .slice none 0 0] 62)).drew (some ⟨w.heap.size, 0, none⟩) [.pointer (some ⟨g, 0, none⟩)] := (holds_at w #[.pointer (some ⟨g, 0, none⟩)] 105 _ rfl).alloc (.cells #[.slice none 0 0, .slice none 0 0] 62)
  have hwh : Whole ((w.alloc (.cells #[.pointer (some ⟨g, 0, none⟩)] 105)).alloc (.cells #[.slice none 0 0, .slice none 0 0] 62)).drew (w.heap.size + 1) #[.slice none 0 0, .slice none 0 0] 62 := by
    have q := Whole.new (w.alloc (.cells #[.pointer (some ⟨g, 0, none⟩)] 105)) #[.slice none 0 0, .slice none 0 0] 62
    rw [World.size_alloc] at q
    exact q
  obtain ⟨W0, hW0⟩ : ∃ W0, W0 = ((w.alloc (.cells #[.pointer (some ⟨g, 0, none⟩)] 105)).alloc (.cells #[.slice none 0 0, .slice none 0 0] 62)) := ⟨_, rfl⟩
  rw [← hW0] at hb1 hr hbx hwh
  obtain ⟨W1, hW1⟩ : ∃ W1, W1 = W0.drew := ⟨_, rfl⟩
  rw [← hW1] at hb1 hr hbx hwh
  have hsz : w.heap.size + 1 < W1.heap.size := hwh.lt
  have HS := Lib.hid (show ∀ W, Touch g W1 W → W.cell? ⟨w.heap.size, 0, none⟩ = some (.pointer (some ⟨g, 0, none⟩)) from fun W ht => by
    have := (hbx.only ht.only fun b o e hn => by cases e; omega).cell (j := 0) rfl
    rwa [Nat.zero_add] at this)
  have HW := Lib.hid (show ∀ W, Touch g W1 W → Whole W (w.heap.size + 1) #[.slice none 0 0, .slice none 0 0] 62 from fun W ht => hwh.only ht.only (by omega))
  have HB1 := Lib.hid hb1
  have HR1 := Lib.hid hr
  have HG := Lib.hid hg
  have HW0 := Lib.hid hW0
  have HWD := Lib.hid hW1
  obtain ⟨l1, s1, hl1⟩ : ∃ n s', allS rowS s = (n, s') := ⟨_, _, rfl⟩
  obtain ⟨l2, s2, hl2⟩ : ∃ n s', allS rowS s1 = (n, s') := ⟨_, _, rfl⟩
  have HE := Lib.hid (show ctorS s = (⟨l1, l2⟩, s2) from by simp only [ctorS, hl1, hl2])
  have HC0 := Lib.hid (show ∀ W, Rd t W g s → Calls Tryz.prog 191 #[.agg #[.pointer (some ⟨g, 0, none⟩)], .func (.func 116) #[.pointer (some ⟨g, 0, none⟩)] #[]] W (ReadL tRow 28 1 (fun x : RowT => x.2.2) t g (l1, s1) W) from fun W hW => by
    have q := rallT_any t g _ _ (fun x : RowT => x.2.2) rowS s W (row_visR t g) hW
    rw [hl1] at q
    exact q)
  have HC1 := Lib.hid (show ∀ W, Rd t W g s1 → Calls Tryz.prog 191 #[.agg #[.pointer (some ⟨g, 0, none⟩)], .func (.func 116) #[.pointer (some ⟨g, 0, none⟩)] #[]] W (ReadL tRow 28 1 (fun x : RowT => x.2.2) t g (l2, s2) W) from fun W hW => by
    have q := rallT_any t g _ _ (fun x : RowT => x.2.2) rowS s1 W (row_visR t g) hW
    rw [hl2] at q
    exact q)
  clear h hb1 hr hbx hwh hg hW0 hW1 hl1 hl2
  go_enter Tryz.func193, Tryz.ntmps193
  go_wp2_with fail
  rw [← HW0.out]
  refine region_begin_any (S := fun W => W.cell? ⟨w.heap.size, 0, none⟩ = some (.pointer (some ⟨g, 0, none⟩))) (by kernel_rfl) (by rw [← HWD.out]; exact HS.out _ (Touch.refl _ _)) (fun W hW hHeld => ?_)
  rw [← HWD.out] at hW
  subst hW
  refine region_take 0 ?_ rfl (by kernel_rfl) (by rfl) hHeld ?_ ?_
  rotate_left
  · intro w hSw
    (try dsimp only at hSw)
    go_simp
    try with_reducible rfl
  try simp only [Act.put, List.setIfInBounds_toArray, List.set_cons_zero, List.set_cons_succ]
  refine region_take 1 ?_ rfl (by kernel_rfl) (by rfl) hHeld ?_ ?_
  rotate_left
  · intro w hSw
    (try dsimp only at hSw)
    go_simp
    try with_reducible rfl
  try simp only [Act.put, List.setIfInBounds_toArray, List.set_cons_zero, List.set_cons_succ]
  refine region_take 2 ?_ rfl (by kernel_rfl) (by rfl) hHeld ?_ ?_
  rotate_left
  · intro w hSw
    (try dsimp only at hSw)
    go_simp
    try with_reducible rfl
  try simp only [Act.put, List.setIfInBounds_toArray, List.set_cons_zero, List.set_cons_succ]
  refine region_take 3 ?_ rfl (by kernel_rfl) (by rfl) hHeld ?_ ?_
  rotate_left
  · intro w hSw
    (try dsimp only at hSw)
    go_simp
    try with_reducible rfl
  try simp only [Act.put, List.setIfInBounds_toArray, List.set_cons_zero, List.set_cons_succ]
  refine region_take 5 ?_ rfl (by kernel_rfl) (by rfl) hHeld ?_ ?_
  rotate_left
  · intro w hSw
    (try dsimp only at hSw)
    go_simp
    try with_reducible rfl
  try simp only [Act.put, List.setIfInBounds_toArray, List.set_cons_zero, List.set_cons_succ]
  refine region_take 6 ?_ rfl (by kernel_rfl) (by rfl) hHeld ?_ ?_
  rotate_left
  · intro w hSw
    (try dsimp only at hSw)
    go_simp
    try with_reducible rfl
  try simp only [Act.put, List.setIfInBounds_toArray, List.set_cons_zero, List.set_cons_succ]
  refine region_take 7 ?_ rfl (by kernel_rfl) (by rfl) hHeld ?_ ?_
  rotate_left
  · intro w hSw
    (try dsimp only at hSw)
    go_simp
    try with_reducible rfl
  try simp only [Act.put, List.setIfInBounds_toArray, List.set_cons_zero, List.set_cons_succ]
  refine region_take 8 ?_ rfl (by kernel_rfl) (by rfl) hHeld ?_ ?_
  rotate_left
  · intro w hSw
    (try dsimp only at hSw)
    go_simp
    try with_reducible rfl
  try simp only [Act.put, List.setIfInBounds_toArray, List.set_cons_zero, List.set_cons_succ]
  refine region_call 4 rfl (by kernel_rfl) (by rfl) (fun K hK => ?_)
  go_simp
  refine (HC0.out _ HR1.out).mono ?_
  rintro e w2 ⟨⟨xA, xc, xl⟩, rfl, hrep, hown, hrd, ht⟩
  try dsimp only
  have HPx := Lib.hid hrep
  have HOx := Lib.hid hown
  clear hrep hown
  have HRD0 := Lib.hid hrd
  have HT0 := Lib.hid (ht)
  have HTS0 := Lib.hid ht
  clear hrd ht
  refine hK.out _ _ (HS.out _ HT0.out) (fun hHeld => ?_)
  clear hK K
  try simp only [Act.put, List.setIfInBounds_toArray, List.set_cons_zero, List.set_cons_succ]
  refine region_call 9 rfl (by kernel_rfl) (by rfl) (fun K hK => ?_)
  go_simp
  refine (HC1.out _ HRD0.out).mono ?_
  rintro e w3 ⟨⟨yA, yc, yl⟩, rfl, hrep, hown, hrd, ht⟩
  try dsimp only
  have HPy := Lib.hid hrep
  have HOy := Lib.hid hown
  clear hrep hown
  have HRD1 := Lib.hid hrd
  have HT1 := Lib.hid (HT0.out.trans ht)
  have HTS1 := Lib.hid ht
  clear hrd ht
  refine hK.out _ _ (HS.out _ HT1.out) (fun hHeld => ?_)
  clear hK K
  try simp only [Act.put, List.setIfInBounds_toArray, List.set_cons_zero, List.set_cons_succ]
  refine region_take 10 ?_ rfl (by kernel_rfl) (by rfl) hHeld ?_ ?_
  rotate_left
  · intro w hSw
    (try dsimp only at hSw)
    go_simp
    try with_reducible rfl
  try simp only [Act.put, List.setIfInBounds_toArray, List.set_cons_zero, List.set_cons_succ]
  refine region_call 11 rfl (by kernel_rfl) (by rfl) (fun K hK => ?_)
  have HWW := Lib.hid (HW.out _ HT1.out)
  have k0 := HWW.out.cell 0
  have k1 := HWW.out.cell 1
  have l0 := HWW.out.frozen 0
  have l1 := HWW.out.frozen 1
  replace k0 : w3.cell? ⟨w.heap.size + 1, 0, none⟩ = some (.slice none 0 0) := k0
  replace k1 : w3.cell? ⟨w.heap.size + 1, 1, none⟩ = some (.slice none 0 0) := k1
  go_simp
  refine hK.out _ _ (by have q := HS.out _ HT1.out; exact ((Only.cell (F := fun k => k = w.heap.size + 1) (((Only.refl (fun k => k = w.heap.size + 1) w3).set_ (.inl rfl) 0 (.slice xA xl.length xc)).set_ (.inl rfl) 1 (.slice yA yl.length yc)) (p := ⟨w.heap.size, 0, none⟩) (World.block_lt_of_cell? _ _ q) (by simp))).trans q) (fun hHeld => ?_)
  clear hK K
  try simp only [Act.put, List.setIfInBounds_toArray, List.set_cons_zero, List.set_cons_succ]
  refine region_done (by kernel_rfl) ?_
  have HWF := Lib.hid (show Whole ((w3.setCell ⟨w.heap.size + 1, 0, none⟩ (.slice xA xl.length xc)).setCell ⟨w.heap.size + 1, 1, none⟩ (.slice yA yl.length yc)) (w.heap.size + 1) #[.slice xA xl.length xc, .slice yA yl.length yc] 62 from (((HW.out _ HT1.out).set_ 0 (.slice xA xl.length xc)).set_ 1 (.slice yA yl.length yc)))
  have HOF := Lib.hid (show Only (fun k => k = w.heap.size + 1) w3 ((w3.setCell ⟨w.heap.size + 1, 0, none⟩ (.slice xA xl.length xc)).setCell ⟨w.heap.size + 1, 1, none⟩ (.slice yA yl.length yc)) from ((Only.refl (fun k => k = w.heap.size + 1) w3).set_ (.inl rfl) 0 (.slice xA xl.length xc)).set_ (.inl rfl) 1 (.slice yA yl.length yc))
  generalize ((w3.setCell ⟨w.heap.size + 1, 0, none⟩ (.slice xA xl.length xc)).setCell ⟨w.heap.size + 1, 1, none⟩ (.slice yA yl.length yc)) = wf at *
  have r0 : wf.cell? ⟨w.heap.size + 1, 0, none⟩ = some (.slice xA xl.length xc) := HWF.out.cell 0
  have r1 : wf.cell? ⟨w.heap.size + 1, 1, none⟩ = some (.slice yA yl.length yc) := HWF.out.cell 1
  have hgz := HG.out
  have z0 := HT0.out.size
  have z1 := HT1.out.size
  have FHOx := Lib.hid (OwnL.fit (F2 := fun k => w.heap.size ≤ k) (OwnL.only (OwnL.only HOx.out HTS1.out.only fun k hk e => by omega) HOF.out fun k hk e => by omega) fun k hk _ => by omega)
  have FHOy := Lib.hid (OwnL.fit (F2 := fun k => w.heap.size ≤ k) (OwnL.only HOy.out HOF.out fun k hk e => by omega) fun k hk _ => by omega)
  clear k0 l0 k1 l1 HWW z0 z1 hgz
  go_wp2_with fail
  refine bodyPost_ret (by simp [results, Tryz.results193, go_sem, r0, r1]; try rfl) rfl ?_
  have HRF : Rd t wf g _ := HRD1.out.only HOF.out fun k hk => by have := HG.out; omega
  have HTF : Touch g w wf := by
    have h0 := (Touch.of_below (g := g) HB1.out).trans HT1.out
    refine ⟨HOF.out.os.trans h0.os, HOF.out.tape.trans h0.tape, HOF.out.output.trans h0.output, Nat.le_trans h0.size HOF.out.size, fun k' hk' hn => (HOF.out.block k' (Nat.lt_of_lt_of_le hk' h0.size) fun e => ?_).trans (h0.block k' hk' hn)⟩
    omega
  refine ⟨⟨(xA, xc, xl), (yA, yc, yl)⟩, rfl, ?_, ⟨FHOx.out, FHOy.out⟩, by rw [HE.out]; exact HRF, HTF⟩
  rw [HE.out]
  show CtorP.mk _ _ = _
  rw [← HPx.out, ← HPy.out]
  rfl
theorem ctor_visR (t : TypeId × Nat) (g : Nat) : VisR t g 193 #[.agg #[.pointer (some ⟨g, 0, none⟩)]] tCtor (fun x : CtorT => x.val) CtorT.p ctorS where
  enters := fun args w => by simp [go_sem]
  call := fun W s h => rctor_any t g s W h
end Go.Proofs.YtfeodppdmbideaaGreatDoor
