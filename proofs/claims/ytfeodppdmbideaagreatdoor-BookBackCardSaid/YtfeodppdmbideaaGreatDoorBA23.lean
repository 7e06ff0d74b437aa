/- The way to the laws of books: BRbook to BRbook. -/
import Derived.Test.YtfeodppdmbideaaGreatDoorBA22
namespace Go.Proofs.YtfeodppdmbideaaGreatDoor
open Go.RowKit

noncomputable def bookS (s : St) : BookP × St :=
  let v := numS 255 s; let o := allS ordS v.2; let e := allS entS o.2; let n := numS 255 e.2; let p := allS primS n.2
  (⟨v.1, o.1, e.1, (n.1 : Int) - 1, p.1⟩, p.2)
noncomputable def progS (s : St) : ProgP × St := (⟨(bookS s).1, (rowS (bookS s).2).1, (rowS (rowS (bookS s).2).2).1⟩, (rowS (rowS (bookS s).2).2).2)
structure OwnB (F : Nat → Prop) (w : World) (b : BookT) : Prop where
  ords : OwnOs F w b.ords
  ents : OwnEs F w b.ents
  prims : OwnPs F w b.prims
theorem OwnB.only {F G : Nat → Prop} {w w' : World} {x : BookT} (h : OwnB F w x) (ho : Only G w w') (hF : ∀ k, F k → ¬ G k) : OwnB F w' x := ⟨OwnL.only h.ords ho hF, OwnL.only h.ents ho hF, OwnL.only h.prims ho hF⟩
theorem OwnB.fit {F F2 : Nat → Prop} {w : World} {x : BookT} (h : OwnB F w x) (hF : ∀ k, F k → k < w.heap.size → F2 k) : OwnB F2 w x := ⟨OwnL.fit h.ords hF, OwnL.fit h.ents hF, OwnL.fit h.prims hF⟩
structure OwnG (F : Nat → Prop) (w : World) (p : ProgT) : Prop where
  book : OwnB F w p.book
  main : OwnT F w p.main
  typ : OwnT F w p.typ
theorem OwnG.only {F G : Nat → Prop} {w w' : World} {x : ProgT} (h : OwnG F w x) (ho : Only G w w') (hF : ∀ k, F k → ¬ G k) : OwnG F w' x := ⟨h.book.only ho hF, tRow.only h.main ho hF, tRow.only h.typ ho hF⟩
theorem OwnG.fit {F F2 : Nat → Prop} {w : World} {x : ProgT} (h : OwnG F w x) (hF : ∀ k, F k → k < w.heap.size → F2 k) : OwnG F2 w x := ⟨h.book.fit hF, tRow.fit h.main hF, tRow.fit h.typ hF⟩
set_option maxRecDepth 100000 in
set_option maxHeartbeats 8000000 in
theorem rbook_any (t : TypeId × Nat) (g : Nat) (s : St) (w : World) (h : Rd t w g s) :
    Calls Tryz.prog 115 #[.agg #[.pointer (some ⟨g, 0, none⟩)]] w (fun e w' => ∃ x : BookT, e = .returned x.val ∧ x.p = (bookS s).1 ∧ OwnB (fun k => w.heap.size ≤ k) w' x ∧ Rd t w' g (bookS s).2 ∧ Touch g w w') := by
  have hg := h.lt
  have hb1 : Below w.heap.size w ((w.alloc (.cells #[.pointer (some ⟨g, 0, none⟩)] 105)).alloc (.cells #[.int .i64 0, .slice none 0 0, .slice none 0 0, .int .i64 0, .slice none 0 0] 26)).drew := (((Below.refl _ _).alloc (Nat.le_refl _) _).alloc (by simp) _).drew
  have hr := h.below hb1
  have hbx : Holds ((w.alloc (.cells #[.pointer (some ⟨g, 0, none⟩)] 105)).alloc (.cells #[.int .i64 0, .slice none 0 0, .slice none 0 0, .int .i64 0, .slice none 0 0] 26)).drew (some ⟨w.heap.size, 0, none⟩) [.pointer (some ⟨g, 0, none⟩)] := (holds_at w #[.pointer (some ⟨g, 0, none⟩)] 105 _ rfl).alloc (.cells #[.int .i64 0, .slice none 0 0, .slice none 0 0, .int .i64 0, .slice none 0 0] 26)
  have hwh : Whole ((w.alloc (.cells #[.pointer (some ⟨g, 0, none⟩)] 105)).alloc (.cells #[.int .i64 0, .slice none 0 0, .slice none 0 0, .int .i64 0, .slice none 0 0] 26)).drew (w.heap.size + 1) #[.int .i64 0, .slice none 0 0, .slice none 0 0, .int .i64 0, .slice none 0 0] 26 := by
    have q := Whole.new (w.alloc (.cells #[.pointer (some ⟨g, 0, none⟩)] 105)) #[.int .i64 0, .slice none 0 0, .slice none 0 0, .int .i64 0, .slice none 0 0] 26
    rw [World.size_alloc] at q
    exact q
  obtain ⟨W0, hW0⟩ : ∃ W0, W0 = ((w.alloc (.cells #[.pointer (some ⟨g, 0, none⟩)] 105)).alloc (.cells #[.int .i64 0, .slice none 0 0, .slice none 0 0, .int .i64 0, .slice none 0 0] 26)) := ⟨_, rfl⟩
  rw [← hW0] at hb1 hr hbx hwh
  obtain ⟨W1, hW1⟩ : ∃ W1, W1 = W0.drew := ⟨_, rfl⟩
  rw [← hW1] at hb1 hr hbx hwh
  have hsz : w.heap.size + 1 < W1.heap.size := hwh.lt
  have HS := Lib.hid (show ∀ W, Touch g W1 W → W.cell? ⟨w.heap.size, 0, none⟩ = some (.pointer (some ⟨g, 0, none⟩)) from fun W ht => by
    have := (hbx.only ht.only fun b o e hn => by cases e; omega).cell (j := 0) rfl
    rwa [Nat.zero_add] at this)
  have HW := Lib.hid (show ∀ W, Touch g W1 W → Whole W (w.heap.size + 1) #[.int .i64 0, .slice none 0 0, .slice none 0 0, .int .i64 0, .slice none 0 0] 26 from fun W ht => hwh.only ht.only (by omega))
  have HB1 := Lib.hid hb1
  have HR1 := Lib.hid hr
  have HG := Lib.hid hg
  have HW0 := Lib.hid hW0
  have HWD := Lib.hid hW1
  have hn255 := numS_le 255 (allS entS (allS ordS (numS 255 s).2).2).2
  obtain ⟨nv, s1, hnv⟩ : ∃ n s', numS 255 s = (n, s') := ⟨_, _, rfl⟩
  obtain ⟨l1, s2, hl1⟩ : ∃ n s', allS ordS s1 = (n, s') := ⟨_, _, rfl⟩
  obtain ⟨l2, s3, hl2⟩ : ∃ n s', allS entS s2 = (n, s') := ⟨_, _, rfl⟩
  obtain ⟨nn, s4, hnn⟩ : ∃ n s', numS 255 s3 = (n, s') := ⟨_, _, rfl⟩
  obtain ⟨l3, s5, hl3⟩ : ∃ n s', allS primS s4 = (n, s') := ⟨_, _, rfl⟩
  simp only [hnv, hl1, hl2, hnn] at hn255
  have hn9 : nn ≤ 255 := by simpa using hn255
  have hwr : IntKind.i64.wrap ((nn : Int) - 1) = (nn : Int) - 1 := IntWalk.i64_in ((nn : Int) - 1) (by omega)
  have HE := Lib.hid (show bookS s = (⟨(nv : Int), l1, l2, (nn : Int) - 1, l3⟩, s5) from by simp only [bookS, hnv, hl1, hl2, hnn, hl3])
  have HC0 := Lib.hid (show ∀ W, Rd t W g s → Calls Tryz.prog 158 #[.pointer (some ⟨g, 0, none⟩), .int .i64 255] W (OReadPost t g W (.int .i64 (nv : Int)) s1) from fun W hW => by
    have q := onum_any t g 255 s W hW (by omega) (by omega)
    rw [hnv] at q
    exact q)
  have HC1 := Lib.hid (show ∀ W, Rd t W g s1 → Calls Tryz.prog 159 #[.agg #[.pointer (some ⟨g, 0, none⟩)], .func (.func 160) #[.agg #[.pointer (some ⟨g, 0, none⟩)]] #[]] W (ReadL tOrd 118 3 (fun x : Node3 => x) t g (l1, s2) W) from fun W hW => by
    have q := rallO_any t g _ _ (fun x : Node3 => x) ordS s1 W (order_visR t g) hW
    rw [hl1] at q
    exact q)
  have HC2 := Lib.hid (show ∀ W, Rd t W g s2 → Calls Tryz.prog 161 #[.agg #[.pointer (some ⟨g, 0, none⟩)], .func (.func 162) #[.agg #[.pointer (some ⟨g, 0, none⟩)]] #[]] W (ReadL tEnt 60 7 EntT.p t g (l2, s3) W) from fun W hW => by
    have q := rallE_any t g _ _ EntT.p entS s2 W (entry_visR t g) hW
    rw [hl2] at q
    exact q)
  have HC3 := Lib.hid (show ∀ W, Rd t W g s3 → Calls Tryz.prog 158 #[.pointer (some ⟨g, 0, none⟩), .int .i64 255] W (OReadPost t g W (.int .i64 (nn : Int)) s4) from fun W hW => by
    have q := onum_any t g 255 s3 W hW (by omega) (by omega)
    rw [hnn] at q
    exact q)
  have HC4 := Lib.hid (show ∀ W, Rd t W g s4 → Calls Tryz.prog 163 #[.agg #[.pointer (some ⟨g, 0, none⟩)], .func (.func 164) #[.agg #[.pointer (some ⟨g, 0, none⟩)]] #[]] W (ReadL tPrim 80 2 (fun x : Int × Int => x) t g (l3, s5) W) from fun W hW => by
    have q := rallP_any t g _ _ (fun x : Int × Int => x) primS s4 W (prim_visR t g) hW
    rw [hl3] at q
    exact q)
  clear h hb1 hr hbx hwh hg hW0 hW1 hnv hl1 hl2 hnn hl3 hn255 hn9
  go_enter Tryz.func115, Tryz.ntmps115
  go_wp2_with fail
  rw [← HW0.out]
  refine region_begin_any (S := fun W => W.cell? ⟨w.heap.size, 0, none⟩ = some (.pointer (some ⟨g, 0, none⟩))) (by kernel_rfl) (by rw [← HWD.out]; exact HS.out _ (Touch.refl _ _)) (fun W hW hHeld => ?_)
  rw [← HWD.out] at hW
  subst hW
  refine region_take 0 ?_ rfl (by kernel_rfl) (by rfl) hHeld ?_ ?_
  rotate_left
  · intro w hSw
    (try dsimp only at hSw)
    go_simp
    try with_reducible rfl
  try simp only [Act.put, List.setIfInBounds_toArray, List.set_cons_zero, List.set_cons_succ]
  refine region_take 1 ?_ rfl (by kernel_rfl) (by rfl) hHeld ?_ ?_
  rotate_left
  · intro w hSw
    (try dsimp only at hSw)
    go_simp
    try with_reducible rfl
  try simp only [Act.put, List.setIfInBounds_toArray, List.set_cons_zero, List.set_cons_succ]
  refine region_take 2 ?_ rfl (by kernel_rfl) (by rfl) hHeld ?_ ?_
  rotate_left
  · intro w hSw
    (try dsimp only at hSw)
    go_simp
    try with_reducible rfl
  try simp only [Act.put, List.setIfInBounds_toArray, List.set_cons_zero, List.set_cons_succ]
  refine region_take 3 ?_ rfl (by kernel_rfl) (by rfl) hHeld ?_ ?_
  rotate_left
  · intro w hSw
    (try dsimp only at hSw)
    go_simp
    try with_reducible rfl
  try simp only [Act.put, List.setIfInBounds_toArray, List.set_cons_zero, List.set_cons_succ]
  refine region_take 5 ?_ rfl (by kernel_rfl) (by rfl) hHeld ?_ ?_
  rotate_left
  · intro w hSw
    (try dsimp only at hSw)
    go_simp
    try with_reducible rfl
  try simp only [Act.put, List.setIfInBounds_toArray, List.set_cons_zero, List.set_cons_succ]
  refine region_take 6 ?_ rfl (by kernel_rfl) (by rfl) hHeld ?_ ?_
  rotate_left
  · intro w hSw
    (try dsimp only at hSw)
    go_simp
    try with_reducible rfl
  try simp only [Act.put, List.setIfInBounds_toArray, List.set_cons_zero, List.set_cons_succ]
  refine region_take 7 ?_ rfl (by kernel_rfl) (by rfl) hHeld ?_ ?_
  rotate_left
  · intro w hSw
    (try dsimp only at hSw)
    go_simp
    try with_reducible rfl
  try simp only [Act.put, List.setIfInBounds_toArray, List.set_cons_zero, List.set_cons_succ]
  refine region_take 9 ?_ rfl (by kernel_rfl) (by rfl) hHeld ?_ ?_
  rotate_left
  · intro w hSw
    (try dsimp only at hSw)
    go_simp
    try with_reducible rfl
  try simp only [Act.put, List.setIfInBounds_toArray, List.set_cons_zero, List.set_cons_succ]
  refine region_take 10 ?_ rfl (by kernel_rfl) (by rfl) hHeld ?_ ?_
  rotate_left
  · intro w hSw
    (try dsimp only at hSw)
    go_simp
    try with_reducible rfl
  try simp only [Act.put, List.setIfInBounds_toArray, List.set_cons_zero, List.set_cons_succ]
  refine region_take 11 ?_ rfl (by kernel_rfl) (by rfl) hHeld ?_ ?_
  rotate_left
  · intro w hSw
    (try dsimp only at hSw)
    go_simp
    try with_reducible rfl
  try simp only [Act.put, List.setIfInBounds_toArray, List.set_cons_zero, List.set_cons_succ]
  refine region_take 13 ?_ rfl (by kernel_rfl) (by rfl) hHeld ?_ ?_
  rotate_left
  · intro w hSw
    (try dsimp only at hSw)
    go_simp
    try with_reducible rfl
  try simp only [Act.put, List.setIfInBounds_toArray, List.set_cons_zero, List.set_cons_succ]
  refine region_take 14 ?_ rfl (by kernel_rfl) (by rfl) hHeld ?_ ?_
  rotate_left
  · intro w hSw
    (try dsimp only at hSw)
    go_simp
    try with_reducible rfl
  try simp only [Act.put, List.setIfInBounds_toArray, List.set_cons_zero, List.set_cons_succ]
  refine region_take 15 ?_ rfl (by kernel_rfl) (by rfl) hHeld ?_ ?_
  rotate_left
  · intro w hSw
    (try dsimp only at hSw)
    go_simp
    try with_reducible rfl
  try simp only [Act.put, List.setIfInBounds_toArray, List.set_cons_zero, List.set_cons_succ]
  refine region_take 16 ?_ rfl (by kernel_rfl) (by rfl) hHeld ?_ ?_
  rotate_left
  · intro w hSw
    (try dsimp only at hSw)
    go_simp
    try with_reducible rfl
  try simp only [Act.put, List.setIfInBounds_toArray, List.set_cons_zero, List.set_cons_succ]
  refine region_take 19 ?_ rfl (by kernel_rfl) (by rfl) hHeld ?_ ?_
  rotate_left
  · intro w hSw
    (try dsimp only at hSw)
    go_simp
    try with_reducible rfl
  try simp only [Act.put, List.setIfInBounds_toArray, List.set_cons_zero, List.set_cons_succ]
  refine region_take 20 ?_ rfl (by kernel_rfl) (by rfl) hHeld ?_ ?_
  rotate_left
  · intro w hSw
    (try dsimp only at hSw)
    go_simp
    try with_reducible rfl
  try simp only [Act.put, List.setIfInBounds_toArray, List.set_cons_zero, List.set_cons_succ]
  refine region_take 21 ?_ rfl (by kernel_rfl) (by rfl) hHeld ?_ ?_
  rotate_left
  · intro w hSw
    (try dsimp only at hSw)
    go_simp
    try with_reducible rfl
  try simp only [Act.put, List.setIfInBounds_toArray, List.set_cons_zero, List.set_cons_succ]
  refine region_call 4 rfl (by kernel_rfl) (by rfl) (fun K hK => ?_)
  go_simp
  refine (HC0.out _ HR1.out).mono ?_
  rintro e w2 ⟨rfl, hrd, ht⟩
  have HRD0 := Lib.hid hrd
  have HT0 := Lib.hid (ht)
  have HTS0 := Lib.hid ht
  clear hrd ht
  refine hK.out _ _ (HS.out _ HT0.out) (fun hHeld => ?_)
  clear hK K
  try simp only [Act.put, List.setIfInBounds_toArray, List.set_cons_zero, List.set_cons_succ]
  refine region_call 8 rfl (by kernel_rfl) (by rfl) (fun K hK => ?_)
  go_simp
  refine (HC1.out _ HRD0.out).mono ?_
  rintro e w3 ⟨⟨oA, oc, ol⟩, rfl, hrep, hown, hrd, ht⟩
  try dsimp only
  have HPo := Lib.hid hrep
  have HOo := Lib.hid hown
  clear hrep hown
  have HRD1 := Lib.hid hrd
  have HT1 := Lib.hid (HT0.out.trans ht)
  have HTS1 := Lib.hid ht
  clear hrd ht
  refine hK.out _ _ (HS.out _ HT1.out) (fun hHeld => ?_)
  clear hK K
  try simp only [Act.put, List.setIfInBounds_toArray, List.set_cons_zero, List.set_cons_succ]
  refine region_call 12 rfl (by kernel_rfl) (by rfl) (fun K hK => ?_)
  go_simp
  refine (HC2.out _ HRD1.out).mono ?_
  rintro e w4 ⟨⟨nA, nc, nl⟩, rfl, hrep, hown, hrd, ht⟩
  try dsimp only
  have HPn := Lib.hid hrep
  have HOn := Lib.hid hown
  clear hrep hown
  have HRD2 := Lib.hid hrd
  have HT2 := Lib.hid (HT1.out.trans ht)
  have HTS2 := Lib.hid ht
  clear hrd ht
  refine hK.out _ _ (HS.out _ HT2.out) (fun hHeld => ?_)
  clear hK K
  try simp only [Act.put, List.setIfInBounds_toArray, List.set_cons_zero, List.set_cons_succ]
  refine region_call 17 rfl (by kernel_rfl) (by rfl) (fun K hK => ?_)
  go_simp
  refine (HC3.out _ HRD2.out).mono ?_
  rintro e w5 ⟨rfl, hrd, ht⟩
  have HRD3 := Lib.hid hrd
  have HT3 := Lib.hid (HT2.out.trans ht)
  have HTS3 := Lib.hid ht
  clear hrd ht
  refine hK.out _ _ (HS.out _ HT3.out) (fun hHeld => ?_)
  clear hK K
  try simp only [Act.put, List.setIfInBounds_toArray, List.set_cons_zero, List.set_cons_succ]
  refine region_take 18 ?_ rfl (by kernel_rfl) (by rfl) hHeld ?_ ?_
  rotate_left
  · intro w hSw
    (try dsimp only at hSw)
    go_simp
    try with_reducible rfl
  try simp only [Act.put, List.setIfInBounds_toArray, List.set_cons_zero, List.set_cons_succ]
  refine region_call 22 rfl (by kernel_rfl) (by rfl) (fun K hK => ?_)
  go_simp
  refine (HC4.out _ HRD3.out).mono ?_
  rintro e w6 ⟨⟨pA, pc, pl⟩, rfl, hrep, hown, hrd, ht⟩
  try dsimp only
  have HPp := Lib.hid hrep
  have HOp := Lib.hid hown
  clear hrep hown
  have HRD4 := Lib.hid hrd
  have HT4 := Lib.hid (HT3.out.trans ht)
  have HTS4 := Lib.hid ht
  clear hrd ht
  refine hK.out _ _ (HS.out _ HT4.out) (fun hHeld => ?_)
  clear hK K
  try simp only [Act.put, List.setIfInBounds_toArray, List.set_cons_zero, List.set_cons_succ]
  refine region_take 23 ?_ rfl (by kernel_rfl) (by rfl) hHeld ?_ ?_
  rotate_left
  · intro w hSw
    (try dsimp only at hSw)
    go_simp
    try with_reducible rfl
  try simp only [Act.put, List.setIfInBounds_toArray, List.set_cons_zero, List.set_cons_succ]
  refine region_call 24 rfl (by kernel_rfl) (by rfl) (fun K hK => ?_)
  have HWW := Lib.hid (HW.out _ HT4.out)
  have k0 := HWW.out.cell 0
  have k1 := HWW.out.cell 1
  have k2 := HWW.out.cell 2
  have k3 := HWW.out.cell 3
  have k4 := HWW.out.cell 4
  have l0 := HWW.out.frozen 0
  have l1 := HWW.out.frozen 1
  have l2 := HWW.out.frozen 2
  have l3 := HWW.out.frozen 3
  have l4 := HWW.out.frozen 4
  replace k0 : w6.cell? ⟨w.heap.size + 1, 0, none⟩ = some (.int .i64 0) := k0
  replace k1 : w6.cell? ⟨w.heap.size + 1, 1, none⟩ = some (.slice none 0 0) := k1
  replace k2 : w6.cell? ⟨w.heap.size + 1, 2, none⟩ = some (.slice none 0 0) := k2
  replace k3 : w6.cell? ⟨w.heap.size + 1, 3, none⟩ = some (.int .i64 0) := k3
  replace k4 : w6.cell? ⟨w.heap.size + 1, 4, none⟩ = some (.slice none 0 0) := k4
  go_simp
  refine hK.out _ _ (by have q := HS.out _ HT4.out; exact ((Only.cell (F := fun k => k = w.heap.size + 1) ((((((Only.refl (fun k => k = w.heap.size + 1) w6).set_ (.inl rfl) 0 (.int .i64 (nv : Int))).set_ (.inl rfl) 1 (.slice oA ol.length oc)).set_ (.inl rfl) 2 (.slice nA nl.length nc)).set_ (.inl rfl) 3 (.int .i64 ((nn : Int) - 1))).set_ (.inl rfl) 4 (.slice pA pl.length pc)) (p := ⟨w.heap.size, 0, none⟩) (World.block_lt_of_cell? _ _ q) (by simp))).trans q) (fun hHeld => ?_)
  clear hK K
  try simp only [Act.put, List.setIfInBounds_toArray, List.set_cons_zero, List.set_cons_succ]
  refine region_done (by kernel_rfl) ?_
  have HWF := Lib.hid (show Whole (((((w6.setCell ⟨w.heap.size + 1, 0, none⟩ (.int .i64 (nv : Int))).setCell ⟨w.heap.size + 1, 1, none⟩ (.slice oA ol.length oc)).setCell ⟨w.heap.size + 1, 2, none⟩ (.slice nA nl.length nc)).setCell ⟨w.heap.size + 1, 3, none⟩ (.int .i64 ((nn : Int) - 1))).setCell ⟨w.heap.size + 1, 4, none⟩ (.slice pA pl.length pc)) (w.heap.size + 1) #[.int .i64 (nv : Int), .slice oA ol.length oc, .slice nA nl.length nc, .int .i64 ((nn : Int) - 1), .slice pA pl.length pc] 26 from ((((((HW.out _ HT4.out).set_ 0 (.int .i64 (nv : Int))).set_ 1 (.slice oA ol.length oc)).set_ 2 (.slice nA nl.length nc)).set_ 3 (.int .i64 ((nn : Int) - 1))).set_ 4 (.slice pA pl.length pc)))
  have HOF := Lib.hid (show Only (fun k => k = w.heap.size + 1) w6 (((((w6.setCell ⟨w.heap.size + 1, 0, none⟩ (.int .i64 (nv : Int))).setCell ⟨w.heap.size + 1, 1, none⟩ (.slice oA ol.length oc)).setCell ⟨w.heap.size + 1, 2, none⟩ (.slice nA nl.length nc)).setCell ⟨w.heap.size + 1, 3, none⟩ (.int .i64 ((nn : Int) - 1))).setCell ⟨w.heap.size + 1, 4, none⟩ (.slice pA pl.length pc)) from (((((Only.refl (fun k => k = w.heap.size + 1) w6).set_ (.inl rfl) 0 (.int .i64 (nv : Int))).set_ (.inl rfl) 1 (.slice oA ol.length oc)).set_ (.inl rfl) 2 (.slice nA nl.length nc)).set_ (.inl rfl) 3 (.int .i64 ((nn : Int) - 1))).set_ (.inl rfl) 4 (.slice pA pl.length pc))
  generalize (((((w6.setCell ⟨w.heap.size + 1, 0, none⟩ (.int .i64 (nv : Int))).setCell ⟨w.heap.size + 1, 1, none⟩ (.slice oA ol.length oc)).setCell ⟨w.heap.size + 1, 2, none⟩ (.slice nA nl.length nc)).setCell ⟨w.heap.size + 1, 3, none⟩ (.int .i64 ((nn : Int) - 1))).setCell ⟨w.heap.size + 1, 4, none⟩ (.slice pA pl.length pc)) = wf at *
  have r0 : wf.cell? ⟨w.heap.size + 1, 0, none⟩ = some (.int .i64 (nv : Int)) := HWF.out.cell 0
  have r1 : wf.cell? ⟨w.heap.size + 1, 1, none⟩ = some (.slice oA ol.length oc) := HWF.out.cell 1
  have r2 : wf.cell? ⟨w.heap.size + 1, 2, none⟩ = some (.slice nA nl.length nc) := HWF.out.cell 2
  have r3 : wf.cell? ⟨w.heap.size + 1, 3, none⟩ = some (.int .i64 ((nn : Int) - 1)) := HWF.out.cell 3
  have r4 : wf.cell? ⟨w.heap.size + 1, 4, none⟩ = some (.slice pA pl.length pc) := HWF.out.cell 4
  have hgz := HG.out
  have z0 := HT0.out.size
  have z1 := HT1.out.size
  have z2 := HT2.out.size
  have z3 := HT3.out.size
  have z4 := HT4.out.size
  have FHOo := Lib.hid (OwnL.fit (F2 := fun k => w.heap.size ≤ k) (OwnL.only (OwnL.only (OwnL.only (OwnL.only HOo.out HTS2.out.only fun k hk e => by omega) HTS3.out.only fun k hk e => by omega) HTS4.out.only fun k hk e => by omega) HOF.out fun k hk e => by omega) fun k hk _ => by omega)
  have FHOn := Lib.hid (OwnL.fit (F2 := fun k => w.heap.size ≤ k) (OwnL.only (OwnL.only (OwnL.only HOn.out HTS3.out.only fun k hk e => by omega) HTS4.out.only fun k hk e => by omega) HOF.out fun k hk e => by omega) fun k hk _ => by omega)
  have FHOp := Lib.hid (OwnL.fit (F2 := fun k => w.heap.size ≤ k) (OwnL.only HOp.out HOF.out fun k hk e => by omega) fun k hk _ => by omega)
  clear k0 l0 k1 l1 k2 l2 k3 l3 k4 l4 HWW z0 z1 z2 z3 z4 hgz
  go_wp2_with fail
  refine bodyPost_ret (by simp [results, Tryz.results115, go_sem, r0, r1, r2, r3, r4]; try rfl) rfl ?_
  have HRF : Rd t wf g _ := HRD4.out.only HOF.out fun k hk => by have := HG.out; omega
  have HTF : Touch g w wf := by
    have h0 := (Touch.of_below (g := g) HB1.out).trans HT4.out
    refine ⟨HOF.out.os.trans h0.os, HOF.out.tape.trans h0.tape, HOF.out.output.trans h0.output, Nat.le_trans h0.size HOF.out.size, fun k' hk' hn => (HOF.out.block k' (Nat.lt_of_lt_of_le hk' h0.size) fun e => ?_).trans (h0.block k' hk' hn)⟩
    omega
  refine ⟨⟨(nv : Int), (oA, oc, ol), (nA, nc, nl), (nn : Int) - 1, (pA, pc, pl)⟩, rfl, ?_, ⟨FHOo.out, FHOn.out, FHOp.out⟩, by rw [HE.out]; exact HRF, HTF⟩
  rw [HE.out]
  show BookP.mk _ _ _ _ _ = _
  rw [← HPo.out, ← HPn.out, ← HPp.out]
  simp only [List.map_id']
set_option maxRecDepth 100000 in
set_option maxHeartbeats 8000000 in
theorem rprog_any (t : TypeId × Nat) (g : Nat) (s : St) (w : World) (h : Rd t w g s) :
    Calls Tryz.prog 64 #[.agg #[.pointer (some ⟨g, 0, none⟩)]] w (fun e w' => ∃ x : ProgT, e = .returned x.val ∧ x.p = (progS s).1 ∧ OwnG (fun k => w.heap.size ≤ k) w' x ∧ Rd t w' g (progS s).2 ∧ Touch g w w') := by
  have hg := h.lt
  have hb1 : Below w.heap.size w ((w.alloc (.cells #[.pointer (some ⟨g, 0, none⟩)] 105)).alloc (.cells #[.int .i64 0, .slice none 0 0, .slice none 0 0, .int .i64 0, .slice none 0 0, .slice none 0 0, .slice none 0 0] 46)).drew := (((Below.refl _ _).alloc (Nat.le_refl _) _).alloc (by simp) _).drew
  have hr := h.below hb1
  have hbx : Holds ((w.alloc (.cells #[.pointer (some ⟨g, 0, none⟩)] 105)).alloc (.cells #[.int .i64 0, .slice none 0 0, .slice none 0 0, .int .i64 0, .slice none 0 0, .slice none 0 0, .slice none 0 0] 46)).drew (some ⟨w.heap.size, 0, none⟩) [.pointer (some ⟨g, 0, none⟩)] := (holds_at w #[.pointer (some ⟨g, 0, none⟩)] 105 _ rfl).alloc (.cells #[.int .i64 0, .slice none 0 0, .slice none 0 0, .int .i64 0, .slice none 0 0, .slice none 0 0, .slice none 0 0] 46)
  have hwh : Whole ((w.alloc (.cells #[.pointer (some ⟨g, 0, none⟩)] 105)).alloc (.cells #[.int .i64 0, .slice none 0 0, .slice none 0 0, .int .i64 0, .slice none 0 0, .slice none 0 0, .slice none 0 0] 46)).drew (w.heap.size + 1) #[.int .i64 0, .slice none 0 0, .slice none 0 0, .int .i64 0, .slice none 0 0, .slice none 0 0, .slice none 0 0] 46 := by
    have q := Whole.new (w.alloc (.cells #[.pointer (some ⟨g, 0, none⟩)] 105)) #[.int .i64 0, .slice none 0 0, .slice none 0 0, .int .i64 0, .slice none 0 0, .slice none 0 0, .slice none 0 0] 46
    rw [World.size_alloc] at q
    exact q
  obtain ⟨W0, hW0⟩ : ∃ W0, W0 = ((w.alloc (.cells #[.pointer (some ⟨g, 0, none⟩)] 105)).alloc (.cells #[.int .i64 0, .slice none 0 0, .slice none 0 0, .int .i64 0, .slice none 0 0, .slice none 0 0, .slice none 0 0] 46)) := ⟨_, rfl⟩
  rw [← hW0] at hb1 hr hbx hwh
  obtain ⟨W1, hW1⟩ : ∃ W1, W1 = W0.drew := ⟨_, rfl⟩
  rw [← hW1] at hb1 hr hbx hwh
  have hsz : w.heap.size + 1 < W1.heap.size := hwh.lt
  have HS := Lib.hid (show ∀ W, Touch g W1 W → W.cell? ⟨w.heap.size, 0, none⟩ = some (.pointer (some ⟨g, 0, none⟩)) from fun W ht => by
    have := (hbx.only ht.only fun b o e hn => by cases e; omega).cell (j := 0) rfl
    rwa [Nat.zero_add] at this)
  have HW := Lib.hid (show ∀ W, Touch g W1 W → Whole W (w.heap.size + 1) #[.int .i64 0, .slice none 0 0, .slice none 0 0, .int .i64 0, .slice none 0 0, .slice none 0 0, .slice none 0 0] 46 from fun W ht => hwh.only ht.only (by omega))
  have HB1 := Lib.hid hb1
  have HR1 := Lib.hid hr
  have HG := Lib.hid hg
  have HW0 := Lib.hid hW0
  have HWD := Lib.hid hW1
  obtain ⟨b0, s1, hb0⟩ : ∃ n s', bookS s = (n, s') := ⟨_, _, rfl⟩
  obtain ⟨l1, s2, hl1⟩ : ∃ n s', rowS s1 = (n, s') := ⟨_, _, rfl⟩
  obtain ⟨l2, s3, hl2⟩ : ∃ n s', rowS s2 = (n, s') := ⟨_, _, rfl⟩
  have HE := Lib.hid (show progS s = (⟨b0, l1, l2⟩, s3) from by simp only [progS, hb0, hl1, hl2])
  have HC0 := Lib.hid (show ∀ W, Rd t W g s → Calls Tryz.prog 115 #[.agg #[.pointer (some ⟨g, 0, none⟩)]] W (fun e w' => ∃ x : BookT, e = .returned x.val ∧ x.p = b0 ∧ OwnB (fun k => W.heap.size ≤ k) w' x ∧ Rd t w' g s1 ∧ Touch g W w') from fun W hW => by
    have q := rbook_any t g s W hW
    rw [hb0] at q
    exact q)
  have HC1 := Lib.hid (show ∀ W, Rd t W g s1 → Calls Tryz.prog 116 #[.pointer (some ⟨g, 0, none⟩)] W (fun e w' => ∃ x : RowT, e = .returned (rowV x) ∧ x.2.2 = l1 ∧ OwnT (fun k => W.heap.size ≤ k) w' x ∧ Rd t w' g s2 ∧ Touch g W w') from fun W hW => by
    have q := (row_visR t g).call W s1 hW
    rw [hl1] at q
    exact q)
  have HC2 := Lib.hid (show ∀ W, Rd t W g s2 → Calls Tryz.prog 116 #[.pointer (some ⟨g, 0, none⟩)] W (fun e w' => ∃ x : RowT, e = .returned (rowV x) ∧ x.2.2 = l2 ∧ OwnT (fun k => W.heap.size ≤ k) w' x ∧ Rd t w' g s3 ∧ Touch g W w') from fun W hW => by
    have q := (row_visR t g).call W s2 hW
    rw [hl2] at q
    exact q)
  clear h hb1 hr hbx hwh hg hW0 hW1 hb0 hl1 hl2
  go_enter Tryz.func64, Tryz.ntmps64
  go_wp2_with fail
  rw [← HW0.out]
  refine region_begin_any (S := fun W => W.cell? ⟨w.heap.size, 0, none⟩ = some (.pointer (some ⟨g, 0, none⟩))) (by kernel_rfl) (by rw [← HWD.out]; exact HS.out _ (Touch.refl _ _)) (fun W hW hHeld => ?_)
  rw [← HWD.out] at hW
  subst hW
  refine region_take 0 ?_ rfl (by kernel_rfl) (by rfl) hHeld ?_ ?_
  rotate_left
  · intro w hSw
    (try dsimp only at hSw)
    go_simp
    try with_reducible rfl
  try simp only [Act.put, List.setIfInBounds_toArray, List.set_cons_zero, List.set_cons_succ]
  refine region_take 2 ?_ rfl (by kernel_rfl) (by rfl) hHeld ?_ ?_
  rotate_left
  · intro w hSw
    (try dsimp only at hSw)
    go_simp
    try with_reducible rfl
  try simp only [Act.put, List.setIfInBounds_toArray, List.set_cons_zero, List.set_cons_succ]
  refine region_take 3 ?_ rfl (by kernel_rfl) (by rfl) hHeld ?_ ?_
  rotate_left
  · intro w hSw
    (try dsimp only at hSw)
    go_simp
    try with_reducible rfl
  try simp only [Act.put, List.setIfInBounds_toArray, List.set_cons_zero, List.set_cons_succ]
  refine region_take 5 ?_ rfl (by kernel_rfl) (by rfl) hHeld ?_ ?_
  rotate_left
  · intro w hSw
    (try dsimp only at hSw)
    go_simp
    try with_reducible rfl
  try simp only [Act.put, List.setIfInBounds_toArray, List.set_cons_zero, List.set_cons_succ]
  refine region_take 6 ?_ rfl (by kernel_rfl) (by rfl) hHeld ?_ ?_
  rotate_left
  · intro w hSw
    (try dsimp only at hSw)
    go_simp
    try with_reducible rfl
  try simp only [Act.put, List.setIfInBounds_toArray, List.set_cons_zero, List.set_cons_succ]
  refine region_call 1 rfl (by kernel_rfl) (by rfl) (fun K hK => ?_)
  go_simp
  refine (HC0.out _ HR1.out).mono ?_
  rintro e w2 ⟨xb, rfl, hrep, hown, hrd, ht⟩
  simp only [BookT.val, entsV]
  have HPb := Lib.hid hrep
  have HOb := Lib.hid hown
  clear hrep hown
  have HRD0 := Lib.hid hrd
  have HT0 := Lib.hid (ht)
  have HTS0 := Lib.hid ht
  clear hrd ht
  refine hK.out _ _ (HS.out _ HT0.out) (fun hHeld => ?_)
  clear hK K
  try simp only [Act.put, List.setIfInBounds_toArray, List.set_cons_zero, List.set_cons_succ]
  refine region_call 4 rfl (by kernel_rfl) (by rfl) (fun K hK => ?_)
  go_simp
  refine (HC1.out _ HRD0.out).mono ?_
  rintro e w3 ⟨⟨yA, yc, yl⟩, rfl, hrep, hown, hrd, ht⟩
  simp only [rowV] at hrep ⊢
  have HPy := Lib.hid hrep
  have HOy := Lib.hid hown
  clear hrep hown
  have HRD1 := Lib.hid hrd
  have HT1 := Lib.hid (HT0.out.trans ht)
  have HTS1 := Lib.hid ht
  clear hrd ht
  refine hK.out _ _ (HS.out _ HT1.out) (fun hHeld => ?_)
  clear hK K
  try simp only [Act.put, List.setIfInBounds_toArray, List.set_cons_zero, List.set_cons_succ]
  refine region_call 7 rfl (by kernel_rfl) (by rfl) (fun K hK => ?_)
  go_simp
  refine (HC2.out _ HRD1.out).mono ?_
  rintro e w4 ⟨⟨zA, zc, zl⟩, rfl, hrep, hown, hrd, ht⟩
  simp only [rowV] at hrep ⊢
  have HPz := Lib.hid hrep
  have HOz := Lib.hid hown
  clear hrep hown
  have HRD2 := Lib.hid hrd
  have HT2 := Lib.hid (HT1.out.trans ht)
  have HTS2 := Lib.hid ht
  clear hrd ht
  refine hK.out _ _ (HS.out _ HT2.out) (fun hHeld => ?_)
  clear hK K
  try simp only [Act.put, List.setIfInBounds_toArray, List.set_cons_zero, List.set_cons_succ]
  refine region_take 8 ?_ rfl (by kernel_rfl) (by rfl) hHeld ?_ ?_
  rotate_left
  · intro w hSw
    (try dsimp only at hSw)
    go_simp
    try with_reducible rfl
  try simp only [Act.put, List.setIfInBounds_toArray, List.set_cons_zero, List.set_cons_succ]
  refine region_call 9 rfl (by kernel_rfl) (by rfl) (fun K hK => ?_)
  have HWW := Lib.hid (HW.out _ HT2.out)
  have k0 := HWW.out.cell 0
  have k1 := HWW.out.cell 1
  have k2 := HWW.out.cell 2
  have k3 := HWW.out.cell 3
  have k4 := HWW.out.cell 4
  have k5 := HWW.out.cell 5
  have k6 := HWW.out.cell 6
  have l0 := HWW.out.frozen 0
  have l1 := HWW.out.frozen 1
  have l2 := HWW.out.frozen 2
  have l3 := HWW.out.frozen 3
  have l4 := HWW.out.frozen 4
  have l5 := HWW.out.frozen 5
  have l6 := HWW.out.frozen 6
  replace k0 : w4.cell? ⟨w.heap.size + 1, 0, none⟩ = some (.int .i64 0) := k0
  replace k1 : w4.cell? ⟨w.heap.size + 1, 1, none⟩ = some (.slice none 0 0) := k1
  replace k2 : w4.cell? ⟨w.heap.size + 1, 2, none⟩ = some (.slice none 0 0) := k2
  replace k3 : w4.cell? ⟨w.heap.size + 1, 3, none⟩ = some (.int .i64 0) := k3
  replace k4 : w4.cell? ⟨w.heap.size + 1, 4, none⟩ = some (.slice none 0 0) := k4
  replace k5 : w4.cell? ⟨w.heap.size + 1, 5, none⟩ = some (.slice none 0 0) := k5
  replace k6 : w4.cell? ⟨w.heap.size + 1, 6, none⟩ = some (.slice none 0 0) := k6
  go_simp
  refine hK.out _ _ (by have q := HS.out _ HT2.out; exact ((Only.cell (F := fun k => k = w.heap.size + 1) ((((((((Only.refl (fun k => k = w.heap.size + 1) w4).set_ (.inl rfl) 0 (.int .i64 xb.vars)).set_ (.inl rfl) 1 (.slice xb.ords.1 xb.ords.2.2.length xb.ords.2.1)).set_ (.inl rfl) 2 (.slice xb.ents.1 xb.ents.2.2.length xb.ents.2.1)).set_ (.inl rfl) 3 (.int .i64 xb.nat)).set_ (.inl rfl) 4 (.slice xb.prims.1 xb.prims.2.2.length xb.prims.2.1)).set_ (.inl rfl) 5 (.slice yA yl.length yc)).set_ (.inl rfl) 6 (.slice zA zl.length zc)) (p := ⟨w.heap.size, 0, none⟩) (World.block_lt_of_cell? _ _ q) (by simp))).trans q) (fun hHeld => ?_)
  clear hK K
  try simp only [Act.put, List.setIfInBounds_toArray, List.set_cons_zero, List.set_cons_succ]
  refine region_done (by kernel_rfl) ?_
  have HWF := Lib.hid (show Whole (((((((w4.setCell ⟨w.heap.size + 1, 0, none⟩ (.int .i64 xb.vars)).setCell ⟨w.heap.size + 1, 1, none⟩ (.slice xb.ords.1 xb.ords.2.2.length xb.ords.2.1)).setCell ⟨w.heap.size + 1, 2, none⟩ (.slice xb.ents.1 xb.ents.2.2.length xb.ents.2.1)).setCell ⟨w.heap.size + 1, 3, none⟩ (.int .i64 xb.nat)).setCell ⟨w.heap.size + 1, 4, none⟩ (.slice xb.prims.1 xb.prims.2.2.length xb.prims.2.1)).setCell ⟨w.heap.size + 1, 5, none⟩ (.slice yA yl.length yc)).setCell ⟨w.heap.size + 1, 6, none⟩ (.slice zA zl.length zc)) (w.heap.size + 1) #[.int .i64 xb.vars, .slice xb.ords.1 xb.ords.2.2.length xb.ords.2.1, .slice xb.ents.1 xb.ents.2.2.length xb.ents.2.1, .int .i64 xb.nat, .slice xb.prims.1 xb.prims.2.2.length xb.prims.2.1, .slice yA yl.length yc, .slice zA zl.length zc] 46 from ((((((((HW.out _ HT2.out).set_ 0 (.int .i64 xb.vars)).set_ 1 (.slice xb.ords.1 xb.ords.2.2.length xb.ords.2.1)).set_ 2 (.slice xb.ents.1 xb.ents.2.2.length xb.ents.2.1)).set_ 3 (.int .i64 xb.nat)).set_ 4 (.slice xb.prims.1 xb.prims.2.2.length xb.prims.2.1)).set_ 5 (.slice yA yl.length yc)).set_ 6 (.slice zA zl.length zc)))
  have HOF := Lib.hid (show Only (fun k => k = w.heap.size + 1) w4 (((((((w4.setCell ⟨w.heap.size + 1, 0, none⟩ (.int .i64 xb.vars)).setCell ⟨w.heap.size + 1, 1, none⟩ (.slice xb.ords.1 xb.ords.2.2.length xb.ords.2.1)).setCell ⟨w.heap.size + 1, 2, none⟩ (.slice xb.ents.1 xb.ents.2.2.length xb.ents.2.1)).setCell ⟨w.heap.size + 1, 3, none⟩ (.int .i64 xb.nat)).setCell ⟨w.heap.size + 1, 4, none⟩ (.slice xb.prims.1 xb.prims.2.2.length xb.prims.2.1)).setCell ⟨w.heap.size + 1, 5, none⟩ (.slice yA yl.length yc)).setCell ⟨w.heap.size + 1, 6, none⟩ (.slice zA zl.length zc)) from (((((((Only.refl (fun k => k = w.heap.size + 1) w4).set_ (.inl rfl) 0 (.int .i64 xb.vars)).set_ (.inl rfl) 1 (.slice xb.ords.1 xb.ords.2.2.length xb.ords.2.1)).set_ (.inl rfl) 2 (.slice xb.ents.1 xb.ents.2.2.length xb.ents.2.1)).set_ (.inl rfl) 3 (.int .i64 xb.nat)).set_ (.inl rfl) 4 (.slice xb.prims.1 xb.prims.2.2.length xb.prims.2.1)).set_ (.inl rfl) 5 (.slice yA yl.length yc)).set_ (.inl rfl) 6 (.slice zA zl.length zc))
  generalize (((((((w4.setCell ⟨w.heap.size + 1, 0, none⟩ (.int .i64 xb.vars)).setCell ⟨w.heap.size + 1, 1, none⟩ (.slice xb.ords.1 xb.ords.2.2.length xb.ords.2.1)).setCell ⟨w.heap.size + 1, 2, none⟩ (.slice xb.ents.1 xb.ents.2.2.length xb.ents.2.1)).setCell ⟨w.heap.size + 1, 3, none⟩ (.int .i64 xb.nat)).setCell ⟨w.heap.size + 1, 4, none⟩ (.slice xb.prims.1 xb.prims.2.2.length xb.prims.2.1)).setCell ⟨w.heap.size + 1, 5, none⟩ (.slice yA yl.length yc)).setCell ⟨w.heap.size + 1, 6, none⟩ (.slice zA zl.length zc)) = wf at *
  have r0 : wf.cell? ⟨w.heap.size + 1, 0, none⟩ = some (.int .i64 xb.vars) := HWF.out.cell 0
  have r1 : wf.cell? ⟨w.heap.size + 1, 1, none⟩ = some (.slice xb.ords.1 xb.ords.2.2.length xb.ords.2.1) := HWF.out.cell 1
  have r2 : wf.cell? ⟨w.heap.size + 1, 2, none⟩ = some (.slice xb.ents.1 xb.ents.2.2.length xb.ents.2.1) := HWF.out.cell 2
  have r3 : wf.cell? ⟨w.heap.size + 1, 3, none⟩ = some (.int .i64 xb.nat) := HWF.out.cell 3
  have r4 : wf.cell? ⟨w.heap.size + 1, 4, none⟩ = some (.slice xb.prims.1 xb.prims.2.2.length xb.prims.2.1) := HWF.out.cell 4
  have r5 : wf.cell? ⟨w.heap.size + 1, 5, none⟩ = some (.slice yA yl.length yc) := HWF.out.cell 5
  have r6 : wf.cell? ⟨w.heap.size + 1, 6, none⟩ = some (.slice zA zl.length zc) := HWF.out.cell 6
  have hgz := HG.out
  have z0 := HT0.out.size
  have z1 := HT1.out.size
  have z2 := HT2.out.size
  have FHOb := Lib.hid (OwnB.fit (F2 := fun k => w.heap.size ≤ k) (OwnB.only (OwnB.only (OwnB.only HOb.out HTS1.out.only fun k hk e => by omega) HTS2.out.only fun k hk e => by omega) HOF.out fun k hk e => by omega) fun k hk _ => by omega)
  have FHOy := Lib.hid (tRow.fit (F2 := fun k => w.heap.size ≤ k) (tRow.only (tRow.only HOy.out HTS2.out.only fun k hk e => by omega) HOF.out fun k hk e => by omega) fun k hk _ => by omega)
  have FHOz := Lib.hid (tRow.fit (F2 := fun k => w.heap.size ≤ k) (tRow.only HOz.out HOF.out fun k hk e => by omega) fun k hk _ => by omega)
  clear k0 l0 k1 l1 k2 l2 k3 l3 k4 l4 k5 l5 k6 l6 HWW z0 z1 z2 hgz
  go_wp2_with fail
  refine bodyPost_ret (by simp [results, Tryz.results64, go_sem, r0, r1, r2, r3, r4, r5, r6]; try rfl) rfl ?_
  have HRF : Rd t wf g _ := HRD2.out.only HOF.out fun k hk => by have := HG.out; omega
  have HTF : Touch g w wf := by
    have h0 := (Touch.of_below (g := g) HB1.out).trans HT2.out
    refine ⟨HOF.out.os.trans h0.os, HOF.out.tape.trans h0.tape, HOF.out.output.trans h0.output, Nat.le_trans h0.size HOF.out.size, fun k' hk' hn => (HOF.out.block k' (Nat.lt_of_lt_of_le hk' h0.size) fun e => ?_).trans (h0.block k' hk' hn)⟩
    omega
  refine ⟨⟨xb, (yA, yc, yl), (zA, zc, zl)⟩, rfl, ?_, ⟨FHOb.out, FHOy.out, FHOz.out⟩, by rw [HE.out]; exact HRF, HTF⟩
  rw [HE.out]
  show ProgP.mk _ _ _ = _
  rw [← HPb.out, ← HPy.out, ← HPz.out]
end Go.Proofs.YtfeodppdmbideaaGreatDoor
