/- The way to the laws of books: BRent to BRent. -/
import Derived.Test.YtfeodppdmbideaaGreatDoorBA21
namespace Go.Proofs.YtfeodppdmbideaaGreatDoor
open Go.RowKit

noncomputable def entFam (s : St) : EntP × St := (⟨1, (rowS s).1, (allS rowS (rowS s).2).1, (allS rowS (allS rowS (rowS s).2).2).1, (allS ctorS (allS rowS (allS rowS (rowS s).2).2).2).1, [], []⟩, (allS ctorS (allS rowS (allS rowS (rowS s).2).2).2).2)
noncomputable def entDef (s : St) : EntP × St := (⟨2, [], [], [], [], (rowS s).1, (rowS (rowS s).2).1⟩, (rowS (rowS s).2).2)
noncomputable def entS (s : St) : EntP × St := if (numS 2 s).1 = 1 then entFam (numS 2 s).2 else if (numS 2 s).1 = 2 then entDef (numS 2 s).2 else (⟨0, [], [], [], [], [], []⟩, (numS (-1) (numS 2 s).2).2)
theorem touch_drew {g : Nat} {w w' : World} (h : Touch g w w') : Touch g w w'.drew := ⟨h.os, h.tape, h.output, h.size, h.block⟩
set_option maxRecDepth 100000 in
set_option maxHeartbeats 8000000 in
theorem rentry_any (t : TypeId × Nat) (g : Nat) (s : St) (w : World) (h : Rd t w g s) :
    Calls Tryz.prog 162 #[.agg #[.pointer (some ⟨g, 0, none⟩)]] w (fun e w' => ∃ x : EntT, e = .returned x.val ∧ x.p = (entS s).1 ∧ tEnt.own (fun k => w.heap.size ≤ k) w' x ∧ Rd t w' g (entS s).2 ∧ Touch g w w') := by
  have hg := h.lt
  have hb1 : Below w.heap.size w ((w.alloc (.cells #[.pointer (some ⟨g, 0, none⟩)] 105)).alloc (.cells #[.int .i64 0, .slice none 0 0, .slice none 0 0, .slice none 0 0, .slice none 0 0, .slice none 0 0, .slice none 0 0] 60)) := ((Below.refl _ _).alloc (Nat.le_refl _) _).alloc (by simp) _
  have hr := h.below hb1
  have hbx : Holds ((w.alloc (.cells #[.pointer (some ⟨g, 0, none⟩)] 105)).alloc (.cells #[.int .i64 0, .slice none 0 0, .slice none 0 0, .slice none 0 0, .slice none 0 0, .slice none 0 0, .slice none 0 0] 60)) (some ⟨w.heap.size, 0, none⟩) [.pointer (some ⟨g, 0, none⟩)] := (holds_at w #[.pointer (some ⟨g, 0, none⟩)] 105 _ rfl).alloc (.cells #[.int .i64 0, .slice none 0 0, .slice none 0 0, .slice none 0 0, .slice none 0 0, .slice none 0 0, .slice none 0 0] 60)
  have hwh : Whole ((w.alloc (.cells #[.pointer (some ⟨g, 0, none⟩)] 105)).alloc (.cells #[.int .i64 0, .slice none 0 0, .slice none 0 0, .slice none 0 0, .slice none 0 0, .slice none 0 0, .slice none 0 0] 60)) (w.heap.size + 1) #[.int .i64 0, .slice none 0 0, .slice none 0 0, .slice none 0 0, .slice none 0 0, .slice none 0 0, .slice none 0 0] 60 := by
    have q := Whole.new (w.alloc (.cells #[.pointer (some ⟨g, 0, none⟩)] 105)) #[.int .i64 0, .slice none 0 0, .slice none 0 0, .slice none 0 0, .slice none 0 0, .slice none 0 0, .slice none 0 0] 60
    rw [World.size_alloc] at q
    exact q
  obtain ⟨W1, hW1⟩ : ∃ W1, W1 = ((w.alloc (.cells #[.pointer (some ⟨g, 0, none⟩)] 105)).alloc (.cells #[.int .i64 0, .slice none 0 0, .slice none 0 0, .slice none 0 0, .slice none 0 0, .slice none 0 0, .slice none 0 0] 60)) := ⟨_, rfl⟩
  rw [← hW1] at hb1 hr hbx hwh
  have hsz : w.heap.size + 1 < W1.heap.size := hwh.lt
  have HS := Lib.hid (show ∀ W, Touch g W1 W → W.cell? ⟨w.heap.size, 0, none⟩ = some (.pointer (some ⟨g, 0, none⟩)) from fun W ht => by
    have := (hbx.only ht.only fun b o e hn => by cases e; omega).cell (j := 0) rfl
    rwa [Nat.zero_add] at this)
  have HW := Lib.hid (show ∀ W, Touch g W1 W → Whole W (w.heap.size + 1) #[.int .i64 0, .slice none 0 0, .slice none 0 0, .slice none 0 0, .slice none 0 0, .slice none 0 0, .slice none 0 0] 60 from fun W ht => hwh.only ht.only (by omega))
  have HB1 := Lib.hid hb1
  have HG := Lib.hid hg
  have HW1 := Lib.hid hW1
  have HN := Lib.hid (onum_any t g 2 s W1 hr (by omega) (by omega))
  have hn2 := numS_le 2 s
  obtain ⟨n, s1, hns⟩ : ∃ n s', numS 2 s = (n, s') := ⟨_, _, rfl⟩
  have HE : Hid (entS s = if n = 1 then entFam s1 else if n = 2 then entDef s1 else (⟨0, [], [], [], [], [], []⟩, (numS (-1) s1).2)) := Lib.hid (by simp only [entS, hns])
  rw [hns] at HN hn2
  simp only at HN hn2
  have hn3 : n ≤ 2 := by simpa using hn2
  rw [HE.out]
  clear h hb1 hr hbx hwh hg hW1 hns hn2 HE
  by_cases h1 : n = 1
  · subst h1
    rw [if_pos rfl]
    obtain ⟨l1, s2, hl1⟩ : ∃ n s', rowS s1 = (n, s') := ⟨_, _, rfl⟩
    obtain ⟨l2, s3, hl2⟩ : ∃ n s', allS rowS s2 = (n, s') := ⟨_, _, rfl⟩
    obtain ⟨l3, s4, hl3⟩ : ∃ n s', allS rowS s3 = (n, s') := ⟨_, _, rfl⟩
    obtain ⟨l4, s5, hl4⟩ : ∃ n s', allS ctorS s4 = (n, s') := ⟨_, _, rfl⟩
    have HE := Lib.hid (show entFam s1 = (⟨1, l1, l2, l3, l4, [], []⟩, s5) from by simp only [entFam, hl1, hl2, hl3, hl4])
    have HC0 := Lib.hid (show ∀ W, Rd t W g s1 → Calls Tryz.prog 116 #[.pointer (some ⟨g, 0, none⟩)] W (fun e w' => ∃ x : RowT, e = .returned (rowV x) ∧ x.2.2 = l1 ∧ OwnT (fun k => W.heap.size ≤ k) w' x ∧ Rd t w' g s2 ∧ Touch g W w') from fun W hW => by
      have q := (row_visR t g).call W s1 hW
      rw [hl1] at q
      exact q)
    have HC1 := Lib.hid (show ∀ W, Rd t W g s2 → Calls Tryz.prog 191 #[.agg #[.pointer (some ⟨g, 0, none⟩)], .func (.func 116) #[.pointer (some ⟨g, 0, none⟩)] #[]] W (ReadL tRow 28 1 (fun x : RowT => x.2.2) t g (l2, s3) W) from fun W hW => by
      have q := rallT_any t g _ _ (fun x : RowT => x.2.2) rowS s2 W (row_visR t g) hW
      rw [hl2] at q
      exact q)
    have HC2 := Lib.hid (show ∀ W, Rd t W g s3 → Calls Tryz.prog 191 #[.agg #[.pointer (some ⟨g, 0, none⟩)], .func (.func 116) #[.pointer (some ⟨g, 0, none⟩)] #[]] W (ReadL tRow 28 1 (fun x : RowT => x.2.2) t g (l3, s4) W) from fun W hW => by
      have q := rallT_any t g _ _ (fun x : RowT => x.2.2) rowS s3 W (row_visR t g) hW
      rw [hl3] at q
      exact q)
    have HC3 := Lib.hid (show ∀ W, Rd t W g s4 → Calls Tryz.prog 192 #[.agg #[.pointer (some ⟨g, 0, none⟩)], .func (.func 193) #[.agg #[.pointer (some ⟨g, 0, none⟩)]] #[]] W (ReadL tCtor 62 2 CtorT.p t g (l4, s5) W) from fun W hW => by
      have q := rallC_any t g _ _ CtorT.p ctorS s4 W (ctor_visR t g) hW
      rw [hl4] at q
      exact q)
    clear hl1 hl2 hl3 hl4
    go_enter Tryz.func162, Tryz.ntmps162
    go_wp2_with fail
    rw [← HW1.out]
    refine (HN.out).mono ?_
    rintro e w1 ⟨rfl, hrd, ht⟩
    have c1 := HS.out _ ht
    have HTZ := Lib.hid (touch_drew ht)
    have HRZ := Lib.hid (show Rd t w1.drew g s1 from hrd)
    clear hrd ht HN
    go_wp2_with fail
    refine region_begin_any (S := fun W => W.cell? ⟨w.heap.size, 0, none⟩ = some (.pointer (some ⟨g, 0, none⟩))) (by kernel_rfl) (HS.out _ HTZ.out) (fun W hW hHeld => ?_)
    rw [← hW] at HTZ HRZ
    clear hW c1
    refine region_take 0 ?_ rfl (by kernel_rfl) (by rfl) hHeld ?_ ?_
    rotate_left
    · intro w hSw
      (try dsimp only at hSw)
      go_simp
      try with_reducible rfl
    try simp only [Act.put, List.setIfInBounds_toArray, List.set_cons_zero, List.set_cons_succ]
    refine region_take 1 ?_ rfl (by kernel_rfl) (by rfl) hHeld ?_ ?_
    rotate_left
    · intro w hSw
      (try dsimp only at hSw)
      go_simp
      try with_reducible rfl
    try simp only [Act.put, List.setIfInBounds_toArray, List.set_cons_zero, List.set_cons_succ]
    refine region_take 2 ?_ rfl (by kernel_rfl) (by rfl) hHeld ?_ ?_
    rotate_left
    · intro w hSw
      (try dsimp only at hSw)
      go_simp
      try with_reducible rfl
    try simp only [Act.put, List.setIfInBounds_toArray, List.set_cons_zero, List.set_cons_succ]
    refine region_take 4 ?_ rfl (by kernel_rfl) (by rfl) hHeld ?_ ?_
    rotate_left
    · intro w hSw
      (try dsimp only at hSw)
      go_simp
      try with_reducible rfl
    try simp only [Act.put, List.setIfInBounds_toArray, List.set_cons_zero, List.set_cons_succ]
    refine region_take 5 ?_ rfl (by kernel_rfl) (by rfl) hHeld ?_ ?_
    rotate_left
    · intro w hSw
      (try dsimp only at hSw)
      go_simp
      try with_reducible rfl
    try simp only [Act.put, List.setIfInBounds_toArray, List.set_cons_zero, List.set_cons_succ]
    refine region_take 6 ?_ rfl (by kernel_rfl) (by rfl) hHeld ?_ ?_
    rotate_left
    · intro w hSw
      (try dsimp only at hSw)
      go_simp
      try with_reducible rfl
    try simp only [Act.put, List.setIfInBounds_toArray, List.set_cons_zero, List.set_cons_succ]
    refine region_take 7 ?_ rfl (by kernel_rfl) (by rfl) hHeld ?_ ?_
    rotate_left
    · intro w hSw
      (try dsimp only at hSw)
      go_simp
      try with_reducible rfl
    try simp only [Act.put, List.setIfInBounds_toArray, List.set_cons_zero, List.set_cons_succ]
    refine region_take 9 ?_ rfl (by kernel_rfl) (by rfl) hHeld ?_ ?_
    rotate_left
    · intro w hSw
      (try dsimp only at hSw)
      go_simp
      try with_reducible rfl
    try simp only [Act.put, List.setIfInBounds_toArray, List.set_cons_zero, List.set_cons_succ]
    refine region_take 10 ?_ rfl (by kernel_rfl) (by rfl) hHeld ?_ ?_
    rotate_left
    · intro w hSw
      (try dsimp only at hSw)
      go_simp
      try with_reducible rfl
    try simp only [Act.put, List.setIfInBounds_toArray, List.set_cons_zero, List.set_cons_succ]
    refine region_take 11 ?_ rfl (by kernel_rfl) (by rfl) hHeld ?_ ?_
    rotate_left
    · intro w hSw
      (try dsimp only at hSw)
      go_simp
      try with_reducible rfl
    try simp only [Act.put, List.setIfInBounds_toArray, List.set_cons_zero, List.set_cons_succ]
    refine region_take 12 ?_ rfl (by kernel_rfl) (by rfl) hHeld ?_ ?_
    rotate_left
    · intro w hSw
      (try dsimp only at hSw)
      go_simp
      try with_reducible rfl
    try simp only [Act.put, List.setIfInBounds_toArray, List.set_cons_zero, List.set_cons_succ]
    refine region_take 14 ?_ rfl (by kernel_rfl) (by rfl) hHeld ?_ ?_
    rotate_left
    · intro w hSw
      (try dsimp only at hSw)
      go_simp
      try with_reducible rfl
    try simp only [Act.put, List.setIfInBounds_toArray, List.set_cons_zero, List.set_cons_succ]
    refine region_take 15 ?_ rfl (by kernel_rfl) (by rfl) hHeld ?_ ?_
    rotate_left
    · intro w hSw
      (try dsimp only at hSw)
      go_simp
      try with_reducible rfl
    try simp only [Act.put, List.setIfInBounds_toArray, List.set_cons_zero, List.set_cons_succ]
    refine region_take 16 ?_ rfl (by kernel_rfl) (by rfl) hHeld ?_ ?_
    rotate_left
    · intro w hSw
      (try dsimp only at hSw)
      go_simp
      try with_reducible rfl
    try simp only [Act.put, List.setIfInBounds_toArray, List.set_cons_zero, List.set_cons_succ]
    refine region_call 3 rfl (by kernel_rfl) (by rfl) (fun K hK => ?_)
    go_simp
    refine (HC0.out _ HRZ.out).mono ?_
    rintro e w2 ⟨⟨xA, xc, xl⟩, rfl, hrep, hown, hrd, ht⟩
    simp only [rowV] at hrep ⊢
    have HPx := Lib.hid hrep
    have HOx := Lib.hid hown
    clear hrep hown
    have HRD0 := Lib.hid hrd
    have HT0 := Lib.hid (HTZ.out.trans ht)
    have HTS0 := Lib.hid ht
    clear hrd ht
    refine hK.out _ _ (HS.out _ HT0.out) (fun hHeld => ?_)
    clear hK K
    try simp only [Act.put, List.setIfInBounds_toArray, List.set_cons_zero, List.set_cons_succ]
    refine region_call 8 rfl (by kernel_rfl) (by rfl) (fun K hK => ?_)
    go_simp
    refine (HC1.out _ HRD0.out).mono ?_
    rintro e w3 ⟨⟨yA, yc, yl⟩, rfl, hrep, hown, hrd, ht⟩
    try dsimp only
    have HPy := Lib.hid hrep
    have HOy := Lib.hid hown
    clear hrep hown
    have HRD1 := Lib.hid hrd
    have HT1 := Lib.hid (HT0.out.trans ht)
    have HTS1 := Lib.hid ht
    clear hrd ht
    refine hK.out _ _ (HS.out _ HT1.out) (fun hHeld => ?_)
    clear hK K
    try simp only [Act.put, List.setIfInBounds_toArray, List.set_cons_zero, List.set_cons_succ]
    refine region_call 13 rfl (by kernel_rfl) (by rfl) (fun K hK => ?_)
    go_simp
    refine (HC2.out _ HRD1.out).mono ?_
    rintro e w4 ⟨⟨zA, zc, zl⟩, rfl, hrep, hown, hrd, ht⟩
    try dsimp only
    have HPz := Lib.hid hrep
    have HOz := Lib.hid hown
    clear hrep hown
    have HRD2 := Lib.hid hrd
    have HT2 := Lib.hid (HT1.out.trans ht)
    have HTS2 := Lib.hid ht
    clear hrd ht
    refine hK.out _ _ (HS.out _ HT2.out) (fun hHeld => ?_)
    clear hK K
    try simp only [Act.put, List.setIfInBounds_toArray, List.set_cons_zero, List.set_cons_succ]
    refine region_call 17 rfl (by kernel_rfl) (by rfl) (fun K hK => ?_)
    go_simp
    refine (HC3.out _ HRD2.out).mono ?_
    rintro e w5 ⟨⟨cA, cc, cl⟩, rfl, hrep, hown, hrd, ht⟩
    try dsimp only
    have HPc := Lib.hid hrep
    have HOc := Lib.hid hown
    clear hrep hown
    have HRD3 := Lib.hid hrd
    have HT3 := Lib.hid (HT2.out.trans ht)
    have HTS3 := Lib.hid ht
    clear hrd ht
    refine hK.out _ _ (HS.out _ HT3.out) (fun hHeld => ?_)
    clear hK K
    try simp only [Act.put, List.setIfInBounds_toArray, List.set_cons_zero, List.set_cons_succ]
    refine region_take 18 ?_ rfl (by kernel_rfl) (by rfl) hHeld ?_ ?_
    rotate_left
    · intro w hSw
      (try dsimp only at hSw)
      go_simp
      try with_reducible rfl
    try simp only [Act.put, List.setIfInBounds_toArray, List.set_cons_zero, List.set_cons_succ]
    refine region_call 19 rfl (by kernel_rfl) (by rfl) (fun K hK => ?_)
    have HWW := Lib.hid (HW.out _ HT3.out)
    have k0 := HWW.out.cell 0
    have k1 := HWW.out.cell 1
    have k2 := HWW.out.cell 2
    have k3 := HWW.out.cell 3
    have k4 := HWW.out.cell 4
    have k5 := HWW.out.cell 5
    have k6 := HWW.out.cell 6
    have l0 := HWW.out.frozen 0
    have l1 := HWW.out.frozen 1
    have l2 := HWW.out.frozen 2
    have l3 := HWW.out.frozen 3
    have l4 := HWW.out.frozen 4
    have l5 := HWW.out.frozen 5
    have l6 := HWW.out.frozen 6
    replace k0 : w5.cell? ⟨w.heap.size + 1, 0, none⟩ = some (.int .i64 0) := k0
    replace k1 : w5.cell? ⟨w.heap.size + 1, 1, none⟩ = some (.slice none 0 0) := k1
    replace k2 : w5.cell? ⟨w.heap.size + 1, 2, none⟩ = some (.slice none 0 0) := k2
    replace k3 : w5.cell? ⟨w.heap.size + 1, 3, none⟩ = some (.slice none 0 0) := k3
    replace k4 : w5.cell? ⟨w.heap.size + 1, 4, none⟩ = some (.slice none 0 0) := k4
    replace k5 : w5.cell? ⟨w.heap.size + 1, 5, none⟩ = some (.slice none 0 0) := k5
    replace k6 : w5.cell? ⟨w.heap.size + 1, 6, none⟩ = some (.slice none 0 0) := k6
    go_simp
    refine hK.out _ _ (by have q := HS.out _ HT3.out; exact ((Only.cell (F := fun k => k = w.heap.size + 1) ((((((((Only.refl (fun k => k = w.heap.size + 1) w5).set_ (.inl rfl) 0 (.int .i64 1)).set_ (.inl rfl) 1 (.slice xA xl.length xc)).set_ (.inl rfl) 2 (.slice yA yl.length yc)).set_ (.inl rfl) 3 (.slice zA zl.length zc)).set_ (.inl rfl) 4 (.slice cA cl.length cc)).set_ (.inl rfl) 5 (.slice none 0 0)).set_ (.inl rfl) 6 (.slice none 0 0)) (p := ⟨w.heap.size, 0, none⟩) (World.block_lt_of_cell? _ _ q) (by simp))).trans q) (fun hHeld => ?_)
    clear hK K
    try simp only [Act.put, List.setIfInBounds_toArray, List.set_cons_zero, List.set_cons_succ]
    refine region_done (by kernel_rfl) ?_
    have HWF := Lib.hid (show Whole (((((((w5.setCell ⟨w.heap.size + 1, 0, none⟩ (.int .i64 1)).setCell ⟨w.heap.size + 1, 1, none⟩ (.slice xA xl.length xc)).setCell ⟨w.heap.size + 1, 2, none⟩ (.slice yA yl.length yc)).setCell ⟨w.heap.size + 1, 3, none⟩ (.slice zA zl.length zc)).setCell ⟨w.heap.size + 1, 4, none⟩ (.slice cA cl.length cc)).setCell ⟨w.heap.size + 1, 5, none⟩ (.slice none 0 0)).setCell ⟨w.heap.size + 1, 6, none⟩ (.slice none 0 0)) (w.heap.size + 1) #[.int .i64 1, .slice xA xl.length xc, .slice yA yl.length yc, .slice zA zl.length zc, .slice cA cl.length cc, .slice none 0 0, .slice none 0 0] 60 from ((((((((HW.out _ HT3.out).set_ 0 (.int .i64 1)).set_ 1 (.slice xA xl.length xc)).set_ 2 (.slice yA yl.length yc)).set_ 3 (.slice zA zl.length zc)).set_ 4 (.slice cA cl.length cc)).set_ 5 (.slice none 0 0)).set_ 6 (.slice none 0 0)))
    have HOF := Lib.hid (show Only (fun k => k = w.heap.size + 1) w5 (((((((w5.setCell ⟨w.heap.size + 1, 0, none⟩ (.int .i64 1)).setCell ⟨w.heap.size + 1, 1, none⟩ (.slice xA xl.length xc)).setCell ⟨w.heap.size + 1, 2, none⟩ (.slice yA yl.length yc)).setCell ⟨w.heap.size + 1, 3, none⟩ (.slice zA zl.length zc)).setCell ⟨w.heap.size + 1, 4, none⟩ (.slice cA cl.length cc)).setCell ⟨w.heap.size + 1, 5, none⟩ (.slice none 0 0)).setCell ⟨w.heap.size + 1, 6, none⟩ (.slice none 0 0)) from (((((((Only.refl (fun k => k = w.heap.size + 1) w5).set_ (.inl rfl) 0 (.int .i64 1)).set_ (.inl rfl) 1 (.slice xA xl.length xc)).set_ (.inl rfl) 2 (.slice yA yl.length yc)).set_ (.inl rfl) 3 (.slice zA zl.length zc)).set_ (.inl rfl) 4 (.slice cA cl.length cc)).set_ (.inl rfl) 5 (.slice none 0 0)).set_ (.inl rfl) 6 (.slice none 0 0))
    generalize (((((((w5.setCell ⟨w.heap.size + 1, 0, none⟩ (.int .i64 1)).setCell ⟨w.heap.size + 1, 1, none⟩ (.slice xA xl.length xc)).setCell ⟨w.heap.size + 1, 2, none⟩ (.slice yA yl.length yc)).setCell ⟨w.heap.size + 1, 3, none⟩ (.slice zA zl.length zc)).setCell ⟨w.heap.size + 1, 4, none⟩ (.slice cA cl.length cc)).setCell ⟨w.heap.size + 1, 5, none⟩ (.slice none 0 0)).setCell ⟨w.heap.size + 1, 6, none⟩ (.slice none 0 0)) = wf at *
    have r0 : wf.cell? ⟨w.heap.size + 1, 0, none⟩ = some (.int .i64 1) := HWF.out.cell 0
    have r1 : wf.cell? ⟨w.heap.size + 1, 1, none⟩ = some (.slice xA xl.length xc) := HWF.out.cell 1
    have r2 : wf.cell? ⟨w.heap.size + 1, 2, none⟩ = some (.slice yA yl.length yc) := HWF.out.cell 2
    have r3 : wf.cell? ⟨w.heap.size + 1, 3, none⟩ = some (.slice zA zl.length zc) := HWF.out.cell 3
    have r4 : wf.cell? ⟨w.heap.size + 1, 4, none⟩ = some (.slice cA cl.length cc) := HWF.out.cell 4
    have r5 : wf.cell? ⟨w.heap.size + 1, 5, none⟩ = some (.slice none 0 0) := HWF.out.cell 5
    have r6 : wf.cell? ⟨w.heap.size + 1, 6, none⟩ = some (.slice none 0 0) := HWF.out.cell 6
    have hgz := HG.out
    have zz := HTZ.out.size
    have z0 := HT0.out.size
    have z1 := HT1.out.size
    have z2 := HT2.out.size
    have z3 := HT3.out.size
    have FHOx := Lib.hid (tRow.fit (F2 := fun k => w.heap.size ≤ k) (tRow.only (tRow.only (tRow.only (tRow.only HOx.out HTS1.out.only fun k hk e => by omega) HTS2.out.only fun k hk e => by omega) HTS3.out.only fun k hk e => by omega) HOF.out fun k hk e => by omega) fun k hk _ => by omega)
    have FHOy := Lib.hid (OwnL.fit (F2 := fun k => w.heap.size ≤ k) (OwnL.only (OwnL.only (OwnL.only HOy.out HTS2.out.only fun k hk e => by omega) HTS3.out.only fun k hk e => by omega) HOF.out fun k hk e => by omega) fun k hk _ => by omega)
    have FHOz := Lib.hid (OwnL.fit (F2 := fun k => w.heap.size ≤ k) (OwnL.only (OwnL.only HOz.out HTS3.out.only fun k hk e => by omega) HOF.out fun k hk e => by omega) fun k hk _ => by omega)
    have FHOc := Lib.hid (OwnL.fit (F2 := fun k => w.heap.size ≤ k) (OwnL.only HOc.out HOF.out fun k hk e => by omega) fun k hk _ => by omega)
    clear k0 l0 k1 l1 k2 l2 k3 l3 k4 l4 k5 l5 k6 l6 HWW z0 z1 z2 z3 zz hgz
    go_wp2_with fail
    refine bodyPost_ret (by simp [results, Tryz.results162, go_sem, r0, r1, r2, r3, r4, r5, r6]; try rfl) rfl ?_
    have HRF : Rd t wf g _ := HRD3.out.only HOF.out fun k hk => by have := HG.out; omega
    have HTF : Touch g w wf := by
      have h0 := (Touch.of_below (g := g) HB1.out).trans HT3.out
      refine ⟨HOF.out.os.trans h0.os, HOF.out.tape.trans h0.tape, HOF.out.output.trans h0.output, Nat.le_trans h0.size HOF.out.size, fun k' hk' hn => (HOF.out.block k' (Nat.lt_of_lt_of_le hk' h0.size) fun e => ?_).trans (h0.block k' hk' hn)⟩
      omega
    refine ⟨⟨1, (xA, xc, xl), (yA, yc, yl), (zA, zc, zl), (cA, cc, cl), (none, 0, []), (none, 0, [])⟩, rfl, ?_, ⟨FHOx.out, FHOy.out, FHOz.out, FHOc.out, own_nilT _ _, own_nilT _ _⟩, by rw [HE.out]; exact HRF, HTF⟩
    rw [HE.out]
    show EntP.mk _ _ _ _ _ _ _ = _
    rw [← HPx.out, ← HPy.out, ← HPz.out, ← HPc.out]
    rfl
  by_cases h2 : n = 2
  · subst h2
    rw [if_neg (by omega), if_pos rfl]
    obtain ⟨l1, s2, hl1⟩ : ∃ n s', rowS s1 = (n, s') := ⟨_, _, rfl⟩
    obtain ⟨l2, s3, hl2⟩ : ∃ n s', rowS s2 = (n, s') := ⟨_, _, rfl⟩
    have HE := Lib.hid (show entDef s1 = (⟨2, [], [], [], [], l1, l2⟩, s3) from by simp only [entDef, hl1, hl2])
    have HC0 := Lib.hid (show ∀ W, Rd t W g s1 → Calls Tryz.prog 116 #[.pointer (some ⟨g, 0, none⟩)] W (fun e w' => ∃ x : RowT, e = .returned (rowV x) ∧ x.2.2 = l1 ∧ OwnT (fun k => W.heap.size ≤ k) w' x ∧ Rd t w' g s2 ∧ Touch g W w') from fun W hW => by
      have q := (row_visR t g).call W s1 hW
      rw [hl1] at q
      exact q)
    have HC1 := Lib.hid (show ∀ W, Rd t W g s2 → Calls Tryz.prog 116 #[.pointer (some ⟨g, 0, none⟩)] W (fun e w' => ∃ x : RowT, e = .returned (rowV x) ∧ x.2.2 = l2 ∧ OwnT (fun k => W.heap.size ≤ k) w' x ∧ Rd t w' g s3 ∧ Touch g W w') from fun W hW => by
      have q := (row_visR t g).call W s2 hW
      rw [hl2] at q
      exact q)
    clear hl1 hl2
    go_enter Tryz.func162, Tryz.ntmps162
    go_wp2_with fail
    rw [← HW1.out]
    refine (HN.out).mono ?_
    rintro e w1 ⟨rfl, hrd, ht⟩
    have c1 := HS.out _ ht
    have HTZ := Lib.hid (touch_drew ht)
    have HRZ := Lib.hid (show Rd t w1.drew g s1 from hrd)
    clear hrd ht HN
    go_wp2_with fail
    refine region_begin_any (S := fun W => W.cell? ⟨w.heap.size, 0, none⟩ = some (.pointer (some ⟨g, 0, none⟩))) (by kernel_rfl) (HS.out _ HTZ.out) (fun W hW hHeld => ?_)
    rw [← hW] at HTZ HRZ
    clear hW c1
    refine region_take 0 ?_ rfl (by kernel_rfl) (by rfl) hHeld ?_ ?_
    rotate_left
    · intro w hSw
      (try dsimp only at hSw)
      go_simp
      try with_reducible rfl
    try simp only [Act.put, List.setIfInBounds_toArray, List.set_cons_zero, List.set_cons_succ]
    refine region_take 1 ?_ rfl (by kernel_rfl) (by rfl) hHeld ?_ ?_
    rotate_left
    · intro w hSw
      (try dsimp only at hSw)
      go_simp
      try with_reducible rfl
    try simp only [Act.put, List.setIfInBounds_toArray, List.set_cons_zero, List.set_cons_succ]
    refine region_take 2 ?_ rfl (by kernel_rfl) (by rfl) hHeld ?_ ?_
    rotate_left
    · intro w hSw
      (try dsimp only at hSw)
      go_simp
      try with_reducible rfl
    try simp only [Act.put, List.setIfInBounds_toArray, List.set_cons_zero, List.set_cons_succ]
    refine region_take 4 ?_ rfl (by kernel_rfl) (by rfl) hHeld ?_ ?_
    rotate_left
    · intro w hSw
      (try dsimp only at hSw)
      go_simp
      try with_reducible rfl
    try simp only [Act.put, List.setIfInBounds_toArray, List.set_cons_zero, List.set_cons_succ]
    refine region_take 5 ?_ rfl (by kernel_rfl) (by rfl) hHeld ?_ ?_
    rotate_left
    · intro w hSw
      (try dsimp only at hSw)
      go_simp
      try with_reducible rfl
    try simp only [Act.put, List.setIfInBounds_toArray, List.set_cons_zero, List.set_cons_succ]
    refine region_call 3 rfl (by kernel_rfl) (by rfl) (fun K hK => ?_)
    go_simp
    refine (HC0.out _ HRZ.out).mono ?_
    rintro e w2 ⟨⟨xA, xc, xl⟩, rfl, hrep, hown, hrd, ht⟩
    simp only [rowV] at hrep ⊢
    have HPx := Lib.hid hrep
    have HOx := Lib.hid hown
    clear hrep hown
    have HRD0 := Lib.hid hrd
    have HT0 := Lib.hid (HTZ.out.trans ht)
    have HTS0 := Lib.hid ht
    clear hrd ht
    refine hK.out _ _ (HS.out _ HT0.out) (fun hHeld => ?_)
    clear hK K
    try simp only [Act.put, List.setIfInBounds_toArray, List.set_cons_zero, List.set_cons_succ]
    refine region_call 6 rfl (by kernel_rfl) (by rfl) (fun K hK => ?_)
    go_simp
    refine (HC1.out _ HRD0.out).mono ?_
    rintro e w3 ⟨⟨yA, yc, yl⟩, rfl, hrep, hown, hrd, ht⟩
    simp only [rowV] at hrep ⊢
    have HPy := Lib.hid hrep
    have HOy := Lib.hid hown
    clear hrep hown
    have HRD1 := Lib.hid hrd
    have HT1 := Lib.hid (HT0.out.trans ht)
    have HTS1 := Lib.hid ht
    clear hrd ht
    refine hK.out _ _ (HS.out _ HT1.out) (fun hHeld => ?_)
    clear hK K
    try simp only [Act.put, List.setIfInBounds_toArray, List.set_cons_zero, List.set_cons_succ]
    refine region_take 7 ?_ rfl (by kernel_rfl) (by rfl) hHeld ?_ ?_
    rotate_left
    · intro w hSw
      (try dsimp only at hSw)
      go_simp
      try with_reducible rfl
    try simp only [Act.put, List.setIfInBounds_toArray, List.set_cons_zero, List.set_cons_succ]
    refine region_call 8 rfl (by kernel_rfl) (by rfl) (fun K hK => ?_)
    have HWW := Lib.hid (HW.out _ HT1.out)
    have k0 := HWW.out.cell 0
    have k1 := HWW.out.cell 1
    have k2 := HWW.out.cell 2
    have k3 := HWW.out.cell 3
    have k4 := HWW.out.cell 4
    have k5 := HWW.out.cell 5
    have k6 := HWW.out.cell 6
    have l0 := HWW.out.frozen 0
    have l1 := HWW.out.frozen 1
    have l2 := HWW.out.frozen 2
    have l3 := HWW.out.frozen 3
    have l4 := HWW.out.frozen 4
    have l5 := HWW.out.frozen 5
    have l6 := HWW.out.frozen 6
    replace k0 : w3.cell? ⟨w.heap.size + 1, 0, none⟩ = some (.int .i64 0) := k0
    replace k1 : w3.cell? ⟨w.heap.size + 1, 1, none⟩ = some (.slice none 0 0) := k1
    replace k2 : w3.cell? ⟨w.heap.size + 1, 2, none⟩ = some (.slice none 0 0) := k2
    replace k3 : w3.cell? ⟨w.heap.size + 1, 3, none⟩ = some (.slice none 0 0) := k3
    replace k4 : w3.cell? ⟨w.heap.size + 1, 4, none⟩ = some (.slice none 0 0) := k4
    replace k5 : w3.cell? ⟨w.heap.size + 1, 5, none⟩ = some (.slice none 0 0) := k5
    replace k6 : w3.cell? ⟨w.heap.size + 1, 6, none⟩ = some (.slice none 0 0) := k6
    go_simp
    refine hK.out _ _ (by have q := HS.out _ HT1.out; exact ((Only.cell (F := fun k => k = w.heap.size + 1) ((((((((Only.refl (fun k => k = w.heap.size + 1) w3).set_ (.inl rfl) 0 (.int .i64 2)).set_ (.inl rfl) 1 (.slice none 0 0)).set_ (.inl rfl) 2 (.slice none 0 0)).set_ (.inl rfl) 3 (.slice none 0 0)).set_ (.inl rfl) 4 (.slice none 0 0)).set_ (.inl rfl) 5 (.slice xA xl.length xc)).set_ (.inl rfl) 6 (.slice yA yl.length yc)) (p := ⟨w.heap.size, 0, none⟩) (World.block_lt_of_cell? _ _ q) (by simp))).trans q) (fun hHeld => ?_)
    clear hK K
    try simp only [Act.put, List.setIfInBounds_toArray, List.set_cons_zero, List.set_cons_succ]
    refine region_done (by kernel_rfl) ?_
    have HWF := Lib.hid (show Whole (((((((w3.setCell ⟨w.heap.size + 1, 0, none⟩ (.int .i64 2)).setCell ⟨w.heap.size + 1, 1, none⟩ (.slice none 0 0)).setCell ⟨w.heap.size + 1, 2, none⟩ (.slice none 0 0)).setCell ⟨w.heap.size + 1, 3, none⟩ (.slice none 0 0)).setCell ⟨w.heap.size + 1, 4, none⟩ (.slice none 0 0)).setCell ⟨w.heap.size + 1, 5, none⟩ (.slice xA xl.length xc)).setCell ⟨w.heap.size + 1, 6, none⟩ (.slice yA yl.length yc)) (w.heap.size + 1) #[.int .i64 2, .slice none 0 0, .slice none 0 0, .slice none 0 0, .slice none 0 0, .slice xA xl.length xc, .slice yA yl.length yc] 60 from ((((((((HW.out _ HT1.out).set_ 0 (.int .i64 2)).set_ 1 (.slice none 0 0)).set_ 2 (.slice none 0 0)).set_ 3 (.slice none 0 0)).set_ 4 (.slice none 0 0)).set_ 5 (.slice xA xl.length xc)).set_ 6 (.slice yA yl.length yc)))
    have HOF := Lib.hid (show Only (fun k => k = w.heap.size + 1) w3 (((((((w3.setCell ⟨w.heap.size + 1, 0, none⟩ (.int .i64 2)).setCell ⟨w.heap.size + 1, 1, none⟩ (.slice none 0 0)).setCell ⟨w.heap.size + 1, 2, none⟩ (.slice none 0 0)).setCell ⟨w.heap.size + 1, 3, none⟩ (.slice none 0 0)).setCell ⟨w.heap.size + 1, 4, none⟩ (.slice none 0 0)).setCell ⟨w.heap.size + 1, 5, none⟩ (.slice xA xl.length xc)).setCell ⟨w.heap.size + 1, 6, none⟩ (.slice yA yl.length yc)) from (((((((Only.refl (fun k => k = w.heap.size + 1) w3).set_ (.inl rfl) 0 (.int .i64 2)).set_ (.inl rfl) 1 (.slice none 0 0)).set_ (.inl rfl) 2 (.slice none 0 0)).set_ (.inl rfl) 3 (.slice none 0 0)).set_ (.inl rfl) 4 (.slice none 0 0)).set_ (.inl rfl) 5 (.slice xA xl.length xc)).set_ (.inl rfl) 6 (.slice yA yl.length yc))
    generalize (((((((w3.setCell ⟨w.heap.size + 1, 0, none⟩ (.int .i64 2)).setCell ⟨w.heap.size + 1, 1, none⟩ (.slice none 0 0)).setCell ⟨w.heap.size + 1, 2, none⟩ (.slice none 0 0)).setCell ⟨w.heap.size + 1, 3, none⟩ (.slice none 0 0)).setCell ⟨w.heap.size + 1, 4, none⟩ (.slice none 0 0)).setCell ⟨w.heap.size + 1, 5, none⟩ (.slice xA xl.length xc)).setCell ⟨w.heap.size + 1, 6, none⟩ (.slice yA yl.length yc)) = wf at *
    have r0 : wf.cell? ⟨w.heap.size + 1, 0, none⟩ = some (.int .i64 2) := HWF.out.cell 0
    have r1 : wf.cell? ⟨w.heap.size + 1, 1, none⟩ = some (.slice none 0 0) := HWF.out.cell 1
    have r2 : wf.cell? ⟨w.heap.size + 1, 2, none⟩ = some (.slice none 0 0) := HWF.out.cell 2
    have r3 : wf.cell? ⟨w.heap.size + 1, 3, none⟩ = some (.slice none 0 0) := HWF.out.cell 3
    have r4 : wf.cell? ⟨w.heap.size + 1, 4, none⟩ = some (.slice none 0 0) := HWF.out.cell 4
    have r5 : wf.cell? ⟨w.heap.size + 1, 5, none⟩ = some (.slice xA xl.length xc) := HWF.out.cell 5
    have r6 : wf.cell? ⟨w.heap.size + 1, 6, none⟩ = some (.slice yA yl.length yc) := HWF.out.cell 6
    have hgz := HG.out
    have zz := HTZ.out.size
    have z0 := HT0.out.size
    have z1 := HT1.out.size
    have FHOx := Lib.hid (tRow.fit (F2 := fun k => w.heap.size ≤ k) (tRow.only (tRow.only HOx.out HTS1.out.only fun k hk e => by omega) HOF.out fun k hk e => by omega) fun k hk _ => by omega)
    have FHOy := Lib.hid (tRow.fit (F2 := fun k => w.heap.size ≤ k) (tRow.only HOy.out HOF.out fun k hk e => by omega) fun k hk _ => by omega)
    clear k0 l0 k1 l1 k2 l2 k3 l3 k4 l4 k5 l5 k6 l6 HWW z0 z1 zz hgz
    go_wp2_with fail
    refine bodyPost_ret (by simp [results, Tryz.results162, go_sem, r0, r1, r2, r3, r4, r5, r6]; try rfl) rfl ?_
    have HRF : Rd t wf g _ := HRD1.out.only HOF.out fun k hk => by have := HG.out; omega
    have HTF : Touch g w wf := by
      have h0 := (Touch.of_below (g := g) HB1.out).trans HT1.out
      refine ⟨HOF.out.os.trans h0.os, HOF.out.tape.trans h0.tape, HOF.out.output.trans h0.output, Nat.le_trans h0.size HOF.out.size, fun k' hk' hn => (HOF.out.block k' (Nat.lt_of_lt_of_le hk' h0.size) fun e => ?_).trans (h0.block k' hk' hn)⟩
      omega
    refine ⟨⟨2, (none, 0, []), (none, 0, []), (none, 0, []), (none, 0, []), (xA, xc, xl), (yA, yc, yl)⟩, rfl, ?_, ⟨own_nilT _ _, own_nil _ _ _ _ _, own_nil _ _ _ _ _, own_nil _ _ _ _ _, FHOx.out, FHOy.out⟩, by rw [HE.out]; exact HRF, HTF⟩
    rw [HE.out]
    show EntP.mk _ _ _ _ _ _ _ = _
    rw [← HPx.out, ← HPy.out]
    rfl
  obtain rfl : n = 0 := by omega
  rw [if_neg (by omega), if_neg (by omega)]
  go_enter Tryz.func162, Tryz.ntmps162
  go_wp2_with fail
  rw [← HW1.out]
  refine (HN.out).mono ?_
  rintro e w1 ⟨rfl, hrd, ht⟩
  have c1 := HS.out _ ht
  have HTZ := Lib.hid ht
  have HN2 := Lib.hid (onum_any t g (-1) s1 w1 hrd (by omega) (by omega))
  clear hrd ht HN
  go_wp2_with fail
  refine (HN2.out).mono ?_
  rintro e w2 ⟨rfl, hrd, ht⟩
  have HT0 := Lib.hid (HTZ.out.trans ht)
  have HRD0 := Lib.hid hrd
  clear hrd ht c1
  have HWW := Lib.hid (HW.out _ HT0.out)
  have k0 := HWW.out.cell 0
  have k1 := HWW.out.cell 1
  have k2 := HWW.out.cell 2
  have k3 := HWW.out.cell 3
  have k4 := HWW.out.cell 4
  have k5 := HWW.out.cell 5
  have k6 := HWW.out.cell 6
  have l0 := HWW.out.frozen 0
  have l1 := HWW.out.frozen 1
  have l2 := HWW.out.frozen 2
  have l3 := HWW.out.frozen 3
  have l4 := HWW.out.frozen 4
  have l5 := HWW.out.frozen 5
  have l6 := HWW.out.frozen 6
  replace k0 : w2.cell? ⟨w.heap.size + 1, 0, none⟩ = some (.int .i64 0) := k0
  replace k1 : w2.cell? ⟨w.heap.size + 1, 1, none⟩ = some (.slice none 0 0) := k1
  replace k2 : w2.cell? ⟨w.heap.size + 1, 2, none⟩ = some (.slice none 0 0) := k2
  replace k3 : w2.cell? ⟨w.heap.size + 1, 3, none⟩ = some (.slice none 0 0) := k3
  replace k4 : w2.cell? ⟨w.heap.size + 1, 4, none⟩ = some (.slice none 0 0) := k4
  replace k5 : w2.cell? ⟨w.heap.size + 1, 5, none⟩ = some (.slice none 0 0) := k5
  replace k6 : w2.cell? ⟨w.heap.size + 1, 6, none⟩ = some (.slice none 0 0) := k6
  have HWF := Lib.hid (show Whole (((((((w2.setCell ⟨w.heap.size + 1, 0, none⟩ (.int .i64 0)).setCell ⟨w.heap.size + 1, 1, none⟩ (.slice none 0 0)).setCell ⟨w.heap.size + 1, 2, none⟩ (.slice none 0 0)).setCell ⟨w.heap.size + 1, 3, none⟩ (.slice none 0 0)).setCell ⟨w.heap.size + 1, 4, none⟩ (.slice none 0 0)).setCell ⟨w.heap.size + 1, 5, none⟩ (.slice none 0 0)).setCell ⟨w.heap.size + 1, 6, none⟩ (.slice none 0 0)) (w.heap.size + 1) #[.int .i64 0, .slice none 0 0, .slice none 0 0, .slice none 0 0, .slice none 0 0, .slice none 0 0, .slice none 0 0] 60 from ((((((((HW.out _ HT0.out).set_ 0 (.int .i64 0)).set_ 1 (.slice none 0 0)).set_ 2 (.slice none 0 0)).set_ 3 (.slice none 0 0)).set_ 4 (.slice none 0 0)).set_ 5 (.slice none 0 0)).set_ 6 (.slice none 0 0)))
  have HOF := Lib.hid (show Only (fun k => k = w.heap.size + 1) w2 (((((((w2.setCell ⟨w.heap.size + 1, 0, none⟩ (.int .i64 0)).setCell ⟨w.heap.size + 1, 1, none⟩ (.slice none 0 0)).setCell ⟨w.heap.size + 1, 2, none⟩ (.slice none 0 0)).setCell ⟨w.heap.size + 1, 3, none⟩ (.slice none 0 0)).setCell ⟨w.heap.size + 1, 4, none⟩ (.slice none 0 0)).setCell ⟨w.heap.size + 1, 5, none⟩ (.slice none 0 0)).setCell ⟨w.heap.size + 1, 6, none⟩ (.slice none 0 0)) from (((((((Only.refl (fun k => k = w.heap.size + 1) w2).set_ (.inl rfl) 0 (.int .i64 0)).set_ (.inl rfl) 1 (.slice none 0 0)).set_ (.inl rfl) 2 (.slice none 0 0)).set_ (.inl rfl) 3 (.slice none 0 0)).set_ (.inl rfl) 4 (.slice none 0 0)).set_ (.inl rfl) 5 (.slice none 0 0)).set_ (.inl rfl) 6 (.slice none 0 0))
  obtain ⟨wf, hwf⟩ : ∃ wf, wf = (((((((w2.setCell ⟨w.heap.size + 1, 0, none⟩ (.int .i64 0)).setCell ⟨w.heap.size + 1, 1, none⟩ (.slice none 0 0)).setCell ⟨w.heap.size + 1, 2, none⟩ (.slice none 0 0)).setCell ⟨w.heap.size + 1, 3, none⟩ (.slice none 0 0)).setCell ⟨w.heap.size + 1, 4, none⟩ (.slice none 0 0)).setCell ⟨w.heap.size + 1, 5, none⟩ (.slice none 0 0)).setCell ⟨w.heap.size + 1, 6, none⟩ (.slice none 0 0)) := ⟨_, rfl⟩
  rw [← hwf] at HWF HOF
  have r0 : wf.cell? ⟨w.heap.size + 1, 0, none⟩ = some (.int .i64 0) := HWF.out.cell 0
  have r1 : wf.cell? ⟨w.heap.size + 1, 1, none⟩ = some (.slice none 0 0) := HWF.out.cell 1
  have r2 : wf.cell? ⟨w.heap.size + 1, 2, none⟩ = some (.slice none 0 0) := HWF.out.cell 2
  have r3 : wf.cell? ⟨w.heap.size + 1, 3, none⟩ = some (.slice none 0 0) := HWF.out.cell 3
  have r4 : wf.cell? ⟨w.heap.size + 1, 4, none⟩ = some (.slice none 0 0) := HWF.out.cell 4
  have r5 : wf.cell? ⟨w.heap.size + 1, 5, none⟩ = some (.slice none 0 0) := HWF.out.cell 5
  have r6 : wf.cell? ⟨w.heap.size + 1, 6, none⟩ = some (.slice none 0 0) := HWF.out.cell 6
  have HWFE := Lib.hid hwf
  clear hwf
  go_wp2_with fail
  rw [← HWFE.out]
  refine bodyPost_ret (by simp [results, Tryz.results162, go_sem, r0, r1, r2, r3, r4, r5, r6]; try rfl) rfl ?_
  have HRF : Rd t wf g _ := HRD0.out.only HOF.out fun k hk => by have := HG.out; omega
  have HTF : Touch g w wf := by
    have h0 := (Touch.of_below (g := g) HB1.out).trans HT0.out
    refine ⟨HOF.out.os.trans h0.os, HOF.out.tape.trans h0.tape, HOF.out.output.trans h0.output, Nat.le_trans h0.size HOF.out.size, fun k' hk' hn => (HOF.out.block k' (Nat.lt_of_lt_of_le hk' h0.size) fun e => ?_).trans (h0.block k' hk' hn)⟩
    omega
  exact ⟨⟨0, (none, 0, []), (none, 0, []), (none, 0, []), (none, 0, []), (none, 0, []), (none, 0, [])⟩, rfl, rfl, ⟨own_nilT _ _, own_nil _ _ _ _ _, own_nil _ _ _ _ _, own_nil _ _ _ _ _, own_nilT _ _, own_nilT _ _⟩, HRF, HTF⟩
theorem entry_visR (t : TypeId × Nat) (g : Nat) : VisR t g 162 #[.agg #[.pointer (some ⟨g, 0, none⟩)]] tEnt (fun x : EntT => x.val) EntT.p entS where
  enters := fun args w => by simp [go_sem]
  call := fun W s h => rentry_any t g s W h
end Go.Proofs.YtfeodppdmbideaaGreatDoor
