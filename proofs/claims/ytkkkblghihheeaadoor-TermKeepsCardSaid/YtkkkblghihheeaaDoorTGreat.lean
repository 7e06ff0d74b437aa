/- The document's answer: Greatest. -/
import Derived.Test.YtkkkblghihheeaaDoorTFold
import Derived.Test.YtkkkblghihheeaaDoorTCount
import Derived.Test.YtkkkblghihheeaaDoorTRegion
namespace Go.Proofs.YtkkkblghihheeaaDoor
open Go.RowKit

theorem kid_cells {w : World} {g o : Nat} {l : List TV} {k : Nat} (h : Holds w (some ⟨g, o, none⟩) (treesV l)) (hk : k < l.length) : ∀ j u, l[k].cells[j]? = some u → w.cell? ⟨g, o + k * 6 + j, none⟩ = some u := by
  intro j u hu
  have hj : j < 6 := by
    have := (List.getElem?_eq_some_iff.1 hu).1
    simpa [TV.cells] using this
  have := h.cell (j := k * 6 + j) (u := u) (by rw [treesV_get hk hj]; exact hu)
  rwa [← Nat.add_assoc] at this
set_option maxRecDepth 100000 in
set_option maxHeartbeats 4000000 in
theorem greatest_any : ∀ (N : Nat) (v : TV) (a : Ann) (w : World) (G : Nat → Prop) (u : Nat), a.length ≤ N → TreeAt w G v a → SmallA a → u + 4 * a.length ≤ 4000000 →
    Calls Tryd.prog 56 #[v.val, .int .i64 (u : Int)] w fun e w' => e = .returned (.int .i64 (gr u a)) ∧ Below w.heap.size w w' := by
  intro N
  induction N with
  | zero =>
    intro v a w G u hN h
    cases h with
    | mk v ks ats fs hs hK hA hF hv sub => exact absurd hN (by simp [treeA])
  | succ N ih =>
    intro v a w G u hN h hsm hu
    cases h with
    | mk v ks ats fs hs hK hA hF hv sub =>
    obtain ⟨⟨op, A, B⟩, K, nk, ck, P, na, ca, F, nf, cf⟩ := v
    simp only at hN hsm hu hK hA hF
    have htop := hsm.top
    simp only at htop
    by_cases h1 : op = 1
    · obtain ⟨hk0, ha0, hz0⟩ := hs.var h1
      have e1 := List.eq_nil_of_length_eq_zero hk0
      have e2 := List.eq_nil_of_length_eq_zero ha0
      subst h1 e1 e2
      have HG : Hid (max (A - (u : Int)) (-1) = gr u (treeA (1, A, B) [] fs [])) := Lib.hid (by show _ = max (freeN (1, A, B) (0 + u)) (-1); simp [freeN])
      clear hs hK hA hF hv sub ih hN hsm
      dsimp only [TV.val]
      rw [List.map_nil, ← HG.out]
      go_enter Tryd.func56, Tryd.ntmps56
      go_wp2_with fail
      all_goals
        go_ret
        refine ⟨ret_int ?_, (Below.refl _ _).alloc (Nat.le_refl _) _⟩
        first | omega | (split <;> omega)
    · have e1 : (op == 1) = false := by simpa using h1
      have hfx := hs.fix
      have hnk := hs.nk
      simp only at hfx hnk
      subst hnk
      have HFX := Lib.hid (show (op, A, B).1 = 12 → 0 ≤ (op, A, B).2.2 from fun h => (hfx h).1)
      have hb0 : Below w.heap.size w (w.alloc (.cells #[.int .i64 op, .int .i64 A, .int .i64 B, .slice K ks.length ck, .slice P na ca, .slice F nf cf] 59)) := (Below.refl _ _).alloc (Nat.le_refl _) _
      have x0 := Whole.new w #[.int .i64 op, .int .i64 A, .int .i64 B, .slice K ks.length ck, .slice P na ca, .slice F nf cf] 59
      have HB0 := Lib.hid hb0
      have HX := Lib.hid x0
      have HSUB : Hid (∀ (k : Nat) (hk : k < ks.length) w1, Below w.heap.size w w1 → Calls Tryd.prog 56 #[TV.val ks[k].1, .int .i64 ((u : Int) + ((aroundN (op, A, B) k : Nat) : Int))] w1 fun e w' => e = .returned (.int .i64 (gr (u + aroundN (op, A, B) k) ks[k].2)) ∧ Below w1.heap.size w1 w') := Lib.hid fun k hk w1 hb => by
        have hm : ks[k].2 ∈ ks.map Prod.snd := List.mem_map.2 ⟨_, List.getElem_mem hk, rfl⟩
        have hl := treeA_len (n := (op, A, B)) (ats := ats) (fs := fs) hm
        have ha := around_le (n := (op, A, B)) (fun h => (hfx h).2.1) k
        have := ih ks[k].1 ks[k].2 w1 G (u + aroundN (op, A, B) k) (by omega) ((sub _ (List.getElem_mem hk)).next hb) (hsm.kid hm) (by omega)
        rwa [Int.natCast_add] at this
      have HSTEP : Hid (∀ (k : Nat) (hk : k < ks.length), (if gr u (treeA (op, A, B) ats fs ((ks.map Prod.snd).take k)) < gr (u + aroundN (op, A, B) k) ks[k].2 then gr (u + aroundN (op, A, B) k) ks[k].2 else gr u (treeA (op, A, B) ats fs ((ks.map Prod.snd).take k))) = gr u (treeA (op, A, B) ats fs ((ks.map Prod.snd).take (k + 1)))) := Lib.hid fun k hk => by
        unfold gr
        rw [top_step freeN_skip (by simpa using hk) (fun x hx => hv x (.inr hx))]
        simp only [List.getElem_map]
        split <;> omega
      have HST : Hid ((-1 : Int) = gr u (treeA (op, A, B) ats fs ((ks.map Prod.snd).take 0))) := Lib.hid (by
        unfold gr
        rw [List.take_zero, top_none freeN_skip (top_noVar h1 fun x hx => hv x (.inl hx))])
      have HEND : Hid (gr u (treeA (op, A, B) ats fs ((ks.map Prod.snd).take ks.length)) = gr u (treeA (op, A, B) ats fs (ks.map Prod.snd))) := Lib.hid (by rw [List.take_of_length_le (by simp)])
      have HAR : Hid (∀ k, aroundN (op, A, B) k ≤ 4) := Lib.hid (around_le (n := (op, A, B)) fun h => (hfx h).2.1)
      have hkl : ks.length ≤ 1000000 := by
        have := kids_count (n := (op, A, B)) (ats := ats) (fs := fs) sub
        omega
      have HK := Lib.hid hK.1
      have HSL := Lib.hid hs.sk
      clear hs hK hA hF hv sub ih hN hsm hfx hb0 x0
      dsimp only [TV.val]
      go_enter Tryd.func56, Tryd.ntmps56
      go_wp2_with fail
      go_loopw [5, 6] (fun m i wr => ∃ k : Nat, i = .int .i64 (k : Int) ∧ k ≤ ks.length ∧ m = .int .i64 (gr u (treeA (op, A, B) ats fs ((ks.map Prod.snd).take k))) ∧ Hid (Below (w.heap.size + 1) (w.alloc (.cells #[.int .i64 op, .int .i64 A, .int .i64 B, .slice K ks.length ck, .slice P na ca, .slice F nf cf] 59)) wr)) (fun _ i _ => ks.length - (intOf i).toNat)
      case atStart => exact ⟨0, rfl, Nat.zero_le _, by rw [← HST.out], Lib.hid (Below.refl _ _)⟩
      case round =>
        obtain ⟨k, rfl, hk, rfl, HBR⟩ := hrel
        have xr := HX.out.below HBR.out (by omega)
        have c0 : wr.cell? ⟨w.heap.size, 0, none⟩ = some (.int .i64 op) := xr.cell 0
        have c1 : wr.cell? ⟨w.heap.size, 1, none⟩ = some (.int .i64 A) := xr.cell 1
        have c2 : wr.cell? ⟨w.heap.size, 2, none⟩ = some (.int .i64 B) := xr.cell 2
        have c3 : wr.cell? ⟨w.heap.size, 3, none⟩ = some (.slice K ks.length ck) := xr.cell 3
        have HB := Lib.hid (HB0.out.trans (HBR.out.mono (by omega)))
        have HBD := Lib.hid (show Below w.heap.size w wr.drew from HB.out.trans (below_drewN (Below.refl _ _) 1))
        have HRD := Lib.hid (show ∀ w2, Below wr.drew.heap.size wr.drew w2 → Below (w.heap.size + 1) (w.alloc (.cells #[.int .i64 op, .int .i64 A, .int .i64 B, .slice K ks.length ck, .slice P na ca, .slice F nf cf] 59)) w2 from fun w2 hb => (HBR.out.trans (below_drewN (Below.refl _ _) 1)).trans (hb.mono (by have := HBR.out.size; rw [World.size_alloc] at this; exact this)))
        clear xr
        by_cases hlt : k < ks.length
        · obtain ⟨g, o, rfl, hg, -⟩ := (HK.out.below HB.out).at_ (by rw [treesV_len, List.length_map]; omega)
          have hcs := kid_cells (k := k) (HK.out.below HB.out) (by rw [List.length_map]; exact hlt)
          simp only [List.getElem_map] at hcs
          have HREC := Lib.hid (HSUB.out k hlt)
          have HS1 := Lib.hid (HSTEP.out k hlt)
          have hd4 := HAR.out k
          obtain ⟨d, hd⟩ : ∃ d, aroundN (op, A, B) k = d := ⟨_, rfl⟩
          rw [hd] at hd4 HREC HS1
          have HD := Lib.hid hd
          obtain ⟨x, hx⟩ : ∃ x, ks[k].1 = x := ⟨_, rfl⟩
          rw [hx] at hcs HREC
          clear hd hx
          obtain ⟨⟨xo, xA, xB⟩, xK, xnk, xck, xP, xnp, xcp, xF, xnf, xcf⟩ := x
          have r0 := hcs 0 _ rfl
          have r1 := hcs 1 _ rfl
          have r2 := hcs 2 _ rfl
          have r3 := hcs 3 _ rfl
          have r4 := hcs 4 _ rfl
          have r5 := hcs 5 _ rfl
          rw [Nat.add_zero] at r0
          have HKEEP : Hid (∀ W W' : World, Below W.heap.size W W' → (fun W => W.cell? ⟨w.heap.size, 0, none⟩ = some (.int .i64 op) ∧ W.cell? ⟨w.heap.size, 1, none⟩ = some (.int .i64 A) ∧ W.cell? ⟨w.heap.size, 2, none⟩ = some (.int .i64 B) ∧ W.cell? ⟨w.heap.size, 3, none⟩ = some (.slice (some ⟨g, o, none⟩) ks.length ck) ∧ W.cell? ⟨g, o + k * 6, none⟩ = some (.int .i64 xo) ∧ W.cell? ⟨g, o + k * 6 + 1, none⟩ = some (.int .i64 xA) ∧ W.cell? ⟨g, o + k * 6 + 2, none⟩ = some (.int .i64 xB) ∧ W.cell? ⟨g, o + k * 6 + 3, none⟩ = some (.slice xK xnk xck) ∧ W.cell? ⟨g, o + k * 6 + 4, none⟩ = some (.slice xP xnp xcp) ∧ W.cell? ⟨g, o + k * 6 + 5, none⟩ = some (.slice xF xnf xcf)) W → (fun W => W.cell? ⟨w.heap.size, 0, none⟩ = some (.int .i64 op) ∧ W.cell? ⟨w.heap.size, 1, none⟩ = some (.int .i64 A) ∧ W.cell? ⟨w.heap.size, 2, none⟩ = some (.int .i64 B) ∧ W.cell? ⟨w.heap.size, 3, none⟩ = some (.slice (some ⟨g, o, none⟩) ks.length ck) ∧ W.cell? ⟨g, o + k * 6, none⟩ = some (.int .i64 xo) ∧ W.cell? ⟨g, o + k * 6 + 1, none⟩ = some (.int .i64 xA) ∧ W.cell? ⟨g, o + k * 6 + 2, none⟩ = some (.int .i64 xB) ∧ W.cell? ⟨g, o + k * 6 + 3, none⟩ = some (.slice xK xnk xck) ∧ W.cell? ⟨g, o + k * 6 + 4, none⟩ = some (.slice xP xnp xcp) ∧ W.cell? ⟨g, o + k * 6 + 5, none⟩ = some (.slice xF xnf xcf)) W') := Lib.hid fun W W' hb ⟨h0, h1, h2, h3, h4, h5, h6, h7, h8, h9⟩ => ⟨(hb.cell (World.block_lt_of_cell? _ _ h0)).trans h0, (hb.cell (World.block_lt_of_cell? _ _ h1)).trans h1, (hb.cell (World.block_lt_of_cell? _ _ h2)).trans h2, (hb.cell (World.block_lt_of_cell? _ _ h3)).trans h3, (hb.cell (World.block_lt_of_cell? _ _ h4)).trans h4, (hb.cell (World.block_lt_of_cell? _ _ h5)).trans h5, (hb.cell (World.block_lt_of_cell? _ _ h6)).trans h6, (hb.cell (World.block_lt_of_cell? _ _ h7)).trans h7, (hb.cell (World.block_lt_of_cell? _ _ h8)).trans h8, (hb.cell (World.block_lt_of_cell? _ _ h9)).trans h9⟩
          have HSS : Hid ((fun W => W.cell? ⟨w.heap.size, 0, none⟩ = some (.int .i64 op) ∧ W.cell? ⟨w.heap.size, 1, none⟩ = some (.int .i64 A) ∧ W.cell? ⟨w.heap.size, 2, none⟩ = some (.int .i64 B) ∧ W.cell? ⟨w.heap.size, 3, none⟩ = some (.slice (some ⟨g, o, none⟩) ks.length ck) ∧ W.cell? ⟨g, o + k * 6, none⟩ = some (.int .i64 xo) ∧ W.cell? ⟨g, o + k * 6 + 1, none⟩ = some (.int .i64 xA) ∧ W.cell? ⟨g, o + k * 6 + 2, none⟩ = some (.int .i64 xB) ∧ W.cell? ⟨g, o + k * 6 + 3, none⟩ = some (.slice xK xnk xck) ∧ W.cell? ⟨g, o + k * 6 + 4, none⟩ = some (.slice xP xnp xcp) ∧ W.cell? ⟨g, o + k * 6 + 5, none⟩ = some (.slice xF xnf xcf)) wr.drew) := Lib.hid ⟨c0, c1, c2, c3, r0, r1, r2, r3, r4, r5⟩
          have ew := IntWalk.i64_in ((u : Int) + (d : Int)) (by omega)
          clear hcs r0 r1 r2 r3 r4 r5
          go_wp2_with fail
          refine region_begin (S := fun W => W.cell? ⟨w.heap.size, 0, none⟩ = some (.int .i64 op) ∧ W.cell? ⟨w.heap.size, 1, none⟩ = some (.int .i64 A) ∧ W.cell? ⟨w.heap.size, 2, none⟩ = some (.int .i64 B) ∧ W.cell? ⟨w.heap.size, 3, none⟩ = some (.slice (some ⟨g, o, none⟩) ks.length ck) ∧ W.cell? ⟨g, o + k * 6, none⟩ = some (.int .i64 xo) ∧ W.cell? ⟨g, o + k * 6 + 1, none⟩ = some (.int .i64 xA) ∧ W.cell? ⟨g, o + k * 6 + 2, none⟩ = some (.int .i64 xB) ∧ W.cell? ⟨g, o + k * 6 + 3, none⟩ = some (.slice xK xnk xck) ∧ W.cell? ⟨g, o + k * 6 + 4, none⟩ = some (.slice xP xnp xcp) ∧ W.cell? ⟨g, o + k * 6 + 5, none⟩ = some (.slice xF xnf xcf)) (by kernel_rfl) (HSS.out) (fun hHeld => ?_)
          refine region_take 0 ?_ rfl (by kernel_rfl) (by rfl) hHeld ?_ ?_
          rotate_left
          · intro w hSw
            (try dsimp only at hSw)
            go_simp
            try with_reducible rfl
          try simp only [Act.put, List.setIfInBounds_toArray, List.set_cons_zero, List.set_cons_succ]
          refine region_take 1 ?_ rfl (by kernel_rfl) (by rfl) hHeld ?_ ?_
          rotate_left
          · intro w hSw
            (try dsimp only at hSw)
            go_simp
            try with_reducible rfl
          try simp only [Act.put, List.setIfInBounds_toArray, List.set_cons_zero, List.set_cons_succ]
          refine region_take 2 ?_ rfl (by kernel_rfl) (by rfl) hHeld ?_ ?_
          rotate_left
          · intro w hSw
            (try dsimp only at hSw)
            go_simp
            try with_reducible rfl
          try simp only [Act.put, List.setIfInBounds_toArray, List.set_cons_zero, List.set_cons_succ]
          refine region_take 3 ?_ rfl (by kernel_rfl) (by rfl) hHeld ?_ ?_
          rotate_left
          · intro w hSw
            (try dsimp only at hSw)
            go_simp
            try with_reducible rfl
          try simp only [Act.put, List.setIfInBounds_toArray, List.set_cons_zero, List.set_cons_succ]
          refine region_take 4 ?_ rfl (by kernel_rfl) (by rfl) hHeld ?_ ?_
          rotate_left
          · intro w hSw
            (try dsimp only at hSw)
            go_simp
            try with_reducible rfl
          try simp only [Act.put, List.setIfInBounds_toArray, List.set_cons_zero, List.set_cons_succ]
          refine region_take 5 ?_ rfl (by kernel_rfl) (by rfl) hHeld ?_ ?_
          rotate_left
          · intro w hSw
            (try dsimp only at hSw)
            go_simp
            try with_reducible rfl
          try simp only [Act.put, List.setIfInBounds_toArray, List.set_cons_zero, List.set_cons_succ]
          refine region_take 6 ?_ rfl (by kernel_rfl) (by rfl) hHeld ?_ ?_
          rotate_left
          · intro w hSw
            (try dsimp only at hSw)
            go_simp
            try with_reducible rfl
          try simp only [Act.put, List.setIfInBounds_toArray, List.set_cons_zero, List.set_cons_succ]
          refine region_take 7 ?_ rfl (by kernel_rfl) (by rfl) hHeld ?_ ?_
          rotate_left
          · intro w hSw
            (try dsimp only at hSw)
            go_simp
            try with_reducible rfl
          try simp only [Act.put, List.setIfInBounds_toArray, List.set_cons_zero, List.set_cons_succ]
          refine region_take 8 ?_ rfl (by kernel_rfl) (by rfl) hHeld ?_ ?_
          rotate_left
          · intro w hSw
            (try dsimp only at hSw)
            go_simp
            try with_reducible rfl
          try simp only [Act.put, List.setIfInBounds_toArray, List.set_cons_zero, List.set_cons_succ]
          refine region_take 9 ?_ rfl (by kernel_rfl) (by rfl) hHeld ?_ ?_
          rotate_left
          · intro w hSw
            (try dsimp only at hSw)
            go_simp
            try with_reducible rfl
          try simp only [Act.put, List.setIfInBounds_toArray, List.set_cons_zero, List.set_cons_succ]
          refine region_call 10 rfl (by kernel_rfl) (by rfl) (fun K hK => ?_)
          go_simp
          refine (around_any (op, A, B) k _ (by omega) HFX.out).mono ?_
          rintro e w1 ⟨rfl, hb1⟩
          rw [HD.out]
          refine hK.out _ _ (HKEEP.out _ _ hb1 hHeld) (fun hHeld => ?_)
          clear hK K
          try simp only [Act.put, List.setIfInBounds_toArray, List.set_cons_zero, List.set_cons_succ]
          refine region_take 11 ?_ rfl (by kernel_rfl) (by rfl) hHeld ?_ ?_
          rotate_left
          · intro w hSw
            (try dsimp only at hSw)
            go_simp
            try with_reducible rfl
          try simp only [Act.put, List.setIfInBounds_toArray, List.set_cons_zero, List.set_cons_succ]
          refine region_call 12 rfl (by kernel_rfl) (by rfl) (fun K hK => ?_)
          go_simp
          refine (HREC.out w1 (below_step HBD.out hb1)).mono ?_
          rintro e w2 ⟨rfl, hb2⟩
          refine hK.out _ _ (HKEEP.out _ _ hb2 hHeld) (fun hHeld => ?_)
          clear hK K
          try simp only [Act.put, List.setIfInBounds_toArray, List.set_cons_zero, List.set_cons_succ]
          refine region_take 13 ?_ rfl (by kernel_rfl) (by rfl) hHeld ?_ ?_
          rotate_left
          · intro w hSw
            (try dsimp only at hSw)
            go_simp
            try with_reducible rfl
          try simp only [Act.put, List.setIfInBounds_toArray, List.set_cons_zero, List.set_cons_succ]
          refine region_take 14 ?_ rfl (by kernel_rfl) (by rfl) hHeld ?_ ?_
          rotate_left
          · intro w hSw
            (try dsimp only at hSw)
            go_simp
            try with_reducible rfl
          try simp only [Act.put, List.setIfInBounds_toArray, List.set_cons_zero, List.set_cons_succ]
          refine region_done (by kernel_rfl) ?_
          go_wp2_with fail
          go_roundw
          case rel => exact ⟨k + 1, by go_num, by omega, by rw [← HS1.out], Lib.hid (HRD.out _ (below_step hb1 hb2))⟩
          case measure => simp [intOf] <;> omega
        · have hkm : k = ks.length := by omega
          have HE : Hid (gr u (treeA (op, A, B) ats fs ((ks.map Prod.snd).take k)) = gr u (treeA (op, A, B) ats fs (ks.map Prod.snd))) := Lib.hid (by rw [hkm]; exact HEND.out)
          clear hkm
          go_wp2_with fail
          go_ret
          exact ⟨ret_int HE.out, HB.out⟩
end Go.Proofs.YtkkkblghihheeaaDoor
