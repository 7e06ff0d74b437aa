/- TermKeeps holds for every input, where the program's table of limits is what its text says (the tied card): what is handed in stays; what is answered is new memory. -/
import Derived.Test.YtkkkblghihheeaaDoorTGreat
import Derived.Test.YtkkkblghihheeaaDoorTFold2
import Derived.Test.YtkkkblghihheeaaDoorTRaise
import Derived.Test.YtkkkblghihheeaaDoorTSubstW
import Derived.Test.YtkkkblghihheeaaDoorTAppend
import Derived.Test.YtkkkblghihheeaaDoorTOfAll
import Derived.Test.YtkkkblghihheeaaDoorTRow
import Derived.Test.YtkkkblghihheeaaDoorTKeepsA
import Derived.Test.YtkkkblghihheeaaDoorTLawKitAll
import Derived.Test.YtkkkblghihheeaaDoorTie
import Derived.Test.YtkkkblghihheeaaDoorCards
import Derived.Stop.Joined
namespace Go.Proofs.YtkkkblghihheeaaDoor
open Go.RowKit

set_option maxRecDepth 100000 in
set_option maxHeartbeats 4000000 in
theorem highest_any : ∀ (N : Nat) (v : TV) (a : Ann) (w : World) (G : Nat → Prop) (by_ u : Nat), by_ ≤ 4000000 → a.length ≤ N → TreeAt w G v a → SmallA a → u + 4 * a.length ≤ 4000000 →
    Calls Tryd.prog 57 #[v.val, .int .i64 (by_ : Int), .int .i64 (u : Int)] w fun e w' => e = .returned (.int .i64 (hi by_ u a)) ∧ Below w.heap.size w w' := by
  intro N
  induction N with
  | zero =>
    intro v a w G by_ u hby hN h
    cases h with
    | mk v ks ats fs hs hK hA hF hv sub => exact absurd hN (by simp [treeA])
  | succ N ih =>
    intro v a w G by_ u hby hN h hsm hu
    cases h with
    | mk v ks ats fs hs hK hA hF hv sub =>
    obtain ⟨⟨op, A, B⟩, K, nk, ck, P, na, ca, F, nf, cf⟩ := v
    simp only at hN hsm hu hK hA hF
    have htop := hsm.top
    simp only at htop
    by_cases h1 : op = 1
    · obtain ⟨hk0, ha0, hz0⟩ := hs.var h1
      have e1 := List.eq_nil_of_length_eq_zero hk0
      have e2 := List.eq_nil_of_length_eq_zero ha0
      subst h1 e1 e2
      have HG : Hid ((if (u : Int) ≤ A then A + (by_ : Int) else -1) = hi by_ u (treeA (1, A, B) [] fs [])) := Lib.hid (by 
        show _ = max (hiF by_ (1, A, B) (0 + u)) (-1)
        unfold hiF
        simp only [true_and, Nat.zero_add]
        split <;> omega)
      clear hs hK hA hF hv sub ih hN hsm
      dsimp only [TV.val]
      rw [List.map_nil, ← HG.out]
      by_cases hc : (u : Int) ≤ A
      · rw [if_pos hc]
        have ew := IntWalk.i64_in (A + (by_ : Int)) (by omega)
        go_enter Tryd.func57, Tryd.ntmps57
        go_wp2_with fail
        go_ret
        exact ⟨rfl, (Below.refl _ _).alloc (Nat.le_refl _) _⟩
      · rw [if_neg hc]
        go_enter Tryd.func57, Tryd.ntmps57
        go_wp2_with fail
        go_ret
        exact ⟨rfl, (Below.refl _ _).alloc (Nat.le_refl _) _⟩
    · have e1 : (op == 1) = false := by simpa using h1
      have hfx := hs.fix
      have hnk := hs.nk
      simp only at hfx hnk
      subst hnk
      have HFX := Lib.hid (show (op, A, B).1 = 12 → 0 ≤ (op, A, B).2.2 from fun h => (hfx h).1)
      have hb0 : Below w.heap.size w (w.alloc (.cells #[.int .i64 op, .int .i64 A, .int .i64 B, .slice K ks.length ck, .slice P na ca, .slice F nf cf] 59)) := (Below.refl _ _).alloc (Nat.le_refl _) _
      have x0 := Whole.new w #[.int .i64 op, .int .i64 A, .int .i64 B, .slice K ks.length ck, .slice P na ca, .slice F nf cf] 59
      have HB0 := Lib.hid hb0
      have HX := Lib.hid x0
      have HSUB : Hid (∀ (k : Nat) (hk : k < ks.length) w1, Below w.heap.size w w1 → Calls Tryd.prog 57 #[TV.val ks[k].1, .int .i64 (by_ : Int), .int .i64 ((u : Int) + ((aroundN (op, A, B) k : Nat) : Int))] w1 fun e w' => e = .returned (.int .i64 (hi by_ (u + aroundN (op, A, B) k) ks[k].2)) ∧ Below w1.heap.size w1 w') := Lib.hid fun k hk w1 hb => by
        have hm : ks[k].2 ∈ ks.map Prod.snd := List.mem_map.2 ⟨_, List.getElem_mem hk, rfl⟩
        have hl := treeA_len (n := (op, A, B)) (ats := ats) (fs := fs) hm
        have ha := around_le (n := (op, A, B)) (fun h => (hfx h).2.1) k
        have := ih ks[k].1 ks[k].2 w1 G by_ (u + aroundN (op, A, B) k) hby (by omega) ((sub _ (List.getElem_mem hk)).next hb) (hsm.kid hm) (by omega)
        rwa [Int.natCast_add] at this
      have HSTEP : Hid (∀ (k : Nat) (hk : k < ks.length), (if hi by_ u (treeA (op, A, B) ats fs ((ks.map Prod.snd).take k)) < hi by_ (u + aroundN (op, A, B) k) ks[k].2 then hi by_ (u + aroundN (op, A, B) k) ks[k].2 else hi by_ u (treeA (op, A, B) ats fs ((ks.map Prod.snd).take k))) = hi by_ u (treeA (op, A, B) ats fs ((ks.map Prod.snd).take (k + 1)))) := Lib.hid fun k hk => by
        unfold hi
        rw [top_step (hiF_skip by_) (by simpa using hk) (fun x hx => hv x (.inr hx))]
        simp only [List.getElem_map]
        split <;> omega
      have HST : Hid ((-1 : Int) = hi by_ u (treeA (op, A, B) ats fs ((ks.map Prod.snd).take 0))) := Lib.hid (by
        unfold hi
        rw [List.take_zero, top_none (hiF_skip by_) (top_noVar h1 fun x hx => hv x (.inl hx))])
      have HEND : Hid (hi by_ u (treeA (op, A, B) ats fs ((ks.map Prod.snd).take ks.length)) = hi by_ u (treeA (op, A, B) ats fs (ks.map Prod.snd))) := Lib.hid (by rw [List.take_of_length_le (by simp)])
      have HAR : Hid (∀ k, aroundN (op, A, B) k ≤ 4) := Lib.hid (around_le (n := (op, A, B)) fun h => (hfx h).2.1)
      have hkl : ks.length ≤ 1000000 := by
        have := kids_count (n := (op, A, B)) (ats := ats) (fs := fs) sub
        omega
      have HK := Lib.hid hK.1
      have HSL := Lib.hid hs.sk
      clear hs hK hA hF hv sub ih hN hsm hfx hb0 x0
      dsimp only [TV.val]
      go_enter Tryd.func57, Tryd.ntmps57
      go_wp2_with fail
      go_loopw [7, 8] (fun m i wr => ∃ k : Nat, i = .int .i64 (k : Int) ∧ k ≤ ks.length ∧ m = .int .i64 (hi by_ u (treeA (op, A, B) ats fs ((ks.map Prod.snd).take k))) ∧ Hid (Below (w.heap.size + 1) (w.alloc (.cells #[.int .i64 op, .int .i64 A, .int .i64 B, .slice K ks.length ck, .slice P na ca, .slice F nf cf] 59)) wr)) (fun _ i _ => ks.length - (intOf i).toNat)
      case atStart => exact ⟨0, rfl, Nat.zero_le _, by rw [← HST.out], Lib.hid (Below.refl _ _)⟩
      case round =>
        obtain ⟨k, rfl, hk, rfl, HBR⟩ := hrel
        have xr := HX.out.below HBR.out (by omega)
        have c0 : wr.cell? ⟨w.heap.size, 0, none⟩ = some (.int .i64 op) := xr.cell 0
        have c1 : wr.cell? ⟨w.heap.size, 1, none⟩ = some (.int .i64 A) := xr.cell 1
        have c2 : wr.cell? ⟨w.heap.size, 2, none⟩ = some (.int .i64 B) := xr.cell 2
        have c3 : wr.cell? ⟨w.heap.size, 3, none⟩ = some (.slice K ks.length ck) := xr.cell 3
        have HB := Lib.hid (HB0.out.trans (HBR.out.mono (by omega)))
        have HBD := Lib.hid (show Below w.heap.size w wr.drew from HB.out.trans (below_drewN (Below.refl _ _) 1))
        have HRD := Lib.hid (show ∀ w2, Below wr.drew.heap.size wr.drew w2 → Below (w.heap.size + 1) (w.alloc (.cells #[.int .i64 op, .int .i64 A, .int .i64 B, .slice K ks.length ck, .slice P na ca, .slice F nf cf] 59)) w2 from fun w2 hb => (HBR.out.trans (below_drewN (Below.refl _ _) 1)).trans (hb.mono (by have := HBR.out.size; rw [World.size_alloc] at this; exact this)))
        clear xr
        by_cases hlt : k < ks.length
        · obtain ⟨g, o, rfl, hg, -⟩ := (HK.out.below HB.out).at_ (by rw [treesV_len, List.length_map]; omega)
          have hcs := kid_cells (k := k) (HK.out.below HB.out) (by rw [List.length_map]; exact hlt)
          simp only [List.getElem_map] at hcs
          have HREC := Lib.hid (HSUB.out k hlt)
          have HS1 := Lib.hid (HSTEP.out k hlt)
          have hd4 := HAR.out k
          obtain ⟨d, hd⟩ : ∃ d, aroundN (op, A, B) k = d := ⟨_, rfl⟩
          rw [hd] at hd4 HREC HS1
          have HD := Lib.hid hd
          obtain ⟨x, hx⟩ : ∃ x, ks[k].1 = x := ⟨_, rfl⟩
          rw [hx] at hcs HREC
          clear hd hx
          obtain ⟨⟨xo, xA, xB⟩, xK, xnk, xck, xP, xnp, xcp, xF, xnf, xcf⟩ := x
          have r0 := hcs 0 _ rfl
          have r1 := hcs 1 _ rfl
          have r2 := hcs 2 _ rfl
          have r3 := hcs 3 _ rfl
          have r4 := hcs 4 _ rfl
          have r5 := hcs 5 _ rfl
          rw [Nat.add_zero] at r0
          have HKEEP : Hid (∀ W W' : World, Below W.heap.size W W' → (fun W => W.cell? ⟨w.heap.size, 0, none⟩ = some (.int .i64 op) ∧ W.cell? ⟨w.heap.size, 1, none⟩ = some (.int .i64 A) ∧ W.cell? ⟨w.heap.size, 2, none⟩ = some (.int .i64 B) ∧ W.cell? ⟨w.heap.size, 3, none⟩ = some (.slice (some ⟨g, o, none⟩) ks.length ck) ∧ W.cell? ⟨g, o + k * 6, none⟩ = some (.int .i64 xo) ∧ W.cell? ⟨g, o + k * 6 + 1, none⟩ = some (.int .i64 xA) ∧ W.cell? ⟨g, o + k * 6 + 2, none⟩ = some (.int .i64 xB) ∧ W.cell? ⟨g, o + k * 6 + 3, none⟩ = some (.slice xK xnk xck) ∧ W.cell? ⟨g, o + k * 6 + 4, none⟩ = some (.slice xP xnp xcp) ∧ W.cell? ⟨g, o + k * 6 + 5, none⟩ = some (.slice xF xnf xcf)) W → (fun W => W.cell? ⟨w.heap.size, 0, none⟩ = some (.int .i64 op) ∧ W.cell? ⟨w.heap.size, 1, none⟩ = some (.int .i64 A) ∧ W.cell? ⟨w.heap.size, 2, none⟩ = some (.int .i64 B) ∧ W.cell? ⟨w.heap.size, 3, none⟩ = some (.slice (some ⟨g, o, none⟩) ks.length ck) ∧ W.cell? ⟨g, o + k * 6, none⟩ = some (.int .i64 xo) ∧ W.cell? ⟨g, o + k * 6 + 1, none⟩ = some (.int .i64 xA) ∧ W.cell? ⟨g, o + k * 6 + 2, none⟩ = some (.int .i64 xB) ∧ W.cell? ⟨g, o + k * 6 + 3, none⟩ = some (.slice xK xnk xck) ∧ W.cell? ⟨g, o + k * 6 + 4, none⟩ = some (.slice xP xnp xcp) ∧ W.cell? ⟨g, o + k * 6 + 5, none⟩ = some (.slice xF xnf xcf)) W') := Lib.hid fun W W' hb ⟨h0, h1, h2, h3, h4, h5, h6, h7, h8, h9⟩ => ⟨(hb.cell (World.block_lt_of_cell? _ _ h0)).trans h0, (hb.cell (World.block_lt_of_cell? _ _ h1)).trans h1, (hb.cell (World.block_lt_of_cell? _ _ h2)).trans h2, (hb.cell (World.block_lt_of_cell? _ _ h3)).trans h3, (hb.cell (World.block_lt_of_cell? _ _ h4)).trans h4, (hb.cell (World.block_lt_of_cell? _ _ h5)).trans h5, (hb.cell (World.block_lt_of_cell? _ _ h6)).trans h6, (hb.cell (World.block_lt_of_cell? _ _ h7)).trans h7, (hb.cell (World.block_lt_of_cell? _ _ h8)).trans h8, (hb.cell (World.block_lt_of_cell? _ _ h9)).trans h9⟩
          have HSS : Hid ((fun W => W.cell? ⟨w.heap.size, 0, none⟩ = some (.int .i64 op) ∧ W.cell? ⟨w.heap.size, 1, none⟩ = some (.int .i64 A) ∧ W.cell? ⟨w.heap.size, 2, none⟩ = some (.int .i64 B) ∧ W.cell? ⟨w.heap.size, 3, none⟩ = some (.slice (some ⟨g, o, none⟩) ks.length ck) ∧ W.cell? ⟨g, o + k * 6, none⟩ = some (.int .i64 xo) ∧ W.cell? ⟨g, o + k * 6 + 1, none⟩ = some (.int .i64 xA) ∧ W.cell? ⟨g, o + k * 6 + 2, none⟩ = some (.int .i64 xB) ∧ W.cell? ⟨g, o + k * 6 + 3, none⟩ = some (.slice xK xnk xck) ∧ W.cell? ⟨g, o + k * 6 + 4, none⟩ = some (.slice xP xnp xcp) ∧ W.cell? ⟨g, o + k * 6 + 5, none⟩ = some (.slice xF xnf xcf)) wr.drew) := Lib.hid ⟨c0, c1, c2, c3, r0, r1, r2, r3, r4, r5⟩
          have ew := IntWalk.i64_in ((u : Int) + (d : Int)) (by omega)
          clear hcs r0 r1 r2 r3 r4 r5
          go_wp2_with fail
          refine region_begin (S := fun W => W.cell? ⟨w.heap.size, 0, none⟩ = some (.int .i64 op) ∧ W.cell? ⟨w.heap.size, 1, none⟩ = some (.int .i64 A) ∧ W.cell? ⟨w.heap.size, 2, none⟩ = some (.int .i64 B) ∧ W.cell? ⟨w.heap.size, 3, none⟩ = some (.slice (some ⟨g, o, none⟩) ks.length ck) ∧ W.cell? ⟨g, o + k * 6, none⟩ = some (.int .i64 xo) ∧ W.cell? ⟨g, o + k * 6 + 1, none⟩ = some (.int .i64 xA) ∧ W.cell? ⟨g, o + k * 6 + 2, none⟩ = some (.int .i64 xB) ∧ W.cell? ⟨g, o + k * 6 + 3, none⟩ = some (.slice xK xnk xck) ∧ W.cell? ⟨g, o + k * 6 + 4, none⟩ = some (.slice xP xnp xcp) ∧ W.cell? ⟨g, o + k * 6 + 5, none⟩ = some (.slice xF xnf xcf)) (by kernel_rfl) (HSS.out) (fun hHeld => ?_)
          refine region_take 0 ?_ rfl (by kernel_rfl) (by rfl) hHeld ?_ ?_
          rotate_left
          · intro w hSw
            (try dsimp only at hSw)
            go_simp
            try with_reducible rfl
          try simp only [Act.put, List.setIfInBounds_toArray, List.set_cons_zero, List.set_cons_succ]
          refine region_take 1 ?_ rfl (by kernel_rfl) (by rfl) hHeld ?_ ?_
          rotate_left
          · intro w hSw
            (try dsimp only at hSw)
            go_simp
            try with_reducible rfl
          try simp only [Act.put, List.setIfInBounds_toArray, List.set_cons_zero, List.set_cons_succ]
          refine region_take 2 ?_ rfl (by kernel_rfl) (by rfl) hHeld ?_ ?_
          rotate_left
          · intro w hSw
            (try dsimp only at hSw)
            go_simp
            try with_reducible rfl
          try simp only [Act.put, List.setIfInBounds_toArray, List.set_cons_zero, List.set_cons_succ]
          refine region_take 3 ?_ rfl (by kernel_rfl) (by rfl) hHeld ?_ ?_
          rotate_left
          · intro w hSw
            (try dsimp only at hSw)
            go_simp
            try with_reducible rfl
          try simp only [Act.put, List.setIfInBounds_toArray, List.set_cons_zero, List.set_cons_succ]
          refine region_take 4 ?_ rfl (by kernel_rfl) (by rfl) hHeld ?_ ?_
          rotate_left
          · intro w hSw
            (try dsimp only at hSw)
            go_simp
            try with_reducible rfl
          try simp only [Act.put, List.setIfInBounds_toArray, List.set_cons_zero, List.set_cons_succ]
          refine region_take 5 ?_ rfl (by kernel_rfl) (by rfl) hHeld ?_ ?_
          rotate_left
          · intro w hSw
            (try dsimp only at hSw)
            go_simp
            try with_reducible rfl
          try simp only [Act.put, List.setIfInBounds_toArray, List.set_cons_zero, List.set_cons_succ]
          refine region_take 6 ?_ rfl (by kernel_rfl) (by rfl) hHeld ?_ ?_
          rotate_left
          · intro w hSw
            (try dsimp only at hSw)
            go_simp
            try with_reducible rfl
          try simp only [Act.put, List.setIfInBounds_toArray, List.set_cons_zero, List.set_cons_succ]
          refine region_take 7 ?_ rfl (by kernel_rfl) (by rfl) hHeld ?_ ?_
          rotate_left
          · intro w hSw
            (try dsimp only at hSw)
            go_simp
            try with_reducible rfl
          try simp only [Act.put, List.setIfInBounds_toArray, List.set_cons_zero, List.set_cons_succ]
          refine region_take 8 ?_ rfl (by kernel_rfl) (by rfl) hHeld ?_ ?_
          rotate_left
          · intro w hSw
            (try dsimp only at hSw)
            go_simp
            try with_reducible rfl
          try simp only [Act.put, List.setIfInBounds_toArray, List.set_cons_zero, List.set_cons_succ]
          refine region_take 9 ?_ rfl (by kernel_rfl) (by rfl) hHeld ?_ ?_
          rotate_left
          · intro w hSw
            (try dsimp only at hSw)
            go_simp
            try with_reducible rfl
          try simp only [Act.put, List.setIfInBounds_toArray, List.set_cons_zero, List.set_cons_succ]
          refine region_take 10 ?_ rfl (by kernel_rfl) (by rfl) hHeld ?_ ?_
          rotate_left
          · intro w hSw
            (try dsimp only at hSw)
            go_simp
            try with_reducible rfl
          try simp only [Act.put, List.setIfInBounds_toArray, List.set_cons_zero, List.set_cons_succ]
          refine region_call 11 rfl (by kernel_rfl) (by rfl) (fun K hK => ?_)
          go_simp
          refine (around_any (op, A, B) k _ (by omega) HFX.out).mono ?_
          rintro e w1 ⟨rfl, hb1⟩
          rw [HD.out]
          refine hK.out _ _ (HKEEP.out _ _ hb1 hHeld) (fun hHeld => ?_)
          clear hK K
          try simp only [Act.put, List.setIfInBounds_toArray, List.set_cons_zero, List.set_cons_succ]
          refine region_take 12 ?_ rfl (by kernel_rfl) (by rfl) hHeld ?_ ?_
          rotate_left
          · intro w hSw
            (try dsimp only at hSw)
            go_simp
            try with_reducible rfl
          try simp only [Act.put, List.setIfInBounds_toArray, List.set_cons_zero, List.set_cons_succ]
          refine region_call 13 rfl (by kernel_rfl) (by rfl) (fun K hK => ?_)
          go_simp
          refine (HREC.out w1 (below_step HBD.out hb1)).mono ?_
          rintro e w2 ⟨rfl, hb2⟩
          refine hK.out _ _ (HKEEP.out _ _ hb2 hHeld) (fun hHeld => ?_)
          clear hK K
          try simp only [Act.put, List.setIfInBounds_toArray, List.set_cons_zero, List.set_cons_succ]
          refine region_take 14 ?_ rfl (by kernel_rfl) (by rfl) hHeld ?_ ?_
          rotate_left
          · intro w hSw
            (try dsimp only at hSw)
            go_simp
            try with_reducible rfl
          try simp only [Act.put, List.setIfInBounds_toArray, List.set_cons_zero, List.set_cons_succ]
          refine region_take 15 ?_ rfl (by kernel_rfl) (by rfl) hHeld ?_ ?_
          rotate_left
          · intro w hSw
            (try dsimp only at hSw)
            go_simp
            try with_reducible rfl
          try simp only [Act.put, List.setIfInBounds_toArray, List.set_cons_zero, List.set_cons_succ]
          refine region_done (by kernel_rfl) ?_
          go_wp2_with fail
          go_roundw
          case rel => exact ⟨k + 1, by go_num, by omega, by rw [← HS1.out], Lib.hid (HRD.out _ (below_step hb1 hb2))⟩
          case measure => simp [intOf] <;> omega
        · have hkm : k = ks.length := by omega
          have HE : Hid (hi by_ u (treeA (op, A, B) ats fs ((ks.map Prod.snd).take k)) = hi by_ u (treeA (op, A, B) ats fs (ks.map Prod.snd))) := Lib.hid (by rw [hkm]; exact HEND.out)
          clear hkm
          go_wp2_with fail
          go_ret
          exact ⟨ret_int HE.out, HB.out⟩
end Go.Proofs.YtkkkblghihheeaaDoor
namespace Go.Proofs.YtkkkblghihheeaaDoor
open Go.RowKit

theorem ret_two {a b c d : Int} (h : a = c) (h' : b = d) : Ending.returned (.tuple #[.int .i64 a, .int .i64 b]) = .returned (.tuple #[.int .i64 c, .int .i64 d]) := by rw [h, h']
set_option maxRecDepth 100000 in
set_option maxHeartbeats 4000000 in
theorem times_any : ∀ (N : Nat) (v : TV) (a : Ann) (w : World) (G : Nat → Prop) (D u : Nat), D ≤ 4000000 → DeepA D a → a.length ≤ N → TreeAt w G v a → SmallA a → u + 4 * a.length ≤ 4000000 →
    Calls Tryd.prog 61 #[v.val, .int .i64 (u : Int)] w fun e w' => e = .returned (.tuple #[.int .i64 (tmN u a : Nat), .int .i64 (tmD u a : Nat)]) ∧ Below w.heap.size w w' := by
  intro N
  induction N with
  | zero =>
    intro v a w G D u hD hdp hN h
    cases h with
    | mk v ks ats fs hs hK hA hF hv sub => exact absurd hN (by simp [treeA])
  | succ N ih =>
    intro v a w G D u hD hdp hN h hsm hu
    cases h with
    | mk v ks ats fs hs hK hA hF hv sub =>
    obtain ⟨⟨op, A, B⟩, K, nk, ck, P, na, ca, F, nf, cf⟩ := v
    simp only at hN hsm hu hK hA hF hdp
    have htop := hsm.top
    simp only at htop
    by_cases h1 : op = 1
    · obtain ⟨hk0, ha0, hz0⟩ := hs.var h1
      have e1 := List.eq_nil_of_length_eq_zero hk0
      have e2 := List.eq_nil_of_length_eq_zero ha0
      subst h1 e1 e2
      rw [List.map_nil]
      dsimp only [TV.val]
      by_cases hc : A = (u : Int)
      · have HN : Hid ((1 : Int) = (tmN u (treeA (1, A, B) [] fs []) : Nat)) := Lib.hid (by simp [treeA, kidsA, tmN, hitB, hc])
        have HD : Hid ((0 : Int) = (tmD u (treeA (1, A, B) [] fs []) : Nat)) := Lib.hid (by simp [treeA, kidsA, tmD, hitB, hc])
        subst hc
        clear hs hK hA hF hv sub ih hN hsm hdp
        go_enter Tryd.func61, Tryd.ntmps61
        go_wp2_with fail
        go_ret2
        exact ⟨ret_two HN.out HD.out, (Below.refl _ _).alloc (Nat.le_refl _) _⟩
      · have HN : Hid ((0 : Int) = (tmN u (treeA (1, A, B) [] fs []) : Nat)) := Lib.hid (by simp [treeA, kidsA, tmN, hitB, hc])
        have HD : Hid ((0 : Int) = (tmD u (treeA (1, A, B) [] fs []) : Nat)) := Lib.hid (by simp [treeA, kidsA, tmD, hitB, hc])
        have e1 : (A == (u : Int)) = false := by simpa using hc
        clear hs hK hA hF hv sub ih hN hsm hdp
        go_enter Tryd.func61, Tryd.ntmps61
        go_wp2_with fail
        go_ret2
        exact ⟨ret_two HN.out HD.out, (Below.refl _ _).alloc (Nat.le_refl _) _⟩
    · have e1 : (op == 1) = false := by simpa using h1
      have hfx := hs.fix
      have hnk := hs.nk
      simp only at hfx hnk
      subst hnk
      have HFX := Lib.hid (show (op, A, B).1 = 12 → 0 ≤ (op, A, B).2.2 from fun h => (hfx h).1)
      have hb0 : Below w.heap.size w (w.alloc (.cells #[.int .i64 op, .int .i64 A, .int .i64 B, .slice K ks.length ck, .slice P na ca, .slice F nf cf] 59)) := (Below.refl _ _).alloc (Nat.le_refl _) _
      have x0 := Whole.new w #[.int .i64 op, .int .i64 A, .int .i64 B, .slice K ks.length ck, .slice P na ca, .slice F nf cf] 59
      have HB0 := Lib.hid hb0
      have HX := Lib.hid x0
      have HSUB : Hid (∀ (k : Nat) (hk : k < ks.length) w1, Below w.heap.size w w1 → Calls Tryd.prog 61 #[TV.val ks[k].1, .int .i64 ((u : Int) + ((aroundN (op, A, B) k : Nat) : Int))] w1 fun e w' => e = .returned (.tuple #[.int .i64 (tmN (u + aroundN (op, A, B) k) ks[k].2 : Nat), .int .i64 (tmD (u + aroundN (op, A, B) k) ks[k].2 : Nat)]) ∧ Below w1.heap.size w1 w') := Lib.hid fun k hk w1 hb => by
        have hm : ks[k].2 ∈ ks.map Prod.snd := List.mem_map.2 ⟨_, List.getElem_mem hk, rfl⟩
        have hl := treeA_len (n := (op, A, B)) (ats := ats) (fs := fs) hm
        have ha := around_le (n := (op, A, B)) (fun h => (hfx h).2.1) k
        have := ih ks[k].1 ks[k].2 w1 G D (u + aroundN (op, A, B) k) hD (hdp.kid hm) (by omega) ((sub _ (List.getElem_mem hk)).next hb) (hsm.kid hm) (by omega)
        rwa [Int.natCast_add] at this
      have HSTN : Hid (∀ (k : Nat) (hk : k < ks.length), tmN u (treeA (op, A, B) ats fs ((ks.map Prod.snd).take k)) + tmN (u + aroundN (op, A, B) k) ks[k].2 = tmN u (treeA (op, A, B) ats fs ((ks.map Prod.snd).take (k + 1)))) := Lib.hid fun k hk => by
        rw [tmN_step (by simpa using hk) (fun x hx => hv x (.inr hx))]
        simp only [List.getElem_map]
      have HSTD : Hid (∀ (k : Nat) (hk : k < ks.length), (if 0 < tmN (u + aroundN (op, A, B) k) ks[k].2 then (if tmD u (treeA (op, A, B) ats fs ((ks.map Prod.snd).take k)) < tmD (u + aroundN (op, A, B) k) ks[k].2 + aroundN (op, A, B) k then tmD (u + aroundN (op, A, B) k) ks[k].2 + aroundN (op, A, B) k else tmD u (treeA (op, A, B) ats fs ((ks.map Prod.snd).take k))) else tmD u (treeA (op, A, B) ats fs ((ks.map Prod.snd).take k))) = tmD u (treeA (op, A, B) ats fs ((ks.map Prod.snd).take (k + 1)))) := Lib.hid fun k hk => by
        rw [tmD_step (by simpa using hk) (fun x hx => hv x (.inr hx))]
        simp only [List.getElem_map]
        split
        · split <;> omega
        · rfl
      have HBD : Hid (∀ (k : Nat) (hk : k < ks.length), tmN u (treeA (op, A, B) ats fs ((ks.map Prod.snd).take k)) ≤ 4000000 ∧ tmN (u + aroundN (op, A, B) k) ks[k].2 ≤ 4000000 ∧ tmD u (treeA (op, A, B) ats fs ((ks.map Prod.snd).take k)) ≤ 4000000 ∧ tmD (u + aroundN (op, A, B) k) ks[k].2 ≤ 4000000 ∧ aroundN (op, A, B) k ≤ 4) := Lib.hid fun k hk => by
        have hm : ks[k].2 ∈ ks.map Prod.snd := List.mem_map.2 ⟨_, List.getElem_mem hk, rfl⟩
        have l1 := treeA_len (n := (op, A, B)) (ats := ats) (fs := fs) hm
        have l2 := treeA_take_len (n := (op, A, B)) (ats := ats) (fs := fs) (ks := ks.map Prod.snd) k
        have l3 := tmN_le u (treeA (op, A, B) ats fs ((ks.map Prod.snd).take k))
        have l4 := tmN_le (u + aroundN (op, A, B) k) ks[k].2
        have l5 := tmD_le u (K := D) (a := (treeA (op, A, B) ats fs ((ks.map Prod.snd).take k))) fun x hx => hdp x (treeA_sub x hx)
        have l6 := tmD_le (u + aroundN (op, A, B) k) (hdp.kid hm)
        exact ⟨by omega, by omega, by omega, by omega, around_le (n := (op, A, B)) (fun h => (hfx h).2.1) k⟩
      have HST : Hid (0 = tmN u (treeA (op, A, B) ats fs ((ks.map Prod.snd).take 0)) ∧ 0 = tmD u (treeA (op, A, B) ats fs ((ks.map Prod.snd).take 0))) := Lib.hid (by
        rw [List.take_zero, (tm_none (top_noVar h1 fun x hx => hv x (.inl hx))).1, (tm_none (top_noVar h1 fun x hx => hv x (.inl hx))).2]
        exact ⟨rfl, rfl⟩)
      have HEND : Hid ((treeA (op, A, B) ats fs ((ks.map Prod.snd).take ks.length)) = treeA (op, A, B) ats fs (ks.map Prod.snd)) := Lib.hid (by rw [List.take_of_length_le (by simp)])
      have hkl : ks.length ≤ 1000000 := by
        have := kids_count (n := (op, A, B)) (ats := ats) (fs := fs) sub
        omega
      have HK := Lib.hid hK.1
      have HSL := Lib.hid hs.sk
      clear hs hK hA hF hv sub ih hN hsm hfx hb0 x0 hdp
      dsimp only [TV.val]
      go_enter Tryd.func61, Tryd.ntmps61
      go_wp2_with fail
      go_loopw [6, 7, 8] (fun m d i wr => ∃ k : Nat, i = .int .i64 (k : Int) ∧ k ≤ ks.length ∧ m = .int .i64 (tmN u (treeA (op, A, B) ats fs ((ks.map Prod.snd).take k)) : Nat) ∧ d = .int .i64 (tmD u (treeA (op, A, B) ats fs ((ks.map Prod.snd).take k)) : Nat) ∧ Hid (Below (w.heap.size + 1) (w.alloc (.cells #[.int .i64 op, .int .i64 A, .int .i64 B, .slice K ks.length ck, .slice P na ca, .slice F nf cf] 59)) wr)) (fun _ _ i _ => ks.length - (intOf i).toNat)
      case atStart => exact ⟨0, rfl, Nat.zero_le _, by rw [← HST.out.1]; rfl, by rw [← HST.out.2]; rfl, Lib.hid (Below.refl _ _)⟩
      case round =>
        obtain ⟨k, rfl, hk, rfl, rfl, HBR⟩ := hrel
        have xr := HX.out.below HBR.out (by omega)
        have c0 : wr.cell? ⟨w.heap.size, 0, none⟩ = some (.int .i64 op) := xr.cell 0
        have c1 : wr.cell? ⟨w.heap.size, 1, none⟩ = some (.int .i64 A) := xr.cell 1
        have c2 : wr.cell? ⟨w.heap.size, 2, none⟩ = some (.int .i64 B) := xr.cell 2
        have c3 : wr.cell? ⟨w.heap.size, 3, none⟩ = some (.slice K ks.length ck) := xr.cell 3
        have HB := Lib.hid (HB0.out.trans (HBR.out.mono (by omega)))
        have HRD := Lib.hid (show ∀ w2, Below wr.heap.size wr w2 → Below (w.heap.size + 1) (w.alloc (.cells #[.int .i64 op, .int .i64 A, .int .i64 B, .slice K ks.length ck, .slice P na ca, .slice F nf cf] 59)) w2 from fun w2 hb => HBR.out.trans (hb.mono (by have := HBR.out.size; rw [World.size_alloc] at this; exact this)))
        have HXR := Lib.hid xr
        clear xr
        by_cases hlt : k < ks.length
        · obtain ⟨g, o, rfl, hg, -⟩ := (HK.out.below HB.out).at_ (by rw [treesV_len, List.length_map]; omega)
          have HCS := Lib.hid fun w1 (hb : Below wr.heap.size wr w1) => kid_cells (k := k) ((HK.out.below HB.out).below hb) (by rw [List.length_map]; exact hlt)
          simp only [List.getElem_map] at HCS
          have HREC := Lib.hid (HSUB.out k hlt)
          have HS1 := Lib.hid (HSTN.out k hlt)
          have HS2 := Lib.hid (HSTD.out k hlt)
          obtain ⟨b1, b2, b3, b4, b5⟩ := HBD.out k hlt
          obtain ⟨d, hd⟩ : ∃ d, aroundN (op, A, B) k = d := ⟨_, rfl⟩
          rw [hd] at b2 b4 b5 HREC HS1 HS2
          have HD := Lib.hid hd
          obtain ⟨x, hx⟩ : ∃ x, ks[k].1 = x := ⟨_, rfl⟩
          rw [hx] at HCS HREC
          clear hd hx
          obtain ⟨⟨xo, xA, xB⟩, xK, xnk, xck, xP, xnp, xcp, xF, xnf, xcf⟩ := x
          generalize tmN u (treeA (op, A, B) ats fs ((ks.map Prod.snd).take k)) = n0 at *
          generalize tmD u (treeA (op, A, B) ats fs ((ks.map Prod.snd).take k)) = d0 at *
          generalize tmN (u + d) ks[k].2 = n1 at *
          generalize tmD (u + d) ks[k].2 = d1 at *
          go_wp2_with fail
          refine (around_any (op, A, B) k _ (by omega) HFX.out).mono ?_
          rintro e w1 ⟨rfl, hb1⟩
          rw [HD.out]
          have xr1 := HXR.out.below (hb1) HXR.out.lt
          have c3 : w1.cell? ⟨w.heap.size, 3, none⟩ = some (.slice (some ⟨g, o, none⟩) ks.length ck) := xr1.cell 3
          have r0 := HCS.out w1 hb1 0 _ rfl
          have r1 := HCS.out w1 hb1 1 _ rfl
          have r2 := HCS.out w1 hb1 2 _ rfl
          have r3 := HCS.out w1 hb1 3 _ rfl
          have r4 := HCS.out w1 hb1 4 _ rfl
          have r5 := HCS.out w1 hb1 5 _ rfl
          rw [Nat.add_zero] at r0
          have HB1 := Lib.hid hb1
          clear hb1 xr1 c0 c1 c2
          go_wp2_with fail
          refine (HREC.out w1 (below_step HB.out HB1.out)).mono ?_
          rintro e w2 ⟨rfl, hb2⟩
          have HB2 := Lib.hid hb2
          clear hb2 c3 r0 r1 r2 r3 r4 r5
          by_cases hp : 0 < n1
          · rw [if_pos hp] at HS2
            by_cases hq : d0 < d1 + d
            · rw [if_pos hq] at HS2
              go_wp2_with fail
              go_roundw
              case rel => exact ⟨k + 1, by go_num, by omega, by rw [← HS1.out]; go_num, by rw [← HS2.out]; go_num, Lib.hid (HRD.out _ (below_step HB1.out HB2.out))⟩
              case measure => simp [intOf] <;> omega
            · rw [if_neg hq] at HS2
              go_wp2_with fail
              go_roundw
              case rel => exact ⟨k + 1, by go_num, by omega, by rw [← HS1.out]; go_num, by rw [← HS2.out], Lib.hid (HRD.out _ (below_step HB1.out HB2.out))⟩
              case measure => simp [intOf] <;> omega
          · rw [if_neg hp] at HS2
            go_wp2_with fail
            go_roundw
            case rel => exact ⟨k + 1, by go_num, by omega, by rw [← HS1.out]; go_num, by rw [← HS2.out], Lib.hid (HRD.out _ (below_step HB1.out HB2.out))⟩
            case measure => simp [intOf] <;> omega
        · have hkm : k = ks.length := by omega
          have HE : Hid ((treeA (op, A, B) ats fs ((ks.map Prod.snd).take k)) = treeA (op, A, B) ats fs (ks.map Prod.snd)) := Lib.hid (by rw [hkm]; exact HEND.out)
          clear hkm
          go_wp2_with fail
          go_ret2
          exact ⟨ret_two (by rw [HE.out]) (by rw [HE.out]), HB.out⟩
end Go.Proofs.YtkkkblghihheeaaDoor
namespace Go.Proofs.YtkkkblghihheeaaDoor
open Go.RowKit

/-- Put in a variable's place. -/
def ptF (b : Ann) (n : Node3) (k : Nat) : Ann := if n.1 = 1 then (if n.2.1 = (k : Int) then rz k 0 b else if (k : Int) < n.2.1 then [((1, n.2.1 - 1, 0), 0)] else [(n, 0)]) else [(n, 0)]
theorem pt_stays (b : Ann) : Stays (ptF b) := fun n k h => by unfold ptF; rw [if_neg h]
theorem shA_zero (a : Ann) : shA 0 a = a := by unfold shA; simp
set_option maxRecDepth 100000 in
set_option maxHeartbeats 4000000 in
theorem put_hit (K P F uK uP uF : Option Addr) (ck na ca nf cf unk uck unp ucp unf ucf : Nat) (uo uA uB : Int) (b : Ann) (w : World) (G : Nat → Prop) (u : Nat) (hu : u ≤ 4000000) (hb : 4 * b.length ≤ 4000000) (hsm : SmallA b) (h : TreeAt w G ⟨(uo, uA, uB), uK, unk, uck, uP, unp, ucp, uF, unf, ucf⟩ b) :
    Calls Tryd.prog 70 #[.agg #[.int .i64 1, .int .i64 (u : Int), .int .i64 0, .slice K 0 ck, .slice P na ca, .slice F nf cf], .agg #[.int .i64 uo, .int .i64 uA, .int .i64 uB, .slice uK unk uck, .slice uP unp ucp, .slice uF unf ucf], .int .i64 (u : Int), .int .i64 (u : Int)] w (TreePost w G (rz u 0 b)) := by
  have hb0 : Below w.heap.size w (((w.alloc (.cells #[.int .i64 1, .int .i64 (u : Int), .int .i64 0, .slice K 0 ck, .slice P na ca, .slice F nf cf] 59)).alloc (.cells #[.int .i64 uo, .int .i64 uA, .int .i64 uB, .slice uK unk uck, .slice uP unp ucp, .slice uF unf ucf] 59)).alloc (.cells #[.int .i64 0, .int .i64 0, .int .i64 0, .slice none 0 0, .slice none 0 0, .slice none 0 0] 59)) := (((Below.refl _ _).alloc (Nat.le_refl _) _).alloc (by simp) _).alloc (by simp; omega) _
  have hr := raise_any b.length ⟨(uo, uA, uB), uK, unk, uck, uP, unp, ucp, uF, unf, ucf⟩ b (((w.alloc (.cells #[.int .i64 1, .int .i64 (u : Int), .int .i64 0, .slice K 0 ck, .slice P na ca, .slice F nf cf] 59)).alloc (.cells #[.int .i64 uo, .int .i64 uA, .int .i64 uB, .slice uK unk uck, .slice uP unp ucp, .slice uF unf ucf] 59)).alloc (.cells #[.int .i64 0, .int .i64 0, .int .i64 0, .slice none 0 0, .slice none 0 0, .slice none 0 0] 59)) (fun k => G k ∧ k < w.heap.size) u 0 hu (Nat.le_refl _) ((h.mono fun k h1 h2 => ⟨h1, h2⟩).next hb0) hsm (by omega)
  have z0 : Whole (((w.alloc (.cells #[.int .i64 1, .int .i64 (u : Int), .int .i64 0, .slice K 0 ck, .slice P na ca, .slice F nf cf] 59)).alloc (.cells #[.int .i64 uo, .int .i64 uA, .int .i64 uB, .slice uK unk uck, .slice uP unp ucp, .slice uF unf ucf] 59)).alloc (.cells #[.int .i64 0, .int .i64 0, .int .i64 0, .slice none 0 0, .slice none 0 0, .slice none 0 0] 59)) (w.heap.size + 1 + 1) #[.int .i64 0, .int .i64 0, .int .i64 0, .slice none 0 0, .slice none 0 0, .slice none 0 0] 59 := by
    have := Whole.new ((w.alloc (.cells #[.int .i64 1, .int .i64 (u : Int), .int .i64 0, .slice K 0 ck, .slice P na ca, .slice F nf cf] 59)).alloc (.cells #[.int .i64 uo, .int .i64 uA, .int .i64 uB, .slice uK unk uck, .slice uP unp ucp, .slice uF unf ucf] 59)) #[.int .i64 0, .int .i64 0, .int .i64 0, .slice none 0 0, .slice none 0 0, .slice none 0 0] 59
    simpa using this
  have HR := Lib.hid hr
  have HB0 := Lib.hid hb0
  have HZ := Lib.hid z0
  clear hr hb0 z0 h
  go_enter Tryd.func70, Tryd.ntmps70
  go_wp2_with fail
  refine (HR.out).mono ?_
  rintro e w1 ⟨x', rfl, ht, hb1⟩
  obtain ⟨⟨yo, yA, yB⟩, yK, ynk, yck, yP, ynp, ycp, yF, ynf, ycf⟩ := x'
  dsimp only [TV.val]
  have hs1 := hb1.size
  simp only [World.size_alloc] at hs1
  have hwz := HZ.out.below hb1 HZ.out.lt
  have HT := Lib.hid ht
  have HB1 := Lib.hid (below_step HB0.out hb1)
  have HS1 : Hid (w.heap.size ≤ w1.heap.size) := Lib.hid (by omega)
  clear ht hb1 hs1
  have z0 : w1.cell? ⟨w.heap.size + 1 + 1, 0, none⟩ = some (.int .i64 0) := hwz.cell 0
  have f0 := hwz.frozen 0
  have z1 : w1.cell? ⟨w.heap.size + 1 + 1, 1, none⟩ = some (.int .i64 0) := hwz.cell 1
  have f1 := hwz.frozen 1
  have z2 : w1.cell? ⟨w.heap.size + 1 + 1, 2, none⟩ = some (.int .i64 0) := hwz.cell 2
  have f2 := hwz.frozen 2
  have z3 : w1.cell? ⟨w.heap.size + 1 + 1, 3, none⟩ = some (.slice none 0 0) := hwz.cell 3
  have f3 := hwz.frozen 3
  have z4 : w1.cell? ⟨w.heap.size + 1 + 1, 4, none⟩ = some (.slice none 0 0) := hwz.cell 4
  have f4 := hwz.frozen 4
  have z5 : w1.cell? ⟨w.heap.size + 1 + 1, 5, none⟩ = some (.slice none 0 0) := hwz.cell 5
  have f5 := hwz.frozen 5
  have HWZ := Lib.hid hwz
  clear hwz
  go_wp2_with fail
  have hw6 := ((((((HWZ.out).set_ 0 (.int .i64 yo)).set_ 1 (.int .i64 yA)).set_ 2 (.int .i64 yB)).set_ 3 (.slice yK ynk yck)).set_ 4 (.slice yP ynp ycp)).set_ 5 (.slice yF ynf ycf)
  have ho6 : Only (fun j => j = w.heap.size + 1 + 1) w1 ((((((w1.setCell ⟨w.heap.size + 1 + 1, 0, none⟩ (.int .i64 yo)).setCell ⟨w.heap.size + 1 + 1, 1, none⟩ (.int .i64 yA)).setCell ⟨w.heap.size + 1 + 1, 2, none⟩ (.int .i64 yB)).setCell ⟨w.heap.size + 1 + 1, 3, none⟩ (.slice yK ynk yck)).setCell ⟨w.heap.size + 1 + 1, 4, none⟩ (.slice yP ynp ycp)).setCell ⟨w.heap.size + 1 + 1, 5, none⟩ (.slice yF ynf ycf)) := ((((((Only.refl (fun j => j = w.heap.size + 1 + 1) w1).set_ (.inl rfl) 0 _).set_ (.inl rfl) 1 _).set_ (.inl rfl) 2 _).set_ (.inl rfl) 3 _).set_ (.inl rfl) 4 _).set_ (.inl rfl) 5 _
  generalize ((((((w1.setCell ⟨w.heap.size + 1 + 1, 0, none⟩ (.int .i64 yo)).setCell ⟨w.heap.size + 1 + 1, 1, none⟩ (.int .i64 yA)).setCell ⟨w.heap.size + 1 + 1, 2, none⟩ (.int .i64 yB)).setCell ⟨w.heap.size + 1 + 1, 3, none⟩ (.slice yK ynk yck)).setCell ⟨w.heap.size + 1 + 1, 4, none⟩ (.slice yP ynp ycp)).setCell ⟨w.heap.size + 1 + 1, 5, none⟩ (.slice yF ynf ycf)) = W6 at *
  have q0 : W6.cell? ⟨w.heap.size + 1 + 1, 0, none⟩ = some (.int .i64 yo) := hw6.cell 0
  have q1 : W6.cell? ⟨w.heap.size + 1 + 1, 1, none⟩ = some (.int .i64 yA) := hw6.cell 1
  have q2 : W6.cell? ⟨w.heap.size + 1 + 1, 2, none⟩ = some (.int .i64 yB) := hw6.cell 2
  have q3 : W6.cell? ⟨w.heap.size + 1 + 1, 3, none⟩ = some (.slice yK ynk yck) := hw6.cell 3
  have q4 : W6.cell? ⟨w.heap.size + 1 + 1, 4, none⟩ = some (.slice yP ynp ycp) := hw6.cell 4
  have q5 : W6.cell? ⟨w.heap.size + 1 + 1, 5, none⟩ = some (.slice yF ynf ycf) := hw6.cell 5
  have hb6 := HB1.out.trans (ho6.below (B := w.heap.size) HS1.out fun k hk e => by omega)
  have ht6 := (HT.out.keep fun k hk hl => ho6.block k hl (by simp only [World.size_alloc] at hk; omega)).mono (G' := fun k => G k ∨ w.heap.size ≤ k) fun k hk _ => by simp only [World.size_alloc] at hk; rcases hk with h | h; exact .inl h.1; exact .inr (by omega)
  clear hw6 ho6
  (try simp only [Exit.inBlock, Exit.then])
  refine bodyPost_ret (by simp [results, Tryd.results70, go_sem, q0, q1, q2, q3, q4, q5]; try rfl) rfl ?_
  exact TreePost.of ht6 hb6
set_option maxRecDepth 100000 in
set_option maxHeartbeats 4000000 in
theorem tput_any : ∀ (N : Nat) (v vu : TV) (a b : Ann) (w : World) (G : Nat → Prop) (u : Nat), a.length ≤ N → TreeAt w G v a → TreeAt w G vu b → SmallA a → SmallA b → 4 * b.length ≤ 4000000 → u + 4 * a.length ≤ 4000000 →
    Calls Tryd.prog 70 #[v.val, vu.val, .int .i64 (u : Int), .int .i64 (u : Int)] w (TreePost w G (each (ptF b) u a)) := by
  intro N
  induction N with
  | zero =>
    intro v vu a b w G u hN h
    cases h with
    | mk v ks ats fs hs hK hA hF hv sub => exact absurd hN (by simp [treeA])
  | succ N ih =>
    intro v vu a b w G u hN h hU hsm hsb hbl hu
    have h' := h
    cases h with
    | mk v ks ats fs hs hK hA hF hv sub =>
    obtain ⟨⟨op, A, B⟩, K, nk, ck, P, na, ca, F, nf, cf⟩ := v
    obtain ⟨⟨uo, uA, uB⟩, uK, unk, uck, uP, unp, ucp, uF, unf, ucf⟩ := vu
    simp only at hN hsm hu hK hA hF h'
    have htop := hsm.top
    simp only at htop
    have hnk := hs.nk
    simp only at hnk
    subst hnk
    by_cases h1 : op = 1
    · obtain ⟨hk0, ha0, hz0⟩ := hs.var h1
      simp only at hz0
      have e1 := List.eq_nil_of_length_eq_zero hk0
      have e2 := List.eq_nil_of_length_eq_zero ha0
      subst h1 e1 e2 hz0
      have hT : treeA (1, A, 0) [] fs [] = [((1, A, 0), 0)] := rfl
      rw [List.map_nil, hT] at h' hsm hu ⊢
      have hE : each (ptF b) u [((1, A, 0), 0)] = if A = (u : Int) then rz u 0 b else if (u : Int) < A then [((1, A - 1, 0), 0)] else [((1, A, 0), 0)] := by
        unfold each ptF
        simp only [List.flatMap_cons, List.flatMap_nil, List.append_nil, Nat.zero_add, shA_zero, if_true]
      rw [hE]
      clear hs hK hA hF hv sub ih hN hT hE hk0 ha0
      by_cases hq : A = (u : Int)
      · rw [if_pos hq]
        subst hq
        exact put_hit K P F uK uP uF ck na ca nf cf unk uck unp ucp unf ucf uo uA uB b w G u (by omega) hbl hsb hU
      rw [if_neg hq]
      have eq : (A == (u : Int)) = false := by simpa using hq
      dsimp only [TV.val]
      have HB := Lib.hid (show ∀ o1 o2 o3 : Obj, Below w.heap.size w (((w.alloc o1).alloc o2).alloc o3) from fun o1 o2 o3 => (((Below.refl _ _).alloc (Nat.le_refl _) _).alloc (by simp) _).alloc (by simp; omega) _)
      by_cases hg : (u : Int) < A
      · rw [if_pos hg]
        have ew := IntWalk.i64_in (A - 1) (by omega)
        clear h' hU hq
        go_enter Tryd.func70, Tryd.ntmps70
        go_wp2_with fail
        go_returns
        exact TreePost.var _ (HB.out _ _ _)
      · rw [if_neg hg]
        have HT := Lib.hid h'
        clear h' hU hq
        go_enter Tryd.func70, Tryd.ntmps70
        go_wp2_with fail
        go_returns
        exact TreePost.of ((HT.out.next (HB.out _ _ _)).mono fun k hk _ => .inl hk) (HB.out _ _ _)
    clear h'
    have HSUB : Hid (∀ (k : Nat) (hk : k < ks.length) w1, Below w.heap.size w w1 → Calls Tryd.prog 70 #[TV.val ks[k].1, .agg #[.int .i64 uo, .int .i64 uA, .int .i64 uB, .slice uK unk uck, .slice uP unp ucp, .slice uF unf ucf], .int .i64 ((u : Int) + ((aroundN (op, A, B) k : Nat) : Int)), .int .i64 ((u : Int) + ((aroundN (op, A, B) k : Nat) : Int))] w1 (TreePost w1 (fun k => G k ∧ k < w.heap.size) (each (ptF b) (u + aroundN (op, A, B) k) ks[k].2))) := Lib.hid fun k hk w1 hb => by
      have hm : ks[k].2 ∈ ks.map Prod.snd := List.mem_map.2 ⟨_, List.getElem_mem hk, rfl⟩
      have hl := treeA_len (n := (op, A, B)) (ats := ats) (fs := fs) hm
      have ha := around_le (n := (op, A, B)) (fun h => (hs.fix h).2.1) k
      have := ih ks[k].1 ⟨(uo, uA, uB), uK, unk, uck, uP, unp, ucp, uF, unf, ucf⟩ ks[k].2 b w1 (fun k => G k ∧ k < w.heap.size) (u + aroundN (op, A, B) k) (by omega) (((sub _ (List.getElem_mem hk)).mono fun k h1 h2 => ⟨h1, h2⟩).next hb) ((hU.mono fun k h1 h2 => ⟨h1, h2⟩).next hb) (hsm.kid hm) hsb hbl (by omega)
      rwa [Int.natCast_add] at this
    have HDONE : Hid (∀ (wr : World) (Ko : Option Addr) (cko k : Nat) (os : List (TV × Ann)), Below w.heap.size w wr → TGrow wr (fun k => G k ∧ k < w.heap.size) (w.heap.size + 1 + 1 + 1) (op, A, B) P na ca F nf cf (.slice Ko k cko) os → os.length = k → k = ks.length → Slice Ko k cko → (∀ j (hj : j < os.length) (hk : j < ks.length), os[j].2 = each (ptF b) (u + aroundN (op, A, B) j) ks[j].2) →
        TreeAt wr (fun k => (G k ∧ k < w.heap.size) ∨ w.heap.size + 1 + 1 + 1 < k) ⟨(op, A, B), Ko, k, cko, P, na, ca, F, nf, cf⟩ (each (ptF b) u (treeA (op, A, B) ats fs (ks.map Prod.snd)))) := Lib.hid (by
      intro wr Ko cko k os hb hg hlen hkm hsl hp
      have := hg.done hlen (ats := ats) (fs := fs) ⟨hlen.symm, hs.na, hs.nf, hsl, hs.sa, hs.sf, fun h => absurd h h1, fun h => by have := hs.fix h; exact ⟨this.1, this.2.1, by omega⟩⟩ ((hA.mono fun k h1 h2 => ⟨h1, h2⟩).keep fun k hk _ => hb.block k hk.2) ((hF.mono fun k h1 h2 => ⟨h1, h2⟩).keep fun k hk _ => hb.block k hk.2) hv
      have e : each (ptF b) u (treeA (op, A, B) ats fs (ks.map Prod.snd)) = treeA (op, A, B) ats fs (os.map Prod.snd) := by
        refine each_tree (pt_stays b) (pt_stays b _ _ h1) (fun x hx => hv x (.inl hx)) (fun x hx => hv x (.inr hx)) (by simp; omega) fun j hj => ?_
        have := hp j (by simp at hj; omega) (by simpa using hj)
        simp only [List.getElem_map]
        exact this
      rw [e]
      exact this)
    have hfx := hs.fix
    simp only at hfx
    have HFX := Lib.hid (show (op, A, B).1 = 12 → 0 ≤ (op, A, B).2.2 from fun h => (hfx h).1)
    have HAR : Hid (∀ k, aroundN (op, A, B) k ≤ 4) := Lib.hid (around_le (n := (op, A, B)) fun h => (hfx h).2.1)
    have hb0 : Below w.heap.size w ((((w.alloc (.cells #[.int .i64 op, .int .i64 A, .int .i64 B, .slice K ks.length ck, .slice P na ca, .slice F nf cf] 59)).alloc (.cells #[.int .i64 uo, .int .i64 uA, .int .i64 uB, .slice uK unk uck, .slice uP unp ucp, .slice uF unf ucf] 59)).alloc (.cells #[.int .i64 0, .int .i64 0, .int .i64 0, .slice none 0 0, .slice none 0 0, .slice none 0 0] 59)).alloc (.cells #[.int .i64 op, .int .i64 A, .int .i64 B, .slice none 0 0, .slice P na ca, .slice F nf cf] 59)) := ((((Below.refl _ _).alloc (Nat.le_refl _) _).alloc (by simp) _).alloc (by simp; omega) _).alloc (by simp; omega) _
    have x0 : Whole ((((w.alloc (.cells #[.int .i64 op, .int .i64 A, .int .i64 B, .slice K ks.length ck, .slice P na ca, .slice F nf cf] 59)).alloc (.cells #[.int .i64 uo, .int .i64 uA, .int .i64 uB, .slice uK unk uck, .slice uP unp ucp, .slice uF unf ucf] 59)).alloc (.cells #[.int .i64 0, .int .i64 0, .int .i64 0, .slice none 0 0, .slice none 0 0, .slice none 0 0] 59)).alloc (.cells #[.int .i64 op, .int .i64 A, .int .i64 B, .slice none 0 0, .slice P na ca, .slice F nf cf] 59)) w.heap.size #[.int .i64 op, .int .i64 A, .int .i64 B, .slice K ks.length ck, .slice P na ca, .slice F nf cf] 59 := (((Whole.new w #[.int .i64 op, .int .i64 A, .int .i64 B, .slice K ks.length ck, .slice P na ca, .slice F nf cf] 59).below ((Below.refl _ _).alloc (Nat.le_refl _) _) (by simp)).below ((Below.refl _ _).alloc (Nat.le_refl _) _) (by simp; omega)).below ((Below.refl _ _).alloc (Nat.le_refl _) _) (by simp; omega)
    have u0 : Whole ((((w.alloc (.cells #[.int .i64 op, .int .i64 A, .int .i64 B, .slice K ks.length ck, .slice P na ca, .slice F nf cf] 59)).alloc (.cells #[.int .i64 uo, .int .i64 uA, .int .i64 uB, .slice uK unk uck, .slice uP unp ucp, .slice uF unf ucf] 59)).alloc (.cells #[.int .i64 0, .int .i64 0, .int .i64 0, .slice none 0 0, .slice none 0 0, .slice none 0 0] 59)).alloc (.cells #[.int .i64 op, .int .i64 A, .int .i64 B, .slice none 0 0, .slice P na ca, .slice F nf cf] 59)) (w.heap.size + 1) #[.int .i64 uo, .int .i64 uA, .int .i64 uB, .slice uK unk uck, .slice uP unp ucp, .slice uF unf ucf] 59 := by
      have := ((Whole.new (w.alloc (.cells #[.int .i64 op, .int .i64 A, .int .i64 B, .slice K ks.length ck, .slice P na ca, .slice F nf cf] 59)) #[.int .i64 uo, .int .i64 uA, .int .i64 uB, .slice uK unk uck, .slice uP unp ucp, .slice uF unf ucf] 59).below ((Below.refl _ _).alloc (Nat.le_refl _) (.cells #[.int .i64 0, .int .i64 0, .int .i64 0, .slice none 0 0, .slice none 0 0, .slice none 0 0] 59)) (by simp)).below ((Below.refl _ _).alloc (Nat.le_refl _) (.cells #[.int .i64 op, .int .i64 A, .int .i64 B, .slice none 0 0, .slice P na ca, .slice F nf cf] 59)) (by simp)
      rwa [World.size_alloc] at this
    have z0 : Whole ((((w.alloc (.cells #[.int .i64 op, .int .i64 A, .int .i64 B, .slice K ks.length ck, .slice P na ca, .slice F nf cf] 59)).alloc (.cells #[.int .i64 uo, .int .i64 uA, .int .i64 uB, .slice uK unk uck, .slice uP unp ucp, .slice uF unf ucf] 59)).alloc (.cells #[.int .i64 0, .int .i64 0, .int .i64 0, .slice none 0 0, .slice none 0 0, .slice none 0 0] 59)).alloc (.cells #[.int .i64 op, .int .i64 A, .int .i64 B, .slice none 0 0, .slice P na ca, .slice F nf cf] 59)) (w.heap.size + 1 + 1) #[.int .i64 0, .int .i64 0, .int .i64 0, .slice none 0 0, .slice none 0 0, .slice none 0 0] 59 := by
      have := (Whole.new ((w.alloc (.cells #[.int .i64 op, .int .i64 A, .int .i64 B, .slice K ks.length ck, .slice P na ca, .slice F nf cf] 59)).alloc (.cells #[.int .i64 uo, .int .i64 uA, .int .i64 uB, .slice uK unk uck, .slice uP unp ucp, .slice uF unf ucf] 59)) #[.int .i64 0, .int .i64 0, .int .i64 0, .slice none 0 0, .slice none 0 0, .slice none 0 0] 59).below ((Below.refl _ _).alloc (Nat.le_refl _) (.cells #[.int .i64 op, .int .i64 A, .int .i64 B, .slice none 0 0, .slice P na ca, .slice F nf cf] 59)) (by simp)
      simpa using this
    have HG0 : Hid (TGrow ((((w.alloc (.cells #[.int .i64 op, .int .i64 A, .int .i64 B, .slice K ks.length ck, .slice P na ca, .slice F nf cf] 59)).alloc (.cells #[.int .i64 uo, .int .i64 uA, .int .i64 uB, .slice uK unk uck, .slice uP unp ucp, .slice uF unf ucf] 59)).alloc (.cells #[.int .i64 0, .int .i64 0, .int .i64 0, .slice none 0 0, .slice none 0 0, .slice none 0 0] 59)).alloc (.cells #[.int .i64 op, .int .i64 A, .int .i64 B, .slice none 0 0, .slice P na ca, .slice F nf cf] 59)) (fun k => G k ∧ k < w.heap.size) (w.heap.size + 1 + 1 + 1) (op, A, B) P na ca F nf cf (.slice none 0 0) []) := Lib.hid (by
      refine ⟨?_, World.ownsRow_nil _ _ _ _, fun k h => (by cases h), fun p hp => (by cases hp)⟩
      have := Whole.new (((w.alloc (.cells #[.int .i64 op, .int .i64 A, .int .i64 B, .slice K ks.length ck, .slice P na ca, .slice F nf cf] 59)).alloc (.cells #[.int .i64 uo, .int .i64 uA, .int .i64 uB, .slice uK unk uck, .slice uP unp ucp, .slice uF unf ucf] 59)).alloc (.cells #[.int .i64 0, .int .i64 0, .int .i64 0, .slice none 0 0, .slice none 0 0, .slice none 0 0] 59)) #[.int .i64 op, .int .i64 A, .int .i64 B, .slice none 0 0, .slice P na ca, .slice F nf cf] 59
      simpa using this)
    have hkl : ks.length ≤ 1000000 := by
      have := kids_count (n := (op, A, B)) (ats := ats) (fs := fs) sub
      omega
    have HLT : Hid (∀ k, (G k ∧ k < w.heap.size) → k < w.heap.size + 1 + 1 + 1) := Lib.hid fun k hk => by omega
    have HB0 := Lib.hid hb0
    have HX := Lib.hid x0
    have HU := Lib.hid u0
    have HZ := Lib.hid z0
    have HK := Lib.hid hK.1
    have e1 : (op == 1) = false := by simpa using h1
    clear hs hK hA hF hv sub ih hN hsm hfx hb0 x0 z0 u0 hU hsb
    dsimp only [TV.val]
    generalize each (ptF b) u (treeA (op, A, B) ats fs (ks.map Prod.snd)) = ra at *
    go_enter Tryd.func70, Tryd.ntmps70
    go_wp2_with fail
    go_loopw [10, 11] (fun i _ wr => ∃ (k : Nat) (Kv : Value) (os : List (TV × Ann)), i = .int .i64 (k : Int) ∧ k ≤ ks.length ∧ os.length = k ∧ Hid (∀ j (hj : j < os.length) (hk : j < ks.length), os[j].2 = each (ptF b) (u + aroundN (op, A, B) j) ks[j].2) ∧ Hid (TGrow wr (fun k => G k ∧ k < w.heap.size) (w.heap.size + 1 + 1 + 1) (op, A, B) P na ca F nf cf Kv os) ∧ Hid (Below (w.heap.size + 1 + 1 + 1) ((((w.alloc (.cells #[.int .i64 op, .int .i64 A, .int .i64 B, .slice K ks.length ck, .slice P na ca, .slice F nf cf] 59)).alloc (.cells #[.int .i64 uo, .int .i64 uA, .int .i64 uB, .slice uK unk uck, .slice uP unp ucp, .slice uF unf ucf] 59)).alloc (.cells #[.int .i64 0, .int .i64 0, .int .i64 0, .slice none 0 0, .slice none 0 0, .slice none 0 0] 59)).alloc (.cells #[.int .i64 op, .int .i64 A, .int .i64 B, .slice none 0 0, .slice P na ca, .slice F nf cf] 59)) wr)) (fun i _ _ => ks.length - (intOf i).toNat)
    case atStart => exact ⟨0, _, [], rfl, Nat.zero_le _, rfl, Lib.hid (fun j hj => absurd hj (by simp)), HG0, Lib.hid (Below.refl _ _)⟩
    case round =>
      obtain ⟨k, Kv, os, rfl, hk, hlen, HP, HG, HBR⟩ := hrel
      have hsz := HBR.out.size
      simp only [World.size_alloc] at hsz
      have xr := HX.out.below HBR.out (by omega)
      have c0 : wr.cell? ⟨w.heap.size, 0, none⟩ = some (.int .i64 op) := xr.cell 0
      have c1 : wr.cell? ⟨w.heap.size, 1, none⟩ = some (.int .i64 A) := xr.cell 1
      have c2 : wr.cell? ⟨w.heap.size, 2, none⟩ = some (.int .i64 B) := xr.cell 2
      have c3 : wr.cell? ⟨w.heap.size, 3, none⟩ = some (.slice K ks.length ck) := xr.cell 3
      by_cases hlt : k < ks.length
      · obtain ⟨g, o, rfl, hg, -⟩ := HK.out.at_ (by rw [treesV_len, List.length_map]; omega)
        have hd4 := HAR.out k
        have hrec := HSUB.out k hlt
        have HPART : Hid (∀ q : TV × Ann, q.2 = each (ptF b) (u + aroundN (op, A, B) k) ks[k].2 → ∀ j (hj : j < (os ++ [q]).length) (hk : j < ks.length), (os ++ [q])[j].2 = each (ptF b) (u + aroundN (op, A, B) j) ks[j].2) := Lib.hid fun q hq j hj hk' => by
          by_cases e : j < os.length
          · rw [List.getElem_append_left e]; exact HP.out j e hk'
          · have : j = k := by simp only [List.length_append, List.length_cons, List.length_nil] at hj; omega
            subst this
            rw [List.getElem_append_right (by omega)]
            simpa [hlen] using hq
        obtain ⟨d, hd⟩ : ∃ d, aroundN (op, A, B) k = d := ⟨_, rfl⟩
        rw [hd] at hd4 hrec HPART
        have HREC := Lib.hid hrec
        have HD := Lib.hid hd
        clear hd hrec
        go_wp2_with fail
        refine (around_any (op, A, B) k _ (by omega) HFX.out).mono ?_
        rintro e w1 ⟨rfl, hb1⟩
        rw [HD.out]
        have hb1' : Below wr.heap.size wr w1.drew := hb1.trans (below_drewN (Below.refl _ _) 1)
        have HBW := Lib.hid (show Below w.heap.size w w1.drew from (HB0.out.trans (HBR.out.mono (by omega))).trans (hb1'.mono (by omega)))
        have HRD := Lib.hid (show ∀ w2, Below (w.heap.size + 1 + 1 + 1) w1.drew w2 → Below (w.heap.size + 1 + 1 + 1) ((((w.alloc (.cells #[.int .i64 op, .int .i64 A, .int .i64 B, .slice (some ⟨g, o, none⟩) ks.length ck, .slice P na ca, .slice F nf cf] 59)).alloc (.cells #[.int .i64 uo, .int .i64 uA, .int .i64 uB, .slice uK unk uck, .slice uP unp ucp, .slice uF unf ucf] 59)).alloc (.cells #[.int .i64 0, .int .i64 0, .int .i64 0, .slice none 0 0, .slice none 0 0, .slice none 0 0] 59)).alloc (.cells #[.int .i64 op, .int .i64 A, .int .i64 B, .slice none 0 0, .slice P na ca, .slice F nf cf] 59)) w2 from fun w2 hb => (HBR.out.trans (hb1'.mono (by omega))).trans hb)
        have hs1 := hb1'.size
        have HS1 : Hid (w.heap.size + 1 + 1 ≤ w1.drew.heap.size) := Lib.hid (by omega)
        have HS3 : Hid (w.heap.size + 1 + 1 + 1 < w1.drew.heap.size) := Lib.hid (by omega)
        have hcs := kid_cells (k := k) (HK.out.below HBW.out) (by rw [List.length_map]; exact hlt)
        simp only [List.getElem_map] at hcs
        obtain ⟨x, hx⟩ : ∃ x, ks[k].1 = x := ⟨_, rfl⟩
        rw [hx] at hcs HREC
        clear hx
        obtain ⟨⟨xo, xA, xB⟩, xK, xnk, xck, xP, xnp, xcp, xF, xnf, xcf⟩ := x
        have r0 := hcs 0 _ rfl
        have r1 := hcs 1 _ rfl
        have r2 := hcs 2 _ rfl
        have r3 := hcs 3 _ rfl
        have r4 := hcs 4 _ rfl
        have r5 := hcs 5 _ rfl
        rw [Nat.add_zero] at r0
        have ur := (HU.out.below HBR.out (by omega)).below hb1' (by omega)
        have xr1 := xr.below hb1' (by omega)
        have HKEEP : Hid (∀ W W' : World, Below (w.heap.size + 1 + 1) W W' → (fun W => W.cell? ⟨w.heap.size, 3, none⟩ = some (.slice (some ⟨g, o, none⟩) ks.length ck) ∧ W.cell? ⟨g, o + k * 6, none⟩ = some (.int .i64 xo) ∧ W.cell? ⟨g, o + k * 6 + 1, none⟩ = some (.int .i64 xA) ∧ W.cell? ⟨g, o + k * 6 + 2, none⟩ = some (.int .i64 xB) ∧ W.cell? ⟨g, o + k * 6 + 3, none⟩ = some (.slice xK xnk xck) ∧ W.cell? ⟨g, o + k * 6 + 4, none⟩ = some (.slice xP xnp xcp) ∧ W.cell? ⟨g, o + k * 6 + 5, none⟩ = some (.slice xF xnf xcf) ∧ W.cell? ⟨w.heap.size + 1, 0, none⟩ = some (.int .i64 uo) ∧ W.cell? ⟨w.heap.size + 1, 1, none⟩ = some (.int .i64 uA) ∧ W.cell? ⟨w.heap.size + 1, 2, none⟩ = some (.int .i64 uB) ∧ W.cell? ⟨w.heap.size + 1, 3, none⟩ = some (.slice uK unk uck) ∧ W.cell? ⟨w.heap.size + 1, 4, none⟩ = some (.slice uP unp ucp) ∧ W.cell? ⟨w.heap.size + 1, 5, none⟩ = some (.slice uF unf ucf)) W → (fun W => W.cell? ⟨w.heap.size, 3, none⟩ = some (.slice (some ⟨g, o, none⟩) ks.length ck) ∧ W.cell? ⟨g, o + k * 6, none⟩ = some (.int .i64 xo) ∧ W.cell? ⟨g, o + k * 6 + 1, none⟩ = some (.int .i64 xA) ∧ W.cell? ⟨g, o + k * 6 + 2, none⟩ = some (.int .i64 xB) ∧ W.cell? ⟨g, o + k * 6 + 3, none⟩ = some (.slice xK xnk xck) ∧ W.cell? ⟨g, o + k * 6 + 4, none⟩ = some (.slice xP xnp xcp) ∧ W.cell? ⟨g, o + k * 6 + 5, none⟩ = some (.slice xF xnf xcf) ∧ W.cell? ⟨w.heap.size + 1, 0, none⟩ = some (.int .i64 uo) ∧ W.cell? ⟨w.heap.size + 1, 1, none⟩ = some (.int .i64 uA) ∧ W.cell? ⟨w.heap.size + 1, 2, none⟩ = some (.int .i64 uB) ∧ W.cell? ⟨w.heap.size + 1, 3, none⟩ = some (.slice uK unk uck) ∧ W.cell? ⟨w.heap.size + 1, 4, none⟩ = some (.slice uP unp ucp) ∧ W.cell? ⟨w.heap.size + 1, 5, none⟩ = some (.slice uF unf ucf)) W') := Lib.hid fun W W' hb ⟨h0, h1, h2, h3, h4, h5, h6, h7, h8, h9, h10, h11, h12⟩ => ⟨(hb.cell (by simp only; omega)).trans h0, (hb.cell (by simp only; omega)).trans h1, (hb.cell (by simp only; omega)).trans h2, (hb.cell (by simp only; omega)).trans h3, (hb.cell (by simp only; omega)).trans h4, (hb.cell (by simp only; omega)).trans h5, (hb.cell (by simp only; omega)).trans h6, (hb.cell (by simp only; omega)).trans h7, (hb.cell (by simp only; omega)).trans h8, (hb.cell (by simp only; omega)).trans h9, (hb.cell (by simp only; omega)).trans h10, (hb.cell (by simp only; omega)).trans h11, (hb.cell (by simp only; omega)).trans h12⟩
        have HSS : Hid ((fun W => W.cell? ⟨w.heap.size, 3, none⟩ = some (.slice (some ⟨g, o, none⟩) ks.length ck) ∧ W.cell? ⟨g, o + k * 6, none⟩ = some (.int .i64 xo) ∧ W.cell? ⟨g, o + k * 6 + 1, none⟩ = some (.int .i64 xA) ∧ W.cell? ⟨g, o + k * 6 + 2, none⟩ = some (.int .i64 xB) ∧ W.cell? ⟨g, o + k * 6 + 3, none⟩ = some (.slice xK xnk xck) ∧ W.cell? ⟨g, o + k * 6 + 4, none⟩ = some (.slice xP xnp xcp) ∧ W.cell? ⟨g, o + k * 6 + 5, none⟩ = some (.slice xF xnf xcf) ∧ W.cell? ⟨w.heap.size + 1, 0, none⟩ = some (.int .i64 uo) ∧ W.cell? ⟨w.heap.size + 1, 1, none⟩ = some (.int .i64 uA) ∧ W.cell? ⟨w.heap.size + 1, 2, none⟩ = some (.int .i64 uB) ∧ W.cell? ⟨w.heap.size + 1, 3, none⟩ = some (.slice uK unk uck) ∧ W.cell? ⟨w.heap.size + 1, 4, none⟩ = some (.slice uP unp ucp) ∧ W.cell? ⟨w.heap.size + 1, 5, none⟩ = some (.slice uF unf ucf)) w1.drew) := Lib.hid ⟨xr1.cell 3, r0, r1, r2, r3, r4, r5, ur.cell 0, ur.cell 1, ur.cell 2, ur.cell 3, ur.cell 4, ur.cell 5⟩
        have ew := IntWalk.i64_in ((u : Int) + (d : Int)) (by omega)
        have hgd := HG.out.next hb1'
        have hown : w1.drew.ownsRow 0 59 6 Kv k (treesV (os.map Prod.fst)) := by rw [← hlen]; exact hgd.own
        obtain ⟨Ko, cko, rfl, -, -⟩ := own_slice hown
        have HWH := Lib.hid hgd.whole
        have HKB := Lib.hid hgd.kb
        have HGD := Lib.hid hgd
        have HOWN := Lib.hid hown
        have HLEN := Lib.hid hlen
        have cb : w1.drew.cell? ⟨w.heap.size + 1 + 1 + 1, 3, none⟩ = some (.slice Ko k cko) := hgd.whole.cell 3
        clear hcs r0 r1 r2 r3 r4 r5 hgd hown hlen HP HG xr xr1 ur hb1 hb1' hs1 hsz c0 c1 c2 c3
        go_wp2_with fail
        refine region_begin_any (S := fun W => W.cell? ⟨w.heap.size, 3, none⟩ = some (.slice (some ⟨g, o, none⟩) ks.length ck) ∧ W.cell? ⟨g, o + k * 6, none⟩ = some (.int .i64 xo) ∧ W.cell? ⟨g, o + k * 6 + 1, none⟩ = some (.int .i64 xA) ∧ W.cell? ⟨g, o + k * 6 + 2, none⟩ = some (.int .i64 xB) ∧ W.cell? ⟨g, o + k * 6 + 3, none⟩ = some (.slice xK xnk xck) ∧ W.cell? ⟨g, o + k * 6 + 4, none⟩ = some (.slice xP xnp xcp) ∧ W.cell? ⟨g, o + k * 6 + 5, none⟩ = some (.slice xF xnf xcf) ∧ W.cell? ⟨w.heap.size + 1, 0, none⟩ = some (.int .i64 uo) ∧ W.cell? ⟨w.heap.size + 1, 1, none⟩ = some (.int .i64 uA) ∧ W.cell? ⟨w.heap.size + 1, 2, none⟩ = some (.int .i64 uB) ∧ W.cell? ⟨w.heap.size + 1, 3, none⟩ = some (.slice uK unk uck) ∧ W.cell? ⟨w.heap.size + 1, 4, none⟩ = some (.slice uP unp ucp) ∧ W.cell? ⟨w.heap.size + 1, 5, none⟩ = some (.slice uF unf ucf)) (by kernel_rfl) (HSS.out) (fun W hW hHeld => ?_)
        subst hW
        refine region_take 0 ?_ rfl (by kernel_rfl) (by rfl) hHeld ?_ ?_
        rotate_left
        · intro w hSw
          (try dsimp only at hSw)
          go_simp
          try with_reducible rfl
        try simp only [Act.put, List.setIfInBounds_toArray, List.set_cons_zero, List.set_cons_succ]
        refine region_take 2 ?_ rfl (by kernel_rfl) (by rfl) hHeld ?_ ?_
        rotate_left
        · intro w hSw
          (try dsimp only at hSw)
          go_simp
          try with_reducible rfl
        try simp only [Act.put, List.setIfInBounds_toArray, List.set_cons_zero, List.set_cons_succ]
        refine region_take 3 ?_ rfl (by kernel_rfl) (by rfl) hHeld ?_ ?_
        rotate_left
        · intro w hSw
          (try dsimp only at hSw)
          go_simp
          try with_reducible rfl
        try simp only [Act.put, List.setIfInBounds_toArray, List.set_cons_zero, List.set_cons_succ]
        refine region_take 4 ?_ rfl (by kernel_rfl) (by rfl) hHeld ?_ ?_
        rotate_left
        · intro w hSw
          (try dsimp only at hSw)
          go_simp
          try with_reducible rfl
        try simp only [Act.put, List.setIfInBounds_toArray, List.set_cons_zero, List.set_cons_succ]
        refine region_take 5 ?_ rfl (by kernel_rfl) (by rfl) hHeld ?_ ?_
        rotate_left
        · intro w hSw
          (try dsimp only at hSw)
          go_simp
          try with_reducible rfl
        try simp only [Act.put, List.setIfInBounds_toArray, List.set_cons_zero, List.set_cons_succ]
        refine region_take 6 ?_ rfl (by kernel_rfl) (by rfl) hHeld ?_ ?_
        rotate_left
        · intro w hSw
          (try dsimp only at hSw)
          go_simp
          try with_reducible rfl
        try simp only [Act.put, List.setIfInBounds_toArray, List.set_cons_zero, List.set_cons_succ]
        refine region_take 7 ?_ rfl (by kernel_rfl) (by rfl) hHeld ?_ ?_
        rotate_left
        · intro w hSw
          (try dsimp only at hSw)
          go_simp
          try with_reducible rfl
        try simp only [Act.put, List.setIfInBounds_toArray, List.set_cons_zero, List.set_cons_succ]
        refine region_take 8 ?_ rfl (by kernel_rfl) (by rfl) hHeld ?_ ?_
        rotate_left
        · intro w hSw
          (try dsimp only at hSw)
          go_simp
          try with_reducible rfl
        try simp only [Act.put, List.setIfInBounds_toArray, List.set_cons_zero, List.set_cons_succ]
        refine region_take 9 ?_ rfl (by kernel_rfl) (by rfl) hHeld ?_ ?_
        rotate_left
        · intro w hSw
          (try dsimp only at hSw)
          go_simp
          try with_reducible rfl
        try simp only [Act.put, List.setIfInBounds_toArray, List.set_cons_zero, List.set_cons_succ]
        refine region_take 10 ?_ rfl (by kernel_rfl) (by rfl) hHeld ?_ ?_
        rotate_left
        · intro w hSw
          (try dsimp only at hSw)
          go_simp
          try with_reducible rfl
        try simp only [Act.put, List.setIfInBounds_toArray, List.set_cons_zero, List.set_cons_succ]
        refine region_take 11 ?_ rfl (by kernel_rfl) (by rfl) hHeld ?_ ?_
        rotate_left
        · intro w hSw
          (try dsimp only at hSw)
          go_simp
          try with_reducible rfl
        try simp only [Act.put, List.setIfInBounds_toArray, List.set_cons_zero, List.set_cons_succ]
        refine region_take 12 ?_ rfl (by kernel_rfl) (by rfl) hHeld ?_ ?_
        rotate_left
        · intro w hSw
          (try dsimp only at hSw)
          go_simp
          try with_reducible rfl
        try simp only [Act.put, List.setIfInBounds_toArray, List.set_cons_zero, List.set_cons_succ]
        refine region_take 13 ?_ rfl (by kernel_rfl) (by rfl) hHeld ?_ ?_
        rotate_left
        · intro w hSw
          (try dsimp only at hSw)
          go_simp
          try with_reducible rfl
        try simp only [Act.put, List.setIfInBounds_toArray, List.set_cons_zero, List.set_cons_succ]
        refine region_two 1 14 rfl rfl (by kernel_rfl) (by rfl) (by rfl) (fun K hK => ?_) (fun K hK => ?_)
        · go_simp
          refine hK.out _ _ (hHeld) (fun hHeld => ?_)
          clear hK K
          try simp only [Act.put, List.setIfInBounds_toArray, List.set_cons_zero, List.set_cons_succ]
          refine region_call 14 rfl (by kernel_rfl) (by rfl) (fun K hK => ?_)
          go_simp
          refine (HREC.out _ HBW.out).mono ?_
          rintro e w2 ⟨x', rfl, ht, hb2⟩
          obtain ⟨⟨yo, yA, yB⟩, yK, ynk, yck, yP, ynp, ycp, yF, ynf, ycf⟩ := x'
          dsimp only [TV.val]
          refine hK.out _ _ (HKEEP.out _ _ (hb2.mono HS1.out) hHeld) (fun hHeld => ?_)
          clear hK K
          have cb2 : w2.cell? ⟨w.heap.size + 1 + 1 + 1, 3, none⟩ = some (.slice Ko k cko) := (hb2.cell HS3.out).trans cb
          have HB02 := Lib.hid hb2
          have HT := Lib.hid ht
          have HZ2 := Lib.hid (Nat.le_trans HS1.out hb2.size)
          clear hb2 ht
          have HL := Lib.hid (show Below w2.heap.size w2 (w2.alloc (.cells #[.int .i64 yo, .int .i64 yA, .int .i64 yB, .slice yK ynk yck, .slice yP ynp ycp, .slice yF ynf ycf] 59)) from (Below.refl _ _).alloc (Nat.le_refl _) _)
          have HLH := Lib.hid (holds_at w2 #[.int .i64 yo, .int .i64 yA, .int .i64 yB, .slice yK ynk yck, .slice yP ynp ycp, .slice yF ynf ycf] 59 _ rfl)
          try simp only [Act.put, List.setIfInBounds_toArray, List.set_cons_zero, List.set_cons_succ]
          refine region_call 15 rfl (by kernel_rfl) (by rfl) (fun K hK => ?_)
          go_simp
          refine hK.out _ _ (HKEEP.out _ _ (HL.out.mono HZ2.out) hHeld) (fun hHeld => ?_)
          clear hK K
          have cb3 := (HL.out.cell (p := ⟨w.heap.size + 1 + 1 + 1, 3, none⟩) (Nat.lt_of_lt_of_le HS3.out HB02.out.size)).trans cb2
          try simp only [Act.put, List.setIfInBounds_toArray, List.set_cons_zero, List.set_cons_succ]
          refine region_call 16 rfl (by kernel_rfl) (by rfl) (fun K hK => ?_)
          refine wp_append_at (.tmp 55) (.tmp 69) 57 57 _ rfl Tryd.underlying57 59 _ 6 96 infoTree rfl (by decide) Tryd.underlying57 (.slice Ko k cko) k 1 _ _ rfl (own_below (own_below HOWN.out HB02.out) HL.out) (some ⟨w2.heap.size, 0, none⟩) 1 rfl ⟨by omega, by omega, fun h => by cases h⟩ HLH.out rfl (by intro u hu; simp only [List.mem_cons, List.not_mem_nil, or_false] at hu; rcases hu with rfl | rfl | rfl | rfl | rfl | rfl <;> rfl) (by omega) (by decide) ?_
          intro v' w3 hown3 hmv3
          refine hK.out _ _ (HKEEP.out _ _ (hmv3.below (B := w.heap.size + 1 + 1) (Nat.le_trans HZ2.out HL.out.size) (fun g hg => Nat.le_of_lt (Nat.lt_trans (by omega) (HKB.out g hg)))) hHeld) (fun hHeld => ?_)
          clear hK K
          have hw3 := (((HWH.out.below HB02.out (by have := HS3.out; exact this)).below HL.out (by have := HS3.out; have := HB02.out.size; omega)).only hmv3.only (fun e => by have := HKB.out _ e; omega))
          obtain ⟨K', ck', rfl, -, -⟩ := own_slice hown3
          have cb4 : w3.cell? ⟨w.heap.size + 1 + 1 + 1, 3, none⟩ = some (.slice Ko k cko) := hw3.cell 3
          have fb4 : w3.frozen? ⟨w.heap.size + 1 + 1 + 1, 3, none⟩ = false := hw3.frozen 3
          have HO3 := Lib.hid hown3
          have HM3 := Lib.hid hmv3
          clear hown3 hmv3 hw3 cb3
          try simp only [Act.put, List.setIfInBounds_toArray, List.set_cons_zero, List.set_cons_succ]
          refine region_take 17 ?_ rfl (by kernel_rfl) (by rfl) hHeld ?_ ?_
          rotate_left
          · intro w hSw
            (try dsimp only at hSw)
            go_simp
            try with_reducible rfl
          try simp only [Act.put, List.setIfInBounds_toArray, List.set_cons_zero, List.set_cons_succ]
          refine region_call 18 rfl (by kernel_rfl) (by rfl) (fun K hK => ?_)
          go_simp
          refine hK.out _ _ (HKEEP.out _ _ ((Only.set_ (Only.refl (fun k => k = w.heap.size + 1 + 1 + 1) w3) (.inl rfl) 3 (.slice K' (k + 1) ck')).below (Nat.le_trans HZ2.out (Nat.le_trans HL.out.size HM3.out.only.size)) (fun k hk e => by omega)) hHeld) (fun hHeld => ?_)
          clear hK K
          try simp only [Act.put, List.setIfInBounds_toArray, List.set_cons_zero, List.set_cons_succ]
          refine region_done (by kernel_rfl) ?_
          clear cb cb2 cb4 fb4
          go_wp2_with fail
          obtain ⟨hg4, hb4⟩ := HGD.out.step HLT.out HB02.out HT.out HL.out (by rw [HLEN.out]; exact HO3.out) HM3.out
          have HG4 := Lib.hid hg4
          have HB4 := Lib.hid (HRD.out _ hb4)
          have HP4 := Lib.hid (HPART.out (⟨(yo, yA, yB), yK, ynk, yck, yP, ynp, ycp, yF, ynf, ycf⟩, each (ptF b) (u + d) ks[k].2) rfl)
          clear hg4 hb4
          go_roundw
          case rel => exact ⟨k + 1, _, os ++ [(⟨(yo, yA, yB), yK, ynk, yck, yP, ynp, ycp, yF, ynf, ycf⟩, each (ptF b) (u + d) ks[k].2)], by go_num, by omega, by rw [List.length_append, HLEN.out]; rfl, HP4, HG4, HB4⟩
          case measure => simp [intOf] <;> omega
        · go_simp
          refine (HREC.out _ HBW.out).mono ?_
          rintro e w2 ⟨x', rfl, ht, hb2⟩
          obtain ⟨⟨yo, yA, yB⟩, yK, ynk, yck, yP, ynp, ycp, yF, ynf, ycf⟩ := x'
          dsimp only [TV.val]
          refine hK.out _ _ (HKEEP.out _ _ (hb2.mono HS1.out) hHeld) (fun hHeld => ?_)
          clear hK K
          have cb2 : w2.cell? ⟨w.heap.size + 1 + 1 + 1, 3, none⟩ = some (.slice Ko k cko) := (hb2.cell HS3.out).trans cb
          have HB02 := Lib.hid hb2
          have HT := Lib.hid ht
          have HZ2 := Lib.hid (Nat.le_trans HS1.out hb2.size)
          clear hb2 ht
          have HL := Lib.hid (show Below w2.heap.size w2 (w2.alloc (.cells #[.int .i64 yo, .int .i64 yA, .int .i64 yB, .slice yK ynk yck, .slice yP ynp ycp, .slice yF ynf ycf] 59)) from (Below.refl _ _).alloc (Nat.le_refl _) _)
          have HLH := Lib.hid (holds_at w2 #[.int .i64 yo, .int .i64 yA, .int .i64 yB, .slice yK ynk yck, .slice yP ynp ycp, .slice yF ynf ycf] 59 _ rfl)
          try simp only [Act.put, List.setIfInBounds_toArray, List.set_cons_zero, List.set_cons_succ]
          refine region_two 1 15 rfl rfl (by kernel_rfl) (by rfl) (by rfl) (fun K hK => ?_) (fun K hK => ?_)
          · go_simp
            refine hK.out _ _ (hHeld) (fun hHeld => ?_)
            clear hK K
            try simp only [Act.put, List.setIfInBounds_toArray, List.set_cons_zero, List.set_cons_succ]
            refine region_call 15 rfl (by kernel_rfl) (by rfl) (fun K hK => ?_)
            go_simp
            refine hK.out _ _ (HKEEP.out _ _ (HL.out.mono HZ2.out) hHeld) (fun hHeld => ?_)
            clear hK K
            have cb3 := (HL.out.cell (p := ⟨w.heap.size + 1 + 1 + 1, 3, none⟩) (Nat.lt_of_lt_of_le HS3.out HB02.out.size)).trans cb2
            try simp only [Act.put, List.setIfInBounds_toArray, List.set_cons_zero, List.set_cons_succ]
            refine region_call 16 rfl (by kernel_rfl) (by rfl) (fun K hK => ?_)
            refine wp_append_at (.tmp 55) (.tmp 69) 57 57 _ rfl Tryd.underlying57 59 _ 6 96 infoTree rfl (by decide) Tryd.underlying57 (.slice Ko k cko) k 1 _ _ rfl (own_below (own_below HOWN.out HB02.out) HL.out) (some ⟨w2.heap.size, 0, none⟩) 1 rfl ⟨by omega, by omega, fun h => by cases h⟩ HLH.out rfl (by intro u hu; simp only [List.mem_cons, List.not_mem_nil, or_false] at hu; rcases hu with rfl | rfl | rfl | rfl | rfl | rfl <;> rfl) (by omega) (by decide) ?_
            intro v' w3 hown3 hmv3
            refine hK.out _ _ (HKEEP.out _ _ (hmv3.below (B := w.heap.size + 1 + 1) (Nat.le_trans HZ2.out HL.out.size) (fun g hg => Nat.le_of_lt (Nat.lt_trans (by omega) (HKB.out g hg)))) hHeld) (fun hHeld => ?_)
            clear hK K
            have hw3 := (((HWH.out.below HB02.out (by have := HS3.out; exact this)).below HL.out (by have := HS3.out; have := HB02.out.size; omega)).only hmv3.only (fun e => by have := HKB.out _ e; omega))
            obtain ⟨K', ck', rfl, -, -⟩ := own_slice hown3
            have cb4 : w3.cell? ⟨w.heap.size + 1 + 1 + 1, 3, none⟩ = some (.slice Ko k cko) := hw3.cell 3
            have fb4 : w3.frozen? ⟨w.heap.size + 1 + 1 + 1, 3, none⟩ = false := hw3.frozen 3
            have HO3 := Lib.hid hown3
            have HM3 := Lib.hid hmv3
            clear hown3 hmv3 hw3 cb3
            try simp only [Act.put, List.setIfInBounds_toArray, List.set_cons_zero, List.set_cons_succ]
            refine region_take 17 ?_ rfl (by kernel_rfl) (by rfl) hHeld ?_ ?_
            rotate_left
            · intro w hSw
              (try dsimp only at hSw)
              go_simp
              try with_reducible rfl
            try simp only [Act.put, List.setIfInBounds_toArray, List.set_cons_zero, List.set_cons_succ]
            refine region_call 18 rfl (by kernel_rfl) (by rfl) (fun K hK => ?_)
            go_simp
            refine hK.out _ _ (HKEEP.out _ _ ((Only.set_ (Only.refl (fun k => k = w.heap.size + 1 + 1 + 1) w3) (.inl rfl) 3 (.slice K' (k + 1) ck')).below (Nat.le_trans HZ2.out (Nat.le_trans HL.out.size HM3.out.only.size)) (fun k hk e => by omega)) hHeld) (fun hHeld => ?_)
            clear hK K
            try simp only [Act.put, List.setIfInBounds_toArray, List.set_cons_zero, List.set_cons_succ]
            refine region_done (by kernel_rfl) ?_
            clear cb cb2 cb4 fb4
            go_wp2_with fail
            obtain ⟨hg4, hb4⟩ := HGD.out.step HLT.out HB02.out HT.out HL.out (by rw [HLEN.out]; exact HO3.out) HM3.out
            have HG4 := Lib.hid hg4
            have HB4 := Lib.hid (HRD.out _ hb4)
            have HP4 := Lib.hid (HPART.out (⟨(yo, yA, yB), yK, ynk, yck, yP, ynp, ycp, yF, ynf, ycf⟩, each (ptF b) (u + d) ks[k].2) rfl)
            clear hg4 hb4
            go_roundw
            case rel => exact ⟨k + 1, _, os ++ [(⟨(yo, yA, yB), yK, ynk, yck, yP, ynp, ycp, yF, ynf, ycf⟩, each (ptF b) (u + d) ks[k].2)], by go_num, by omega, by rw [List.length_append, HLEN.out]; rfl, HP4, HG4, HB4⟩
            case measure => simp [intOf] <;> omega
          · go_simp
            refine hK.out _ _ (HKEEP.out _ _ (HL.out.mono HZ2.out) hHeld) (fun hHeld => ?_)
            clear hK K
            have cb3 := (HL.out.cell (p := ⟨w.heap.size + 1 + 1 + 1, 3, none⟩) (Nat.lt_of_lt_of_le HS3.out HB02.out.size)).trans cb2
            try simp only [Act.put, List.setIfInBounds_toArray, List.set_cons_zero, List.set_cons_succ]
            refine region_call 1 rfl (by kernel_rfl) (by rfl) (fun K hK => ?_)
            go_simp
            refine hK.out _ _ (hHeld) (fun hHeld => ?_)
            clear hK K
            try simp only [Act.put, List.setIfInBounds_toArray, List.set_cons_zero, List.set_cons_succ]
            refine region_call 16 rfl (by kernel_rfl) (by rfl) (fun K hK => ?_)
            refine wp_append_at (.tmp 55) (.tmp 69) 57 57 _ rfl Tryd.underlying57 59 _ 6 96 infoTree rfl (by decide) Tryd.underlying57 (.slice Ko k cko) k 1 _ _ rfl (own_below (own_below HOWN.out HB02.out) HL.out) (some ⟨w2.heap.size, 0, none⟩) 1 rfl ⟨by omega, by omega, fun h => by cases h⟩ HLH.out rfl (by intro u hu; simp only [List.mem_cons, List.not_mem_nil, or_false] at hu; rcases hu with rfl | rfl | rfl | rfl | rfl | rfl <;> rfl) (by omega) (by decide) ?_
            intro v' w3 hown3 hmv3
            refine hK.out _ _ (HKEEP.out _ _ (hmv3.below (B := w.heap.size + 1 + 1) (Nat.le_trans HZ2.out HL.out.size) (fun g hg => Nat.le_of_lt (Nat.lt_trans (by omega) (HKB.out g hg)))) hHeld) (fun hHeld => ?_)
            clear hK K
            have hw3 := (((HWH.out.below HB02.out (by have := HS3.out; exact this)).below HL.out (by have := HS3.out; have := HB02.out.size; omega)).only hmv3.only (fun e => by have := HKB.out _ e; omega))
            obtain ⟨K', ck', rfl, -, -⟩ := own_slice hown3
            have cb4 : w3.cell? ⟨w.heap.size + 1 + 1 + 1, 3, none⟩ = some (.slice Ko k cko) := hw3.cell 3
            have fb4 : w3.frozen? ⟨w.heap.size + 1 + 1 + 1, 3, none⟩ = false := hw3.frozen 3
            have HO3 := Lib.hid hown3
            have HM3 := Lib.hid hmv3
            clear hown3 hmv3 hw3 cb3
            try simp only [Act.put, List.setIfInBounds_toArray, List.set_cons_zero, List.set_cons_succ]
            refine region_take 17 ?_ rfl (by kernel_rfl) (by rfl) hHeld ?_ ?_
            rotate_left
            · intro w hSw
              (try dsimp only at hSw)
              go_simp
              try with_reducible rfl
            try simp only [Act.put, List.setIfInBounds_toArray, List.set_cons_zero, List.set_cons_succ]
            refine region_call 18 rfl (by kernel_rfl) (by rfl) (fun K hK => ?_)
            go_simp
            refine hK.out _ _ (HKEEP.out _ _ ((Only.set_ (Only.refl (fun k => k = w.heap.size + 1 + 1 + 1) w3) (.inl rfl) 3 (.slice K' (k + 1) ck')).below (Nat.le_trans HZ2.out (Nat.le_trans HL.out.size HM3.out.only.size)) (fun k hk e => by omega)) hHeld) (fun hHeld => ?_)
            clear hK K
            try simp only [Act.put, List.setIfInBounds_toArray, List.set_cons_zero, List.set_cons_succ]
            refine region_done (by kernel_rfl) ?_
            clear cb cb2 cb4 fb4
            go_wp2_with fail
            obtain ⟨hg4, hb4⟩ := HGD.out.step HLT.out HB02.out HT.out HL.out (by rw [HLEN.out]; exact HO3.out) HM3.out
            have HG4 := Lib.hid hg4
            have HB4 := Lib.hid (HRD.out _ hb4)
            have HP4 := Lib.hid (HPART.out (⟨(yo, yA, yB), yK, ynk, yck, yP, ynp, ycp, yF, ynf, ycf⟩, each (ptF b) (u + d) ks[k].2) rfl)
            clear hg4 hb4
            go_roundw
            case rel => exact ⟨k + 1, _, os ++ [(⟨(yo, yA, yB), yK, ynk, yck, yP, ynp, ycp, yF, ynf, ycf⟩, each (ptF b) (u + d) ks[k].2)], by go_num, by omega, by rw [List.length_append, HLEN.out]; rfl, HP4, HG4, HB4⟩
            case measure => simp [intOf] <;> omega
      · have hkm : k = ks.length := by omega
        have hG := HG.out
        have hown : wr.ownsRow 0 59 6 Kv k (treesV (os.map Prod.fst)) := by rw [← hlen]; exact hG.own
        obtain ⟨Ko, cko, rfl, hsl, -⟩ := own_slice hown
        have HDN := Lib.hid (HDONE.out wr Ko cko k os (HB0.out.trans (HBR.out.mono (by omega))) hG hlen hkm hsl HP.out)
        have hwo := hG.whole
        have o0 : wr.cell? ⟨w.heap.size + 1 + 1 + 1, 0, none⟩ = some (.int .i64 op) := hwo.cell 0
        have o1 : wr.cell? ⟨w.heap.size + 1 + 1 + 1, 1, none⟩ = some (.int .i64 A) := hwo.cell 1
        have o2 : wr.cell? ⟨w.heap.size + 1 + 1 + 1, 2, none⟩ = some (.int .i64 B) := hwo.cell 2
        have o3 : wr.cell? ⟨w.heap.size + 1 + 1 + 1, 3, none⟩ = some (.slice Ko k cko) := hwo.cell 3
        have o4 : wr.cell? ⟨w.heap.size + 1 + 1 + 1, 4, none⟩ = some (.slice P na ca) := hwo.cell 4
        have o5 : wr.cell? ⟨w.heap.size + 1 + 1 + 1, 5, none⟩ = some (.slice F nf cf) := hwo.cell 5
        have hwz := HZ.out.below HBR.out (by omega)
        have HBE := Lib.hid (show ∀ w2, Below w.heap.size wr w2 → Below w.heap.size w w2 from fun w2 hb => (HB0.out.trans (HBR.out.mono (by omega))).trans hb)
        have HSE : Hid (w.heap.size ≤ wr.heap.size) := Lib.hid (by omega)
        clear hkm hG hown hwo xr hsz
        have z0 : wr.cell? ⟨w.heap.size + 1 + 1, 0, none⟩ = some (.int .i64 0) := hwz.cell 0
        have f0 := hwz.frozen 0
        have z1 : wr.cell? ⟨w.heap.size + 1 + 1, 1, none⟩ = some (.int .i64 0) := hwz.cell 1
        have f1 := hwz.frozen 1
        have z2 : wr.cell? ⟨w.heap.size + 1 + 1, 2, none⟩ = some (.int .i64 0) := hwz.cell 2
        have f2 := hwz.frozen 2
        have z3 : wr.cell? ⟨w.heap.size + 1 + 1, 3, none⟩ = some (.slice none 0 0) := hwz.cell 3
        have f3 := hwz.frozen 3
        have z4 : wr.cell? ⟨w.heap.size + 1 + 1, 4, none⟩ = some (.slice none 0 0) := hwz.cell 4
        have f4 := hwz.frozen 4
        have z5 : wr.cell? ⟨w.heap.size + 1 + 1, 5, none⟩ = some (.slice none 0 0) := hwz.cell 5
        have f5 := hwz.frozen 5
        have HWZ := Lib.hid hwz
        clear hwz
        go_wp2_with fail
        have hw6 := ((((((HWZ.out).set_ 0 (.int .i64 op)).set_ 1 (.int .i64 A)).set_ 2 (.int .i64 B)).set_ 3 (.slice Ko k cko)).set_ 4 (.slice P na ca)).set_ 5 (.slice F nf cf)
        have ho6 : Only (fun j => j = w.heap.size + 1 + 1) wr ((((((wr.setCell ⟨w.heap.size + 1 + 1, 0, none⟩ (.int .i64 op)).setCell ⟨w.heap.size + 1 + 1, 1, none⟩ (.int .i64 A)).setCell ⟨w.heap.size + 1 + 1, 2, none⟩ (.int .i64 B)).setCell ⟨w.heap.size + 1 + 1, 3, none⟩ (.slice Ko k cko)).setCell ⟨w.heap.size + 1 + 1, 4, none⟩ (.slice P na ca)).setCell ⟨w.heap.size + 1 + 1, 5, none⟩ (.slice F nf cf)) := ((((((Only.refl (fun j => j = w.heap.size + 1 + 1) wr).set_ (.inl rfl) 0 _).set_ (.inl rfl) 1 _).set_ (.inl rfl) 2 _).set_ (.inl rfl) 3 _).set_ (.inl rfl) 4 _).set_ (.inl rfl) 5 _
        generalize ((((((wr.setCell ⟨w.heap.size + 1 + 1, 0, none⟩ (.int .i64 op)).setCell ⟨w.heap.size + 1 + 1, 1, none⟩ (.int .i64 A)).setCell ⟨w.heap.size + 1 + 1, 2, none⟩ (.int .i64 B)).setCell ⟨w.heap.size + 1 + 1, 3, none⟩ (.slice Ko k cko)).setCell ⟨w.heap.size + 1 + 1, 4, none⟩ (.slice P na ca)).setCell ⟨w.heap.size + 1 + 1, 5, none⟩ (.slice F nf cf)) = W6 at *
        have q0 : W6.cell? ⟨w.heap.size + 1 + 1, 0, none⟩ = some (.int .i64 op) := hw6.cell 0
        have q1 : W6.cell? ⟨w.heap.size + 1 + 1, 1, none⟩ = some (.int .i64 A) := hw6.cell 1
        have q2 : W6.cell? ⟨w.heap.size + 1 + 1, 2, none⟩ = some (.int .i64 B) := hw6.cell 2
        have q3 : W6.cell? ⟨w.heap.size + 1 + 1, 3, none⟩ = some (.slice Ko k cko) := hw6.cell 3
        have q4 : W6.cell? ⟨w.heap.size + 1 + 1, 4, none⟩ = some (.slice P na ca) := hw6.cell 4
        have q5 : W6.cell? ⟨w.heap.size + 1 + 1, 5, none⟩ = some (.slice F nf cf) := hw6.cell 5
        have hb6 := HBE.out _ (ho6.below (B := w.heap.size) HSE.out fun k hk e => by omega)
        have ht6 := (HDN.out.keep fun k hk hl => ho6.block k hl (by omega)).mono (G' := fun k => G k ∨ w.heap.size ≤ k) fun k hk _ => by rcases hk with h | h; exact .inl h.1; exact .inr (by omega)
        clear hw6 ho6
        (try simp only [Exit.inBlock, Exit.then])
        refine bodyPost_ret (by simp [results, Tryd.results70, go_sem, q0, q1, q2, q3, q4, q5]; try rfl) rfl ?_
        exact TreePost.of ht6 hb6
end Go.Proofs.YtkkkblghihheeaaDoor
namespace Go.Proofs.YtkkkblghihheeaaDoor
open Go.RowKit

/-- The rows' nodes, one behind the other. -/
def flatR (l : List RowT) : List Node3 := (l.map fun x => x.2.2).flatten
theorem flatR_take {l : List RowT} {k : Nat} (h : k < l.length) : flatR (l.take (k + 1)) = flatR (l.take k) ++ l[k].2.2 := by
  unfold flatR
  rw [List.take_succ_eq_append_getElem h, List.map_append, List.flatten_append]
  simp
theorem flatR_le (l : List RowT) (k : Nat) : (flatR (l.take k)).length ≤ (flatR l).length := by
  have : flatR l = flatR (l.take k) ++ flatR (l.drop k) := by
    unfold flatR
    rw [← List.flatten_append, ← List.map_append, List.take_append_drop]
  rw [this, List.length_append]
  omega
theorem GrowAt.start (w : World) : GrowAt (w.alloc (.cells #[.slice none 0 0, .int .i64 0] 80)) w.heap.size [] (.slice none 0 0) :=
  ⟨Whole.new w _ _, ⟨[], World.ownsRow_nil _ _ _ _, Nat.zero_le _, fun _ => rfl⟩, by simp [Value.ownBlock]⟩
/-- A growing row among the new blocks. -/
structure GRun (w wr : World) (g : Nat) (L : List Node3) (v : Value) : Prop where
  gr : GrowAt wr g L v
  new : ∀ k, GrowF g v k → w.heap.size ≤ k
  bl : Below w.heap.size w wr
theorem GRun.next {w wr w1 : World} {g : Nat} {L : List Node3} {v : Value} (h : GRun w wr g L v) (hb : Below wr.heap.size wr w1) : GRun w w1 g L v :=
  ⟨h.gr.below hb, h.new, below_step h.bl hb⟩
theorem GRun.put {w wr w1 : World} {g : Nat} {L r : List Node3} {v : Value} {e : Ending} (h : GRun w wr g L v) (hp : PutPost g (L ++ r) v wr e w1) : e = .returned (.tuple #[]) ∧ ∃ v', GRun w w1 g (L ++ r) v' := by
  obtain ⟨he, v', h1, h2, h3⟩ := hp
  refine ⟨he, v', h1, fun k hk => ?_, h.bl.trans (h2.below h.bl.size fun k hk hl => by have := h.new k hl; omega)⟩
  rcases h3 k hk with h' | h'
  · exact h.new k h'
  · exact Nat.le_trans h.bl.size h'
theorem GRun.row {w wr : World} {g : Nat} {L : List Node3} {v : Value} (h : GRun w wr g L v) (hl : L.length ≤ 4096) : ∃ A n c, v = .slice A n c ∧ L.length = n ∧ OwnN wr w.heap.size (.slice A n c) n L := by
  obtain ⟨l, ho, -, h1⟩ := h.gr.own
  obtain rfl := h1 hl
  obtain ⟨A, c, rfl, -, -⟩ := own_slice ho
  refine ⟨A, _, c, rfl, rfl, ho.1, ho.2.imp id ?_⟩
  rintro ⟨g', cap, cur, e, _, hr⟩
  cases e
  exact ⟨g', _, cur, rfl, h.new g' (.inr rfl), hr⟩
theorem ffS_cons (t : List Node3) (r : List (List Node3)) : ffS (t :: r) = if shapeOf t ≠ 0 then shapeOf t else ffS r := rfl
/-- What Apply and Bind answer of the whole. -/
def bigS (r : List Node3) : List Node3 × Int := if 4096 < r.length then ([], 9) else (r, 0)
theorem bind_flat {op : Int} {l : List RowT} {k : Nat} (h : k < l.length) : (l.take (k + 1)).flatMap (fun x => (op, 0, 0) :: x.2.2) = (l.take k).flatMap (fun x => (op, 0, 0) :: x.2.2) ++ [(op, 0, 0)] ++ l[k].2.2 := by
  rw [List.take_succ_eq_append_getElem h, List.flatMap_append]
  simp
def applyS (t : List Node3) (ls : List (List Node3)) : List Node3 × Int := if ffS (t :: ls) ≠ 0 then ([], ffS (t :: ls)) else bigS (List.replicate ls.length (6, 0, 0) ++ t ++ ls.flatten)
def bindS (op : Int) (ls : List (List Node3)) (t : List Node3) : List Node3 × Int := if op ≠ 4 ∧ op ≠ 5 then ([], 1) else if ffS ls ≠ 0 then ([], ffS ls) else if shapeOf t ≠ 0 then ([], shapeOf t) else bigS (ls.flatMap (fun r => (op, 0, 0) :: r) ++ t)
set_option maxHeartbeats 4000000 in
theorem tapply_any (A : Option Addr) (n c : Nat) (t : List Node3) (R : Option Addr) (m cr : Nat) (l : List RowT) (w : World) (hn : t.length = n) (hs : Slice A n c) (hA : Holds w A (nodesV t)) (hm : l.length = m) (hmb : m ≤ 100000) (hR : Holds w R (l.map rowV)) (hok : RowsOk w l) (hL : Lim w) (hnb : n ≤ 100000) (htot : (flatR l).length ≤ 100000) :
    Calls Tryd.prog 36 #[.slice A n c, .slice R m cr] w (RowAns (applyS t (l.map fun x => x.2.2)) w) := by
  have HA := Lib.hid (show ∀ w', Below w.heap.size w w' → Holds w' A (nodesV t) from fun w' hb => hA.below hb)
  have HR := Lib.hid (show ∀ w', Below w.heap.size w w' → Holds w' R (l.map rowV) from fun w' hb => hR.below hb)
  have HOK := Lib.hid (show ∀ w', Below w.heap.size w w' → RowsOk w' l from fun w' hb => hok.below hb)
  have HAN := Lib.hid (show ∀ b o, A = some ⟨b, o, none⟩ → 0 < n → b < w.heap.size from fun b o e h0 => by
    obtain ⟨b', o', e', hb, _⟩ := hA.at_ (by rw [nodesV_len]; omega)
    rw [e] at e'; cases e'; exact hb)
  have HLIT := Lib.hid (show Holds (w.alloc (.cells #[.slice A n c] 23)) (some ⟨w.heap.size, 0, none⟩) (([(A, c, t)] : List RowT).map rowV) by
    have := holds_at w #[.slice A n c] 23 (([(A, c, t)] : List RowT).map rowV) (by simp [rowV, hn])
    exact this)
  have hb0 : Below w.heap.size w (w.alloc (.cells #[.slice A n c] 23)) := (Below.refl _ _).alloc (Nat.le_refl _) _
  have HB0 := Lib.hid hb0
  have HF1 := Lib.hid (firstFault_any (some ⟨w.heap.size, 0, none⟩) 1 1 [(A, c, t)] (w.alloc (.cells #[.slice A n c] 23)) rfl (by omega) HLIT.out (fun x hx => by
    simp only [List.mem_cons, List.not_mem_nil, or_false] at hx; subst hx
    simp only
    rw [hn]
    exact ⟨hs, hA.below hb0⟩) (hL.next hb0))
  have HF2 := Lib.hid (show ∀ w', Below w.heap.size w w' → _ from fun w' hb => firstFault_any R m cr l w' hm (by omega) (hR.below hb) (hok.below hb) (hL.next hb))
  have HN := Lib.hid hn
  have HM := Lib.hid hm
  have HS := Lib.hid hs
  have HTOT := Lib.hid htot
  have HOKL := Lib.hid (show ∀ x ∈ l, ∀ b o, x.1 = some ⟨b, o, none⟩ → 0 < x.2.2.length → b < w.heap.size from fun x hx b o e h0 => by
    obtain ⟨b', o', e', hb, _⟩ := (hok x hx).2.at_ (by rw [nodesV_len]; omega)
    rw [e] at e'; cases e'; exact hb)
  have e1 : ffS ([(A, c, t)].map fun x : RowT => x.2.2) = shapeOf t := by
    show (if shapeOf t ≠ 0 then shapeOf t else 0) = shapeOf t
    split <;> omega
  rw [e1] at HF1
  clear hA hR hok hL hb0 hn hs htot e1
  obtain ⟨s1, hs1⟩ : ∃ s1, shapeOf t = s1 := ⟨_, rfl⟩
  obtain ⟨s2, hs2⟩ : ∃ s2, ffS (l.map fun x => x.2.2) = s2 := ⟨_, rfl⟩
  rw [hs1] at HF1
  rw [hs2] at HF2
  by_cases z1 : s1 = 0
  case neg =>
    have HAN' : Hid (applyS t (l.map fun x => x.2.2) = ([], s1)) := Lib.hid (by unfold applyS; rw [ffS_cons, hs1, if_pos z1, if_pos z1])
    have e1 : (s1 != 0) = true := by simpa using z1
    clear hs1 hs2 z1 HF2
    go_enter Tryd.func36, Tryd.ntmps36
    go_wp2_with fail
    refine (HF1.out).mono ?_
    rintro e w1 ⟨rfl, hb1⟩
    go_wp2_with fail
    go_ret2
    rw [HAN'.out]
    exact RowAns.none _ (below_step HB0.out hb1)
  subst z1
  by_cases z2 : s2 = 0
  case neg =>
    have HAN' : Hid (applyS t (l.map fun x => x.2.2) = ([], s2)) := Lib.hid (by unfold applyS; rw [show ffS (t :: l.map fun x => x.2.2) = s2 by rw [ffS_cons, hs1, hs2]; simp, if_pos z2])
    have e1 : (s2 != 0) = true := by simpa using z2
    clear hs1 hs2 z2
    go_enter Tryd.func36, Tryd.ntmps36
    go_wp2_with fail
    refine (HF1.out).mono ?_
    rintro e w1 ⟨rfl, hb1⟩
    have HB1 := Lib.hid (below_step HB0.out hb1)
    clear hb1
    go_wp2_with fail
    refine (HF2.out _ HB1.out).mono ?_
    rintro e w2 ⟨rfl, hb2⟩
    go_wp2_with fail
    go_ret2
    rw [HAN'.out]
    exact RowAns.none _ (below_step HB1.out hb2)
  subst z2
  have HAPP : Hid (applyS t (l.map fun x => x.2.2) = bigS (List.replicate m (6, 0, 0) ++ t ++ flatR l)) := Lib.hid (by
    unfold applyS
    rw [show ffS (t :: l.map fun x => x.2.2) = 0 by rw [ffS_cons, hs1, hs2]; simp, if_neg (by simp), List.length_map, HM.out]
    rfl)
  have hpos : 0 < n := by have := (right_of hs1).2.1; have := HN.out; omega
  have HPOS := Lib.hid (show ∀ x ∈ l, 0 < x.2.2.length from fun x hx => (right_of (ff_zero hs2 _ (List.mem_map.2 ⟨x, hx, rfl⟩))).2.1)
  clear hs1 hs2
  go_enter Tryd.func36, Tryd.ntmps36
  go_wp2_with fail
  refine (HF1.out).mono ?_
  rintro e w1 ⟨rfl, hb1⟩
  have HB1 := Lib.hid (below_step HB0.out hb1)
  clear hb1
  go_wp2_with fail
  refine (HF2.out _ HB1.out).mono ?_
  rintro e w2 ⟨rfl, hb2⟩
  have HB2 := Lib.hid (below_step HB1.out hb2)
  have hst : GRun w (w2.alloc (.cells #[.slice none 0 0, .int .i64 0] 80)) w2.heap.size [] (.slice none 0 0) := ⟨GrowAt.start w2, fun k hk => by
    rcases hk with rfl | hk
    · exact HB2.out.size
    · simp [Value.ownBlock] at hk, below_alloc HB2.out _⟩
  have HST := Lib.hid hst
  have HGS := Lib.hid HB2.out.size
  clear hb2 hst
  go_wp2_with fail
  go_loopw [24] (fun i wr => ∃ (k : Nat) (v : Value), i = .int .i64 (k : Int) ∧ k ≤ m ∧ Hid (GRun w wr w2.heap.size (List.replicate k (6, 0, 0)) v)) (fun i _ => m - (intOf i).toNat)
  case atStart => exact ⟨0, _, rfl, Nat.zero_le _, HST⟩
  case round =>
    obtain ⟨k, v, rfl, hk, HG⟩ := hrel
    by_cases hlt : k < m
    · have hg1 := HG.out.next (w1 := (wr.alloc (.cells #[.int .i64 6, .int .i64 0, .int .i64 0] 53))) ((Below.refl _ _).alloc (Nat.le_refl _) _)
      have HP := Lib.hid (put_any w2.heap.size (List.replicate k (6, 0, 0)) [(6, 0, 0)] v (some ⟨wr.heap.size, 0, none⟩) 1 1 (wr.alloc (.cells #[.int .i64 6, .int .i64 0, .int .i64 0] 53)) hg1.gr rfl ⟨Nat.le_refl _, by omega, fun h => by cases h⟩ (holds_at wr #[.int .i64 6, .int .i64 0, .int .i64 0] 53 _ rfl) (fun b o e => by cases e; have := HG.out.gr.whole.lt; omega) (by rw [List.length_replicate]; omega))
      have HG1 := Lib.hid hg1
      clear hg1
      go_wp2_with fail
      refine (HP.out).mono ?_
      intro e w3 hp
      obtain ⟨rfl, v', hg3⟩ := HG1.out.put hp
      rw [← List.replicate_succ'] at hg3
      have HG3 := Lib.hid hg3
      clear hp hg3 HP
      go_wp2_with fail
      go_roundw
      case rel => exact ⟨k + 1, v', by go_num, by omega, HG3⟩
      case measure => simp [intOf] <;> omega
    · obtain rfl : k = m := by omega
      have HP := Lib.hid (put_any w2.heap.size (List.replicate k (6, 0, 0)) t v A n c wr HG.out.gr HN.out HS.out (HA.out _ HG.out.bl) (fun b o e => by
        have := HAN.out b o e hpos; have := HGS.out; omega) (by rw [List.length_replicate]; omega))
      obtain ⟨wo, rfl⟩ : ∃ wo : World, wo = wr := ⟨_, rfl⟩
      go_wp2_with fail
      refine (HP.out).mono ?_
      intro e w3 hp
      obtain ⟨rfl, v', hg3⟩ := HG.out.put hp
      have HG3 := Lib.hid hg3
      clear hp hg3 HP
      go_wp2_with fail
      go_loopw [34] (fun i wr => ∃ (j : Nat) (v : Value), i = .int .i64 (j : Int) ∧ j ≤ k ∧ Hid (GRun w wr w2.heap.size (List.replicate k (6, 0, 0) ++ t ++ flatR (l.take j)) v)) (fun i _ => k - (intOf i).toNat)
      case atStart => exact ⟨0, _, rfl, Nat.zero_le _, Lib.hid (by simpa [flatR] using HG3.out)⟩
      case round =>
        obtain ⟨j, v, rfl, hj, HG⟩ := hrel
        by_cases hlt : j < k
        · have hkl : j < l.length := by rw [HM.out]; exact hlt
          obtain ⟨b, o, rfl, hbl, hc⟩ := (HR.out _ HG.out.bl).at_ (by rw [List.length_map]; omega)
          have r0 := hc j _ (rowsV_get hkl)
          have hrow := HOK.out _ HG.out.bl l[j] (List.getElem_mem hkl)
          have hlen : (List.replicate k ((6, 0, 0) : Node3) ++ t ++ flatR (l.take j)).length + l[j].2.2.length ≤ 1000000000 := by
            have h1 := flatR_le l (j + 1)
            rw [flatR_take hkl, List.length_append] at h1
            have h2 := HTOT.out
            have h3 := HN.out
            rw [List.length_append, List.length_append, List.length_replicate]
            omega
          have HP := Lib.hid (put_any w2.heap.size _ l[j].2.2 v l[j].1 l[j].2.2.length l[j].2.1 wr HG.out.gr rfl hrow.1 hrow.2 (fun b o e => by
            have h1 := HOKL.out l[j] (List.getElem_mem hkl) b o e (HPOS.out _ (List.getElem_mem hkl))
            have := HGS.out; omega) hlen)
          have HFT := Lib.hid (flatR_take hkl)
          clear hc hrow hlen
          generalize l[j].2.2.length = nj at *
          generalize l[j].1 = Aj at *
          generalize l[j].2.1 = cj at *
          go_wp2_with fail
          refine (HP.out).mono ?_
          intro e w4 hp
          obtain ⟨rfl, v', hg4⟩ := HG.out.put hp
          rw [List.append_assoc, ← HFT.out] at hg4
          have HG4 := Lib.hid hg4
          clear hp hg4 HP
          go_wp2_with fail
          go_roundw
          case rel => exact ⟨j + 1, v', by go_num, by omega, HG4⟩
          case measure => simp [intOf] <;> omega
        · obtain rfl : j = k := by omega
          have HGE : Hid (GRun w wr w2.heap.size (List.replicate j (6, 0, 0) ++ t ++ flatR l) v) := Lib.hid (by
            have := HG.out
            rwa [List.take_of_length_le (by rw [HM.out]; exact Nat.le_refl _)] at this)
          have HLR := Lib.hid (grow_row _ _ _ _ HGE.out.gr)
          go_wp2_with fail
          refine (HLR.out).mono ?_
          rintro e w5 ⟨rfl, (⟨hbig, rfl⟩ | ⟨hsm, rfl⟩)⟩
          · have HX : Hid (applyS t (l.map fun x => x.2.2) = ([], 9)) := Lib.hid (by rw [HAPP.out]; unfold bigS; rw [if_pos hbig])
            go_wp2_with fail
            go_ret2
            rw [HX.out]
            exact RowAns.none _ HGE.out.bl
          · have HX : Hid (applyS t (l.map fun x => x.2.2) = (List.replicate j (6, 0, 0) ++ t ++ flatR l, 0)) := Lib.hid (by rw [HAPP.out]; unfold bigS; rw [if_neg (by omega)])
            obtain ⟨A5, n5, c5, rfl, hn5, ho5⟩ := HGE.out.row (by omega)
            have HO5 := Lib.hid ho5
            clear ho5
            go_wp2_with fail
            go_ret2
            rw [HX.out]
            exact RowAns.row hn5 HO5.out HGE.out.bl
set_option maxHeartbeats 4000000 in
theorem tbind_any (op : Int) (A : Option Addr) (n c : Nat) (t : List Node3) (R : Option Addr) (m cr : Nat) (l : List RowT) (w : World) (hn : t.length = n) (hs : Slice A n c) (hA : Holds w A (nodesV t)) (hm : l.length = m) (hmb : m ≤ 100000) (hR : Holds w R (l.map rowV)) (hok : RowsOk w l) (hL : Lim w) (hnb : n ≤ 100000) (htot : (flatR l).length ≤ 100000) :
    Calls Tryd.prog 38 #[.int .i64 op, .slice R m cr, .slice A n c] w (RowAns (bindS op (l.map fun x => x.2.2) t) w) := by
  by_cases hop : op ≠ 4 ∧ op ≠ 5
  · have HX : Hid (bindS op (l.map fun x => x.2.2) t = ([], 1)) := Lib.hid (by unfold bindS; rw [if_pos hop])
    obtain ⟨h4, h5⟩ := hop
    have e4 : (op != 4) = true := by simpa using h4
    have e5 : (op != 5) = true := by simpa using h5
    clear hA hR hok hL
    go_enter Tryd.func38, Tryd.ntmps38
    go_wp2_with fail
    go_ret2
    rw [HX.out]
    exact RowAns.none _ (Below.refl _ _)
  have HA := Lib.hid (show ∀ w', Below w.heap.size w w' → Holds w' A (nodesV t) from fun w' hb => hA.below hb)
  have HR := Lib.hid (show ∀ w', Below w.heap.size w w' → Holds w' R (l.map rowV) from fun w' hb => hR.below hb)
  have HOK := Lib.hid (show ∀ w', Below w.heap.size w w' → RowsOk w' l from fun w' hb => hok.below hb)
  have HAN := Lib.hid (show ∀ b o, A = some ⟨b, o, none⟩ → 0 < n → b < w.heap.size from fun b o e h0 => by
    obtain ⟨b', o', e', hb, _⟩ := hA.at_ (by rw [nodesV_len]; omega)
    rw [e] at e'; cases e'; exact hb)
  have e1 : ffS ([(A, c, t)].map fun x : RowT => x.2.2) = shapeOf t := by
    show (if shapeOf t ≠ 0 then shapeOf t else 0) = shapeOf t
    split <;> omega
  have HF1 := Lib.hid (show ∀ w1, Below w.heap.size w w1 → _ from fun w1 hb1 => firstFault_any (some ⟨w1.heap.size, 0, none⟩) 1 1 [(A, c, t)] (w1.alloc (.cells #[.slice A n c] 23)) rfl (by omega) (by
    have := holds_at w1 #[.slice A n c] 23 (([(A, c, t)] : List RowT).map rowV) (by simp [rowV, hn])
    exact this) (fun x hx => by
    simp only [List.mem_cons, List.not_mem_nil, or_false] at hx; subst hx
    simp only
    rw [hn]
    exact ⟨hs, hA.below (below_alloc hb1 _)⟩) (hL.next (below_alloc hb1 _)))
  rw [e1] at HF1
  have HF2 := Lib.hid (firstFault_any R m cr l w hm (by omega) hR hok hL)
  have HN := Lib.hid hn
  have HM := Lib.hid hm
  have HS := Lib.hid hs
  have HTOT := Lib.hid htot
  have HOKL := Lib.hid (show ∀ x ∈ l, ∀ b o, x.1 = some ⟨b, o, none⟩ → 0 < x.2.2.length → b < w.heap.size from fun x hx b o e h0 => by
    obtain ⟨b', o', e', hb, _⟩ := (hok x hx).2.at_ (by rw [nodesV_len]; omega)
    rw [e] at e'; cases e'; exact hb)
  clear hA hR hok hL hn hs htot e1
  obtain ⟨s1, hs1⟩ : ∃ s1, shapeOf t = s1 := ⟨_, rfl⟩
  obtain ⟨s2, hs2⟩ : ∃ s2, ffS (l.map fun x => x.2.2) = s2 := ⟨_, rfl⟩
  rw [hs1] at HF1
  rw [hs2] at HF2
  have HBX : Hid (bindS op (l.map fun x => x.2.2) t = if s2 ≠ 0 then ([], s2) else if s1 ≠ 0 then ([], s1) else bigS ((l.map fun x => x.2.2).flatMap (fun r => (op, 0, 0) :: r) ++ t)) := Lib.hid (by unfold bindS; rw [if_neg hop, hs1, hs2])
  rw [show (l.map fun x => x.2.2).flatMap (fun r => ((op, 0, 0) : Node3) :: r) = l.flatMap (fun x => (op, 0, 0) :: x.2.2) by rw [List.flatMap_map]] at HBX
  have e45 : op = 4 ∨ op = 5 := by omega
  clear hop
  by_cases z2 : s2 = 0
  case neg =>
    have HX := Lib.hid (HBX.out.trans (if_pos z2))
    have e1 : (s2 != 0) = true := by simpa using z2
    clear hs1 hs2 z2 HBX
    rcases e45 with rfl | rfl
    all_goals
      go_enter Tryd.func38, Tryd.ntmps38
      go_wp2_with fail
      refine (HF2.out).mono ?_
      rintro e w1 ⟨rfl, hb1⟩
      go_wp2_with fail
      go_ret2
      rw [HX.out]
      exact RowAns.none _ hb1
  have HBX2 := Lib.hid (HBX.out.trans (if_neg (by simpa using z2)))
  subst z2
  by_cases z1 : s1 = 0
  case neg =>
    have HX := Lib.hid (HBX2.out.trans (if_pos z1))
    have e1 : (s1 != 0) = true := by simpa using z1
    clear hs1 hs2 z1 HBX HBX2
    rcases e45 with rfl | rfl
    all_goals
      go_enter Tryd.func38, Tryd.ntmps38
      go_wp2_with fail
      refine (HF2.out).mono ?_
      rintro e w1 ⟨rfl, hb1⟩
      go_wp2_with fail
      refine (HF1.out w1 hb1).mono ?_
      rintro e w2 ⟨rfl, hb2⟩
      go_wp2_with fail
      go_ret2
      rw [HX.out]
      exact RowAns.none _ (below_step (below_alloc hb1 _) hb2)
  have HBX3 := Lib.hid (HBX2.out.trans (if_neg (by simpa using z1)))
  subst z1
  have hpos : 0 < n := by have := (right_of hs1).2.1; have := HN.out; omega
  have HPOS := Lib.hid (show ∀ x ∈ l, 0 < x.2.2.length from fun x hx => (right_of (ff_zero hs2 _ (List.mem_map.2 ⟨x, hx, rfl⟩))).2.1)
  have HLB := Lib.hid (show ∀ k, ((l.take k).flatMap (fun x => ((op, 0, 0) : Node3) :: x.2.2)).length ≤ 200000 from fun k => by
    have h1 : ∀ l : List RowT, (l.flatMap (fun x => ((op, 0, 0) : Node3) :: x.2.2)).length = l.length + (flatR l).length := by
      intro l
      induction l with
      | nil => rfl
      | cons x l ih =>
        rw [List.flatMap_cons, List.length_append, ih]
        simp [flatR]
        omega
    rw [h1]
    have := flatR_le l k
    have := HTOT.out
    have := HM.out
    rw [List.length_take]
    omega)
  clear hs1 hs2 HBX HBX2
  have hne : (op != 4 && op != 5) = false := by rcases e45 with rfl | rfl <;> rfl
  have HE45 := Lib.hid e45
  clear e45
  rcases HE45.out with rfl | rfl
  · clear HE45 hne
    go_enter Tryd.func38, Tryd.ntmps38
    go_wp2_with fail
    refine (HF2.out).mono ?_
    rintro e w1 ⟨rfl, hb1⟩
    have HB1 := Lib.hid hb1
    have HB1' := Lib.hid (below_alloc hb1 (.cells #[.slice A n c] 23))
    clear hb1
    go_wp2_with fail
    refine (HF1.out w1 HB1.out).mono ?_
    rintro e w2 ⟨rfl, hb2⟩
    have HB2 := Lib.hid (below_step HB1'.out hb2)
    have hst : GRun w (w2.alloc (.cells #[.slice none 0 0, .int .i64 0] 80)) w2.heap.size [] (.slice none 0 0) := ⟨GrowAt.start w2, fun k hk => by
      rcases hk with rfl | hk
      · exact HB2.out.size
      · simp [Value.ownBlock] at hk, below_alloc HB2.out _⟩
    have HST := Lib.hid hst
    have HGS := Lib.hid HB2.out.size
    clear hb2 hst
    go_wp2_with fail
    go_loopw [32] (fun i wr => ∃ (k : Nat) (v : Value), i = .int .i64 (k : Int) ∧ k ≤ m ∧ Hid (GRun w wr w2.heap.size ((l.take k).flatMap (fun x => (4, 0, 0) :: x.2.2)) v)) (fun i _ => m - (intOf i).toNat)
    case atStart => exact ⟨0, _, rfl, Nat.zero_le _, Lib.hid (by simpa using HST.out)⟩
    case round =>
      obtain ⟨j, v, rfl, hj, HG⟩ := hrel
      by_cases hlt : j < m
      · have hkl : j < l.length := by rw [HM.out]; exact hlt
        obtain ⟨b, o, rfl, hbl, hc⟩ := (HR.out _ HG.out.bl).at_ (by rw [List.length_map]; omega)
        have r0 := hc j _ (rowsV_get hkl)
        have hg1 := HG.out.next (w1 := (wr.alloc (.cells #[.int .i64 4, .int .i64 0, .int .i64 0] 53))) ((Below.refl _ _).alloc (Nat.le_refl _) _)
        have HP := Lib.hid (put_any w2.heap.size _ [(4, 0, 0)] v (some ⟨wr.heap.size, 0, none⟩) 1 1 (wr.alloc (.cells #[.int .i64 4, .int .i64 0, .int .i64 0] 53)) hg1.gr rfl ⟨Nat.le_refl _, by omega, fun h => by cases h⟩ (holds_at wr #[.int .i64 4, .int .i64 0, .int .i64 0] 53 _ rfl) (fun b o e => by cases e; have := HG.out.gr.whole.lt; omega) (by have := HLB.out j; omega))
        have HG1 := Lib.hid hg1
        have HP2 := Lib.hid (fun w3 v3 (hg : GRun w w3 w2.heap.size ((l.take j).flatMap (fun x => (4, 0, 0) :: x.2.2) ++ [(4, 0, 0)]) v3) => put_any w2.heap.size _ l[j].2.2 v3 l[j].1 l[j].2.2.length l[j].2.1 w3 hg.gr rfl (HOK.out _ hg.bl l[j] (List.getElem_mem hkl)).1 (HOK.out _ hg.bl l[j] (List.getElem_mem hkl)).2 (fun b o e => by
          have h1 := HOKL.out l[j] (List.getElem_mem hkl) b o e (HPOS.out _ (List.getElem_mem hkl))
          have := HGS.out; omega) (by
          have h1 := HLB.out (j + 1)
          rw [bind_flat hkl, List.length_append] at h1
          omega))
        have HFT := Lib.hid (bind_flat (op := 4) hkl)
        clear hc hg1
        generalize l[j].2.2.length = nj at *
        generalize l[j].1 = Aj at *
        generalize l[j].2.1 = cj at *
        go_wp2_with fail
        refine (HP.out).mono ?_
        intro e w3 hp
        obtain ⟨rfl, v', hg3⟩ := HG1.out.put hp
        have HG3 := Lib.hid hg3
        have HP3 := Lib.hid (HP2.out w3 v' hg3)
        clear hp hg3 HP HP2
        go_wp2_with fail
        refine (HP3.out).mono ?_
        intro e w4 hp
        obtain ⟨rfl, v4, hg4⟩ := HG3.out.put hp
        rw [← HFT.out] at hg4
        have HG4 := Lib.hid hg4
        clear hp hg4 HP3
        go_wp2_with fail
        go_roundw
        case rel => exact ⟨j + 1, v4, by go_num, by omega, HG4⟩
        case measure => simp [intOf] <;> omega
      · obtain rfl : j = m := by omega
        have HGE : Hid (GRun w wr w2.heap.size (l.flatMap (fun x => (4, 0, 0) :: x.2.2)) v) := Lib.hid (by
          have := HG.out
          rwa [List.take_of_length_le (by rw [HM.out]; exact Nat.le_refl _)] at this)
        have HP := Lib.hid (put_any w2.heap.size _ t v A n c wr HGE.out.gr HN.out HS.out (HA.out _ HGE.out.bl) (fun b o e => by
          have := HAN.out b o e hpos; have := HGS.out; omega) (by
          have h1 := HLB.out j
          rw [List.take_of_length_le (by rw [HM.out]; exact Nat.le_refl _)] at h1
          omega))
        go_wp2_with fail
        refine (HP.out).mono ?_
        intro e w4 hp
        obtain ⟨rfl, v4, hg4⟩ := HGE.out.put hp
        have HG4 := Lib.hid hg4
        have HLR := Lib.hid (grow_row _ _ _ _ hg4.gr)
        clear hp hg4 HP
        go_wp2_with fail
        refine (HLR.out).mono ?_
        rintro e w5 ⟨rfl, (⟨hbig, rfl⟩ | ⟨hsm, rfl⟩)⟩
        · have HX := Lib.hid (HBX3.out.trans (show bigS _ = ([], 9) by unfold bigS; rw [if_pos hbig]))
          go_wp2_with fail
          go_ret2
          rw [HX.out]
          exact RowAns.none _ HG4.out.bl
        · have HX := Lib.hid (HBX3.out.trans (show bigS _ = (l.flatMap (fun x => (4, 0, 0) :: x.2.2) ++ t, 0) by unfold bigS; rw [if_neg (by omega)]))
          obtain ⟨A5, n5, c5, rfl, hn5, ho5⟩ := HG4.out.row (by omega)
          have HO5 := Lib.hid ho5
          clear ho5
          go_wp2_with fail
          go_ret2
          rw [HX.out]
          exact RowAns.row hn5 HO5.out HG4.out.bl
  · clear HE45 hne
    go_enter Tryd.func38, Tryd.ntmps38
    go_wp2_with fail
    refine (HF2.out).mono ?_
    rintro e w1 ⟨rfl, hb1⟩
    have HB1 := Lib.hid hb1
    have HB1' := Lib.hid (below_alloc hb1 (.cells #[.slice A n c] 23))
    clear hb1
    go_wp2_with fail
    refine (HF1.out w1 HB1.out).mono ?_
    rintro e w2 ⟨rfl, hb2⟩
    have HB2 := Lib.hid (below_step HB1'.out hb2)
    have hst : GRun w (w2.alloc (.cells #[.slice none 0 0, .int .i64 0] 80)) w2.heap.size [] (.slice none 0 0) := ⟨GrowAt.start w2, fun k hk => by
      rcases hk with rfl | hk
      · exact HB2.out.size
      · simp [Value.ownBlock] at hk, below_alloc HB2.out _⟩
    have HST := Lib.hid hst
    have HGS := Lib.hid HB2.out.size
    clear hb2 hst
    go_wp2_with fail
    go_loopw [32] (fun i wr => ∃ (k : Nat) (v : Value), i = .int .i64 (k : Int) ∧ k ≤ m ∧ Hid (GRun w wr w2.heap.size ((l.take k).flatMap (fun x => (5, 0, 0) :: x.2.2)) v)) (fun i _ => m - (intOf i).toNat)
    case atStart => exact ⟨0, _, rfl, Nat.zero_le _, Lib.hid (by simpa using HST.out)⟩
    case round =>
      obtain ⟨j, v, rfl, hj, HG⟩ := hrel
      by_cases hlt : j < m
      · have hkl : j < l.length := by rw [HM.out]; exact hlt
        obtain ⟨b, o, rfl, hbl, hc⟩ := (HR.out _ HG.out.bl).at_ (by rw [List.length_map]; omega)
        have r0 := hc j _ (rowsV_get hkl)
        have hg1 := HG.out.next (w1 := (wr.alloc (.cells #[.int .i64 5, .int .i64 0, .int .i64 0] 53))) ((Below.refl _ _).alloc (Nat.le_refl _) _)
        have HP := Lib.hid (put_any w2.heap.size _ [(5, 0, 0)] v (some ⟨wr.heap.size, 0, none⟩) 1 1 (wr.alloc (.cells #[.int .i64 5, .int .i64 0, .int .i64 0] 53)) hg1.gr rfl ⟨Nat.le_refl _, by omega, fun h => by cases h⟩ (holds_at wr #[.int .i64 5, .int .i64 0, .int .i64 0] 53 _ rfl) (fun b o e => by cases e; have := HG.out.gr.whole.lt; omega) (by have := HLB.out j; omega))
        have HG1 := Lib.hid hg1
        have HP2 := Lib.hid (fun w3 v3 (hg : GRun w w3 w2.heap.size ((l.take j).flatMap (fun x => (5, 0, 0) :: x.2.2) ++ [(5, 0, 0)]) v3) => put_any w2.heap.size _ l[j].2.2 v3 l[j].1 l[j].2.2.length l[j].2.1 w3 hg.gr rfl (HOK.out _ hg.bl l[j] (List.getElem_mem hkl)).1 (HOK.out _ hg.bl l[j] (List.getElem_mem hkl)).2 (fun b o e => by
          have h1 := HOKL.out l[j] (List.getElem_mem hkl) b o e (HPOS.out _ (List.getElem_mem hkl))
          have := HGS.out; omega) (by
          have h1 := HLB.out (j + 1)
          rw [bind_flat hkl, List.length_append] at h1
          omega))
        have HFT := Lib.hid (bind_flat (op := 5) hkl)
        clear hc hg1
        generalize l[j].2.2.length = nj at *
        generalize l[j].1 = Aj at *
        generalize l[j].2.1 = cj at *
        go_wp2_with fail
        refine (HP.out).mono ?_
        intro e w3 hp
        obtain ⟨rfl, v', hg3⟩ := HG1.out.put hp
        have HG3 := Lib.hid hg3
        have HP3 := Lib.hid (HP2.out w3 v' hg3)
        clear hp hg3 HP HP2
        go_wp2_with fail
        refine (HP3.out).mono ?_
        intro e w4 hp
        obtain ⟨rfl, v4, hg4⟩ := HG3.out.put hp
        rw [← HFT.out] at hg4
        have HG4 := Lib.hid hg4
        clear hp hg4 HP3
        go_wp2_with fail
        go_roundw
        case rel => exact ⟨j + 1, v4, by go_num, by omega, HG4⟩
        case measure => simp [intOf] <;> omega
      · obtain rfl : j = m := by omega
        have HGE : Hid (GRun w wr w2.heap.size (l.flatMap (fun x => (5, 0, 0) :: x.2.2)) v) := Lib.hid (by
          have := HG.out
          rwa [List.take_of_length_le (by rw [HM.out]; exact Nat.le_refl _)] at this)
        have HP := Lib.hid (put_any w2.heap.size _ t v A n c wr HGE.out.gr HN.out HS.out (HA.out _ HGE.out.bl) (fun b o e => by
          have := HAN.out b o e hpos; have := HGS.out; omega) (by
          have h1 := HLB.out j
          rw [List.take_of_length_le (by rw [HM.out]; exact Nat.le_refl _)] at h1
          omega))
        go_wp2_with fail
        refine (HP.out).mono ?_
        intro e w4 hp
        obtain ⟨rfl, v4, hg4⟩ := HGE.out.put hp
        have HG4 := Lib.hid hg4
        have HLR := Lib.hid (grow_row _ _ _ _ hg4.gr)
        clear hp hg4 HP
        go_wp2_with fail
        refine (HLR.out).mono ?_
        rintro e w5 ⟨rfl, (⟨hbig, rfl⟩ | ⟨hsm, rfl⟩)⟩
        · have HX := Lib.hid (HBX3.out.trans (show bigS _ = ([], 9) by unfold bigS; rw [if_pos hbig]))
          go_wp2_with fail
          go_ret2
          rw [HX.out]
          exact RowAns.none _ HG4.out.bl
        · have HX := Lib.hid (HBX3.out.trans (show bigS _ = (l.flatMap (fun x => (5, 0, 0) :: x.2.2) ++ t, 0) by unfold bigS; rw [if_neg (by omega)]))
          obtain ⟨A5, n5, c5, rfl, hn5, ho5⟩ := HG4.out.row (by omega)
          have HO5 := Lib.hid ho5
          clear ho5
          go_wp2_with fail
          go_ret2
          rw [HX.out]
          exact RowAns.row hn5 HO5.out HG4.out.bl
end Go.Proofs.YtkkkblghihheeaaDoor
namespace Go.Proofs.YtkkkblghihheeaaDoor
open Go.RowKit

theorem wpList_append_gd {w : World} {ops : Array Oper} {rest : List Oper} {o : Oper} {a : Act} {Q : Exit → Act → World → Prop} (hgd : Region.wanted o (yielded ops a.tmps) = true) (s x : Operand) (t tx e' : TypeId)
    (ho : o.op = .call { callee := .builtin .append, args := #[s, x], argTypes := #[t, tx] }) (hk : Tryd.prog.underlying tx = some (.slice e')) (E : TypeId) (z : Value) (sz by_ : Nat) (hinfo : (Tryd.prog.info? E).map (fun i => (i.zero, i.size, i.bytes)) = some (some z, sz, by_))
    (hzs : z.cells.size = sz) (hsz : 0 < sz) (ht : Tryd.prog.underlying t = some (.slice E))
    (v : Value) (n m : Nat) (xs ys : List Value) (hs : a.eval s = v) (hown : w.ownsRow 0 E sz v n xs) (A : Option Addr) (c : Nat) (hx : a.eval x = .slice A m c)
    (hsl : Slice A m c) (hh : Holds w A ys) (hy : ys.length = m * sz) (hone : ∀ u ∈ ys, u.oneCell' = true) (hbig : n + m ≤ 1000000000) (hby : by_ ≤ 100000)
    (h : ∀ v' w', w'.ownsRow 0 E sz v' (n + m) (xs ++ ys) → Moves w v w' v' → wpList Tryd.prog ops Q rest (a.put o.dst v') w') : wpList Tryd.prog ops Q (o :: rest) a w := by
  unfold wpList
  rw [if_pos hgd]
  exact .inl (wp_append_at s x t tx e' ho hk E z sz by_ hinfo hzs hsz ht v n m xs ys hs hown A c hx hsl hh hy hone hbig hby fun v' w' h1 h2 => h v' w' h1 h2)
end Go.Proofs.YtkkkblghihheeaaDoor
namespace Go.Proofs.YtkkkblghihheeaaDoor
open Go.RowKit

/-- A row that is put together: in a block from s on. -/
def NGrow (w : World) (s : Nat) (v : Value) (t : List Node3) : Prop := w.ownsRow 0 53 3 v t.length (nodesV t) ∧ ∀ k, v.ownBlock = some k → s ≤ k
theorem NGrow.next {w w' : World} {s : Nat} {v : Value} {t : List Node3} (h : NGrow w s v t) (hb : Below w.heap.size w w') : NGrow w' s v t := ⟨own_below h.1 hb, h.2⟩
theorem NGrow.app {w w' : World} {s : Nat} {v v' : Value} {t r : List Node3} (h : NGrow w s v t) (hown : w'.ownsRow 0 53 3 v' (t.length + r.length) (nodesV t ++ nodesV r)) (hmv : Moves w v w' v') (hs : s ≤ w.heap.size) : NGrow w' s v' (t ++ r) ∧ Below s w w' :=
  ⟨⟨by rw [List.length_append, nodesV_append]; exact hown, fun k hk => by rcases hmv.next k hk with h' | h'; exact h.2 k h'; omega⟩, hmv.below hs fun g hg => h.2 g hg⟩
theorem NGrow.own {w : World} {s m c : Nat} {A : Option Addr} {t : List Node3} (h : NGrow w s (.slice A m c) t) (hm : t.length = m) : OwnN w s (.slice A m c) m t := by
  subst hm
  refine ⟨h.1.1, h.1.2.imp id ?_⟩
  rintro ⟨g, cap, cur, e, _, hr⟩
  cases e
  exact ⟨g, _, cur, rfl, h.2 g rfl, hr⟩
theorem NGrow.none (w : World) (s : Nat) : NGrow w s (.slice Option.none 0 0) [] := ⟨World.ownsRow_nil _ _ _ _, fun k hk => by simp [Value.ownBlock] at hk⟩
theorem NGrow.empty (w : World) (s : Nat) (hs : s ≤ w.heap.size) : NGrow (w.alloc (.cells #[] 53)) s (.slice (some ⟨w.heap.size, 0, Option.none⟩) 0 0) [] :=
  ⟨World.ownsRow_lit (base := 0) (size := 3) (e := 53) w #[] 0 (Nat.zero_le _) (by decide) rfl, fun k hk => by simp [Value.ownBlock] at hk; omega⟩
theorem NGrow.lit (w : World) (s : Nat) (x : Node3) (hs : s ≤ w.heap.size) : NGrow (w.alloc (.cells #[.int .i64 x.1, .int .i64 x.2.1, .int .i64 x.2.2] 53)) s (.slice (some ⟨w.heap.size, 0, Option.none⟩) 1 1) [x] :=
  ⟨World.ownsRow_lit (base := 0) (size := 3) (e := 53) w #[.int .i64 x.1, .int .i64 x.2.1, .int .i64 x.2.2] 1 (Nat.zero_le _) (by decide) rfl, fun k hk => by simp [Value.ownBlock] at hk; omega⟩
end Go.Proofs.YtkkkblghihheeaaDoor
namespace Go.Proofs.YtkkkblghihheeaaDoor
open Go.RowKit

set_option maxHeartbeats 1000000 in
theorem rcopy_any (A : Option Addr) (n c : Nat) (t : List Node3) (w : World) (hn : t.length = n) (hs : Slice A n c) (hA : Holds w A (nodesV t)) (hnb : n ≤ 100000) :
    Calls Tryd.prog 40 #[.slice A n c] w (NewN n t w) := by
  have hge := NGrow.empty w w.heap.size (Nat.le_refl _)
  have hb : Below w.heap.size w (w.alloc (.cells #[] 53)) := (Below.refl _ _).alloc (Nat.le_refl _) _
  have HOE := Lib.hid hge.1
  have HGE := Lib.hid hge
  have HBE := Lib.hid hb
  have HHT := Lib.hid (hA.below hb)
  have HN := Lib.hid hn
  have HS := Lib.hid hs
  clear hge hb hA hn hs
  go_enter Tryd.func40, Tryd.ntmps40
  go_wp2_with (at_builtin; go_must (refine wpList_append_tx rfl (.tmp 3) (.tmp 4) _ _ _ rfl Tryd.underlying23 53 _ 3 24 infoNode rfl (by decide) Tryd.underlying23 (.slice (some ⟨w.heap.size, 0, none⟩) 0 0) 0 n _ (nodesV t) rfl HOE.out A c rfl HS.out HHT.out (by rw [nodesV_len, HN.out]) nodesV_one (by omega) (by decide) ?_; intro v2 w2 hown2 hmv2; have hg2 := HGE.out.app (r := t) (by rw [HN.out]; exact hown2) hmv2 HBE.out.size; obtain ⟨A2, c2, rfl, -, -⟩ := own_slice hown2; have HG2 := Lib.hid hg2.1; have HB2 := Lib.hid (HBE.out.trans hg2.2); clear hown2 hmv2 hg2))
  go_ret
  have hg : NGrow w2 w.heap.size (.slice A2 n c2) t := by simpa using HG2.out
  exact ⟨A2, c2, by simp, hg.own HN.out, HB2.out⟩
end Go.Proofs.YtkkkblghihheeaaDoor
namespace Go.Proofs.YtkkkblghihheeaaDoor
open Go.RowKit

theorem hit_eq {k : Nat} {x : Node3 × Nat} : hitB k x = decide (freeN x.1 x.2 = k) := by
  rw [hit_free]
  by_cases h : freeN x.1 x.2 = (k : Int)
  · rw [decide_eq_true h, decide_eq_true (by omega)]; rfl
  · rw [decide_eq_false h, Bool.and_false]
theorem tmD_max {k : Nat} {a : Ann} : (∀ x ∈ a, hitB k x = true → x.2 ≤ tmD k a) ∧ (0 < tmN k a → ∃ x ∈ a, hitB k x = true ∧ x.2 = tmD k a) := by
  induction a with
  | nil => exact ⟨fun x hx => (by cases hx), fun h => by simp [tmN] at h⟩
  | cons y a ih =>
    have e : tmD k (y :: a) = if hitB k y then max y.2 (tmD k a) else tmD k a := rfl
    have en : tmN k (y :: a) = tmN k a + if hitB k y then 1 else 0 := by unfold tmN; rw [List.countP_cons]
    have hz : tmN k a = 0 → tmD k a = 0 := by
      intro h
      have h0 : ∀ x ∈ a, hitB k x = false := by
        unfold tmN at h
        rw [List.countP_eq_zero] at h
        intro x hx
        simpa using h x hx
      clear ih e en h
      induction a with
      | nil => rfl
      | cons z a ih2 =>
        show (if hitB k z then max z.2 (tmD k a) else tmD k a) = 0
        rw [h0 z (by simp)]
        exact ih2 fun x hx => h0 x (List.mem_cons_of_mem _ hx)
    rw [e, en]
    cases hy : hitB k y with
    | true =>
      simp only [if_true]
      refine ⟨fun x hx h => ?_, fun _ => ?_⟩
      · rcases List.mem_cons.1 hx with rfl | hx
        · omega
        · have := ih.1 x hx h; omega
      · by_cases hc : tmD k a ≤ y.2
        · exact ⟨y, by simp, hy, by omega⟩
        · have hp : 0 < tmN k a := by
            refine Nat.pos_of_ne_zero fun h0 => ?_
            have := hz h0; omega
          obtain ⟨x, hx, hh, e2⟩ := ih.2 hp
          exact ⟨x, List.mem_cons_of_mem _ hx, hh, by omega⟩
    | false =>
      simp only [Bool.false_eq_true, if_false, Nat.add_zero]
      refine ⟨fun x hx h => ?_, fun hp => ?_⟩
      · rcases List.mem_cons.1 hx with rfl | hx
        · rw [hy] at h; cases h
        · exact ih.1 x hx h
      · obtain ⟨x, hx, hh, e2⟩ := ih.2 hp
        exact ⟨x, List.mem_cons_of_mem _ hx, hh, e2⟩
theorem any_hi {k : Nat} {a b : Ann} (hb : k + tmD k a ≤ 4000000) : (a.any fun x => decide (freeN x.1 x.2 = k) && decide (roomN 0 b < k + x.2)) = true ↔ 0 < tmN k a ∧ 1048576 < hi (k + tmD k a) 0 b := by
  have hr := hi_room (a := b) (f := 0) hb
  rw [show ((0 : Nat) : Int) = 0 from rfl] at hr
  have hm := tmD_max (k := k) (a := a)
  rw [List.any_eq_true]
  constructor
  · rintro ⟨x, hx, h⟩
    rw [Bool.and_eq_true, ← hit_eq, decide_eq_true_iff] at h
    have h1 := hm.1 x hx h.1
    refine ⟨?_, ?_⟩
    · unfold tmN
      exact List.countP_pos_iff.2 ⟨x, hx, h.1⟩
    · refine Decidable.byContradiction fun hc => ?_
      have := hr.1 (by omega)
      omega
  · rintro ⟨h1, h2⟩
    obtain ⟨x, hx, hh, e⟩ := hm.2 h1
    refine ⟨x, hx, ?_⟩
    rw [Bool.and_eq_true, ← hit_eq, decide_eq_true_iff]
    refine ⟨hh, Decidable.byContradiction fun hc => ?_⟩
    have := hr.2 (by omega)
    omega
theorem subk_len {k : Nat} {a b : Ann} : ((a.flatMap (subX k b)).length : Int) = a.length + (tmN k a : Int) * ((b.length : Int) - 1) := by
  induction a with
  | nil => simp [tmN]
  | cons x a ih =>
    have en : tmN k (x :: a) = tmN k a + if hitB k x then 1 else 0 := by unfold tmN; rw [List.countP_cons]
    rw [List.flatMap_cons, List.length_append, Int.natCast_add, ih, en, List.length_cons]
    cases hx : hitB k x with
    | true =>
      rw [hit_eq, decide_eq_true_iff] at hx
      rw [subX_eq hx, List.length_map, if_pos rfl, Int.natCast_add (tmN k a) 1, Int.add_mul, Int.natCast_add]
      omega
    | false =>
      rw [hit_eq, decide_eq_false_iff_not] at hx
      have hl : (subX k b x).length = 1 := by
        unfold subX
        split
        · rfl
        split
        · rfl
        · omega
      rw [hl]
      simp only [Bool.false_eq_true, if_false, Nat.add_zero]
      omega
theorem pt_sub {k : Nat} {a b : Ann} (hok : ∀ x ∈ a, holdsN x.1) (hokb : ∀ x ∈ b, holdsN x.1) : (each (ptF b) k a).map Prod.fst = a.flatMap (subX k b) := by
  unfold each
  rw [List.map_flatMap]
  refine flat_congr fun x hx => ?_
  have hh := hok x hx
  unfold ptF
  by_cases h1 : x.1.1 = 1
  · rw [if_pos h1]
    have hB : x.1.2.2 = 0 := by unfold holdsN at hh; omega
    have hf : freeN x.1 x.2 = x.1.2.1 - x.2 := by unfold freeN; rw [if_pos h1]
    by_cases h2 : x.1.2.1 = ((x.2 + k : Nat) : Int)
    · rw [if_pos h2, subX_eq (by omega)]
      unfold shA
      rw [List.map_map]
      have := rz_lift hokb (x.2 + k) 0
      rw [show ((0 : Nat) : Int) = 0 from rfl, show ((x.2 + k : Nat) : Int) = (k : Int) + x.2 by omega] at this
      rw [← this]
      rfl
    · rw [if_neg h2]
      by_cases h3 : ((x.2 + k : Nat) : Int) < x.1.2.1
      · rw [if_pos h3, subX_gt (by omega)]
        simp [shA, h1, hB]
      · rw [if_neg h3, subX_lt (by omega)]
        simp [shA]
  · rw [if_neg h1, subX_lt (by rw [freeN_no h1]; omega)]
    simp [shA]
theorem ff_both {t u : List Node3} (ht : shapeOf t = 0) (hu : shapeOf u = 0) : ffS [t, u] = 0 := by
  simp [ffS, ht, hu]
theorem subR0 {t u : List Node3} {at_ : Int} (h : shapeOf t ≠ 0) : substS t u at_ = ([], shapeOf t) := by
  have e : ffS [t, u] = shapeOf t := by simp [ffS, h]
  unfold substS
  rw [e, if_pos h]
theorem subR1 {t u : List Node3} {at_ : Int} (h : shapeOf t = 0) (h1 : shapeOf u ≠ 0) : substS t u at_ = ([], shapeOf u) := by
  have e : ffS [t, u] = shapeOf u := by simp [ffS, h, h1]
  unfold substS
  rw [e, if_pos h1]
theorem subR2 {t u : List Node3} {at_ : Int} (h : shapeOf t = 0) (h1 : shapeOf u = 0) (h2 : at_ < 0) : substS t u at_ = ([], 1) := by
  unfold substS
  rw [ff_both h h1, if_neg (by simp), if_pos h2]
theorem subMin {t u : List Node3} {at_ : Int} (h : shapeOf t = 0) (hat : 0 ≤ at_) : substS t u at_ = substS t u (min at_ 2097152) := by
  by_cases hc : at_ ≤ 2097152
  · rw [show min at_ 2097152 = at_ by omega]
  · rw [show min at_ 2097152 = 2097152 by omega]
    have hf : ∀ x ∈ annOf t, freeN x.1 x.2 ≤ 1048576 := fun x hx => by
      have := holds_a ((ann_of h).1.ok x hx)
      unfold freeN
      split <;> omega
    have e1 : ∀ m : Int, 1048576 < m → (annOf t).any (fun x => decide (freeN x.1 x.2 = m) && decide (roomN 0 (annOf u) < m + x.2)) = false := fun m hm => by
      rw [List.any_eq_false]
      intro x hx
      have := hf x hx
      simp only [Bool.and_eq_true, decide_eq_true_eq]
      omega
    have e2 : ∀ m : Int, 1048576 < m → (annOf t).flatMap (subX m (annOf u)) = (annOf t).flatMap (fun x => [x.1]) := fun m hm => flat_congr fun x hx => subX_lt (by have := hf x hx; omega)
    unfold substS
    rw [e1 at_ (by omega), e1 2097152 (by omega), e2 at_ (by omega), e2 2097152 (by omega), if_neg (show ¬ at_ < 0 by omega), if_neg (show ¬ (2097152 : Int) < 0 by omega)]
theorem subR {t u : List Node3} {k : Nat} (h : shapeOf t = 0) (h1 : shapeOf u = 0) (hk : k ≤ 2097152) :
    substS t u k = if 0 < tmN k (annOf t) ∧ 1048576 < hi (k + tmD k (annOf t)) 0 (annOf u) then ([], 6) else if (4096 : Int) < (annOf t).length + (tmN k (annOf t) : Int) * (((annOf u).length : Int) - 1) then ([], 9) else ((each (ptF (annOf u)) k (annOf t)).map Prod.fst, 0) := by
  have hd := tmD_le k (deep_of h)
  have ha := any_hi (a := annOf t) (b := annOf u) (k := k) (by omega)
  have hl := subk_len (k := k) (a := annOf t) (b := annOf u)
  unfold substS
  rw [ff_both h h1, if_neg (by simp), if_neg (show ¬ (k : Int) < 0 by omega)]
  by_cases hc : 0 < tmN k (annOf t) ∧ 1048576 < hi (k + tmD k (annOf t)) 0 (annOf u)
  · rw [if_pos hc, if_pos (ha.2 hc)]
  · rw [if_neg hc, if_neg (fun h' => hc (ha.1 h')), pt_sub (ann_of h).1.ok (ann_of h1).1.ok]
    by_cases hb : (4096 : Int) < (annOf t).length + (tmN k (annOf t) : Int) * (((annOf u).length : Int) - 1)
    · rw [if_pos hb, if_pos (by omega)]
    · rw [if_neg hb, if_neg (by omega)]
theorem pt_len {t u : List Node3} {k : Nat} (h : shapeOf t = 0) (h1 : shapeOf u = 0) : ((each (ptF (annOf u)) k (annOf t)).length : Int) = (annOf t).length + (tmN k (annOf t) : Int) * (((annOf u).length : Int) - 1) := by
  have := congrArg List.length (pt_sub (k := k) (ann_of h).1.ok (ann_of h1).1.ok)
  rw [List.length_map] at this
  rw [this]
  exact subk_len
end Go.Proofs.YtkkkblghihheeaaDoor
namespace Go.Proofs.YtkkkblghihheeaaDoor
open Go.RowKit

set_option maxRecDepth 100000 in
set_option maxHeartbeats 1000000 in
theorem rsubst_any (A Au : Option Addr) (n c nu cu : Nat) (t u : List Node3) (at_ : Int) (w : World) (hn : t.length = n) (hsl : Slice A n c) (hA : Holds w A (nodesV t)) (hw : ∀ x ∈ t, Wide3 x) (hnu : u.length = nu) (hslu : Slice Au nu cu) (hAu : Holds w Au (nodesV u)) (hwu : ∀ x ∈ u, Wide3 x) (hat : I64 at_) :
    Calls Tryd.prog 33 #[.slice A n c, .slice Au nu cu, .int .i64 at_] w (RowAns (substS t u at_) w) := by
  obtain ⟨hat1, hat2⟩ := hat
  have HN := Lib.hid hn
  have HNU := Lib.hid hnu
  have HS0 := Lib.hid (fun w1 (hb : Below w.heap.size w w1) => rshape_any A n c t w1 hn hsl (hA.below hb) hw)
  have HO0 := Lib.hid (fun w1 (hb : Below w.heap.size w w1) => rof_any A n c t w1 hn hsl (hA.below hb) hw)
  have HS1 := Lib.hid (fun w1 (hb : Below w.heap.size w w1) => rshape_any Au nu cu u w1 hnu hslu (hAu.below hb) hwu)
  have HO1 := Lib.hid (fun w1 (hb : Below w.heap.size w w1) => rof_any Au nu cu u w1 hnu hslu (hAu.below hb) hwu)
  clear hn hA hw hsl hnu hslu hAu hwu
  by_cases hs : shapeOf t = 0
  case neg =>
    have HR := Lib.hid (subR0 (u := u) (at_ := at_) hs)
    have e1 : (shapeOf t != 0) = true := by simpa using hs
    have e2 : (shapeOf t == 0) = false := by simpa using hs
    clear hs HS1 HO1 HO0
    generalize shapeOf t = sh at *
    go_enter Tryd.func33, Tryd.ntmps33
    go_wp2_with fail
    refine (HS0.out w (Below.refl _ _)).mono ?_
    rintro e w0 ⟨rfl, hb0⟩
    have HB0 := Lib.hid hb0
    clear hb0
    go_wp2_with fail
    go_ret2
    exact RowAns.err HR.out HB0.out
  have hs0 := hs
  rw [hs0] at HS0
  by_cases hsu : shapeOf u = 0
  case neg =>
    have HR := Lib.hid (subR1 (at_ := at_) hs hsu)
    have e1 : (shapeOf u != 0) = true := by simpa using hsu
    have e2 : (shapeOf u == 0) = false := by simpa using hsu
    clear hs hs0 hsu HO1 HO0
    generalize shapeOf u = sh at *
    go_enter Tryd.func33, Tryd.ntmps33
    go_wp2_with fail
    refine (HS0.out w (Below.refl _ _)).mono ?_
    rintro e w0 ⟨rfl, hb0⟩
    have HB0 := Lib.hid hb0
    clear hb0
    go_wp2_with fail
    refine (HS1.out w0 HB0.out).mono ?_
    rintro e w1 ⟨rfl, hb1⟩
    have HB1 := Lib.hid (below_step HB0.out hb1)
    clear hb1
    go_wp2_with fail
    go_ret2
    exact RowAns.err HR.out HB1.out
  have hsu0 := hsu
  rw [hsu0] at HS1
  by_cases hneg : at_ < 0
  · have HR := Lib.hid (subR2 hs hsu hneg)
    clear hs hsu hs0 hsu0 HO0 HO1
    go_enter Tryd.func33, Tryd.ntmps33
    go_wp2_with fail
    refine (HS0.out w (Below.refl _ _)).mono ?_
    rintro e w0 ⟨rfl, hb0⟩
    have HB0 := Lib.hid hb0
    clear hb0
    go_wp2_with fail
    refine (HS1.out w0 HB0.out).mono ?_
    rintro e w1 ⟨rfl, hb1⟩
    have HB1 := Lib.hid (below_step HB0.out hb1)
    clear hb1
    go_wp2_with fail
    go_ret2
    exact RowAns.err HR.out HB1.out
  have hHR : ∃ k : Nat, k ≤ 2097152 ∧ (at_ = (k : Int) ∨ 2097152 < at_ ∧ (k : Int) = 2097152) ∧ substS t u at_ = substS t u k := by
    by_cases hc : at_ ≤ 2097152
    · exact ⟨at_.toNat, by omega, .inl (by omega), by rw [show ((at_.toNat : Nat) : Int) = at_ by omega]⟩
    · refine ⟨2097152, Nat.le_refl _, .inr ⟨by omega, rfl⟩, ?_⟩
      rw [subMin (u := u) hs (show 0 ≤ at_ by omega), show min at_ 2097152 = 2097152 by omega]
      rfl
  obtain ⟨k, hkb, hkk, HR0⟩ := hHR
  rw [subR hs hsu hkb] at HR0
  have HPL := pt_len (k := k) hs hsu
  have HSM := Lib.hid (small_of hs)
  have HSMU := Lib.hid (small_of hsu)
  have HDP := Lib.hid (deep_of hs)
  have hla := (len_of hs).1
  have hlu := (len_of hsu).1
  have hla4 : n ≤ 4096 := by have := (len_of hs).2; have := HN.out; omega
  have hlu4 : nu ≤ 4096 := by have := (len_of hsu).2; have := HNU.out; omega
  have hpu : 1 ≤ nu := by have := (right_of hsu).2.1; have := HNU.out; omega
  rw [HN.out] at hla
  rw [HNU.out] at hlu
  rw [hla, hlu] at HR0 HPL
  have HSS := Lib.hid hs
  have HSSU := Lib.hid hsu
  have HALN := Lib.hid hla
  have HALU := Lib.hid hlu
  have hdk := tmD_le k (deep_of hs)
  have hmk := tmN_le k (annOf t)
  rw [hla] at hmk
  have HR := Lib.hid HR0
  have HPL := Lib.hid HPL
  clear hs hsu hs0 hsu0 HR0 hla hlu
  rcases hkk with hkk | ⟨hkk, hk2⟩
  · subst hkk
    have hkc : ((k : Int)) ≤ 2097152 := by omega
    go_enter Tryd.func33, Tryd.ntmps33
    go_wp2_with fail
    refine (HS0.out w (Below.refl _ _)).mono ?_
    rintro e w0 ⟨rfl, hb0⟩
    have HB0 := Lib.hid hb0
    clear hb0
    go_wp2_with fail
    refine (HS1.out w0 HB0.out).mono ?_
    rintro e w1 ⟨rfl, hb1⟩
    have HB1 := Lib.hid (below_step HB0.out hb1)
    clear hb1
    go_wp2_with fail
    refine (HO0.out w1 HB1.out).mono ?_
    rintro e w2 (⟨hno, -, -⟩ | ⟨v, -, rfl, ht, hb2⟩)
    · exact absurd HSS.out hno
    obtain ⟨⟨yo, yA, yB⟩, yK, ynk, yck, yP, ynp, ycp, yF, ynf, ycf⟩ := v
    dsimp only [TV.val]
    have HL1 := Lib.hid (show Below w2.heap.size w2 (w2.alloc (.cells #[.int .i64 yo, .int .i64 yA, .int .i64 yB, .slice yK ynk yck, .slice yP ynp ycp, .slice yF ynf ycf] 59)) from (Below.refl _ _).alloc (Nat.le_refl _) _)
    have HT := Lib.hid (ht.plain.next HL1.out)
    have HB2 := Lib.hid (below_step (below_step HB1.out hb2) HL1.out)
    have HS12 : Hid (w1.heap.size ≤ (w2.alloc (.cells #[.int .i64 yo, .int .i64 yA, .int .i64 yB, .slice yK ynk yck, .slice yP ynp ycp, .slice yF ynf ycf] 59)).heap.size) := Lib.hid (Nat.le_trans hb2.size HL1.out.size)
    have HBX1 := Lib.hid (holds_at w2 #[.int .i64 yo, .int .i64 yA, .int .i64 yB, .slice yK ynk yck, .slice yP ynp ycp, .slice yF ynf ycf] 59 _ rfl)
    clear hb2 ht
    go_wp2_with fail
    refine (HO1.out (w2.alloc (.cells #[.int .i64 yo, .int .i64 yA, .int .i64 yB, .slice yK ynk yck, .slice yP ynp ycp, .slice yF ynf ycf] 59)) HB2.out).mono ?_
    rintro e w3 (⟨hno, -, -⟩ | ⟨v, -, rfl, ht, hb3⟩)
    · exact absurd HSSU.out hno
    obtain ⟨⟨zo, zA, zB⟩, zK, znk, zck, zP, znp, zcp, zF, znf, zcf⟩ := v
    dsimp only [TV.val]
    have HL2 := Lib.hid (show Below w3.heap.size w3 (w3.alloc (.cells #[.int .i64 zo, .int .i64 zA, .int .i64 zB, .slice zK znk zck, .slice zP znp zcp, .slice zF znf zcf] 59)) from (Below.refl _ _).alloc (Nat.le_refl _) _)
    have HTU := Lib.hid ((ht.plain.next HL2.out).mono (G' := fun j => w1.heap.size ≤ j) fun j hj _ => Nat.le_trans HS12.out hj)
    replace HT := Lib.hid (HT.out.next (below_step hb3 HL2.out))
    have HB3 := Lib.hid (below_step (below_step HB2.out hb3) HL2.out)
    replace HBX1 := Lib.hid (HBX1.out.below (below_step hb3 HL2.out))
    have HBX2 := Lib.hid (holds_at w3 #[.int .i64 zo, .int .i64 zA, .int .i64 zB, .slice zK znk zck, .slice zP znp zcp, .slice zF znf zcf] 59 _ rfl)
    have c0 : (w3.alloc (.cells #[.int .i64 zo, .int .i64 zA, .int .i64 zB, .slice zK znk zck, .slice zP znp zcp, .slice zF znf zcf] 59)).cell? ⟨w2.heap.size, 0, none⟩ = some (.int .i64 yo) := HBX1.out.cell (j := 0) rfl
    have c1 : (w3.alloc (.cells #[.int .i64 zo, .int .i64 zA, .int .i64 zB, .slice zK znk zck, .slice zP znp zcp, .slice zF znf zcf] 59)).cell? ⟨w2.heap.size, 1, none⟩ = some (.int .i64 yA) := HBX1.out.cell (j := 1) rfl
    have c2 : (w3.alloc (.cells #[.int .i64 zo, .int .i64 zA, .int .i64 zB, .slice zK znk zck, .slice zP znp zcp, .slice zF znf zcf] 59)).cell? ⟨w2.heap.size, 2, none⟩ = some (.int .i64 yB) := HBX1.out.cell (j := 2) rfl
    have c3 : (w3.alloc (.cells #[.int .i64 zo, .int .i64 zA, .int .i64 zB, .slice zK znk zck, .slice zP znp zcp, .slice zF znf zcf] 59)).cell? ⟨w2.heap.size, 3, none⟩ = some (.slice yK ynk yck) := HBX1.out.cell (j := 3) rfl
    have c4 : (w3.alloc (.cells #[.int .i64 zo, .int .i64 zA, .int .i64 zB, .slice zK znk zck, .slice zP znp zcp, .slice zF znf zcf] 59)).cell? ⟨w2.heap.size, 4, none⟩ = some (.slice yP ynp ycp) := HBX1.out.cell (j := 4) rfl
    have c5 : (w3.alloc (.cells #[.int .i64 zo, .int .i64 zA, .int .i64 zB, .slice zK znk zck, .slice zP znp zcp, .slice zF znf zcf] 59)).cell? ⟨w2.heap.size, 5, none⟩ = some (.slice yF ynf ycf) := HBX1.out.cell (j := 5) rfl
    clear hb3 ht
    go_wp2_with fail
    have hg := times_any (annOf t).length ⟨(yo, yA, yB), yK, ynk, yck, yP, ynp, ycp, yF, ynf, ycf⟩ (annOf t) (w3.alloc (.cells #[.int .i64 zo, .int .i64 zA, .int .i64 zB, .slice zK znk zck, .slice zP znp zcp, .slice zF znf zcf] 59)) (fun j => w1.heap.size ≤ j) 16384 k (by omega) HDP.out (Nat.le_refl _) HT.out HSM.out (by have := HALN.out; omega)
    dsimp only [TV.val] at hg
    refine hg.mono ?_
    clear hg
    rintro e w4 ⟨rfl, hb4⟩
    have HT4 := Lib.hid (HT.out.next hb4)
    have HTU4 := Lib.hid (HTU.out.next hb4)
    have HB4 := Lib.hid (below_step HB3.out hb4)
    have HX14 := Lib.hid (HBX1.out.below hb4)
    have HX24 := Lib.hid (HBX2.out.below hb4)
    replace c0 : w4.cell? ⟨w2.heap.size, 0, none⟩ = some (.int .i64 yo) := HX14.out.cell (j := 0) rfl
    replace c1 : w4.cell? ⟨w2.heap.size, 1, none⟩ = some (.int .i64 yA) := HX14.out.cell (j := 1) rfl
    replace c2 : w4.cell? ⟨w2.heap.size, 2, none⟩ = some (.int .i64 yB) := HX14.out.cell (j := 2) rfl
    replace c3 : w4.cell? ⟨w2.heap.size, 3, none⟩ = some (.slice yK ynk yck) := HX14.out.cell (j := 3) rfl
    replace c4 : w4.cell? ⟨w2.heap.size, 4, none⟩ = some (.slice yP ynp ycp) := HX14.out.cell (j := 4) rfl
    replace c5 : w4.cell? ⟨w2.heap.size, 5, none⟩ = some (.slice yF ynf ycf) := HX14.out.cell (j := 5) rfl
    have d0 : w4.cell? ⟨w3.heap.size, 0, none⟩ = some (.int .i64 zo) := HX24.out.cell (j := 0) rfl
    have d1 : w4.cell? ⟨w3.heap.size, 1, none⟩ = some (.int .i64 zA) := HX24.out.cell (j := 1) rfl
    have d2 : w4.cell? ⟨w3.heap.size, 2, none⟩ = some (.int .i64 zB) := HX24.out.cell (j := 2) rfl
    have d3 : w4.cell? ⟨w3.heap.size, 3, none⟩ = some (.slice zK znk zck) := HX24.out.cell (j := 3) rfl
    have d4 : w4.cell? ⟨w3.heap.size, 4, none⟩ = some (.slice zP znp zcp) := HX24.out.cell (j := 4) rfl
    have d5 : w4.cell? ⟨w3.heap.size, 5, none⟩ = some (.slice zF znf zcf) := HX24.out.cell (j := 5) rfl
    clear hb4
    generalize tmN k (annOf t) = m at *
    generalize tmD k (annOf t) = dd at *
    have ewa := IntWalk.i64_in ((k : Int) + (dd : Int)) (by omega)
    obtain ⟨q, hq⟩ : ∃ q : Nat, (m : Int) * ((nu : Int) - 1) = (q : Int) := ⟨m * (nu - 1), by rw [Int.natCast_mul]; congr 1; omega⟩
    have hqb : q ≤ 16777216 := by
      have h1 : q = m * (nu - 1) := by
        have : ((m * (nu - 1) : Nat) : Int) = (q : Int) := by rw [← hq, Int.natCast_mul]; congr 1; omega
        omega
      rw [h1]
      have := Nat.mul_le_mul (show m ≤ 4096 by omega) (show nu - 1 ≤ 4096 by omega)
      omega
    rw [hq] at HR HPL
    have ew1 := IntWalk.i64_in ((nu : Int) - 1) (by omega)
    have ew2 := IntWalk.i64_in (q : Int) (by omega)
    have ew3 := IntWalk.i64_in ((n : Int) + (q : Int)) (by omega)
    by_cases hm : 0 < m
    · have hmi : (0 : Int) < (m : Int) := by omega
      go_wp2_with fail
      have hh := highest_any (annOf u).length ⟨(zo, zA, zB), zK, znk, zck, zP, znp, zcp, zF, znf, zcf⟩ (annOf u) w4 (fun j => w1.heap.size ≤ j) (k + dd) 0 (by omega) (Nat.le_refl _) HTU4.out HSMU.out (by have := HALU.out; omega)
      dsimp only [TV.val] at hh
      rw [Int.natCast_add] at hh
      refine hh.mono ?_
      clear hh
      rintro e w5 ⟨rfl, hb5⟩
      have HT5 := Lib.hid (HT4.out.next hb5)
      have HTU5 := Lib.hid (HTU4.out.next hb5)
      have HB5 := Lib.hid (below_step HB4.out hb5)
      have HX15 := Lib.hid (HX14.out.below hb5)
      have HX25 := Lib.hid (HX24.out.below hb5)
      generalize hi (k + dd) 0 (annOf u) = hh at *
      by_cases hhg : 1048576 < hh
      · have HRE := Lib.hid (HR.out.trans (if_pos ⟨hm, hhg⟩))
        clear hb5
        go_wp2_with fail
        go_ret2
        exact RowAns.err HRE.out HB5.out
      · have HRE := Lib.hid (HR.out.trans (if_neg (fun h => hhg h.2)))
        replace c0 : w5.cell? ⟨w2.heap.size, 0, none⟩ = some (.int .i64 yo) := HX15.out.cell (j := 0) rfl
        replace c1 : w5.cell? ⟨w2.heap.size, 1, none⟩ = some (.int .i64 yA) := HX15.out.cell (j := 1) rfl
        replace c2 : w5.cell? ⟨w2.heap.size, 2, none⟩ = some (.int .i64 yB) := HX15.out.cell (j := 2) rfl
        replace c3 : w5.cell? ⟨w2.heap.size, 3, none⟩ = some (.slice yK ynk yck) := HX15.out.cell (j := 3) rfl
        replace c4 : w5.cell? ⟨w2.heap.size, 4, none⟩ = some (.slice yP ynp ycp) := HX15.out.cell (j := 4) rfl
        replace c5 : w5.cell? ⟨w2.heap.size, 5, none⟩ = some (.slice yF ynf ycf) := HX15.out.cell (j := 5) rfl
        replace d0 : w5.cell? ⟨w3.heap.size, 0, none⟩ = some (.int .i64 zo) := HX25.out.cell (j := 0) rfl
        replace d1 : w5.cell? ⟨w3.heap.size, 1, none⟩ = some (.int .i64 zA) := HX25.out.cell (j := 1) rfl
        replace d2 : w5.cell? ⟨w3.heap.size, 2, none⟩ = some (.int .i64 zB) := HX25.out.cell (j := 2) rfl
        replace d3 : w5.cell? ⟨w3.heap.size, 3, none⟩ = some (.slice zK znk zck) := HX25.out.cell (j := 3) rfl
        replace d4 : w5.cell? ⟨w3.heap.size, 4, none⟩ = some (.slice zP znp zcp) := HX25.out.cell (j := 4) rfl
        replace d5 : w5.cell? ⟨w3.heap.size, 5, none⟩ = some (.slice zF znf zcf) := HX25.out.cell (j := 5) rfl
        clear hb5
        by_cases hbg : (4096 : Int) < (n : Int) + (q : Int)
        · have HRF := Lib.hid (HRE.out.trans (if_pos hbg))
          go_wp2_with fail
          go_ret2
          exact RowAns.err HRF.out HB5.out
        · have HRF := Lib.hid (HRE.out.trans (if_neg hbg))
          go_wp2_with fail
          have hz := tput_any (annOf t).length ⟨(yo, yA, yB), yK, ynk, yck, yP, ynp, ycp, yF, ynf, ycf⟩ ⟨(zo, zA, zB), zK, znk, zck, zP, znp, zcp, zF, znf, zcf⟩ (annOf t) (annOf u) w5 (fun j => w1.heap.size ≤ j) k (Nat.le_refl _) HT5.out HTU5.out HSM.out HSMU.out (by have := HALU.out; omega) (by have := HALN.out; omega)
          dsimp only [TV.val] at hz
          refine hz.mono ?_
          clear hz
          rintro e w6 ⟨v6, rfl, ht6, hb6⟩
          obtain ⟨⟨xo, xA, xB⟩, xK, xnk, xck, xP, xnp, xcp, xF, xnf, xcf⟩ := v6
          dsimp only [TV.val]
          have HT6 := Lib.hid ht6
          have HB6 := Lib.hid (below_step HB5.out hb6)
          clear ht6 hb6
          go_wp2_with fail
          have hr := row_any (each (ptF (annOf u)) k (annOf t)).length ⟨(xo, xA, xB), xK, xnk, xck, xP, xnp, xcp, xF, xnf, xcf⟩ (each (ptF (annOf u)) k (annOf t)) w6 _ (Nat.le_refl _) HT6.out (by have := HPL.out; omega)
          dsimp only [TV.val] at hr
          refine hr.mono ?_
          clear hr
          rintro e w7 ⟨A7, n7, c7, rfl, hn7, ho7, hb7⟩
          go_wp2_with fail
          go_ret2
          exact RowAns.of HRF.out (by rw [List.length_map]; exact hn7) HB6.out.size ho7 (below_step HB6.out hb7)
    · have HRE := Lib.hid (HR.out.trans (if_neg (fun h => hm h.1)))
      have hmi : ¬ (0 : Int) < (m : Int) := by omega
      by_cases hbg : (4096 : Int) < (n : Int) + (q : Int)
      · have HRF := Lib.hid (HRE.out.trans (if_pos hbg))
        go_wp2_with fail
        go_ret2
        exact RowAns.err HRF.out HB4.out
      · have HRF := Lib.hid (HRE.out.trans (if_neg hbg))
        go_wp2_with fail
        have hz := tput_any (annOf t).length ⟨(yo, yA, yB), yK, ynk, yck, yP, ynp, ycp, yF, ynf, ycf⟩ ⟨(zo, zA, zB), zK, znk, zck, zP, znp, zcp, zF, znf, zcf⟩ (annOf t) (annOf u) w4 (fun j => w1.heap.size ≤ j) k (Nat.le_refl _) HT4.out HTU4.out HSM.out HSMU.out (by have := HALU.out; omega) (by have := HALN.out; omega)
        dsimp only [TV.val] at hz
        refine hz.mono ?_
        clear hz
        rintro e w6 ⟨v6, rfl, ht6, hb6⟩
        obtain ⟨⟨xo, xA, xB⟩, xK, xnk, xck, xP, xnp, xcp, xF, xnf, xcf⟩ := v6
        dsimp only [TV.val]
        have HT6 := Lib.hid ht6
        have HB6 := Lib.hid (below_step HB4.out hb6)
        clear ht6 hb6
        go_wp2_with fail
        have hr := row_any (each (ptF (annOf u)) k (annOf t)).length ⟨(xo, xA, xB), xK, xnk, xck, xP, xnp, xcp, xF, xnf, xcf⟩ (each (ptF (annOf u)) k (annOf t)) w6 _ (Nat.le_refl _) HT6.out (by have := HPL.out; omega)
        dsimp only [TV.val] at hr
        refine hr.mono ?_
        clear hr
        rintro e w7 ⟨A7, n7, c7, rfl, hn7, ho7, hb7⟩
        go_wp2_with fail
        go_ret2
        exact RowAns.of HRF.out (by rw [List.length_map]; exact hn7) HB6.out.size ho7 (below_step HB6.out hb7)
  · have hkc : ¬ at_ ≤ 2097152 := by omega
    clear hkk
    have HK2 := Lib.hid hk2
    clear hk2
    go_enter Tryd.func33, Tryd.ntmps33
    go_wp2_with fail
    refine (HS0.out w (Below.refl _ _)).mono ?_
    rintro e w0 ⟨rfl, hb0⟩
    have HB0 := Lib.hid hb0
    clear hb0
    go_wp2_with fail
    refine (HS1.out w0 HB0.out).mono ?_
    rintro e w1 ⟨rfl, hb1⟩
    have HB1 := Lib.hid (below_step HB0.out hb1)
    clear hb1
    go_wp2_with fail
    simp only [← HK2.out]
    refine (HO0.out w1 HB1.out).mono ?_
    rintro e w2 (⟨hno, -, -⟩ | ⟨v, -, rfl, ht, hb2⟩)
    · exact absurd HSS.out hno
    obtain ⟨⟨yo, yA, yB⟩, yK, ynk, yck, yP, ynp, ycp, yF, ynf, ycf⟩ := v
    dsimp only [TV.val]
    have HL1 := Lib.hid (show Below w2.heap.size w2 (w2.alloc (.cells #[.int .i64 yo, .int .i64 yA, .int .i64 yB, .slice yK ynk yck, .slice yP ynp ycp, .slice yF ynf ycf] 59)) from (Below.refl _ _).alloc (Nat.le_refl _) _)
    have HT := Lib.hid (ht.plain.next HL1.out)
    have HB2 := Lib.hid (below_step (below_step HB1.out hb2) HL1.out)
    have HS12 : Hid (w1.heap.size ≤ (w2.alloc (.cells #[.int .i64 yo, .int .i64 yA, .int .i64 yB, .slice yK ynk yck, .slice yP ynp ycp, .slice yF ynf ycf] 59)).heap.size) := Lib.hid (Nat.le_trans hb2.size HL1.out.size)
    have HBX1 := Lib.hid (holds_at w2 #[.int .i64 yo, .int .i64 yA, .int .i64 yB, .slice yK ynk yck, .slice yP ynp ycp, .slice yF ynf ycf] 59 _ rfl)
    clear hb2 ht
    go_wp2_with fail
    refine (HO1.out (w2.alloc (.cells #[.int .i64 yo, .int .i64 yA, .int .i64 yB, .slice yK ynk yck, .slice yP ynp ycp, .slice yF ynf ycf] 59)) HB2.out).mono ?_
    rintro e w3 (⟨hno, -, -⟩ | ⟨v, -, rfl, ht, hb3⟩)
    · exact absurd HSSU.out hno
    obtain ⟨⟨zo, zA, zB⟩, zK, znk, zck, zP, znp, zcp, zF, znf, zcf⟩ := v
    dsimp only [TV.val]
    have HL2 := Lib.hid (show Below w3.heap.size w3 (w3.alloc (.cells #[.int .i64 zo, .int .i64 zA, .int .i64 zB, .slice zK znk zck, .slice zP znp zcp, .slice zF znf zcf] 59)) from (Below.refl _ _).alloc (Nat.le_refl _) _)
    have HTU := Lib.hid ((ht.plain.next HL2.out).mono (G' := fun j => w1.heap.size ≤ j) fun j hj _ => Nat.le_trans HS12.out hj)
    replace HT := Lib.hid (HT.out.next (below_step hb3 HL2.out))
    have HB3 := Lib.hid (below_step (below_step HB2.out hb3) HL2.out)
    replace HBX1 := Lib.hid (HBX1.out.below (below_step hb3 HL2.out))
    have HBX2 := Lib.hid (holds_at w3 #[.int .i64 zo, .int .i64 zA, .int .i64 zB, .slice zK znk zck, .slice zP znp zcp, .slice zF znf zcf] 59 _ rfl)
    have c0 : (w3.alloc (.cells #[.int .i64 zo, .int .i64 zA, .int .i64 zB, .slice zK znk zck, .slice zP znp zcp, .slice zF znf zcf] 59)).cell? ⟨w2.heap.size, 0, none⟩ = some (.int .i64 yo) := HBX1.out.cell (j := 0) rfl
    have c1 : (w3.alloc (.cells #[.int .i64 zo, .int .i64 zA, .int .i64 zB, .slice zK znk zck, .slice zP znp zcp, .slice zF znf zcf] 59)).cell? ⟨w2.heap.size, 1, none⟩ = some (.int .i64 yA) := HBX1.out.cell (j := 1) rfl
    have c2 : (w3.alloc (.cells #[.int .i64 zo, .int .i64 zA, .int .i64 zB, .slice zK znk zck, .slice zP znp zcp, .slice zF znf zcf] 59)).cell? ⟨w2.heap.size, 2, none⟩ = some (.int .i64 yB) := HBX1.out.cell (j := 2) rfl
    have c3 : (w3.alloc (.cells #[.int .i64 zo, .int .i64 zA, .int .i64 zB, .slice zK znk zck, .slice zP znp zcp, .slice zF znf zcf] 59)).cell? ⟨w2.heap.size, 3, none⟩ = some (.slice yK ynk yck) := HBX1.out.cell (j := 3) rfl
    have c4 : (w3.alloc (.cells #[.int .i64 zo, .int .i64 zA, .int .i64 zB, .slice zK znk zck, .slice zP znp zcp, .slice zF znf zcf] 59)).cell? ⟨w2.heap.size, 4, none⟩ = some (.slice yP ynp ycp) := HBX1.out.cell (j := 4) rfl
    have c5 : (w3.alloc (.cells #[.int .i64 zo, .int .i64 zA, .int .i64 zB, .slice zK znk zck, .slice zP znp zcp, .slice zF znf zcf] 59)).cell? ⟨w2.heap.size, 5, none⟩ = some (.slice yF ynf ycf) := HBX1.out.cell (j := 5) rfl
    clear hb3 ht
    go_wp2_with fail
    have hg := times_any (annOf t).length ⟨(yo, yA, yB), yK, ynk, yck, yP, ynp, ycp, yF, ynf, ycf⟩ (annOf t) (w3.alloc (.cells #[.int .i64 zo, .int .i64 zA, .int .i64 zB, .slice zK znk zck, .slice zP znp zcp, .slice zF znf zcf] 59)) (fun j => w1.heap.size ≤ j) 16384 k (by omega) HDP.out (Nat.le_refl _) HT.out HSM.out (by have := HALN.out; omega)
    dsimp only [TV.val] at hg
    refine hg.mono ?_
    clear hg
    rintro e w4 ⟨rfl, hb4⟩
    have HT4 := Lib.hid (HT.out.next hb4)
    have HTU4 := Lib.hid (HTU.out.next hb4)
    have HB4 := Lib.hid (below_step HB3.out hb4)
    have HX14 := Lib.hid (HBX1.out.below hb4)
    have HX24 := Lib.hid (HBX2.out.below hb4)
    replace c0 : w4.cell? ⟨w2.heap.size, 0, none⟩ = some (.int .i64 yo) := HX14.out.cell (j := 0) rfl
    replace c1 : w4.cell? ⟨w2.heap.size, 1, none⟩ = some (.int .i64 yA) := HX14.out.cell (j := 1) rfl
    replace c2 : w4.cell? ⟨w2.heap.size, 2, none⟩ = some (.int .i64 yB) := HX14.out.cell (j := 2) rfl
    replace c3 : w4.cell? ⟨w2.heap.size, 3, none⟩ = some (.slice yK ynk yck) := HX14.out.cell (j := 3) rfl
    replace c4 : w4.cell? ⟨w2.heap.size, 4, none⟩ = some (.slice yP ynp ycp) := HX14.out.cell (j := 4) rfl
    replace c5 : w4.cell? ⟨w2.heap.size, 5, none⟩ = some (.slice yF ynf ycf) := HX14.out.cell (j := 5) rfl
    have d0 : w4.cell? ⟨w3.heap.size, 0, none⟩ = some (.int .i64 zo) := HX24.out.cell (j := 0) rfl
    have d1 : w4.cell? ⟨w3.heap.size, 1, none⟩ = some (.int .i64 zA) := HX24.out.cell (j := 1) rfl
    have d2 : w4.cell? ⟨w3.heap.size, 2, none⟩ = some (.int .i64 zB) := HX24.out.cell (j := 2) rfl
    have d3 : w4.cell? ⟨w3.heap.size, 3, none⟩ = some (.slice zK znk zck) := HX24.out.cell (j := 3) rfl
    have d4 : w4.cell? ⟨w3.heap.size, 4, none⟩ = some (.slice zP znp zcp) := HX24.out.cell (j := 4) rfl
    have d5 : w4.cell? ⟨w3.heap.size, 5, none⟩ = some (.slice zF znf zcf) := HX24.out.cell (j := 5) rfl
    clear hb4
    generalize tmN k (annOf t) = m at *
    generalize tmD k (annOf t) = dd at *
    have ewa := IntWalk.i64_in ((k : Int) + (dd : Int)) (by omega)
    obtain ⟨q, hq⟩ : ∃ q : Nat, (m : Int) * ((nu : Int) - 1) = (q : Int) := ⟨m * (nu - 1), by rw [Int.natCast_mul]; congr 1; omega⟩
    have hqb : q ≤ 16777216 := by
      have h1 : q = m * (nu - 1) := by
        have : ((m * (nu - 1) : Nat) : Int) = (q : Int) := by rw [← hq, Int.natCast_mul]; congr 1; omega
        omega
      rw [h1]
      have := Nat.mul_le_mul (show m ≤ 4096 by omega) (show nu - 1 ≤ 4096 by omega)
      omega
    rw [hq] at HR HPL
    have ew1 := IntWalk.i64_in ((nu : Int) - 1) (by omega)
    have ew2 := IntWalk.i64_in (q : Int) (by omega)
    have ew3 := IntWalk.i64_in ((n : Int) + (q : Int)) (by omega)
    by_cases hm : 0 < m
    · have hmi : (0 : Int) < (m : Int) := by omega
      go_wp2_with fail
      have hh := highest_any (annOf u).length ⟨(zo, zA, zB), zK, znk, zck, zP, znp, zcp, zF, znf, zcf⟩ (annOf u) w4 (fun j => w1.heap.size ≤ j) (k + dd) 0 (by omega) (Nat.le_refl _) HTU4.out HSMU.out (by have := HALU.out; omega)
      dsimp only [TV.val] at hh
      rw [Int.natCast_add] at hh
      refine hh.mono ?_
      clear hh
      rintro e w5 ⟨rfl, hb5⟩
      have HT5 := Lib.hid (HT4.out.next hb5)
      have HTU5 := Lib.hid (HTU4.out.next hb5)
      have HB5 := Lib.hid (below_step HB4.out hb5)
      have HX15 := Lib.hid (HX14.out.below hb5)
      have HX25 := Lib.hid (HX24.out.below hb5)
      generalize hi (k + dd) 0 (annOf u) = hh at *
      by_cases hhg : 1048576 < hh
      · have HRE := Lib.hid (HR.out.trans (if_pos ⟨hm, hhg⟩))
        clear hb5
        go_wp2_with fail
        go_ret2
        exact RowAns.err HRE.out HB5.out
      · have HRE := Lib.hid (HR.out.trans (if_neg (fun h => hhg h.2)))
        replace c0 : w5.cell? ⟨w2.heap.size, 0, none⟩ = some (.int .i64 yo) := HX15.out.cell (j := 0) rfl
        replace c1 : w5.cell? ⟨w2.heap.size, 1, none⟩ = some (.int .i64 yA) := HX15.out.cell (j := 1) rfl
        replace c2 : w5.cell? ⟨w2.heap.size, 2, none⟩ = some (.int .i64 yB) := HX15.out.cell (j := 2) rfl
        replace c3 : w5.cell? ⟨w2.heap.size, 3, none⟩ = some (.slice yK ynk yck) := HX15.out.cell (j := 3) rfl
        replace c4 : w5.cell? ⟨w2.heap.size, 4, none⟩ = some (.slice yP ynp ycp) := HX15.out.cell (j := 4) rfl
        replace c5 : w5.cell? ⟨w2.heap.size, 5, none⟩ = some (.slice yF ynf ycf) := HX15.out.cell (j := 5) rfl
        replace d0 : w5.cell? ⟨w3.heap.size, 0, none⟩ = some (.int .i64 zo) := HX25.out.cell (j := 0) rfl
        replace d1 : w5.cell? ⟨w3.heap.size, 1, none⟩ = some (.int .i64 zA) := HX25.out.cell (j := 1) rfl
        replace d2 : w5.cell? ⟨w3.heap.size, 2, none⟩ = some (.int .i64 zB) := HX25.out.cell (j := 2) rfl
        replace d3 : w5.cell? ⟨w3.heap.size, 3, none⟩ = some (.slice zK znk zck) := HX25.out.cell (j := 3) rfl
        replace d4 : w5.cell? ⟨w3.heap.size, 4, none⟩ = some (.slice zP znp zcp) := HX25.out.cell (j := 4) rfl
        replace d5 : w5.cell? ⟨w3.heap.size, 5, none⟩ = some (.slice zF znf zcf) := HX25.out.cell (j := 5) rfl
        clear hb5
        by_cases hbg : (4096 : Int) < (n : Int) + (q : Int)
        · have HRF := Lib.hid (HRE.out.trans (if_pos hbg))
          go_wp2_with fail
          go_ret2
          exact RowAns.err HRF.out HB5.out
        · have HRF := Lib.hid (HRE.out.trans (if_neg hbg))
          go_wp2_with fail
          have hz := tput_any (annOf t).length ⟨(yo, yA, yB), yK, ynk, yck, yP, ynp, ycp, yF, ynf, ycf⟩ ⟨(zo, zA, zB), zK, znk, zck, zP, znp, zcp, zF, znf, zcf⟩ (annOf t) (annOf u) w5 (fun j => w1.heap.size ≤ j) k (Nat.le_refl _) HT5.out HTU5.out HSM.out HSMU.out (by have := HALU.out; omega) (by have := HALN.out; omega)
          dsimp only [TV.val] at hz
          refine hz.mono ?_
          clear hz
          rintro e w6 ⟨v6, rfl, ht6, hb6⟩
          obtain ⟨⟨xo, xA, xB⟩, xK, xnk, xck, xP, xnp, xcp, xF, xnf, xcf⟩ := v6
          dsimp only [TV.val]
          have HT6 := Lib.hid ht6
          have HB6 := Lib.hid (below_step HB5.out hb6)
          clear ht6 hb6
          go_wp2_with fail
          have hr := row_any (each (ptF (annOf u)) k (annOf t)).length ⟨(xo, xA, xB), xK, xnk, xck, xP, xnp, xcp, xF, xnf, xcf⟩ (each (ptF (annOf u)) k (annOf t)) w6 _ (Nat.le_refl _) HT6.out (by have := HPL.out; omega)
          dsimp only [TV.val] at hr
          refine hr.mono ?_
          clear hr
          rintro e w7 ⟨A7, n7, c7, rfl, hn7, ho7, hb7⟩
          go_wp2_with fail
          go_ret2
          exact RowAns.of HRF.out (by rw [List.length_map]; exact hn7) HB6.out.size ho7 (below_step HB6.out hb7)
    · have HRE := Lib.hid (HR.out.trans (if_neg (fun h => hm h.1)))
      have hmi : ¬ (0 : Int) < (m : Int) := by omega
      by_cases hbg : (4096 : Int) < (n : Int) + (q : Int)
      · have HRF := Lib.hid (HRE.out.trans (if_pos hbg))
        go_wp2_with fail
        go_ret2
        exact RowAns.err HRF.out HB4.out
      · have HRF := Lib.hid (HRE.out.trans (if_neg hbg))
        go_wp2_with fail
        have hz := tput_any (annOf t).length ⟨(yo, yA, yB), yK, ynk, yck, yP, ynp, ycp, yF, ynf, ycf⟩ ⟨(zo, zA, zB), zK, znk, zck, zP, znp, zcp, zF, znf, zcf⟩ (annOf t) (annOf u) w4 (fun j => w1.heap.size ≤ j) k (Nat.le_refl _) HT4.out HTU4.out HSM.out HSMU.out (by have := HALU.out; omega) (by have := HALN.out; omega)
        dsimp only [TV.val] at hz
        refine hz.mono ?_
        clear hz
        rintro e w6 ⟨v6, rfl, ht6, hb6⟩
        obtain ⟨⟨xo, xA, xB⟩, xK, xnk, xck, xP, xnp, xcp, xF, xnf, xcf⟩ := v6
        dsimp only [TV.val]
        have HT6 := Lib.hid ht6
        have HB6 := Lib.hid (below_step HB4.out hb6)
        clear ht6 hb6
        go_wp2_with fail
        have hr := row_any (each (ptF (annOf u)) k (annOf t)).length ⟨(xo, xA, xB), xK, xnk, xck, xP, xnp, xcp, xF, xnf, xcf⟩ (each (ptF (annOf u)) k (annOf t)) w6 _ (Nat.le_refl _) HT6.out (by have := HPL.out; omega)
        dsimp only [TV.val] at hr
        refine hr.mono ?_
        clear hr
        rintro e w7 ⟨A7, n7, c7, rfl, hn7, ho7, hb7⟩
        go_wp2_with fail
        go_ret2
        exact RowAns.of HRF.out (by rw [List.length_map]; exact hn7) HB6.out.size ho7 (below_step HB6.out hb7)
end Go.Proofs.YtkkkblghihheeaaDoor
namespace Go.Proofs.YtkkkblghihheeaaDoor
open Go.RowKit

/-- No two of these rows share memory. -/
structure RowsN (B : Nat) (W : World) (L : List RowT) : Prop where
  rows : ∀ x ∈ L, OwnN W B (rowV x) x.2.2.length x.2.2
  ap : L.Pairwise fun x y => ∀ b o o', x.1 = some ⟨b, o, none⟩ → y.1 ≠ some ⟨b, o', none⟩
theorem row_block {w : World} {B b o : Nat} {x : RowT} (h : OwnN w B (rowV x) x.2.2.length x.2.2) (e : x.1 = some ⟨b, o, none⟩) : B ≤ b ∧ b < w.heap.size := by
  obtain ⟨A5, c5, e5, -, h5⟩ := own_slice h
  unfold rowV at e5
  cases e5
  have := h5 b o e
  exact ⟨this.1, this.2.1⟩
theorem own_form {w : World} {base e size n : Nat} {v : Value} {xs : List Value} (h : w.ownsRow base e size v n xs) (hn : 0 < n) : ∃ g cap, v = .slice (some ⟨g, 0, none⟩) n cap ∧ g < w.heap.size := by
  rcases h.2 with ⟨-, h0⟩ | ⟨g, cap, cur, e1, -, hg, -⟩
  · omega
  · exact ⟨g, cap, e1, (Array.getElem?_eq_some_iff.1 hg).1⟩
section
variable {B B' : Nat} {W W' : World} {L K : List RowT}
theorem RowsN.nil : RowsN B W [] := ⟨fun x hx => (by cases hx), List.Pairwise.nil⟩
theorem RowsN.next (h : RowsN B W L) (hb : Below W.heap.size W W') : RowsN B W' L := ⟨fun x hx => own_below (h.rows x hx) hb, h.ap⟩
theorem RowsN.base (h : RowsN B W L) (hB : B' ≤ B) : RowsN B' W L := ⟨fun x hx => own_base (h.rows x hx) hB, h.ap⟩
theorem RowsN.adds (h : RowsN B W L) (hB : B ≤ W.heap.size) (hb : Below W.heap.size W W') (hK : RowsN W.heap.size W' K) : RowsN B W' (L ++ K) :=
  ⟨fun x hx => by
    rcases List.mem_append.1 hx with hx | hx
    · exact own_below (h.rows x hx) hb
    · exact own_base (hK.rows x hx) hB, List.pairwise_append.2 ⟨h.ap, hK.ap, fun x hx y hy b o o' e e' => by
    have := (row_block (h.rows x hx) e).2
    have := (row_block (hK.rows y hy) e').1
    omega⟩⟩
theorem RowsN.one {A : Option Addr} {n c : Nat} {x : List Node3} (ho : OwnN W B (.slice A n c) n x) (hn : x.length = n) : RowsN B W [(A, c, x)] := by
  subst hn
  exact ⟨fun y hy => by rw [List.mem_singleton] at hy; subst hy; exact ho, List.pairwise_singleton _ _⟩
theorem RowsN.perm (h : RowsN B W L) (p : L.Perm K) : RowsN B W K := ⟨fun x hx => h.rows x (p.mem_iff.2 hx), (p.pairwise_iff fun {_ _} hxy b o o' e e' => hxy b o' o e' e).1 h.ap⟩
end
/-- So many nodes may be written in this block. -/
def RoomOf (W : World) (b c : Nat) : Prop := ∃ cs t, Whole W b cs t ∧ cs.size = c * 3
section
variable {W W' : World} {b c : Nat}
theorem RoomOf.cell (h : RoomOf W b c) {j : Nat} (hj : j < c * 3) : ∃ u, W.cell? ⟨b, j, none⟩ = some u ∧ W.frozen? ⟨b, j, none⟩ = false := by
  obtain ⟨cs, t, hw, hs⟩ := h
  exact ⟨cs[j]'(by omega), by rw [hw.cell, Array.getElem?_eq_getElem], hw.frozen j⟩
theorem RoomOf.keep (h : RoomOf W b c) (e : W'.heap[b]? = W.heap[b]?) : RoomOf W' b c := by
  obtain ⟨cs, t, hw, hs⟩ := h
  exact ⟨cs, t, hw.keep e, hs⟩
theorem RoomOf.set_ (h : RoomOf W b c) (i : Nat) (u : Value) : RoomOf (W.setCell ⟨b, i, none⟩ u) b c := by
  obtain ⟨cs, t, hw, hs⟩ := h
  exact ⟨_, t, hw.set_ i u, by rw [Array.size_setIfInBounds]; exact hs⟩
theorem RoomOf.set_cell (h : RoomOf W b c) {i : Nat} (hi : i < c * 3) (u : Value) : (W.setCell ⟨b, i, none⟩ u).cell? ⟨b, i, none⟩ = some u := by
  obtain ⟨cs, t, hw, hs⟩ := h
  rw [(hw.set_ i u).cell, Array.getElem?_setIfInBounds_self_of_lt (by omega)]
theorem RoomOf.set_other (h : RoomOf W b c) {i j : Nat} (hij : j ≠ i) (u : Value) : (W.setCell ⟨b, i, none⟩ u).cell? ⟨b, j, none⟩ = W.cell? ⟨b, j, none⟩ := by
  obtain ⟨cs, t, hw, hs⟩ := h
  rw [(hw.set_ i u).cell, hw.cell, Array.getElem?_setIfInBounds_ne (Ne.symm hij)]
end
def RoomR (B : Nat) (W : World) (x : RowT) : Prop := (x.1 = none ∧ x.2.1 = 0 ∧ x.2.2 = []) ∨ ∃ b, x.1 = some ⟨b, 0, none⟩ ∧ B ≤ b ∧ b < W.heap.size ∧ RoomOf W b x.2.1 ∧ x.2.2.length ≤ x.2.1 ∧ x.2.1 ≤ 9223372036854775807
theorem room_of {W : World} {B : Nat} {x : RowT} (h : OwnN W B (rowV x) x.2.2.length x.2.2) : RoomR B W x := by
  have hl := (World.ownsRow.lt h)
  obtain ⟨A, c, l⟩ := x
  unfold rowV at h hl
  rcases h.2 with ⟨e, h0⟩ | ⟨g, cap, cur, e, hB, hg, h1, h2, h3, h4⟩
  · injection e with e1 e2 e3
    exact .inl ⟨e1, e3, List.eq_nil_of_length_eq_zero e2⟩
  · injection e with e1 e2 e3
    simp only at e1 e2 e3 h1 h2 h3
    subst e3
    exact .inr ⟨g, e1, hB, (Array.getElem?_eq_some_iff.1 hg).1, ⟨cur, _, hg, h3⟩, h1, h2⟩
/-- The rows of L have been written over as far as row i. -/
structure KeepAt (B : Nat) (W0 W : World) (R : Option Addr) (L : List RowT) (i : Nat) : Prop where
  bl : Below B W0 W
  room : ∀ x ∈ L, RoomR B W x
  all : Holds W R (L.map rowV)
  mark : ∀ j, j < i → ∀ (h : j < L.length) (b k : Nat), L[j].1 = some ⟨b, 0, none⟩ → k < L[j].2.1 → W.cell? ⟨b, k * 3, none⟩ = some (.int .i64 (100 + (j : Int)))
theorem KeepAt.write {B i b k : Nat} {W0 W : World} {R : Option Addr} {L : List RowT} (h : KeepAt B W0 W R L i) (hoff : ∀ x ∈ L, ∀ b o o', x.1 = some ⟨b, o, none⟩ → R ≠ some ⟨b, o', none⟩)
    (ap : L.Pairwise fun x y => ∀ b o o', x.1 = some ⟨b, o, none⟩ → y.1 ≠ some ⟨b, o', none⟩) (hi : i < L.length) (e : L[i].1 = some ⟨b, 0, none⟩) (hk : k < L[i].2.1) (v u1 u2 : Value) :
    KeepAt B W0 (((W.setCell ⟨b, k * 3, none⟩ v).setCell ⟨b, k * 3 + 1, none⟩ u1).setCell ⟨b, k * 3 + 2, none⟩ u2) R L i ∧
    (((W.setCell ⟨b, k * 3, none⟩ v).setCell ⟨b, k * 3 + 1, none⟩ u1).setCell ⟨b, k * 3 + 2, none⟩ u2).cell? ⟨b, k * 3, none⟩ = some v ∧
    ∀ j, j ≠ k → (((W.setCell ⟨b, k * 3, none⟩ v).setCell ⟨b, k * 3 + 1, none⟩ u1).setCell ⟨b, k * 3 + 2, none⟩ u2).cell? ⟨b, j * 3, none⟩ = W.cell? ⟨b, j * 3, none⟩ := by
  have hr := h.room _ (List.getElem_mem hi)
  obtain ⟨b', e', hB, hlt, hro, hle, hmx⟩ : ∃ b', L[i].1 = some ⟨b', 0, none⟩ ∧ B ≤ b' ∧ b' < W.heap.size ∧ RoomOf W b' L[i].2.1 ∧ L[i].2.2.length ≤ L[i].2.1 ∧ L[i].2.1 ≤ 9223372036854775807 := by
    rcases hr with ⟨h1, -, -⟩ | hr
    · rw [e] at h1; cases h1
    · exact hr
  rw [e] at e'
  cases e'
  have h1 := hro.set_ (k * 3) v
  have h2 := h1.set_ (k * 3 + 1) u1
  have h3 := h2.set_ (k * 3 + 2) u2
  have ho : Only (fun j => j = b) W (((W.setCell ⟨b, k * 3, none⟩ v).setCell ⟨b, k * 3 + 1, none⟩ u1).setCell ⟨b, k * 3 + 2, none⟩ u2) := (((Only.refl (fun j => j = b) W).set_ (.inl rfl) _ v).set_ (.inl rfl) _ u1).set_ (.inl rfl) _ u2
  have hc : ∀ j, j ≠ k → (((W.setCell ⟨b, k * 3, none⟩ v).setCell ⟨b, k * 3 + 1, none⟩ u1).setCell ⟨b, k * 3 + 2, none⟩ u2).cell? ⟨b, j * 3, none⟩ = W.cell? ⟨b, j * 3, none⟩ := fun j hj => by
    rw [h2.set_other (by omega), h1.set_other (by omega), hro.set_other (by omega)]
  refine ⟨⟨h.bl.trans (ho.below (by have := h.bl.size; omega) fun j hj e => by omega), fun x hx => ?_, h.all.only ho fun b1 o1 e1 e2 => ?_, fun j hj hjl b1 k1 e1 hk1 => ?_⟩, ?_, hc⟩
  · rcases h.room x hx with hx0 | ⟨b1, e1, hB1, hlt1, hr1, hx1⟩
    · exact .inl hx0
    · refine .inr ⟨b1, e1, hB1, Nat.lt_of_lt_of_le hlt1 ho.size, ?_, hx1⟩
      by_cases hb : b1 = b
      · subst hb
        obtain ⟨cs, t, hw, hs⟩ := h3
        obtain ⟨cs1, t1, hw1, hs1⟩ := hr1
        refine ⟨cs, t, hw, ?_⟩
        have hw3 := ((hw1.set_ (k * 3) v).set_ (k * 3 + 1) u1).set_ (k * 3 + 2) u2
        unfold Whole at hw hw3
        rw [hw] at hw3
        cases hw3
        rw [Array.size_setIfInBounds, Array.size_setIfInBounds, Array.size_setIfInBounds]
        exact hs1
      · exact hr1.keep (ho.block b1 hlt1 hb)
  · subst e2
    exact hoff _ (List.getElem_mem hi) b1 0 o1 e e1
  · have hb : b1 ≠ b := fun hb => by
      subst hb
      have := List.pairwise_iff_getElem.1 ap j i hjl hi hj
      exact this b1 0 0 e1 e
    rw [ho.cell (by
      rcases h.room _ (List.getElem_mem hjl) with ⟨h0, -, -⟩ | ⟨b2, e2, -, hlt2, -⟩
      · rw [e1] at h0; cases h0
      · rw [e1] at e2; cases e2; exact hlt2) hb]
    exact h.mark j hj hjl b1 k1 e1 hk1
  · rw [h2.set_other (by omega), h1.set_other (by omega), hro.set_cell (by omega)]
theorem KeepAt.next {B i : Nat} {W0 W : World} {R : Option Addr} {L : List RowT} (h : KeepAt B W0 W R L i) (hm : ∀ (hi : i < L.length) (b k : Nat), L[i].1 = some ⟨b, 0, none⟩ → k < L[i].2.1 → W.cell? ⟨b, k * 3, none⟩ = some (.int .i64 (100 + (i : Int)))) : KeepAt B W0 W R L (i + 1) :=
  ⟨h.bl, h.room, h.all, fun j hj hl b k e hk => by
    by_cases hji : j = i
    · subst hji
      exact hm hl b k e hk
    · exact h.mark j (by omega) hl b k e hk⟩
end Go.Proofs.YtkkkblghihheeaaDoor
namespace Go.Proofs.YtkkkblghihheeaaDoor
open Go.RowKit

theorem holds_pre {w : World} {A : Option Addr} {xs ys : List Value} (h : Holds w A (xs ++ ys)) : Holds w A xs := fun hn => by
  obtain ⟨b, o, e, hc⟩ := h (by simp; omega)
  refine ⟨b, o, e, fun j u hu => hc j u ?_⟩
  rw [List.getElem?_append_left (List.getElem?_eq_some_iff.1 hu).1]
  exact hu
theorem cut_nodes (b k n c : Nat) (hk : k ≤ c) (w : World) : (Instr.slice 23 (.slice (some ⟨b, 0, none⟩) n c) none (some (.int .i64 k)) none).run Tryd.prog w = .ok (.slice (some ⟨b, 0, none⟩) k c) w := by
  have hz : (sizeOf (Tryd.prog.elem 23)).run Tryd.prog w = .ok 3 w := by kernel_rfl
  rw [run_slice_h (P := Tryd.prog) (t := 23) (len := n) (cap := c) (ht := by kernel_rfl) (kh := .i64) (h := (k : Int)) (h0 := by omega) (h2 := by omega), hz]
  simp [Result.andThen, sliced, add_off]
theorem own_last {w : World} {g c n : Nat} {t : List Node3} {x : Int} (h : w.ownsRow 0 53 3 (.slice (some ⟨g, 0, none⟩) (n + 1) c) (n + 1) (nodesV t ++ nodeV (1, x, 0))) (hn : t.length = n) : w.cell? ⟨g, n * 3 + 1, none⟩ = some (.int .i64 x) := by
  have h1 := (own_holds h).cell (j := n * 3 + 1) (u := .int .i64 x) (by rw [List.getElem?_append_right (by rw [nodesV_len]; omega), nodesV_len, hn, show n * 3 + 1 - n * 3 = 1 by omega]; rfl)
  rwa [Nat.zero_add] at h1
/-- A copy of a row with one node more behind it. -/
structure SpareAt (W : World) (g n c : Nat) (t : List Node3) (x : Int) : Prop where
  row : RowIn W (some ⟨g, 0, none⟩) n c t
  last : W.cell? ⟨g, n * 3 + 1, none⟩ = some (.int .i64 x)
  lt : g < W.heap.size
theorem SpareAt.below {W W' : World} {B g n c : Nat} {t : List Node3} {x : Int} (h : SpareAt W g n c t x) (hB : g < B) (hb : Below B W W') : SpareAt W' g n c t x :=
  ⟨⟨h.row.len, h.row.sl, fun hn => by
    obtain ⟨b, o, e, hc⟩ := h.row.ho hn
    cases e
    exact ⟨g, 0, rfl, fun j u hu => (hb.cell (p := ⟨g, 0 + j, none⟩) hB).trans (hc j u hu)⟩⟩, (hb.cell (p := ⟨g, n * 3 + 1, none⟩) hB).trans h.last, Nat.lt_of_lt_of_le h.lt hb.size⟩
theorem spare_of {w' : World} {B n : Nat} {v : Value} {t : List Node3} {x : Int} (h : w'.ownsRow 0 53 3 v (n + 1) (nodesV t ++ nodeV (1, x, 0))) (hn : t.length = n) (hB : ∀ k, v.ownBlock = some k → B ≤ k) : ∃ g c, v = .slice (some ⟨g, 0, none⟩) (n + 1) c ∧ n + 1 ≤ c ∧ c ≤ 9223372036854775807 ∧ B ≤ g ∧ SpareAt w' g n c t x := by
  rcases h.2 with ⟨rfl, h0⟩ | ⟨g, cap, cur, rfl, hb, hg, h1, h2, h3, h4⟩
  · omega
  · exact ⟨g, cap, rfl, h1, h2, hB g rfl, ⟨hn, ⟨by omega, h2, fun e => by cases e⟩, holds_pre (own_holds h)⟩, own_last h hn, (Array.getElem?_eq_some_iff.1 hg).1⟩
theorem kids_few {t : List Node3} {l : List RowT} (h : (shapeOf t ≠ 0 ∧ l = []) ∨ (shapeOf t = 0 ∧ ∃ n, KidsR t n (l.map fun x => x.2.2))) : l.length ≤ 100 := by
  rcases h with ⟨-, rfl⟩ | ⟨h0, n, h⟩
  · exact Nat.zero_le _
  · obtain ⟨n', r', ks', e, hh, hkr, hp⟩ := kidsR_of (right_T1 h0)
    have h1 := congrArg List.length (h.same hkr).2
    have := (parts_lens hp).1
    have := follow_few hh
    rw [List.length_map] at h1
    omega
theorem spine_few {t f : List Node3} {l : List RowT} (h : (shapeOf t ≠ 0 ∧ f = [] ∧ l = []) ∨ (shapeOf t = 0 ∧ SpineOk t f (l.map fun x => x.2.2))) : l.length ≤ t.length := by
  rcases h with ⟨-, -, rfl⟩ | ⟨-, h⟩
  · exact Nat.zero_le _
  · have h1 := congrArg List.length h.row
    rw [List.length_append, List.length_append, List.length_replicate, List.length_map] at h1
    omega
theorem keep_drew {B i : Nat} {W0 W : World} {R : Option Addr} {L : List RowT} (h : KeepAt B W0 W R L i) : KeepAt B W0 W.drew R L i := ⟨below_drewN h.bl 1, h.room, h.all, h.mark⟩
theorem rows_one2 {l : List RowT} : ∀ u ∈ l.map rowV, u.oneCell' = true := fun u hu => by
  obtain ⟨x, _, rfl⟩ := List.mem_map.1 hu
  rfl
set_option maxRecDepth 100000 in
set_option maxHeartbeats 32000000 in
theorem tkeeps_any (A B : Option Addr) (n c m d : Nat) (t u : List Node3) (w : World) (hn : t.length = n) (hs : Slice A n c) (hA : Holds w A (nodesV t)) (hw : ∀ x ∈ t, Wide3 x) (hm : u.length = m) (hsu : Slice B m d) (hB : Holds w B (nodesV u)) (hwu : ∀ x ∈ u, Wide3 x) (hL : Lim w) :
    Calls Tryd.prog 12 #[.slice A n c, .slice B m d] w fun e w' => e = .returned (.bool true) ∧ Below w.heap.size w w' := by
  have HR1 := Lib.hid (show ∀ w', Below w.heap.size w w' → RowIn w' A n c t from fun w' hb => ⟨hn, hs, hA.below hb⟩)
  have HR2 := Lib.hid (show ∀ w', Below w.heap.size w w' → RowIn w' B m d u from fun w' hb => ⟨hm, hsu, hB.below hb⟩)
  have HL := Lib.hid (show ∀ w', Below w.heap.size w w' → Lim w' from fun w' hb => hL.next hb)
  have HAW := Lib.hid (awake_any w hL)
  have HN := Lib.hid hn
  have HM := Lib.hid hm
  have HW := Lib.hid hw
  have HWU := Lib.hid hwu
  clear hA hB hL hn hm hs hsu hw hwu
  by_cases hbig : 1000 < n
  · have hbi : (1000 : Int) < (n : Int) := by omega
    go_enter Tryd.func12, Tryd.ntmps12
    go_wp2_with fail
    refine (HAW.out).mono ?_
    rintro e w1 ⟨rfl, hb1⟩
    go_wp2_with fail
    go_ret
    exact ⟨rfl, hb1⟩
  have hbi : ¬ (1000 : Int) < (n : Int) := by omega
  by_cases hbigu : 1000 < m
  · have hbj : (1000 : Int) < (m : Int) := by omega
    go_enter Tryd.func12, Tryd.ntmps12
    go_wp2_with fail
    refine (HAW.out).mono ?_
    rintro e w1 ⟨rfl, hb1⟩
    go_wp2_with fail
    go_ret
    exact ⟨rfl, hb1⟩
  have hbj : ¬ (1000 : Int) < (m : Int) := by omega
  go_enter Tryd.func12, Tryd.ntmps12
  go_wp2_with fail
  refine (HAW.out).mono ?_
  rintro e w1 ⟨rfl, hb1⟩
  have HB1 := Lib.hid hb1
  clear hb1
  go_wp2_with fail
  refine (rcopy_any A n c t _ HN.out (HR1.out _ HB1.out).sl (HR1.out _ HB1.out).ho (by omega)).mono ?_
  rintro e wa1 ⟨Aa, ca, rfl, hoa, hba1⟩
  have HOa := Lib.hid hoa
  have HBa1 := Lib.hid hba1
  have HBSa := Lib.hid (below_step HB1.out hba1)
  clear hoa hba1
  go_wp2_with fail
  refine (v_any 77 _).mono ?_
  rintro e wa2 ⟨rfl, hba2⟩
  have HBa2 := Lib.hid hba2
  have HBTa := Lib.hid (below_step HBSa.out hba2)
  have HOLa := Lib.hid (show World.ownsRow (wa2.alloc (.cells #[.int .i64 1, .int .i64 77, .int .i64 0] 53)) 0 53 3 (.slice Aa n ca) n (nodesV t) from (own_below (own_base HOa.out (Nat.zero_le _)) hba2).alloc _)
  have HLIa := Lib.hid (holds_at wa2 #[.int .i64 1, .int .i64 77, .int .i64 0] 53 (nodeV (1, 77, 0)) rfl)
  clear hba2
  go_wp2_with (at_builtin; go_must (refine wpList_append_tx rfl (.tmp 39) (.tmp 41) _ _ _ rfl Tryd.underlying23 53 _ 3 24 infoNode rfl (by decide) Tryd.underlying23 (.slice Aa n ca) n 1 _ (nodeV (1, 77, 0)) rfl HOLa.out (some ⟨wa2.heap.size, 0, none⟩) 1 rfl ⟨Nat.le_refl _, by omega, fun h => by cases h⟩ HLIa.out rfl (by intro u hu; simp only [nodeV, List.mem_cons, List.not_mem_nil, or_false] at hu; rcases hu with rfl | rfl | rfl <;> rfl) (by omega) (by decide) ?_; intro va3 wa3 howna hmva; have HWa := Lib.hid howna; have HVa := Lib.hid hmva; clear howna hmva; obtain ⟨ga, ka, rfl, hka1, hka2, hga, hspa⟩ := spare_of (B := w1.heap.size) HWa.out HN.out (fun k hk => by rcases HVa.out.next k hk with h | h; exact (World.ownsRow.lt HOa.out k h).1; have h1 := HBa1.out.size; have h2 := HBa2.out.size; simp only [World.size_alloc] at h; omega); have HSPa := Lib.hid hspa; have HBEa := Lib.hid (show Below w1.heap.size w1 wa3 from ((below_step HBa1.out HBa2.out).alloc (below_step HBa1.out HBa2.out).size _).trans (HVa.out.below (B := w1.heap.size) (by have h1 := HBa1.out.size; have h2 := HBa2.out.size; simp only [World.size_alloc]; omega) fun g hg => (World.ownsRow.lt HOa.out g hg).1)); have HBFa := Lib.hid (below_step HB1.out HBEa.out); clear hspa))
  go_wp2_with fail
  refine (rcopy_any B m d u _ HM.out (HR2.out _ HBFa.out).sl (HR2.out _ HBFa.out).ho (by omega)).mono ?_
  rintro e wb1 ⟨Ab, cb, rfl, hob, hbb1⟩
  have HOb := Lib.hid hob
  have HBb1 := Lib.hid hbb1
  have HBSb := Lib.hid (below_step HBFa.out hbb1)
  clear hob hbb1
  go_wp2_with fail
  refine (v_any 78 _).mono ?_
  rintro e wb2 ⟨rfl, hbb2⟩
  have HBb2 := Lib.hid hbb2
  have HBTb := Lib.hid (below_step HBSb.out hbb2)
  have HOLb := Lib.hid (show World.ownsRow (wb2.alloc (.cells #[.int .i64 1, .int .i64 78, .int .i64 0] 53)) 0 53 3 (.slice Ab m cb) m (nodesV u) from (own_below (own_base HOb.out (Nat.zero_le _)) hbb2).alloc _)
  have HLIb := Lib.hid (holds_at wb2 #[.int .i64 1, .int .i64 78, .int .i64 0] 53 (nodeV (1, 78, 0)) rfl)
  clear hbb2
  go_wp2_with (at_builtin; go_must (refine wpList_append_tx rfl (.tmp 44) (.tmp 46) _ _ _ rfl Tryd.underlying23 53 _ 3 24 infoNode rfl (by decide) Tryd.underlying23 (.slice Ab m cb) m 1 _ (nodeV (1, 78, 0)) rfl HOLb.out (some ⟨wb2.heap.size, 0, none⟩) 1 rfl ⟨Nat.le_refl _, by omega, fun h => by cases h⟩ HLIb.out rfl (by intro u hu; simp only [nodeV, List.mem_cons, List.not_mem_nil, or_false] at hu; rcases hu with rfl | rfl | rfl <;> rfl) (by omega) (by decide) ?_; intro vb3 wb3 hownb hmvb; have HWb := Lib.hid hownb; have HVb := Lib.hid hmvb; clear hownb hmvb; obtain ⟨gb, kb, rfl, hkb1, hkb2, hgb, hspb⟩ := spare_of (B := wa3.heap.size) HWb.out HM.out (fun k hk => by rcases HVb.out.next k hk with h | h; exact (World.ownsRow.lt HOb.out k h).1; have h1 := HBb1.out.size; have h2 := HBb2.out.size; simp only [World.size_alloc] at h; omega); have HSPb := Lib.hid hspb; have HBEb := Lib.hid (show Below wa3.heap.size wa3 wb3 from ((below_step HBb1.out HBb2.out).alloc (below_step HBb1.out HBb2.out).size _).trans (HVb.out.below (B := wa3.heap.size) (by have h1 := HBb1.out.size; have h2 := HBb2.out.size; simp only [World.size_alloc]; omega) fun g hg => (World.ownsRow.lt HOb.out g hg).1)); have HBFb := Lib.hid (below_step HBFa.out HBEb.out); clear hspb))
  obtain ⟨w5, hw5⟩ : ∃ w5 : World, w5 = wb3 := ⟨_, rfl⟩
  have HF5 := Lib.hid (show ∀ W, Below w5.heap.size w5 W → SpareAt W ga n ka t 77 ∧ SpareAt W gb m kb u 78 ∧ Lim W ∧ RowIn W A n c t ∧ RowIn W B m d u ∧ Below w.heap.size w W from fun W hb => by
    subst hw5
    exact ⟨(HSPa.out.below HSPa.out.lt HBEb.out).below (Nat.lt_of_lt_of_le HSPa.out.lt HBEb.out.size) hb, HSPb.out.below HSPb.out.lt hb, HL.out _ (below_step HBFb.out hb), HR1.out _ (below_step HBFb.out hb), HR2.out _ (below_step HBFb.out hb), below_step HBFb.out hb⟩)
  have hg5 : ga < w5.heap.size ∧ gb < w5.heap.size := by
    have h1 := (HF5.out _ (Below.refl _ _)).1.lt
    have h2 := (HF5.out _ (Below.refl _ _)).2.1.lt
    exact ⟨h1, h2⟩
  rw [← hw5]
  have HBW5 := Lib.hid (show Below w.heap.size w w5 by rw [hw5]; exact HBFb.out)
  clear hw5 HSPa HSPb HBEa HBEb HBFa HBFb HOa HOb HBa1 HBa2 HBb1 HBb2 HBSa HBSb HBTa HBTb HOLa HOLb HLIa HLIb HWa HWb HVa HVb HR1 HR2 HL hga hgb HAW
  have hca := cut_nodes ga n (n + 1) ka (by omega)
  have hcb := cut_nodes gb m (m + 1) kb (by omega)
  have HG5 := Lib.hid (Below.refl w5.heap.size w5)
  have HN5 := Lib.hid (RowsN.nil (B := w5.heap.size) (W := w5))
  go_wp2_with fail
  have hgd : Below w5.heap.size w5 w5.drew := below_drewN HG5.out 1
  have HCL := Lib.hid (subst_any (some ⟨ga, 0, none⟩) (some ⟨gb, 0, none⟩) n ka m kb t u 0 w5.drew HN.out (HF5.out _ hgd).1.row.sl (HF5.out _ hgd).1.row.ho HM.out (HF5.out _ hgd).2.1.row.sl (HF5.out _ hgd).2.1.row.ho (HF5.out _ hgd).2.2.1 (by unfold I64; omega))
  clear hgd
  refine region_begin (S := fun _ => True) (by kernel_rfl) (trivial) (fun hHeld => ?_)
  refine region_take 0 ?_ rfl (by kernel_rfl) (by rfl) hHeld ?_ ?_
  rotate_left
  · (intro w _; go_simp; try with_reducible rfl)
  try simp only [Act.put, List.setIfInBounds_toArray, List.set_cons_zero, List.set_cons_succ]
  refine region_take 1 ?_ rfl (by kernel_rfl) (by rfl) hHeld ?_ ?_
  rotate_left
  · (intro w _; go_simp; try with_reducible rfl)
  try simp only [Act.put, List.setIfInBounds_toArray, List.set_cons_zero, List.set_cons_succ]
  refine region_take 2 ?_ rfl (by kernel_rfl) (by rfl) hHeld ?_ ?_
  rotate_left
  · (intro w _; go_simp; try with_reducible rfl)
  try simp only [Act.put, List.setIfInBounds_toArray, List.set_cons_zero, List.set_cons_succ]
  refine region_take 3 ?_ rfl (by kernel_rfl) (by rfl) hHeld ?_ ?_
  rotate_left
  · (intro w _; go_simp; try with_reducible rfl)
  try simp only [Act.put, List.setIfInBounds_toArray, List.set_cons_zero, List.set_cons_succ]
  refine region_take 4 ?_ rfl (by kernel_rfl) (by rfl) hHeld ?_ ?_
  rotate_left
  · (intro w _; go_simp; try with_reducible rfl)
  try simp only [Act.put, List.setIfInBounds_toArray, List.set_cons_zero, List.set_cons_succ]
  refine region_take 5 ?_ rfl (by kernel_rfl) (by rfl) hHeld ?_ ?_
  rotate_left
  · (intro w _; go_simp; try with_reducible rfl)
  try simp only [Act.put, List.setIfInBounds_toArray, List.set_cons_zero, List.set_cons_succ]
  refine region_take 6 ?_ rfl (by kernel_rfl) (by rfl) hHeld ?_ ?_
  rotate_left
  · (intro w _; go_simp; try with_reducible rfl)
  try simp only [Act.put, List.setIfInBounds_toArray, List.set_cons_zero, List.set_cons_succ]
  refine region_take 7 ?_ rfl (by kernel_rfl) (by rfl) hHeld ?_ ?_
  rotate_left
  · (intro w _; go_simp; try with_reducible rfl)
  try simp only [Act.put, List.setIfInBounds_toArray, List.set_cons_zero, List.set_cons_succ]
  refine region_call 8 rfl (by kernel_rfl) (by rfl) (fun K hK => ?_)
  go_simp
  (go_at_call 32; (with_reducible refine (HCL.out).mono ?_); rintro e w6 ⟨A6, n6, c6, rfl, hl6, ho6, hb6⟩)
  refine hK.out _ _ (trivial) (fun hHeld => ?_)
  clear hK K
  try simp only [Act.put, List.setIfInBounds_toArray, List.set_cons_zero, List.set_cons_succ]
  refine region_take 9 ?_ rfl (by kernel_rfl) (by rfl) hHeld ?_ ?_
  rotate_left
  · (intro w _; go_simp; try with_reducible rfl)
  try simp only [Act.put, List.setIfInBounds_toArray, List.set_cons_zero, List.set_cons_succ]
  refine region_take 10 ?_ rfl (by kernel_rfl) (by rfl) hHeld ?_ ?_
  rotate_left
  · (intro w _; go_simp; try with_reducible rfl)
  try simp only [Act.put, List.setIfInBounds_toArray, List.set_cons_zero, List.set_cons_succ]
  refine region_take 11 ?_ rfl (by kernel_rfl) (by rfl) hHeld ?_ ?_
  rotate_left
  · (intro w _; go_simp; try with_reducible rfl)
  try simp only [Act.put, List.setIfInBounds_toArray, List.set_cons_zero, List.set_cons_succ]
  refine region_take 12 ?_ rfl (by kernel_rfl) (by rfl) hHeld ?_ ?_
  rotate_left
  · (intro w _; go_simp; try with_reducible rfl)
  try simp only [Act.put, List.setIfInBounds_toArray, List.set_cons_zero, List.set_cons_succ]
  refine region_take 13 ?_ rfl (by kernel_rfl) (by rfl) hHeld ?_ ?_
  rotate_left
  · (intro w _; go_simp; try with_reducible rfl)
  try simp only [Act.put, List.setIfInBounds_toArray, List.set_cons_zero, List.set_cons_succ]
  refine region_done (by kernel_rfl) ?_
  have HG6 := Lib.hid (below_step (below_drewN HG5.out 1) hb6)
  have HN6 := Lib.hid (HN5.out.adds HG5.out.size (show Below w5.heap.size w5 w6 from below_step (below_drewN (Below.refl _ _) 1) hb6) (RowsN.one (B := w5.heap.size) ho6 hl6))
  have HE6 := Lib.hid hl6
  clear hl6 ho6 hb6 hHeld
  rw [List.nil_append] at HN6
  obtain ⟨e6, he6⟩ : ∃ e6, (substS t u 0).2 = e6 := ⟨_, rfl⟩
  rw [he6]
  generalize (substS t u 0).1 = x6 at *
  go_wp2_with fail
  refine (lift_any (some ⟨ga, 0, none⟩) n ka t 1 0 w6 HN.out (HF5.out _ HG6.out).1.row.sl (HF5.out _ HG6.out).1.row.ho (HF5.out _ HG6.out).2.2.1).mono ?_
  rintro e w7 ⟨A7, n7, c7, rfl, hl7, ho7, hb7⟩
  have HG7 := Lib.hid (below_step HG6.out hb7)
  have HN7 := Lib.hid (HN6.out.adds HG6.out.size (show Below w6.heap.size w6 w7 from hb7) (RowsN.one (B := w6.heap.size) ho7 hl7))
  have HE7 := Lib.hid hl7
  clear hl7 ho7 hb7
  rw [List.cons_append] at HN7
  obtain ⟨e7, he7⟩ : ∃ e7, (liftS t 1 0).2 = e7 := ⟨_, rfl⟩
  rw [he7]
  generalize (liftS t 1 0).1 = x7 at *
  clear he7
  go_wp2_with fail
  have hgl : Below w5.heap.size w5 (w7.alloc (.cells #[.slice (some ⟨gb, 0, none⟩) m kb] 23)).drew := below_drewN (HG7.out.alloc HG7.out.size _) 1
  have hli : Holds (w7.alloc (.cells #[.slice (some ⟨gb, 0, none⟩) m kb] 23)).drew (some ⟨w7.heap.size, 0, none⟩) (([(some ⟨gb, 0, none⟩, kb, u)] : List RowT).map rowV) := by
    have := holds_at w7 #[.slice (some ⟨gb, 0, none⟩) m kb] 23 (([(some ⟨gb, 0, none⟩, kb, u)] : List RowT).map rowV) (by simp [rowV, HM.out])
    exact this
  have hrk : RowsOk (w7.alloc (.cells #[.slice (some ⟨gb, 0, none⟩) m kb] 23)).drew [(some ⟨gb, 0, none⟩, kb, u)] := fun x hx => by
    simp only [List.mem_cons, List.not_mem_nil, or_false] at hx
    subst hx
    exact ⟨by rw [show ((some ⟨gb, 0, none⟩, kb, u) : RowT).2.2.length = m from HM.out]; exact (HF5.out _ hgl).2.1.row.sl, (HF5.out _ hgl).2.1.row.ho⟩
  have hfl : (flatR [(some ⟨gb, 0, none⟩, kb, u)]).length ≤ 100000 := by rw [show (flatR [(some ⟨gb, 0, none⟩, kb, u)]).length = m by simp [flatR, HM.out]]; omega
  have HCL := Lib.hid (tapply_any (some ⟨ga, 0, none⟩) n ka t (some ⟨w7.heap.size, 0, none⟩) 1 1 [(some ⟨gb, 0, none⟩, kb, u)] (w7.alloc (.cells #[.slice (some ⟨gb, 0, none⟩) m kb] 23)).drew HN.out (HF5.out _ hgl).1.row.sl (HF5.out _ hgl).1.row.ho rfl (by omega) hli hrk (HF5.out _ hgl).2.2.1 (by omega) hfl)
  clear hgl hli hrk hfl
  refine region_begin (S := fun _ => True) (by kernel_rfl) (trivial) (fun hHeld => ?_)
  refine region_take 0 ?_ rfl (by kernel_rfl) (by rfl) hHeld ?_ ?_
  rotate_left
  · (intro w _; go_simp; try with_reducible rfl)
  try simp only [Act.put, List.setIfInBounds_toArray, List.set_cons_zero, List.set_cons_succ]
  refine region_take 1 ?_ rfl (by kernel_rfl) (by rfl) hHeld ?_ ?_
  rotate_left
  · (intro w _; go_simp; try with_reducible rfl)
  try simp only [Act.put, List.setIfInBounds_toArray, List.set_cons_zero, List.set_cons_succ]
  refine region_take 2 ?_ rfl (by kernel_rfl) (by rfl) hHeld ?_ ?_
  rotate_left
  · (intro w _; go_simp; try with_reducible rfl)
  try simp only [Act.put, List.setIfInBounds_toArray, List.set_cons_zero, List.set_cons_succ]
  refine region_take 3 ?_ rfl (by kernel_rfl) (by rfl) hHeld ?_ ?_
  rotate_left
  · (intro w _; go_simp; try with_reducible rfl)
  try simp only [Act.put, List.setIfInBounds_toArray, List.set_cons_zero, List.set_cons_succ]
  refine region_take 4 ?_ rfl (by kernel_rfl) (by rfl) hHeld ?_ ?_
  rotate_left
  · (intro w _; go_simp; try with_reducible rfl)
  try simp only [Act.put, List.setIfInBounds_toArray, List.set_cons_zero, List.set_cons_succ]
  refine region_take 5 ?_ rfl (by kernel_rfl) (by rfl) hHeld ?_ ?_
  rotate_left
  · (intro w _; go_simp; try with_reducible rfl)
  try simp only [Act.put, List.setIfInBounds_toArray, List.set_cons_zero, List.set_cons_succ]
  refine region_take 6 ?_ rfl (by kernel_rfl) (by rfl) hHeld ?_ ?_
  rotate_left
  · (intro w _; go_simp; try with_reducible rfl)
  try simp only [Act.put, List.setIfInBounds_toArray, List.set_cons_zero, List.set_cons_succ]
  refine region_take 7 ?_ rfl (by kernel_rfl) (by rfl) hHeld ?_ ?_
  rotate_left
  · (intro w _; go_simp; try with_reducible rfl)
  try simp only [Act.put, List.setIfInBounds_toArray, List.set_cons_zero, List.set_cons_succ]
  refine region_call 8 rfl (by kernel_rfl) (by rfl) (fun K hK => ?_)
  go_simp
  refine hK.out _ _ (trivial) (fun hHeld => ?_)
  clear hK K
  try simp only [Act.put, List.setIfInBounds_toArray, List.set_cons_zero, List.set_cons_succ]
  refine region_call 9 rfl (by kernel_rfl) (by rfl) (fun K hK => ?_)
  go_simp
  (go_at_call 36; (with_reducible refine (HCL.out).mono ?_); rintro e w8 ⟨A8, n8, c8, rfl, hl8, ho8, hb8⟩)
  refine hK.out _ _ (trivial) (fun hHeld => ?_)
  clear hK K
  try simp only [Act.put, List.setIfInBounds_toArray, List.set_cons_zero, List.set_cons_succ]
  refine region_take 10 ?_ rfl (by kernel_rfl) (by rfl) hHeld ?_ ?_
  rotate_left
  · (intro w _; go_simp; try with_reducible rfl)
  try simp only [Act.put, List.setIfInBounds_toArray, List.set_cons_zero, List.set_cons_succ]
  refine region_take 11 ?_ rfl (by kernel_rfl) (by rfl) hHeld ?_ ?_
  rotate_left
  · (intro w _; go_simp; try with_reducible rfl)
  try simp only [Act.put, List.setIfInBounds_toArray, List.set_cons_zero, List.set_cons_succ]
  refine region_take 12 ?_ rfl (by kernel_rfl) (by rfl) hHeld ?_ ?_
  rotate_left
  · (intro w _; go_simp; try with_reducible rfl)
  try simp only [Act.put, List.setIfInBounds_toArray, List.set_cons_zero, List.set_cons_succ]
  refine region_take 13 ?_ rfl (by kernel_rfl) (by rfl) hHeld ?_ ?_
  rotate_left
  · (intro w _; go_simp; try with_reducible rfl)
  try simp only [Act.put, List.setIfInBounds_toArray, List.set_cons_zero, List.set_cons_succ]
  refine region_take 14 ?_ rfl (by kernel_rfl) (by rfl) hHeld ?_ ?_
  rotate_left
  · (intro w _; go_simp; try with_reducible rfl)
  try simp only [Act.put, List.setIfInBounds_toArray, List.set_cons_zero, List.set_cons_succ]
  refine region_done (by kernel_rfl) ?_
  have HG8 := Lib.hid (below_step (below_drewN (HG7.out.alloc HG7.out.size (.cells #[.slice (some ⟨gb, 0, none⟩) m kb] 23)) 1) hb8)
  have HN8 := Lib.hid ((HN7.out.next (W' := (w7.alloc (.cells #[.slice (some ⟨gb, 0, none⟩) m kb] 23)).drew) (below_drewN ((Below.refl _ _).alloc (Nat.le_refl _) _) 1)).adds (Nat.le_trans HG7.out.size (by simp)) hb8 (RowsN.one ho8 hl8))
  have HE8 := Lib.hid hl8
  clear hl8 ho8 hb8 hHeld
  rw [List.cons_append] at HN8
  clear HCL
  obtain ⟨e8, he8⟩ : ∃ e8, (applyS t (([(some ⟨gb, 0, none⟩, kb, u)] : List RowT).map fun x => x.2.2)).2 = e8 := ⟨_, rfl⟩
  rw [he8]
  generalize (applyS t (([(some ⟨gb, 0, none⟩, kb, u)] : List RowT).map fun x => x.2.2)).1 = x8 at *
  clear he8
  go_wp2_with fail
  have hgl : Below w5.heap.size w5 (w8.alloc (.cells #[.slice (some ⟨ga, 0, none⟩) n ka] 23)).drew := below_drewN (HG8.out.alloc HG8.out.size _) 1
  have hli : Holds (w8.alloc (.cells #[.slice (some ⟨ga, 0, none⟩) n ka] 23)).drew (some ⟨w8.heap.size, 0, none⟩) (([(some ⟨ga, 0, none⟩, ka, t)] : List RowT).map rowV) := by
    have := holds_at w8 #[.slice (some ⟨ga, 0, none⟩) n ka] 23 (([(some ⟨ga, 0, none⟩, ka, t)] : List RowT).map rowV) (by simp [rowV, HN.out])
    exact this
  have hrk : RowsOk (w8.alloc (.cells #[.slice (some ⟨ga, 0, none⟩) n ka] 23)).drew [(some ⟨ga, 0, none⟩, ka, t)] := fun x hx => by
    simp only [List.mem_cons, List.not_mem_nil, or_false] at hx
    subst hx
    exact ⟨by rw [show ((some ⟨ga, 0, none⟩, ka, t) : RowT).2.2.length = n from HN.out]; exact (HF5.out _ hgl).1.row.sl, (HF5.out _ hgl).1.row.ho⟩
  have hfl : (flatR [(some ⟨ga, 0, none⟩, ka, t)]).length ≤ 100000 := by rw [show (flatR [(some ⟨ga, 0, none⟩, ka, t)]).length = n by simp [flatR, HN.out]]; omega
  have HCL := Lib.hid (tbind_any 4 (some ⟨gb, 0, none⟩) m kb u (some ⟨w8.heap.size, 0, none⟩) 1 1 [(some ⟨ga, 0, none⟩, ka, t)] (w8.alloc (.cells #[.slice (some ⟨ga, 0, none⟩) n ka] 23)).drew HM.out (HF5.out _ hgl).2.1.row.sl (HF5.out _ hgl).2.1.row.ho rfl (by omega) hli hrk (HF5.out _ hgl).2.2.1 (by omega) hfl)
  clear hgl hli hrk hfl
  refine region_begin (S := fun _ => True) (by kernel_rfl) (trivial) (fun hHeld => ?_)
  refine region_take 0 ?_ rfl (by kernel_rfl) (by rfl) hHeld ?_ ?_
  rotate_left
  · (intro w _; go_simp; try with_reducible rfl)
  try simp only [Act.put, List.setIfInBounds_toArray, List.set_cons_zero, List.set_cons_succ]
  refine region_take 1 ?_ rfl (by kernel_rfl) (by rfl) hHeld ?_ ?_
  rotate_left
  · (intro w _; go_simp; try with_reducible rfl)
  try simp only [Act.put, List.setIfInBounds_toArray, List.set_cons_zero, List.set_cons_succ]
  refine region_take 2 ?_ rfl (by kernel_rfl) (by rfl) hHeld ?_ ?_
  rotate_left
  · (intro w _; go_simp; try with_reducible rfl)
  try simp only [Act.put, List.setIfInBounds_toArray, List.set_cons_zero, List.set_cons_succ]
  refine region_take 3 ?_ rfl (by kernel_rfl) (by rfl) hHeld ?_ ?_
  rotate_left
  · (intro w _; go_simp; try with_reducible rfl)
  try simp only [Act.put, List.setIfInBounds_toArray, List.set_cons_zero, List.set_cons_succ]
  refine region_take 5 ?_ rfl (by kernel_rfl) (by rfl) hHeld ?_ ?_
  rotate_left
  · (intro w _; go_simp; try with_reducible rfl)
  try simp only [Act.put, List.setIfInBounds_toArray, List.set_cons_zero, List.set_cons_succ]
  refine region_take 6 ?_ rfl (by kernel_rfl) (by rfl) hHeld ?_ ?_
  rotate_left
  · (intro w _; go_simp; try with_reducible rfl)
  try simp only [Act.put, List.setIfInBounds_toArray, List.set_cons_zero, List.set_cons_succ]
  refine region_take 7 ?_ rfl (by kernel_rfl) (by rfl) hHeld ?_ ?_
  rotate_left
  · (intro w _; go_simp; try with_reducible rfl)
  try simp only [Act.put, List.setIfInBounds_toArray, List.set_cons_zero, List.set_cons_succ]
  refine region_take 8 ?_ rfl (by kernel_rfl) (by rfl) hHeld ?_ ?_
  rotate_left
  · (intro w _; go_simp; try with_reducible rfl)
  try simp only [Act.put, List.setIfInBounds_toArray, List.set_cons_zero, List.set_cons_succ]
  refine region_call 4 rfl (by kernel_rfl) (by rfl) (fun K hK => ?_)
  go_simp
  refine hK.out _ _ (trivial) (fun hHeld => ?_)
  clear hK K
  try simp only [Act.put, List.setIfInBounds_toArray, List.set_cons_zero, List.set_cons_succ]
  refine region_call 9 rfl (by kernel_rfl) (by rfl) (fun K hK => ?_)
  go_simp
  (go_at_call 38; (with_reducible refine (HCL.out).mono ?_); rintro e w9 ⟨A9, n9, c9, rfl, hl9, ho9, hb9⟩)
  refine hK.out _ _ (trivial) (fun hHeld => ?_)
  clear hK K
  try simp only [Act.put, List.setIfInBounds_toArray, List.set_cons_zero, List.set_cons_succ]
  refine region_take 10 ?_ rfl (by kernel_rfl) (by rfl) hHeld ?_ ?_
  rotate_left
  · (intro w _; go_simp; try with_reducible rfl)
  try simp only [Act.put, List.setIfInBounds_toArray, List.set_cons_zero, List.set_cons_succ]
  refine region_take 11 ?_ rfl (by kernel_rfl) (by rfl) hHeld ?_ ?_
  rotate_left
  · (intro w _; go_simp; try with_reducible rfl)
  try simp only [Act.put, List.setIfInBounds_toArray, List.set_cons_zero, List.set_cons_succ]
  refine region_take 12 ?_ rfl (by kernel_rfl) (by rfl) hHeld ?_ ?_
  rotate_left
  · (intro w _; go_simp; try with_reducible rfl)
  try simp only [Act.put, List.setIfInBounds_toArray, List.set_cons_zero, List.set_cons_succ]
  refine region_take 13 ?_ rfl (by kernel_rfl) (by rfl) hHeld ?_ ?_
  rotate_left
  · (intro w _; go_simp; try with_reducible rfl)
  try simp only [Act.put, List.setIfInBounds_toArray, List.set_cons_zero, List.set_cons_succ]
  refine region_take 14 ?_ rfl (by kernel_rfl) (by rfl) hHeld ?_ ?_
  rotate_left
  · (intro w _; go_simp; try with_reducible rfl)
  try simp only [Act.put, List.setIfInBounds_toArray, List.set_cons_zero, List.set_cons_succ]
  refine region_done (by kernel_rfl) ?_
  have HG9 := Lib.hid (below_step (below_drewN (HG8.out.alloc HG8.out.size (.cells #[.slice (some ⟨ga, 0, none⟩) n ka] 23)) 1) hb9)
  have HN9 := Lib.hid ((HN8.out.next (W' := (w8.alloc (.cells #[.slice (some ⟨ga, 0, none⟩) n ka] 23)).drew) (below_drewN ((Below.refl _ _).alloc (Nat.le_refl _) _) 1)).adds (Nat.le_trans HG8.out.size (by simp)) hb9 (RowsN.one ho9 hl9))
  have HE9 := Lib.hid hl9
  clear hl9 ho9 hb9 hHeld
  rw [List.cons_append] at HN9
  clear HCL
  obtain ⟨e9, he9⟩ : ∃ e9, (bindS 4 (([(some ⟨ga, 0, none⟩, ka, t)] : List RowT).map fun x => x.2.2) u).2 = e9 := ⟨_, rfl⟩
  rw [he9]
  generalize (bindS 4 (([(some ⟨ga, 0, none⟩, ka, t)] : List RowT).map fun x => x.2.2) u).1 = x9 at *
  clear he9
  go_wp2_with fail
  refine (tkids_any (some ⟨ga, 0, none⟩) n ka t w9 HN.out (HF5.out _ HG9.out).1.row.sl (HF5.out _ HG9.out).1.row.ho (HF5.out _ HG9.out).2.2.1).mono ?_
  rintro e w10 ⟨R10, m10, cr10, l10, rfl, hl10, hk10, hb10, hp10⟩
  have HG10 := Lib.hid (below_step HG9.out hb10)
  have HN10 := Lib.hid (HN9.out.adds HG9.out.size hb10 ⟨hk10.rows, hk10.ap⟩)
  have HK10 := Lib.hid (show ∀ W, Below w10.heap.size w10 W → Holds W R10 (l10.map rowV) from fun W hb => (own_holds (by have := hk10.own; rw [hl10] at this; exact this)).below hb)
  have HS10 := Lib.hid (show Slice R10 m10 cr10 from by obtain ⟨_, _, e, h, -⟩ := own_slice hk10.own; cases e; rw [hl10] at h; exact h)
  have HL10 := Lib.hid hl10
  have hm10 : m10 ≤ 100 := by have := kids_few hp10; omega
  clear hl10 hk10 hb10 hp10
  go_wp2_with fail
  refine (tspine2_any (some ⟨ga, 0, none⟩) n ka t w10 HN.out (HF5.out _ HG10.out).1.row.sl (HF5.out _ HG10.out).1.row.ho (HF5.out _ HG10.out).2.2.1).mono ?_
  rintro e w11 ⟨A11, n11, c11, f11, R11, cr11, l11, ⟨rfl, hn11, ho11, hs11, hh11, -, -, -, hb11, hsp11⟩, hrows11, hap11⟩
  have HG11 := Lib.hid (below_step HG10.out hb11)
  have HN11 := Lib.hid (HN10.out.adds HG10.out.size hb11 (K := (A11, c11, f11) :: l11) ⟨fun x hx => by
    rcases List.mem_cons.1 hx with rfl | hx
    · subst hn11; exact ho11
    · exact hrows11 x hx, hap11⟩)
  obtain ⟨m11, hl11⟩ : ∃ m11, l11.length = m11 := ⟨_, rfl⟩
  rw [hl11] at hs11 ⊢
  have hm11 : m11 ≤ 1000 := by have := spine_few hsp11; have := HN.out; omega
  have HK11 := Lib.hid (show ∀ W, Below w11.heap.size w11 W → Holds W R10 (l10.map rowV) ∧ Holds W R11 (l11.map rowV) from fun W hb => ⟨HK10.out _ (below_step hb11 hb), hh11.below hb⟩)
  have HS11 := Lib.hid hs11
  have HL11 := Lib.hid hl11
  have HN1 := Lib.hid hn11
  clear hn11 ho11 hs11 hh11 hb11 hsp11 hrows11 hap11 hl11 HK10
  have HLT := Lib.hid (show (Below w11.heap.size w11 (w11.alloc (.cells #[.slice A6 n6 c6, .slice A7 n7 c7, .slice A8 n8 c8, .slice A9 n9 c9, .slice A11 n11 c11] 23))) from (Below.refl _ _).alloc (Nat.le_refl _) _)
  have HOL := Lib.hid (show World.ownsRow (w11.alloc (.cells #[.slice A6 n6 c6, .slice A7 n7 c7, .slice A8 n8 c8, .slice A9 n9 c9, .slice A11 n11 c11] 23)) 0 23 1 (.slice (some ⟨w11.heap.size, 0, none⟩) 5 5) 5 (([(A6, c6, x6), (A7, c7, x7), (A8, c8, x8), (A9, c9, x9), (A11, c11, f11)] : List RowT).map rowV) by
    have := World.ownsRow_lit (base := 0) (size := 1) (e := 23) w11 #[.slice A6 n6 c6, .slice A7 n7 c7, .slice A8 n8 c8, .slice A9 n9 c9, .slice A11 n11 c11] 5 (Nat.zero_le _) (by decide) rfl
    simpa [rowV, HE6.out, HE7.out, HE8.out, HE9.out, HN1.out] using this)
  have HH0 := Lib.hid (HK11.out _ HLT.out)
  go_wp2_with (first | (at_builtin; refine wpList_append_tx rfl (.tmp 112) (.tmp 113) _ _ _ rfl Tryd.underlying30 23 _ 1 24 infoRowT rfl (by decide) Tryd.underlying30 (.slice (some ⟨w11.heap.size, 0, none⟩) 5 5) 5 m10 _ (l10.map rowV) rfl HOL.out R10 cr10 rfl HS10.out HH0.out.1 (by simp [HL10.out]) rows_one2 (by omega) (by decide) ?_; intro va wA hownA hmvA; have HOA := Lib.hid hownA; have HMA := Lib.hid hmvA; have HBA := Lib.hid (show Below w11.heap.size w11 wA from HLT.out.trans (hmvA.below (B := w11.heap.size) HLT.out.size fun g hg => Nat.le_of_eq (by simpa [Value.ownBlock] using hg))); clear hownA hmvA; have HH1 := Lib.hid (HK11.out _ HBA.out).2) | (at_builtin; go_must (refine wpList_append_tx rfl (.tmp 114) (.tmp 115) _ _ _ rfl Tryd.underlying30 23 _ 1 24 infoRowT rfl (by decide) Tryd.underlying30 va (5 + m10) m11 _ (l11.map rowV) rfl HOA.out R11 cr11 rfl HS11.out HH1.out (by simp [HL11.out]) rows_one2 (by omega) (by decide) ?_; intro vb wB hownB hmvB; obtain ⟨gr, kr, rfl, hgr⟩ := own_form hownB (by omega); have HOB := Lib.hid hownB; have HMB := Lib.hid hmvB; clear hownB hmvB)))
  obtain ⟨LL, hLL⟩ : ∃ LL : List RowT, LL = [(A6, c6, x6), (A7, c7, x7), (A8, c8, x8), (A9, c9, x9), (A11, c11, f11)] ++ l10 ++ l11 := ⟨_, rfl⟩
  obtain ⟨N, hNN⟩ : ∃ N, 5 + m10 + m11 = N := ⟨_, rfl⟩
  have HBB := Lib.hid (show Below w11.heap.size w11 wB from HBA.out.trans (HMB.out.below (B := w11.heap.size) HBA.out.size fun g hg => by rcases HMA.out.next g hg with h | h; exact Nat.le_of_eq (by simpa [Value.ownBlock] using h); have := HLT.out.size; omega))
  have hg11 : w11.heap.size ≤ gr := by
    rcases HMB.out.next gr rfl with h | h
    · rcases HMA.out.next gr h with h | h
      · exact Nat.le_of_eq (by simpa [Value.ownBlock] using h)
      · have := HLT.out.size; omega
    · have := HBA.out.size; omega
  have hrl : RowsN w5.heap.size w11 LL := by
    rw [hLL]
    exact HN11.out.perm (by simp)
  have hoff : ∀ x ∈ LL, ∀ b o o', x.1 = some ⟨b, o, none⟩ → some (⟨gr, 0, none⟩ : Addr) ≠ some ⟨b, o', none⟩ := fun x hx b o o' e e' => by
    have := (row_block (hrl.rows x hx) e).2
    cases e'
    omega
  have hln : LL.length = N := by rw [hLL, ← hNN]; simp [HL10.out, HL11.out]; omega
  have hka : KeepAt w5.heap.size w5 wB (some ⟨gr, 0, none⟩) LL 0 := by
    refine ⟨HG11.out.trans (HBB.out.mono HG11.out.size), fun x hx => room_of ((hrl.next HBB.out).rows x hx), ?_, fun j hj => absurd hj (Nat.not_lt_zero _)⟩
    have h1 := own_holds HOB.out
    rw [hLL]
    simpa using h1
  have HOFF := Lib.hid hoff
  have HAP := Lib.hid hrl.ap
  have HLN := Lib.hid hln
  clear hoff hrl hln hLL HOL HOA HOB HMA HMB HBA HBB HH0 HH1 HK11 HS10 HS11 HL10 HL11 HN1 HLT HN5 HN6 HN7 HN8 HN9 HN10 HN11 HG5 HG6 HG7 HG8 HG9 HG10 HG11 HE6 HE7 HE8 HE9 hca hcb hg11
  have hN2 : N ≤ 1200 := by omega
  rw [hNN]
  go_loopw [19] (fun i wr => ∃ k : Nat, i = .int .i64 (k : Int) ∧ k ≤ N ∧ KeepAt w5.heap.size w5 wr (some ⟨gr, 0, none⟩) LL k) (fun i _ => N - (intOf i).toNat)
  case atStart => exact ⟨0, rfl, Nat.zero_le _, hka⟩
  case round =>
    clear hka
    obtain ⟨k, rfl, hk, hK⟩ := hrel
    by_cases hlt : k < N
    · have hkl : k < LL.length := by rw [HLN.out]; exact hlt
      obtain ⟨x, hx⟩ : ∃ x, LL[k] = x := ⟨_, rfl⟩
      have c0 : wr.cell? ⟨gr, 0 + k, none⟩ = some (rowV x) := hK.all.cell (by rw [List.getElem?_map, List.getElem?_eq_getElem hkl, hx]; rfl)
      rw [Nat.zero_add] at c0
      have hrm := hK.room x (by rw [← hx]; exact List.getElem_mem hkl)
      have ek := IntWalk.i64_in ((k : Int) + 1) (by omega)
      have e100 := IntWalk.i64_in (100 + (k : Int)) (by omega)
      obtain ⟨A0, q0, z0⟩ := x
      rcases hrm with ⟨rfl, rfl, rfl⟩ | ⟨b, rfl, hb, hbl, hro, hle, hmx⟩
      · have c0' : wr.cell? ⟨gr, k, none⟩ = some (.slice none 0 0) := c0
        have HKK := Lib.hid (show KeepAt w5.heap.size w5 wr (some ⟨gr, 0, none⟩) LL (k + 1) from hK.next fun hi b q e => by rw [hx] at e; cases e)
        have hcn : ∀ W : World, (Instr.slice 23 (.slice none 0 0) none (some (.int .i64 (0 : Int))) none).run Tryd.prog W = .ok (.slice none 0 0) W := fun W => by kernel_rfl
        clear hK hx c0
        go_wp2_with fail
        refine region_begin (S := fun W => W.cell? ⟨gr, k, none⟩ = some (.slice none 0 0)) (by kernel_rfl) (c0') (fun hHeld => ?_)
        refine region_take 0 ?_ rfl (by kernel_rfl) (by rfl) hHeld ?_ ?_
        rotate_left
        · intro w hSw
          (try dsimp only at hSw)
          go_simp
          try with_reducible rfl
        try simp only [Act.put, List.setIfInBounds_toArray, List.set_cons_zero, List.set_cons_succ]
        refine region_take 1 ?_ rfl (by kernel_rfl) (by rfl) hHeld ?_ ?_
        rotate_left
        · intro w hSw
          (try dsimp only at hSw)
          go_simp
          try with_reducible rfl
        try simp only [Act.put, List.setIfInBounds_toArray, List.set_cons_zero, List.set_cons_succ]
        refine region_take 2 ?_ rfl (by kernel_rfl) (by rfl) hHeld ?_ ?_
        rotate_left
        · intro w hSw
          (try dsimp only at hSw)
          go_simp
          try with_reducible rfl
        try simp only [Act.put, List.setIfInBounds_toArray, List.set_cons_zero, List.set_cons_succ]
        refine region_take 3 ?_ rfl (by kernel_rfl) (by rfl) hHeld ?_ ?_
        rotate_left
        · intro w hSw
          (try dsimp only at hSw)
          go_simp
          try with_reducible rfl
        try simp only [Act.put, List.setIfInBounds_toArray, List.set_cons_zero, List.set_cons_succ]
        refine region_take 4 ?_ rfl (by kernel_rfl) (by rfl) hHeld ?_ ?_
        rotate_left
        · intro w hSw
          (try dsimp only at hSw)
          go_simp
          try with_reducible rfl
        try simp only [Act.put, List.setIfInBounds_toArray, List.set_cons_zero, List.set_cons_succ]
        refine region_take 5 ?_ rfl (by kernel_rfl) (by rfl) hHeld ?_ ?_
        rotate_left
        · intro w hSw
          (try dsimp only at hSw)
          go_simp
          try with_reducible rfl
        try simp only [Act.put, List.setIfInBounds_toArray, List.set_cons_zero, List.set_cons_succ]
        refine region_take 6 ?_ rfl (by kernel_rfl) (by rfl) hHeld ?_ ?_
        rotate_left
        · intro w hSw
          (try dsimp only at hSw)
          go_simp
          try with_reducible rfl
        try simp only [Act.put, List.setIfInBounds_toArray, List.set_cons_zero, List.set_cons_succ]
        refine region_take 7 ?_ rfl (by kernel_rfl) (by rfl) hHeld ?_ ?_
        rotate_left
        · intro w hSw
          (try dsimp only at hSw)
          go_simp
          try with_reducible rfl
        try simp only [Act.put, List.setIfInBounds_toArray, List.set_cons_zero, List.set_cons_succ]
        refine region_take 8 ?_ rfl (by kernel_rfl) (by rfl) hHeld ?_ ?_
        rotate_left
        · intro w hSw
          (try dsimp only at hSw)
          go_simp
          try with_reducible rfl
        try simp only [Act.put, List.setIfInBounds_toArray, List.set_cons_zero, List.set_cons_succ]
        refine region_take 9 ?_ rfl (by kernel_rfl) (by rfl) hHeld ?_ ?_
        rotate_left
        · intro w hSw
          (try dsimp only at hSw)
          go_simp
          try with_reducible rfl
        try simp only [Act.put, List.setIfInBounds_toArray, List.set_cons_zero, List.set_cons_succ]
        refine region_take 10 ?_ rfl (by kernel_rfl) (by rfl) hHeld ?_ ?_
        rotate_left
        · intro w hSw
          (try dsimp only at hSw)
          go_simp
          try with_reducible rfl
        try simp only [Act.put, List.setIfInBounds_toArray, List.set_cons_zero, List.set_cons_succ]
        refine region_done (by kernel_rfl) ?_
        clear hHeld c0' hcn
        go_wp2_with fail
        obtain ⟨wo, rfl⟩ : ∃ wo : World, wo = wr := ⟨_, rfl⟩
        go_loopw [21] (fun j wj => j = .int .i64 0 ∧ wj = wo.drew) (fun _ _ => 0)
        case atStart => exact ⟨rfl, rfl⟩
        case round =>
          obtain ⟨rfl, rfl⟩ := hrel
          go_wp2_with fail
          go_roundw
          case rel => exact ⟨k + 1, by go_num, by omega, keep_drew HKK.out⟩
          case measure => simp [intOf]; omega
      · have c0' : wr.cell? ⟨gr, k, none⟩ = some (.slice (some ⟨b, 0, none⟩) z0.length q0) := c0
        simp only at hle hmx hro
        obtain ⟨n0, hn0⟩ : ∃ n0, z0.length = n0 := ⟨_, rfl⟩
        rw [hn0] at c0' hle
        have HX := Lib.hid (show LL[k].1 = some ⟨b, 0, none⟩ ∧ LL[k].2.1 = q0 from by rw [hx]; exact ⟨rfl, rfl⟩)
        have hcn := cut_nodes b q0 n0 q0 (Nat.le_refl _)
        have HKK := Lib.hid hK
        clear hK hx c0 hro hb hbl hn0
        go_wp2_with fail
        refine region_begin (S := fun W => W.cell? ⟨gr, k, none⟩ = some (.slice (some ⟨b, 0, none⟩) n0 q0)) (by kernel_rfl) (c0') (fun hHeld => ?_)
        refine region_take 0 ?_ rfl (by kernel_rfl) (by rfl) hHeld ?_ ?_
        rotate_left
        · intro w hSw
          (try dsimp only at hSw)
          go_simp
          try with_reducible rfl
        try simp only [Act.put, List.setIfInBounds_toArray, List.set_cons_zero, List.set_cons_succ]
        refine region_take 1 ?_ rfl (by kernel_rfl) (by rfl) hHeld ?_ ?_
        rotate_left
        · intro w hSw
          (try dsimp only at hSw)
          go_simp
          try with_reducible rfl
        try simp only [Act.put, List.setIfInBounds_toArray, List.set_cons_zero, List.set_cons_succ]
        refine region_take 2 ?_ rfl (by kernel_rfl) (by rfl) hHeld ?_ ?_
        rotate_left
        · intro w hSw
          (try dsimp only at hSw)
          go_simp
          try with_reducible rfl
        try simp only [Act.put, List.setIfInBounds_toArray, List.set_cons_zero, List.set_cons_succ]
        refine region_take 3 ?_ rfl (by kernel_rfl) (by rfl) hHeld ?_ ?_
        rotate_left
        · intro w hSw
          (try dsimp only at hSw)
          go_simp
          try with_reducible rfl
        try simp only [Act.put, List.setIfInBounds_toArray, List.set_cons_zero, List.set_cons_succ]
        refine region_take 4 ?_ rfl (by kernel_rfl) (by rfl) hHeld ?_ ?_
        rotate_left
        · intro w hSw
          (try dsimp only at hSw)
          go_simp
          try with_reducible rfl
        try simp only [Act.put, List.setIfInBounds_toArray, List.set_cons_zero, List.set_cons_succ]
        refine region_take 5 ?_ rfl (by kernel_rfl) (by rfl) hHeld ?_ ?_
        rotate_left
        · intro w hSw
          (try dsimp only at hSw)
          go_simp
          try with_reducible rfl
        try simp only [Act.put, List.setIfInBounds_toArray, List.set_cons_zero, List.set_cons_succ]
        refine region_take 6 ?_ rfl (by kernel_rfl) (by rfl) hHeld ?_ ?_
        rotate_left
        · intro w hSw
          (try dsimp only at hSw)
          go_simp
          try with_reducible rfl
        try simp only [Act.put, List.setIfInBounds_toArray, List.set_cons_zero, List.set_cons_succ]
        refine region_take 7 ?_ rfl (by kernel_rfl) (by rfl) hHeld ?_ ?_
        rotate_left
        · intro w hSw
          (try dsimp only at hSw)
          go_simp
          try with_reducible rfl
        try simp only [Act.put, List.setIfInBounds_toArray, List.set_cons_zero, List.set_cons_succ]
        refine region_take 8 ?_ rfl (by kernel_rfl) (by rfl) hHeld ?_ ?_
        rotate_left
        · intro w hSw
          (try dsimp only at hSw)
          go_simp
          try with_reducible rfl
        try simp only [Act.put, List.setIfInBounds_toArray, List.set_cons_zero, List.set_cons_succ]
        refine region_take 9 ?_ rfl (by kernel_rfl) (by rfl) hHeld ?_ ?_
        rotate_left
        · intro w hSw
          (try dsimp only at hSw)
          go_simp
          try with_reducible rfl
        try simp only [Act.put, List.setIfInBounds_toArray, List.set_cons_zero, List.set_cons_succ]
        refine region_take 10 ?_ rfl (by kernel_rfl) (by rfl) hHeld ?_ ?_
        rotate_left
        · intro w hSw
          (try dsimp only at hSw)
          go_simp
          try with_reducible rfl
        try simp only [Act.put, List.setIfInBounds_toArray, List.set_cons_zero, List.set_cons_succ]
        refine region_done (by kernel_rfl) ?_
        clear hHeld c0' hcn
        go_wp2_with fail
        obtain ⟨wo, rfl⟩ : ∃ wo : World, wo = wr := ⟨_, rfl⟩
        go_loopw [21] (fun j wj => ∃ q : Nat, j = .int .i64 (q : Int) ∧ q ≤ q0 ∧ KeepAt w5.heap.size w5 wj (some ⟨gr, 0, none⟩) LL k ∧ Hid (∀ q', q' < q → wj.cell? ⟨b, q' * 3, none⟩ = some (.int .i64 (100 + (k : Int))))) (fun j _ => q0 - (intOf j).toNat)
        case atStart => exact ⟨0, rfl, Nat.zero_le _, keep_drew HKK.out, Lib.hid fun q' h => absurd h (Nat.not_lt_zero _)⟩
        case round =>
          obtain ⟨q, rfl, hq, hK, HMK⟩ := hrel
          by_cases hlq : q < q0
          · have hrm := hK.room _ (List.getElem_mem hkl)
            obtain ⟨b', e', -, -, hro, -, -⟩ : ∃ b', LL[k].1 = some ⟨b', 0, none⟩ ∧ w5.heap.size ≤ b' ∧ b' < wr.heap.size ∧ RoomOf wr b' LL[k].2.1 ∧ LL[k].2.2.length ≤ LL[k].2.1 ∧ LL[k].2.1 ≤ 9223372036854775807 := by
              rcases hrm with ⟨h1, -, -⟩ | h
              · rw [HX.out.1] at h1; cases h1
              · exact h
            rw [HX.out.1] at e'
            cases e'
            rw [HX.out.2] at hro
            obtain ⟨u0, s0, f0⟩ := hro.cell (j := q * 3) (by omega)
            obtain ⟨u1, s1, f1⟩ := hro.cell (j := q * 3 + 1) (by omega)
            obtain ⟨u2, s2, f2⟩ := hro.cell (j := q * 3 + 2) (by omega)
            have eq1 := IntWalk.i64_in ((q : Int) + 1) (by omega)
            have HKW := Lib.hid (hK.write HOFF.out HAP.out hkl HX.out.1 (k := q) (by rw [HX.out.2]; exact hlq) (.int .i64 (100 + (k : Int))) (.int .i64 0) (.int .i64 0))
            clear hK hrm hro
            go_wp2_with fail
            go_roundw
            case rel => exact ⟨q + 1, by go_num, by omega, HKW.out.1, Lib.hid fun q' h => by
              by_cases he : q' = q
              · subst he; exact HKW.out.2.1
              · exact (HKW.out.2.2 q' he).trans (HMK.out q' (by omega))⟩
            case measure => simp [intOf]; omega
          · have hqq : q = q0 := by omega
            have HKN := Lib.hid (hK.next fun hi b' q' e hq' => by
              rw [HX.out.1] at e
              cases e
              rw [HX.out.2] at hq'
              exact HMK.out q' (by omega))
            clear hK
            go_wp2_with fail
            go_roundw
            case rel => exact ⟨k + 1, by go_num, by omega, HKN.out⟩
            case measure => simp [intOf]; omega
    · obtain rfl : k = N := by omega
      have HKE := Lib.hid hK
      clear hK hk
      go_wp2_with fail
      obtain ⟨wo, rfl⟩ : ∃ wo : World, wo = wr := ⟨_, rfl⟩
      go_loopw [22] (fun i wr => ∃ q : Nat, i = .int .i64 (q : Int) ∧ q ≤ k ∧ wr = wo) (fun i _ => k - (intOf i).toNat)
      case atStart => exact ⟨0, rfl, Nat.zero_le _, rfl⟩
      case round =>
        obtain ⟨q, rfl, hq, rfl⟩ := hrel
        by_cases hlq : q < k
        · have hql : q < LL.length := by rw [HLN.out]; exact hlq
          obtain ⟨x, hx⟩ : ∃ x, LL[q] = x := ⟨_, rfl⟩
          have c0 : wr.cell? ⟨gr, 0 + q, none⟩ = some (rowV x) := HKE.out.all.cell (by rw [List.getElem?_map, List.getElem?_eq_getElem hql, hx]; rfl)
          rw [Nat.zero_add] at c0
          have hrm := HKE.out.room x (by rw [← hx]; exact List.getElem_mem hql)
          have hmk := HKE.out.mark q hlq hql
          rw [hx] at hmk
          have eq1 := IntWalk.i64_in ((q : Int) + 1) (by omega)
          have e100 := IntWalk.i64_in (100 + (q : Int)) (by omega)
          obtain ⟨A0, q0, z0⟩ := x
          obtain ⟨n0, hn0⟩ : ∃ n0, z0.length = n0 := ⟨_, rfl⟩
          have c0' : wr.cell? ⟨gr, q, none⟩ = some (.slice A0 n0 q0) := by rw [c0]; unfold rowV; rw [← hn0]
          have HMK := Lib.hid (show ∀ j, j < n0 → ∃ b, A0 = some ⟨b, 0, none⟩ ∧ wr.cell? ⟨b, j * 3, none⟩ = some (.int .i64 (100 + (q : Int))) from fun j hj => by
            rcases hrm with ⟨-, -, h⟩ | ⟨b, h1, -, -, -, h2, -⟩
            · simp only at h; subst h; simp at hn0; omega
            · exact ⟨b, h1, hmk b j h1 (by simp only at h2 ⊢; omega)⟩)
          have hn9 : n0 ≤ 9223372036854775807 := by
            rcases hrm with ⟨-, -, h⟩ | ⟨b, h1, -, -, -, h2, h3⟩
            · simp only at h; subst h; simp at hn0; omega
            · simp only at h2 h3; omega
          clear hrm hmk hx c0 hn0
          go_wp2_with fail
          go_loopw [23] (fun j wj => ∃ p : Nat, j = .int .i64 (p : Int) ∧ p ≤ n0 ∧ wj = wr) (fun j _ => n0 - (intOf j).toNat)
          case atStart => exact ⟨0, rfl, Nat.zero_le _, rfl⟩
          case round =>
            obtain ⟨p, rfl, hp, rfl⟩ := hrel
            by_cases hlp : p < n0
            · obtain ⟨b, rfl, cb⟩ := HMK.out p hlp
              have ep1 := IntWalk.i64_in ((p : Int) + 1) (by omega)
              go_wp2_with fail
              go_roundw
              case rel => exact ⟨p + 1, by go_num, by omega, by trivial⟩
              case measure => simp [intOf]; omega
            · go_wp2_with fail
              go_roundw
              case rel => exact ⟨q + 1, by go_num, by omega, by trivial⟩
              case measure => simp [intOf]; omega
        · obtain ⟨sa, sb, hlim, ra, rb, hbw⟩ := HF5.out _ HKE.out.bl
          have HBW := Lib.hid hbw
          have HSA := Lib.hid (show ∀ W, Below wr.heap.size wr W → SpareAt W ga n ka t 77 ∧ SpareAt W gb m kb u 78 ∧ RowIn W A n c t ∧ RowIn W B m d u from fun W hb => ⟨sa.below sa.lt hb, sb.below sb.lt hb, ra.below hb, rb.below hb⟩)
          have HSU := Lib.hid (subst_any A B n c m d t u 0 wr HN.out ra.sl ra.ho HM.out rb.sl rb.ho hlim (by unfold I64; omega))
          rw [he6] at *
          clear sa sb hlim ra rb hbw
          go_wp2_with fail
          refine (HSU.out.mono fun _ _ h => h.in_).mono ?_
          rintro e y1 ⟨Ay, ny, cy, rfl, hry, hby⟩
          have HBY := Lib.hid hby
          have HRY := Lib.hid hry
          have hsp1 := HSA.out _ hby
          have HRS := Lib.hid (rsubst_any A B n c m d t u 0 y1 HN.out hsp1.2.2.1.sl hsp1.2.2.1.ho HW.out HM.out hsp1.2.2.2.sl hsp1.2.2.2.ho HWU.out (by unfold I64; omega))
          clear hry hby hsp1 HSU
          obtain ⟨es, hes⟩ : ∃ es, (substS t u 0).2 = es := ⟨_, rfl⟩
          rw [hes]
          go_wp2_with fail
          refine (HRS.out.mono fun _ _ h => h.in_).mono ?_
          rintro e y2 ⟨Az, nz, cz, rfl, hrz, hbz⟩
          rw [hes]
          have HBZ := Lib.hid (below_step HBY.out hbz)
          have HRZ := Lib.hid hrz
          have HRX := Lib.hid (HRY.out.below hbz)
          have hsp2 := HSA.out _ HBZ.out
          have HS1 := Lib.hid (same_in hsp2.1.row hsp2.2.2.1 (by omega) true (by simp))
          have hca := cut_nodes ga n (n + 1) ka (by omega)
          have hcb := cut_nodes gb m (m + 1) kb (by omega)
          clear hrz hbz hsp2 HRS
          go_wp2_with fail
          refine (HS1.out).mono ?_
          rintro e y3 ⟨rfl, hb3⟩
          have HB3 := Lib.hid (below_step HBZ.out hb3)
          have HX3 := Lib.hid hb3
          have hsp3 := HSA.out _ HB3.out
          have HS2 := Lib.hid (same_in hsp3.2.1.row hsp3.2.2.2 (by omega) true (by simp))
          clear hb3 hsp3
          go_wp2_with fail
          refine (HS2.out).mono ?_
          rintro e y4 ⟨rfl, hb4⟩
          have HB4 := Lib.hid (below_step HB3.out hb4)
          have HX4 := Lib.hid (below_step HX3.out hb4)
          have c77 := (HSA.out _ HB4.out).1.last
          have c78 := (HSA.out _ HB4.out).2.1.last
          have HS3 := Lib.hid (same_in (HRX.out.below HX4.out) (HRZ.out.below HX4.out) (by have := HRX.out.len; have := subst_len t u 0; omega) true (by simp))
          clear hb4
          go_wp2_with fail
          refine (HS3.out).mono ?_
          rintro e y5 ⟨rfl, hb5⟩
          have HB5 := Lib.hid (below_step HB4.out hb5)
          clear hb5 c77 c78
          go_wp2_with fail
          go_ret
          exact ⟨rfl, below_step HBW.out HB5.out⟩
end Go.Proofs.YtkkkblghihheeaaDoor
namespace Go.Proofs.YtkkkblghihheeaaDoor
open Go.ChangeShapes Go.WideShapes Go.ChangeAt Go.RowKit

set_option maxRecDepth 100000 in
theorem termKeeps_lifted (os : Os) (started : os.Started) (H : Type) (enc : TypeId × Value → H) :
    ReturnsInHanded {} Tryd.checked os 12 .any (fun w args => (Rows.termKeepsSpec.pre enc Tryd.prog Tryd.f12 [] false w args ∧ laidMetH Tryd.prog laidV w) ∧ sizedMet enc Tryd.prog Tryd.f12 (OpenSpec.ofChange Rows.termKeepsSpec) false w args)
      (Rows.termKeepsSpec.post enc Tryd.prog Tryd.f12 false true false false) := by
  refine returnsInHanded_of_change_and (C := Tryd.checked) (X := fun w _ => laidMetH Tryd.prog laidV w) (fun _ _ _ hh h => h.of_heap hh) Tryd.own started (by kernel_rfl) Tryd.func12
    (ChangeSpec.witness_shaped (enc := enc) (C := Tryd.checked) (os := os) (X := fun w _ => laidMetH Tryd.prog laidV w) false (World.doorLaid Tryd.prog 400 os) #[.slice none 0 0, .slice none 0 0] 8 rfl (World.shaped_of_RefB (by kernel_rfl) (by kernel_rfl)) (by kernel_rfl) (by kernel_rfl) (by kernel_rfl) (door_met os _)) ?_
  intro W base args ds gs before hval0 hW _ _ hL _
  have hval : ∀ (j : Nat) t v, Tryd.f12.params[j]? = some t → args[j]? = some v → Value.okWide Tryd.prog W .any base t v := hval0
  have hW' := hW
  obtain ⟨p, q, hA0, hV, rfl, hfz, hnd⟩ := hW
  have hA : DataW.TrodAll enc Tryd.prog W 0 (fun _ => true) true Tryd.f12.params.toList args.toList ds p := hA0
  have hlt : ∀ x ∈ p, x.block < W.heap.size := fun x hx => by simpa using hW'.lt x (List.mem_append_left _ hx)
  have hkeep : ∀ W', Below W.heap.size W W' → DataW.TrodAll enc Tryd.prog W' 0 (fun b => decide (b < W.heap.size)) true Tryd.f12.params.toList args.toList ds p :=
    fun W' hb => trodAll_below Tryd.laidOut hb (by kernel_rfl) hA hlt
  rw [Tryd.params12] at hA hval
  obtain ⟨v0, v1, d0, d1, p0, p1, rfl, rfl, rfl, g0, g1⟩ := trodAll_two hA
  obtain ⟨rfl, rfl⟩ := trodVars_none hV
  obtain ⟨A0, c0, l0, rfl, s0, h0, wd0⟩ := open_nodes (hval 0 23 v0 rfl rfl) g0
  obtain ⟨A1, c1, l1, rfl, s1, h1, wd1⟩ := open_nodes (hval 1 23 v1 rfl rfl) g1
  have hLim := lim_of_laid hL
  clear hA0 hval0 hL
  refine (tkeeps_any A0 A1 _ c0 _ c1 l0 l1 W rfl s0 h0 wd0 rfl s1 h1 wd1 hLim).mono fun e W' ⟨he, hb⟩ => ?_
  subst he
  exact ⟨_, rfl, _, _, _, [], _, [], hW', trodAll_mk1 (shut_bool Tryd.underlying4 true), hkeep W' hb, rfl, hb.frame _, fun h => by cases h⟩
/-- TermKeeps: whatever the input, it answers true, and the input reads as it did. -/
theorem termKeeps_row : Rows.TermKeepsSaid :=
  OpenClaim.holds_of_wide 12 Tryd.f12 rfl rfl rfl rfl rfl rfl rfl ⟨rfl, rfl, rfl, rfl, rfl⟩ rfl rfl rfl rfl rfl (by kernel_rfl) Tryd.func12 (by kernel_rfl)
    (of_decide_eq_true (by kernel_rfl)) (by unfold Func.isWrapper; first | (rw [if_pos (by decide +kernel)]; kernel_rfl) | (rw [if_neg (by decide +kernel)]; exact ⟨rfl, rfl⟩))
    (fun os started H enc _ => termKeeps_lifted os started H enc)
/-- The card: the variable limits is tied to the program's text. -/
theorem termKeeps_holds : Rows.TermKeepsCardSaid :=
  Claim7.holds_tied_plain_at .later [] [.data] true _ true termKeeps_row (fun _ h => by cases h) (by kernel_rfl) (fun _ h => by cases h) termKeeps_row_tie rfl ⟨rfl, rfl⟩ (by kernel_rfl) rfl
    (fun f fn hf hfn => by
      obtain rfl : f = 12 := Option.some.inj ((show Tryd.prog.funcNamed "retort/retortlaw04.TermKeeps" = some 12 by kernel_rfl).symm.trans hf) |>.symm
      obtain rfl : fn = Tryd.f12 := (Option.some.inj (Tryd.func12.symm.trans hfn)).symm
      exact ⟨by kernel_rfl, fun j t ht => by
        rw [Tryd.params12] at ht
        have hm : t ∈ [23, 23] := by simpa using Array.mem_of_getElem? ht
        have hall : ([23, 23].all fun u => !Tryd.prog.wantsStandIn u) = true := by kernel_rfl
        exact (show Tryd.prog.wantsStandIn t = false by simpa using List.all_eq_true.1 hall t hm)⟩)
    (by kernel_rfl)
end Go.Proofs.YtkkkblghihheeaaDoor
