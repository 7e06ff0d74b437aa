/- The document's answer: Times. -/
import Derived.Test.YtkkkblghihheeaaDoorTFold2
import Derived.Test.YtkkkblghihheeaaDoorTGreat
namespace Go.Proofs.YtkkkblghihheeaaDoor
open Go.RowKit

theorem ret_two {a b c d : Int} (h : a = c) (h' : b = d) : Ending.returned (.tuple #[.int .i64 a, .int .i64 b]) = .returned (.tuple #[.int .i64 c, .int .i64 d]) := by rw [h, h']
set_option maxRecDepth 100000 in
set_option maxHeartbeats 4000000 in
theorem times_any : ∀ (N : Nat) (v : TV) (a : Ann) (w : World) (G : Nat → Prop) (D u : Nat), D ≤ 4000000 → DeepA D a → a.length ≤ N → TreeAt w G v a → SmallA a → u + 4 * a.length ≤ 4000000 →
    Calls Tryd.prog 61 #[v.val, .int .i64 (u : Int)] w fun e w' => e = .returned (.tuple #[.int .i64 (tmN u a : Nat), .int .i64 (tmD u a : Nat)]) ∧ Below w.heap.size w w' := by
  intro N
  induction N with
  | zero =>
    intro v a w G D u hD hdp hN h
    cases h with
    | mk v ks ats fs hs hK hA hF hv sub => exact absurd hN (by simp [treeA])
  | succ N ih =>
    intro v a w G D u hD hdp hN h hsm hu
    cases h with
    | mk v ks ats fs hs hK hA hF hv sub =>
    obtain ⟨⟨op, A, B⟩, K, nk, ck, P, na, ca, F, nf, cf⟩ := v
    simp only at hN hsm hu hK hA hF hdp
    have htop := hsm.top
    simp only at htop
    by_cases h1 : op = 1
    · obtain ⟨hk0, ha0, hz0⟩ := hs.var h1
      have e1 := List.eq_nil_of_length_eq_zero hk0
      have e2 := List.eq_nil_of_length_eq_zero ha0
      subst h1 e1 e2
      rw [List.map_nil]
      dsimp only [TV.val]
      by_cases hc : A = (u : Int)
      · have HN : Hid ((1 : Int) = (tmN u (treeA (1, A, B) [] fs []) : Nat)) := Lib.hid (by simp [treeA, kidsA, tmN, hitB, hc])
        have HD : Hid ((0 : Int) = (tmD u (treeA (1, A, B) [] fs []) : Nat)) := Lib.hid (by simp [treeA, kidsA, tmD, hitB, hc])
        subst hc
        clear hs hK hA hF hv sub ih hN hsm hdp
        go_enter Tryd.func61, Tryd.ntmps61
        go_wp2_with fail
        go_ret2
        exact ⟨ret_two HN.out HD.out, (Below.refl _ _).alloc (Nat.le_refl _) _⟩
      · have HN : Hid ((0 : Int) = (tmN u (treeA (1, A, B) [] fs []) : Nat)) := Lib.hid (by simp [treeA, kidsA, tmN, hitB, hc])
        have HD : Hid ((0 : Int) = (tmD u (treeA (1, A, B) [] fs []) : Nat)) := Lib.hid (by simp [treeA, kidsA, tmD, hitB, hc])
        have e1 : (A == (u : Int)) = false := by simpa using hc
        clear hs hK hA hF hv sub ih hN hsm hdp
        go_enter Tryd.func61, Tryd.ntmps61
        go_wp2_with fail
        go_ret2
        exact ⟨ret_two HN.out HD.out, (Below.refl _ _).alloc (Nat.le_refl _) _⟩
    · have e1 : (op == 1) = false := by simpa using h1
      have hfx := hs.fix
      have hnk := hs.nk
      simp only at hfx hnk
      subst hnk
      have HFX := Lib.hid (show (op, A, B).1 = 12 → 0 ≤ (op, A, B).2.2 from fun h => (hfx h).1)
      have hb0 : Below w.heap.size w (w.alloc (.cells #[.int .i64 op, .int .i64 A, .int .i64 B, .slice K ks.length ck, .slice P na ca, .slice F nf cf] 59)) := (Below.refl _ _).alloc (Nat.le_refl _) _
      have x0 := Whole.new w #[.int .i64 op, .int .i64 A, .int .i64 B, .slice K ks.length ck, .slice P na ca, .slice F nf cf] 59
      have HB0 := Lib.hid hb0
      have HX := Lib.hid x0
      have HSUB : Hid (∀ (k : Nat) (hk : k < ks.length) w1, Below w.heap.size w w1 → Calls Tryd.prog 61 #[TV.val ks[k].1, .int .i64 ((u : Int) + ((aroundN (op, A, B) k : Nat) : Int))] w1 fun e w' => e = .returned (.tuple #[.int .i64 (tmN (u + aroundN (op, A, B) k) ks[k].2 : Nat), .int .i64 (tmD (u + aroundN (op, A, B) k) ks[k].2 : Nat)]) ∧ Below w1.heap.size w1 w') := Lib.hid fun k hk w1 hb => by
        have hm : ks[k].2 ∈ ks.map Prod.snd := List.mem_map.2 ⟨_, List.getElem_mem hk, rfl⟩
        have hl := treeA_len (n := (op, A, B)) (ats := ats) (fs := fs) hm
        have ha := around_le (n := (op, A, B)) (fun h => (hfx h).2.1) k
        have := ih ks[k].1 ks[k].2 w1 G D (u + aroundN (op, A, B) k) hD (hdp.kid hm) (by omega) ((sub _ (List.getElem_mem hk)).next hb) (hsm.kid hm) (by omega)
        rwa [Int.natCast_add] at this
      have HSTN : Hid (∀ (k : Nat) (hk : k < ks.length), tmN u (treeA (op, A, B) ats fs ((ks.map Prod.snd).take k)) + tmN (u + aroundN (op, A, B) k) ks[k].2 = tmN u (treeA (op, A, B) ats fs ((ks.map Prod.snd).take (k + 1)))) := Lib.hid fun k hk => by
        rw [tmN_step (by simpa using hk) (fun x hx => hv x (.inr hx))]
        simp only [List.getElem_map]
      have HSTD : Hid (∀ (k : Nat) (hk : k < ks.length), (if 0 < tmN (u + aroundN (op, A, B) k) ks[k].2 then (if tmD u (treeA (op, A, B) ats fs ((ks.map Prod.snd).take k)) < tmD (u + aroundN (op, A, B) k) ks[k].2 + aroundN (op, A, B) k then tmD (u + aroundN (op, A, B) k) ks[k].2 + aroundN (op, A, B) k else tmD u (treeA (op, A, B) ats fs ((ks.map Prod.snd).take k))) else tmD u (treeA (op, A, B) ats fs ((ks.map Prod.snd).take k))) = tmD u (treeA (op, A, B) ats fs ((ks.map Prod.snd).take (k + 1)))) := Lib.hid fun k hk => by
        rw [tmD_step (by simpa using hk) (fun x hx => hv x (.inr hx))]
        simp only [List.getElem_map]
        split
        · split <;> omega
        · rfl
      have HBD : Hid (∀ (k : Nat) (hk : k < ks.length), tmN u (treeA (op, A, B) ats fs ((ks.map Prod.snd).take k)) ≤ 4000000 ∧ tmN (u + aroundN (op, A, B) k) ks[k].2 ≤ 4000000 ∧ tmD u (treeA (op, A, B) ats fs ((ks.map Prod.snd).take k)) ≤ 4000000 ∧ tmD (u + aroundN (op, A, B) k) ks[k].2 ≤ 4000000 ∧ aroundN (op, A, B) k ≤ 4) := Lib.hid fun k hk => by
        have hm : ks[k].2 ∈ ks.map Prod.snd := List.mem_map.2 ⟨_, List.getElem_mem hk, rfl⟩
        have l1 := treeA_len (n := (op, A, B)) (ats := ats) (fs := fs) hm
        have l2 := treeA_take_len (n := (op, A, B)) (ats := ats) (fs := fs) (ks := ks.map Prod.snd) k
        have l3 := tmN_le u (treeA (op, A, B) ats fs ((ks.map Prod.snd).take k))
        have l4 := tmN_le (u + aroundN (op, A, B) k) ks[k].2
        have l5 := tmD_le u (K := D) (a := (treeA (op, A, B) ats fs ((ks.map Prod.snd).take k))) fun x hx => hdp x (treeA_sub x hx)
        have l6 := tmD_le (u + aroundN (op, A, B) k) (hdp.kid hm)
        exact ⟨by omega, by omega, by omega, by omega, around_le (n := (op, A, B)) (fun h => (hfx h).2.1) k⟩
      have HST : Hid (0 = tmN u (treeA (op, A, B) ats fs ((ks.map Prod.snd).take 0)) ∧ 0 = tmD u (treeA (op, A, B) ats fs ((ks.map Prod.snd).take 0))) := Lib.hid (by
        rw [List.take_zero, (tm_none (top_noVar h1 fun x hx => hv x (.inl hx))).1, (tm_none (top_noVar h1 fun x hx => hv x (.inl hx))).2]
        exact ⟨rfl, rfl⟩)
      have HEND : Hid ((treeA (op, A, B) ats fs ((ks.map Prod.snd).take ks.length)) = treeA (op, A, B) ats fs (ks.map Prod.snd)) := Lib.hid (by rw [List.take_of_length_le (by simp)])
      have hkl : ks.length ≤ 1000000 := by
        have := kids_count (n := (op, A, B)) (ats := ats) (fs := fs) sub
        omega
      have HK := Lib.hid hK.1
      have HSL := Lib.hid hs.sk
      clear hs hK hA hF hv sub ih hN hsm hfx hb0 x0 hdp
      dsimp only [TV.val]
      go_enter Tryd.func61, Tryd.ntmps61
      go_wp2_with fail
      go_loopw [6, 7, 8] (fun m d i wr => ∃ k : Nat, i = .int .i64 (k : Int) ∧ k ≤ ks.length ∧ m = .int .i64 (tmN u (treeA (op, A, B) ats fs ((ks.map Prod.snd).take k)) : Nat) ∧ d = .int .i64 (tmD u (treeA (op, A, B) ats fs ((ks.map Prod.snd).take k)) : Nat) ∧ Hid (Below (w.heap.size + 1) (w.alloc (.cells #[.int .i64 op, .int .i64 A, .int .i64 B, .slice K ks.length ck, .slice P na ca, .slice F nf cf] 59)) wr)) (fun _ _ i _ => ks.length - (intOf i).toNat)
      case atStart => exact ⟨0, rfl, Nat.zero_le _, by rw [← HST.out.1]; rfl, by rw [← HST.out.2]; rfl, Lib.hid (Below.refl _ _)⟩
      case round =>
        obtain ⟨k, rfl, hk, rfl, rfl, HBR⟩ := hrel
        have xr := HX.out.below HBR.out (by omega)
        have c0 : wr.cell? ⟨w.heap.size, 0, none⟩ = some (.int .i64 op) := xr.cell 0
        have c1 : wr.cell? ⟨w.heap.size, 1, none⟩ = some (.int .i64 A) := xr.cell 1
        have c2 : wr.cell? ⟨w.heap.size, 2, none⟩ = some (.int .i64 B) := xr.cell 2
        have c3 : wr.cell? ⟨w.heap.size, 3, none⟩ = some (.slice K ks.length ck) := xr.cell 3
        have HB := Lib.hid (HB0.out.trans (HBR.out.mono (by omega)))
        have HRD := Lib.hid (show ∀ w2, Below wr.heap.size wr w2 → Below (w.heap.size + 1) (w.alloc (.cells #[.int .i64 op, .int .i64 A, .int .i64 B, .slice K ks.length ck, .slice P na ca, .slice F nf cf] 59)) w2 from fun w2 hb => HBR.out.trans (hb.mono (by have := HBR.out.size; rw [World.size_alloc] at this; exact this)))
        have HXR := Lib.hid xr
        clear xr
        by_cases hlt : k < ks.length
        · obtain ⟨g, o, rfl, hg, -⟩ := (HK.out.below HB.out).at_ (by rw [treesV_len, List.length_map]; omega)
          have HCS := Lib.hid fun w1 (hb : Below wr.heap.size wr w1) => kid_cells (k := k) ((HK.out.below HB.out).below hb) (by rw [List.length_map]; exact hlt)
          simp only [List.getElem_map] at HCS
          have HREC := Lib.hid (HSUB.out k hlt)
          have HS1 := Lib.hid (HSTN.out k hlt)
          have HS2 := Lib.hid (HSTD.out k hlt)
          obtain ⟨b1, b2, b3, b4, b5⟩ := HBD.out k hlt
          obtain ⟨d, hd⟩ : ∃ d, aroundN (op, A, B) k = d := ⟨_, rfl⟩
          rw [hd] at b2 b4 b5 HREC HS1 HS2
          have HD := Lib.hid hd
          obtain ⟨x, hx⟩ : ∃ x, ks[k].1 = x := ⟨_, rfl⟩
          rw [hx] at HCS HREC
          clear hd hx
          obtain ⟨⟨xo, xA, xB⟩, xK, xnk, xck, xP, xnp, xcp, xF, xnf, xcf⟩ := x
          generalize tmN u (treeA (op, A, B) ats fs ((ks.map Prod.snd).take k)) = n0 at *
          generalize tmD u (treeA (op, A, B) ats fs ((ks.map Prod.snd).take k)) = d0 at *
          generalize tmN (u + d) ks[k].2 = n1 at *
          generalize tmD (u + d) ks[k].2 = d1 at *
          go_wp2_with fail
          refine (around_any (op, A, B) k _ (by omega) HFX.out).mono ?_
          rintro e w1 ⟨rfl, hb1⟩
          rw [HD.out]
          have xr1 := HXR.out.below (hb1) HXR.out.lt
          have c3 : w1.cell? ⟨w.heap.size, 3, none⟩ = some (.slice (some ⟨g, o, none⟩) ks.length ck) := xr1.cell 3
          have r0 := HCS.out w1 hb1 0 _ rfl
          have r1 := HCS.out w1 hb1 1 _ rfl
          have r2 := HCS.out w1 hb1 2 _ rfl
          have r3 := HCS.out w1 hb1 3 _ rfl
          have r4 := HCS.out w1 hb1 4 _ rfl
          have r5 := HCS.out w1 hb1 5 _ rfl
          rw [Nat.add_zero] at r0
          have HB1 := Lib.hid hb1
          clear hb1 xr1 c0 c1 c2
          go_wp2_with fail
          refine (HREC.out w1 (below_step HB.out HB1.out)).mono ?_
          rintro e w2 ⟨rfl, hb2⟩
          have HB2 := Lib.hid hb2
          clear hb2 c3 r0 r1 r2 r3 r4 r5
          by_cases hp : 0 < n1
          · rw [if_pos hp] at HS2
            by_cases hq : d0 < d1 + d
            · rw [if_pos hq] at HS2
              go_wp2_with fail
              go_roundw
              case rel => exact ⟨k + 1, by go_num, by omega, by rw [← HS1.out]; go_num, by rw [← HS2.out]; go_num, Lib.hid (HRD.out _ (below_step HB1.out HB2.out))⟩
              case measure => simp [intOf] <;> omega
            · rw [if_neg hq] at HS2
              go_wp2_with fail
              go_roundw
              case rel => exact ⟨k + 1, by go_num, by omega, by rw [← HS1.out]; go_num, by rw [← HS2.out], Lib.hid (HRD.out _ (below_step HB1.out HB2.out))⟩
              case measure => simp [intOf] <;> omega
          · rw [if_neg hp] at HS2
            go_wp2_with fail
            go_roundw
            case rel => exact ⟨k + 1, by go_num, by omega, by rw [← HS1.out]; go_num, by rw [← HS2.out], Lib.hid (HRD.out _ (below_step HB1.out HB2.out))⟩
            case measure => simp [intOf] <;> omega
        · have hkm : k = ks.length := by omega
          have HE : Hid ((treeA (op, A, B) ats fs ((ks.map Prod.snd).take k)) = treeA (op, A, B) ats fs (ks.map Prod.snd)) := Lib.hid (by rw [hkm]; exact HEND.out)
          clear hkm
          go_wp2_with fail
          go_ret2
          exact ⟨ret_two (by rw [HE.out]) (by rw [HE.out]), HB.out⟩
end Go.Proofs.YtkkkblghihheeaaDoor
