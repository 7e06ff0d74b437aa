/- term.growing: putLifted. -/
import Derived.Test.YtkkkblghihheeaaDoorTGrow
import Derived.Test.YtkkkblghihheeaaDoorTRegion2
namespace Go.Proofs.YtkkkblghihheeaaDoor
open Go.RowKit

set_option maxHeartbeats 4000000 in
theorem putLifted_any (g : Nat) (L t : List Node3) (v : Value) (A : Option Addr) (m c : Nat) (by_ : Int) (a : Ann) (e0 : Node3) (w : World) (h : GrowAt w g L v) (hm : t.length = m) (h0 : 0 < m) (hmb : m ≤ 4096) (hs : Slice A m c) (hA : Holds w A (nodesV t)) (hLim : Lim w) (hg0 : g ≠ 0) (hg : ∀ b o, A = some ⟨b, o, none⟩ → b ≠ g)
    (hW : W t (0, 0, 0) [⟨0, 0⟩] = some (a, [], e0)) (hb0 : 0 ≤ by_) (hby : ∀ x ∈ a, 0 ≤ freeN x.1 x.2 → 0 ≤ freeN x.1 x.2 → x.1.2.1 + by_ ≤ 1048576) (hb : L.length + m ≤ 1000000000) :
    Calls Tryd.prog 68 #[.pointer (some ⟨g, 0, none⟩), .slice A m c, .int .i64 by_] w (PutPost g (L ++ a.map (liftX by_ 0)) v w) := by
  have hal : (a.map (liftX by_ 0)).length = m := by
    have hrow := (W_row _ _ _ _ _ _ hW).1
    rw [List.append_nil] at hrow
    rw [List.length_map, ← hm, hrow, List.length_map]
  have HFI := Lib.hid (fits_any g L.length m v w h.whole hb)
  by_cases hf : L.length + m ≤ 4096
  · have PR := Lib.hid fun w1 w2 v' => put_room (w1 := w1) (w2 := w2) (v' := v') h hal hf
    obtain ⟨l, hl, h1, h2⟩ := h.own
    obtain rfl := h2 (by omega)
    have ho : Only (fun k => k = g) w (w.setCell ⟨g, 1, none⟩ (.int .i64 ((l.length : Int) + (m : Int)))) := (Only.refl (fun k => k = g) w).set_ (.inl rfl) 1 _
    have hw1 := h.whole.set_ 1 (.int .i64 ((l.length : Int) + (m : Int)))
    have hl1 := own_only hl ho fun k hk e => h.ne (e ▸ hk)
    have hA1 := hA.only ho hg
    have hL1 : Lim (w.setCell ⟨g, 1, none⟩ (.int .i64 ((l.length : Int) + (m : Int)))) := Holds.only hLim ho fun b o e => by cases e; exact fun h => hg0 h.symm
    have hli := lifted_any A m c t by_ 0 a e0 ((w.setCell ⟨g, 1, none⟩ (.int .i64 ((l.length : Int) + (m : Int)))).drew) hm hs h0 (by omega) hA1 hL1 hW hb0 hby
    have c0 : (w.setCell ⟨g, 1, none⟩ (.int .i64 ((l.length : Int) + (m : Int)))).cell? ⟨g, 0, none⟩ = some v := hw1.cell 0
    rw [decide_eq_true hf] at HFI
    have HX : Hid (Whole ((w.setCell ⟨g, 1, none⟩ (.int .i64 ((l.length : Int) + (m : Int)))).drew) g _ 80) := Lib.hid hw1
    have HL : Hid (((w.setCell ⟨g, 1, none⟩ (.int .i64 ((l.length : Int) + (m : Int)))).drew).ownsRow 0 53 3 v l.length (nodesV l)) := Lib.hid hl1
    have HLI := Lib.hid hli
    have HSZ : Hid (w.heap.size ≤ (w.setCell ⟨g, 1, none⟩ (.int .i64 ((l.length : Int) + (m : Int)))).heap.size) := Lib.hid (by simp [World.setCell])
    have HM := Lib.hid hal
    have HNE := Lib.hid h.ne
    have hll : l.length + m ≤ 1000000000 := hb
    clear hw1 hl1 hA1 hA hl h hm ho h2 hli hal hL1 hLim hW hby h0 hg
    go_enter Tryd.func68, Tryd.ntmps68
    go_wp2_with fail
    refine (HFI.out).mono ?_
    rintro e w1 ⟨rfl, rfl⟩
    generalize hW1 : w.setCell ⟨g, 1, none⟩ (.int .i64 ((l.length : Int) + (m : Int))) = W1 at *
    clear hW1
    go_wp2_with fail
    have cd : W1.drew.cell? ⟨g, 0, none⟩ = some v := c0
    refine region_begin_any (S := fun _ => True) (by kernel_rfl) (trivial) (fun W hW hHeld => ?_)
    subst hW
    refine region_take 0 ?_ rfl (by kernel_rfl) (by rfl) hHeld ?_ ?_
    rotate_left
    · intro w hSw
      (try dsimp only at hSw)
      go_simp
      try with_reducible rfl
    try simp only [Act.put, List.setIfInBounds_toArray, List.set_cons_zero, List.set_cons_succ]
    refine region_take 1 ?_ rfl (by kernel_rfl) (by rfl) hHeld ?_ ?_
    rotate_left
    · intro w hSw
      (try dsimp only at hSw)
      go_simp
      try with_reducible rfl
    try simp only [Act.put, List.setIfInBounds_toArray, List.set_cons_zero, List.set_cons_succ]
    refine region_take 2 ?_ rfl (by kernel_rfl) (by rfl) hHeld ?_ ?_
    rotate_left
    · intro w hSw
      (try dsimp only at hSw)
      go_simp
      try with_reducible rfl
    try simp only [Act.put, List.setIfInBounds_toArray, List.set_cons_zero, List.set_cons_succ]
    refine region_take 3 ?_ rfl (by kernel_rfl) (by rfl) hHeld ?_ ?_
    rotate_left
    · intro w hSw
      (try dsimp only at hSw)
      go_simp
      try with_reducible rfl
    try simp only [Act.put, List.setIfInBounds_toArray, List.set_cons_zero, List.set_cons_succ]
    refine region_take 5 ?_ rfl (by kernel_rfl) (by rfl) hHeld ?_ ?_
    rotate_left
    · intro w hSw
      (try dsimp only at hSw)
      go_simp
      try with_reducible rfl
    try simp only [Act.put, List.setIfInBounds_toArray, List.set_cons_zero, List.set_cons_succ]
    refine region_take 6 ?_ rfl (by kernel_rfl) (by rfl) hHeld ?_ ?_
    rotate_left
    · intro w hSw
      (try dsimp only at hSw)
      go_simp
      try with_reducible rfl
    try simp only [Act.put, List.setIfInBounds_toArray, List.set_cons_zero, List.set_cons_succ]
    refine region_two 4 7 rfl rfl (by kernel_rfl) (by rfl) (by rfl) (fun K hK => ?_) (fun K hK => ?_)
    · go_simp
      refine hK.out _ _ (trivial) (fun hHeld => ?_)
      clear hK K
      try simp only [Act.put, List.setIfInBounds_toArray, List.set_cons_zero, List.set_cons_succ]
      refine region_call 7 rfl (by kernel_rfl) (by rfl) (fun K hK => ?_)
      go_simp
      go_at_call 55
      refine (HLI.out).mono ?_
      rintro e w2 ⟨A1, c1, rfl, hown1, hb2⟩
      refine hK.out _ _ (trivial) (fun hHeld => ?_)
      clear hK K
      have c02 : w2.cell? ⟨g, 0, none⟩ = some v := (HX.out.below (w' := w2) hb2 HX.out.lt).cell 0
      obtain ⟨A1', c1', e1, hs1, -⟩ := own_slice hown1
      cases e1
      have HN1 := Lib.hid (own_holds hown1)
      have HB2 := Lib.hid hb2
      clear hown1 hb2
      try simp only [Act.put, List.setIfInBounds_toArray, List.set_cons_zero, List.set_cons_succ]
      refine region_call 8 rfl (by kernel_rfl) (by rfl) (fun K hK => ?_)
      refine wp_append_at (.tmp 14) (.tmp 17) 23 23 _ rfl Tryd.underlying23 53 _ 3 24 infoNode rfl (by decide) Tryd.underlying23 v l.length m _ _ rfl (own_below HL.out HB2.out) A1 c1 rfl hs1 HN1.out (by rw [nodesV_len, HM.out]) nodesV_one hll (by decide) ?_
      intro v' w3 hown3 hmv3
      refine hK.out _ _ (trivial) (fun hHeld => ?_)
      clear hK K
      obtain ⟨A', c', rfl, -, -⟩ := own_slice hown3
      have c03 : w3.cell? ⟨g, 0, none⟩ = some v := ((HX.out.below (w' := w2) HB2.out HX.out.lt).only hmv3.only HNE.out).cell 0
      have f03 : w3.frozen? ⟨g, 0, none⟩ = false := ((HX.out.below (w' := w2) HB2.out HX.out.lt).only hmv3.only HNE.out).frozen 0
      have HO3 := Lib.hid hown3
      have HM3 := Lib.hid hmv3
      clear hown3 hmv3
      try simp only [Act.put, List.setIfInBounds_toArray, List.set_cons_zero, List.set_cons_succ]
      refine region_take 9 ?_ rfl (by kernel_rfl) (by rfl) hHeld ?_ ?_
      rotate_left
      · intro w hSw
        (try dsimp only at hSw)
        go_simp
        try with_reducible rfl
      try simp only [Act.put, List.setIfInBounds_toArray, List.set_cons_zero, List.set_cons_succ]
      refine region_take 10 ?_ rfl (by kernel_rfl) (by rfl) hHeld ?_ ?_
      rotate_left
      · intro w hSw
        (try dsimp only at hSw)
        go_simp
        try with_reducible rfl
      try simp only [Act.put, List.setIfInBounds_toArray, List.set_cons_zero, List.set_cons_succ]
      refine region_call 11 rfl (by kernel_rfl) (by rfl) (fun K hK => ?_)
      go_simp
      refine hK.out _ _ (trivial) (fun hHeld => ?_)
      clear hK K
      try simp only [Act.put, List.setIfInBounds_toArray, List.set_cons_zero, List.set_cons_succ]
      refine region_done (by kernel_rfl) ?_
      go_wp2_with fail
      go_end0
      exact PR.out w2 w3 _ (((Below.refl w.heap.size W1).drew).trans (HB2.out.mono HSZ.out)) (by rw [nodesV_append]; exact HO3.out) HM3.out
    · go_simp
      go_at_call 55
      refine (HLI.out).mono ?_
      rintro e w2 ⟨A1, c1, rfl, hown1, hb2⟩
      refine hK.out _ _ (trivial) (fun hHeld => ?_)
      clear hK K
      have c02 : w2.cell? ⟨g, 0, none⟩ = some v := (HX.out.below (w' := w2) hb2 HX.out.lt).cell 0
      obtain ⟨A1', c1', e1, hs1, -⟩ := own_slice hown1
      cases e1
      have HN1 := Lib.hid (own_holds hown1)
      have HB2 := Lib.hid hb2
      clear hown1 hb2
      try simp only [Act.put, List.setIfInBounds_toArray, List.set_cons_zero, List.set_cons_succ]
      refine region_call 4 rfl (by kernel_rfl) (by rfl) (fun K hK => ?_)
      go_simp
      refine hK.out _ _ (trivial) (fun hHeld => ?_)
      clear hK K
      try simp only [Act.put, List.setIfInBounds_toArray, List.set_cons_zero, List.set_cons_succ]
      refine region_call 8 rfl (by kernel_rfl) (by rfl) (fun K hK => ?_)
      refine wp_append_at (.tmp 14) (.tmp 17) 23 23 _ rfl Tryd.underlying23 53 _ 3 24 infoNode rfl (by decide) Tryd.underlying23 v l.length m _ _ rfl (own_below HL.out HB2.out) A1 c1 rfl hs1 HN1.out (by rw [nodesV_len, HM.out]) nodesV_one hll (by decide) ?_
      intro v' w3 hown3 hmv3
      refine hK.out _ _ (trivial) (fun hHeld => ?_)
      clear hK K
      obtain ⟨A', c', rfl, -, -⟩ := own_slice hown3
      have c03 : w3.cell? ⟨g, 0, none⟩ = some v := ((HX.out.below (w' := w2) HB2.out HX.out.lt).only hmv3.only HNE.out).cell 0
      have f03 : w3.frozen? ⟨g, 0, none⟩ = false := ((HX.out.below (w' := w2) HB2.out HX.out.lt).only hmv3.only HNE.out).frozen 0
      have HO3 := Lib.hid hown3
      have HM3 := Lib.hid hmv3
      clear hown3 hmv3
      try simp only [Act.put, List.setIfInBounds_toArray, List.set_cons_zero, List.set_cons_succ]
      refine region_take 9 ?_ rfl (by kernel_rfl) (by rfl) hHeld ?_ ?_
      rotate_left
      · intro w hSw
        (try dsimp only at hSw)
        go_simp
        try with_reducible rfl
      try simp only [Act.put, List.setIfInBounds_toArray, List.set_cons_zero, List.set_cons_succ]
      refine region_take 10 ?_ rfl (by kernel_rfl) (by rfl) hHeld ?_ ?_
      rotate_left
      · intro w hSw
        (try dsimp only at hSw)
        go_simp
        try with_reducible rfl
      try simp only [Act.put, List.setIfInBounds_toArray, List.set_cons_zero, List.set_cons_succ]
      refine region_call 11 rfl (by kernel_rfl) (by rfl) (fun K hK => ?_)
      go_simp
      refine hK.out _ _ (trivial) (fun hHeld => ?_)
      clear hK K
      try simp only [Act.put, List.setIfInBounds_toArray, List.set_cons_zero, List.set_cons_succ]
      refine region_done (by kernel_rfl) ?_
      go_wp2_with fail
      go_end0
      exact PR.out w2 w3 _ (((Below.refl w.heap.size W1).drew).trans (HB2.out.mono HSZ.out)) (by rw [nodesV_append]; exact HO3.out) HM3.out
  · rw [decide_eq_false hf] at HFI
    have HP := Lib.hid (put_full h hal hf)
    clear h hm hs hA hg hf hb hal hW hby hLim hg0 h0
    go_enter Tryd.func68, Tryd.ntmps68
    go_wp2_with fail
    refine (HFI.out).mono ?_
    rintro e w1 ⟨rfl, rfl⟩
    go_wp2_with fail
    go_end0
    exact HP.out
end Go.Proofs.YtkkkblghihheeaaDoor
