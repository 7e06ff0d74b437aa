/- The visitor of term.Subst. -/
import Derived.Test.YtkkkblghihheeaaDoorTPutL
import Derived.Test.YtkkkblghihheeaaDoorTFault
namespace Go.Proofs.YtkkkblghihheeaaDoor
open Go.RowKit

/-- What becomes of a node where b stands in the place of the variable at. -/
def subX (at_ : Int) (b : Ann) (x : Node3 × Nat) : List Node3 :=
  if freeN x.1 x.2 < at_ then [x.1] else if at_ < freeN x.1 x.2 then [(x.1.1, x.1.2.1 - 1, x.1.2.2)] else b.map (liftX (at_ + x.2) 0)
theorem PutPost.start {g : Nat} {L : List Node3} {v : Value} {W w1 w' : World} {e : Ending} (hb : Below W.heap.size W w1) (_hlt : ∀ k, GrowF g v k → k < W.heap.size) (h : PutPost g L v w1 e w') : PutPost g L v W e w' := by
  obtain ⟨he, v', h1, h2, h3⟩ := h
  exact ⟨he, v', h1, (Only.of_below hb).trans h2 (fun _ _ h => h), fun k hk => (h3 k hk).imp id fun h => Nat.le_trans hb.size h⟩
theorem GrowAt.below {w w' : World} {g : Nat} {L : List Node3} {v : Value} (h : GrowAt w g L v) (hb : Below w.heap.size w w') : GrowAt w' g L v := h.only (F := fun _ => False) (Only.of_below hb) fun _ _ h => h
/-- What Subst's visitor answers. -/
def Sub1Post (at_ rm : Int) (g : Nat) (L : List Node3) (b : Ann) (x : Node3 × Nat) (v : Value) (W : World) (e : Ending) (W' : World) : Prop :=
  ((freeN x.1 x.2 = at_ → at_ + x.2 ≤ rm) ∧ PutPost g (L ++ subX at_ b x) v W e W') ∨ (e = .panicked (faultP 6) ∧ freeN x.1 x.2 = at_ ∧ rm < at_ + x.2 ∧ Below W.heap.size W W')
set_option maxHeartbeats 4000000 in
theorem sub1_any (at_ rm : Int) (g : Nat) (L : List Node3) (v : Value) (A Au : Option Addr) (n c nu cu : Nat) (t u : List Node3) (b : Ann) (eu : Node3) (i : Nat) (x : Node3 × Nat) (bt bat bm bu : Nat) (w : World)
    (hG : GrowAt w g L v) (hn : t.length = n) (hnb : n ≤ 4096) (hi : i < n) (hti : t[i] = x.1) (hok : holdsN x.1) (hk : x.2 ≤ 1000000) (hA : Holds w A (nodesV t))
    (hu : u.length = nu) (hu0 : 0 < nu) (hub : nu ≤ 4096) (hsu : Slice Au nu cu) (hAu : Holds w Au (nodesV u)) (hgu : ∀ b o, Au = some ⟨b, o, none⟩ → b ≠ g) (hWu : W u (0, 0, 0) [⟨0, 0⟩] = some (b, [], eu)) (hL : Lim w) (hg0 : g ≠ 0)
    (ct : w.cell? ⟨bt, 0, none⟩ = some (.slice A n c)) (ca : w.cell? ⟨bat, 0, none⟩ = some (.int .i64 at_)) (cm : w.cell? ⟨bm, 0, none⟩ = some (.int .i64 rm)) (cu' : w.cell? ⟨bu, 0, none⟩ = some (.slice Au nu cu)) (hat : 0 ≤ at_) (hat2 : I64 at_) (hrm : rm = roomN 0 b) (hLb : L.length ≤ 100000000) :
    Calls Tryd.prog 65 #[.int .i64 (i : Int), .int .i64 ((x.2 : Nat) : Int), .pointer (some ⟨bt, 0, none⟩), .pointer (some ⟨bat, 0, none⟩), .pointer (some ⟨g, 0, none⟩), .pointer (some ⟨bm, 0, none⟩), .pointer (some ⟨bu, 0, none⟩)] w (Sub1Post at_ rm g L b x v w) := by
  have hj : i < t.length := by omega
  obtain ⟨gA, oA, rfl, hgA, hcA⟩ := hA.at_ (by rw [nodesV_len]; omega)
  have r0 := hcA (i * 3) _ (nodesV_get0 hj)
  have r1 := hcA (i * 3 + 1) _ (nodesV_get1 hj)
  have r2 := hcA (i * 3 + 2) _ (nodesV_get2 hj)
  rw [← Nat.add_assoc] at r1 r2
  rw [hti] at r0 r1 r2
  have hA0 := holds_a hok
  have HF := Lib.hid fun w => freeOf_any x.1 x.2 w hok (by omega)
  have hfr : freeN x.1 x.2 ≤ 1048576 := by unfold freeN; split <;> omega
  have hsub : Hid (∀ fx, fx = freeN x.1 x.2 → subX at_ b x = if fx < at_ then [x.1] else if at_ < fx then [(x.1.1, x.1.2.1 - 1, x.1.2.2)] else b.map (liftX (at_ + x.2) 0)) := Lib.hid fun fx e => by subst e; rfl
  have hPL := Lib.hid fun (w1 : World) (hb1 : Below w.heap.size w w1) (by_ : Int) (h0 : 0 ≤ by_) (hby : by_ ≤ roomN 0 b) => putLifted_any g L u v Au nu cu by_ b eu w1 (hG.below hb1) hu hu0 hub hsu (hAu.below hb1) (hL.next hb1) hg0 hgu hWu h0 (room_le hby) (by omega)
  have hPT := Lib.hid fun (w1 : World) (hb1 : Below w.heap.size w w1) (y : Node3) (A1 : Option Addr) (hs1 : Slice A1 1 1) (hA1 : Holds w1 A1 (nodesV [y])) (hg1 : ∀ b o, A1 = some ⟨b, o, none⟩ → b ≠ g) => put_any g L [y] v A1 1 1 w1 (hG.below hb1) rfl hs1 hA1 hg1 (by omega)
  have HLT := Lib.hid hG.lt
  have hgl := hG.whole.lt
  unfold I64 at hat2
  obtain ⟨⟨o, A1, B1⟩, k⟩ := x
  obtain ⟨fx, hfx⟩ : ∃ fx, fx = freeN (o, A1, B1) k := ⟨_, rfl⟩
  have HSUB := Lib.hid (hsub.out fx hfx)
  simp only at r0 r1 r2 hA0 HF HSUB hk
  simp only at hfr
  rw [← hfx] at hfr HF
  have HFX := Lib.hid hfx
  have HRM := Lib.hid hrm
  have la := World.block_lt_of_cell? _ _ ca
  have lm := World.block_lt_of_cell? _ _ cm
  have lu := World.block_lt_of_cell? _ _ cu'
  simp only at la lm lu
  have hb0 : Below w.heap.size w (w.alloc (.cells #[.int .i64 o, .int .i64 A1, .int .i64 B1] 53)) := (Below.refl _ _).alloc (Nat.le_refl _) _
  have HB0 := Lib.hid hb0
  have HNW := Lib.hid (Whole.new w #[.int .i64 o, .int .i64 A1, .int .i64 B1] 53)
  have d0 : (w.alloc (.cells #[.int .i64 o, .int .i64 A1, .int .i64 B1] 53)).cell? ⟨w.heap.size, 0, none⟩ = some (.int .i64 o) := HNW.out.cell 0
  have d1 : (w.alloc (.cells #[.int .i64 o, .int .i64 A1, .int .i64 B1] 53)).cell? ⟨w.heap.size, 1, none⟩ = some (.int .i64 A1) := HNW.out.cell 1
  have d2 : (w.alloc (.cells #[.int .i64 o, .int .i64 A1, .int .i64 B1] 53)).cell? ⟨w.heap.size, 2, none⟩ = some (.int .i64 B1) := HNW.out.cell 2
  clear hG hn hti hok hA hu hu0 hub hsu hAu hgu hWu hL hsub hrm hcA hfx hb0
  go_enter Tryd.func65, Tryd.ntmps65
  go_wp2_with fail
  refine (HF.out _).mono ?_
  rintro e w1 ⟨rfl, hb1⟩
  have hbw := HB0.out.trans (hb1.mono (by simp))
  have ca1 := (hbw.cell (p := ⟨bat, 0, none⟩) la).trans ca
  have cm1 := (hbw.cell (p := ⟨bm, 0, none⟩) lm).trans cm
  have cu1 := (hbw.cell (p := ⟨bu, 0, none⟩) lu).trans cu'
  have HBW := Lib.hid hbw
  have HNW1 := Lib.hid (HNW.out.below hb1 HNW.out.lt)
  have e0 : w1.cell? ⟨w.heap.size, 0, none⟩ = some (.int .i64 o) := HNW1.out.cell 0
  have e1 : w1.cell? ⟨w.heap.size, 1, none⟩ = some (.int .i64 A1) := HNW1.out.cell 1
  have e2 : w1.cell? ⟨w.heap.size, 2, none⟩ = some (.int .i64 B1) := HNW1.out.cell 2
  have f1 : w1.frozen? ⟨w.heap.size, 1, none⟩ = false := HNW1.out.frozen 1
  clear hbw hb1 r0 r1 r2 ct ca cm cu' d0 d1 d2
  by_cases h1 : fx < at_
  · have hh : Holds (w1.alloc (.cells #[.int .i64 o, .int .i64 A1, .int .i64 B1] 53)) (some ⟨w1.heap.size, 0, none⟩) (nodesV [(o, A1, B1)]) := holds_lit w1 [.int .i64 o, .int .i64 A1, .int .i64 B1] _
    have hp := hPT.out (w1.alloc (.cells #[.int .i64 o, .int .i64 A1, .int .i64 B1] 53)) (below_alloc HBW.out _) (o, A1, B1) _ (slice_new (w := w1) 1 (by decide)) hh (fun b o e => by cases e; have := HBW.out.size; omega)
    have HP := Lib.hid hp
    have HBN := Lib.hid (below_alloc HBW.out (.cells #[.int .i64 o, .int .i64 A1, .int .i64 B1] 53))
    clear hh hp hPT hPL cm1 cu1
    go_wp2_with fail
    refine (HP.out).mono ?_
    rintro e w2 hpp
    have HPP := Lib.hid hpp
    obtain ⟨rfl, -⟩ := hpp
    go_wp2_with fail
    go_end0
    refine .inl ⟨fun e => by have := HFX.out; simp only at e; omega, ?_⟩
    rw [HSUB.out, if_pos h1]
    exact HPP.out.start HBN.out HLT.out
  · by_cases h2 : at_ < fx
    · have hw1' := HNW1.out.set_ 1 (.int .i64 (A1 - 1))
      have hbs : Below w.heap.size w (w1.setCell ⟨w.heap.size, 1, none⟩ (.int .i64 (A1 - 1))) := HBW.out.setCell (p := ⟨w.heap.size, 1, none⟩) (Nat.le_refl _) _
      have k0 : (w1.setCell ⟨w.heap.size, 1, none⟩ (.int .i64 (A1 - 1))).cell? ⟨w.heap.size, 0, none⟩ = some (.int .i64 o) := hw1'.cell 0
      have k1 : (w1.setCell ⟨w.heap.size, 1, none⟩ (.int .i64 (A1 - 1))).cell? ⟨w.heap.size, 1, none⟩ = some (.int .i64 (A1 - 1)) := hw1'.cell 1
      have k2 : (w1.setCell ⟨w.heap.size, 1, none⟩ (.int .i64 (A1 - 1))).cell? ⟨w.heap.size, 2, none⟩ = some (.int .i64 B1) := hw1'.cell 2
      obtain ⟨ws, hws⟩ : ∃ ws, ws = w1.setCell ⟨w.heap.size, 1, none⟩ (.int .i64 (A1 - 1)) := ⟨_, rfl⟩
      have hsz : ws.heap.size = w1.heap.size := by rw [hws]; simp [World.setCell]
      rw [← hws] at hbs k0 k1 k2
      have hh : Holds (ws.alloc (.cells #[.int .i64 o, .int .i64 (A1 - 1), .int .i64 B1] 53)) (some ⟨ws.heap.size, 0, none⟩) (nodesV [(o, A1 - 1, B1)]) := holds_lit ws [.int .i64 o, .int .i64 (A1 - 1), .int .i64 B1] _
      have hp := hPT.out (ws.alloc (.cells #[.int .i64 o, .int .i64 (A1 - 1), .int .i64 B1] 53)) (below_alloc hbs _) (o, A1 - 1, B1) _ (slice_new (w := ws) 1 (by decide)) hh (fun b o e => by cases e; have := hbs.size; omega)
      rw [hsz] at hp
      rw [hws] at hp k0 k1 k2
      have HP := Lib.hid hp
      have HBN := Lib.hid (below_alloc hbs (.cells #[.int .i64 o, .int .i64 (A1 - 1), .int .i64 B1] 53))
      rw [hws] at HBN
      clear hh hp hPT hPL cm1 cu1 hw1' hbs hws hsz
      go_wp2_with fail
      (with_reducible refine (HP.out).mono ?_)
      rintro e w2 hpp
      have HPP := Lib.hid hpp
      obtain ⟨rfl, -⟩ := hpp
      go_wp2_with fail
      go_end0
      refine .inl ⟨fun e => by have := HFX.out; simp only at e; omega, ?_⟩
      rw [HSUB.out, if_neg (by omega), if_pos h2]
      exact HPP.out.start HBN.out HLT.out
    · have hfa : fx = at_ := by omega
      by_cases h3 : rm < at_ + (k : Int)
      · have HST : Hid (rm < at_ + (k : Int)) := Lib.hid h3
        have HFA := Lib.hid hfa
        clear hfa hPT hPL
        go_wp2_with fail
        exact ⟨rfl, .inr ⟨rfl, by rw [← HFX.out, HFA.out], HST.out, HBW.out⟩⟩
      · have hp := hPL.out w1 HBW.out (at_ + k) (by omega) (by have := HRM.out; omega)
        have HP := Lib.hid hp
        have HFA := Lib.hid hfa
        have hak : at_ + (k : Int) ≤ 1000000000 := by omega
        clear hfa hPT hPL hp
        go_wp2_with fail
        (with_reducible refine (HP.out).mono ?_)
        rintro e w2 hpp
        have HPP := Lib.hid hpp
        obtain ⟨rfl, -⟩ := hpp
        go_wp2_with fail
        go_end0
        refine .inl ⟨fun _ => by simp only; omega, ?_⟩
        rw [HSUB.out, if_neg (by omega), if_neg (by omega)]
        exact HPP.out.start HBW.out HLT.out
end Go.Proofs.YtkkkblghihheeaaDoor
